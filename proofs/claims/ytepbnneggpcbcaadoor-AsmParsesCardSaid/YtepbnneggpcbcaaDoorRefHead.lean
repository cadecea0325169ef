/-
  The reference's head.
-/
import Derived.Test.YtepbnneggpcbcaaDoorRefRead
namespace Go.Proofs.YtepbnneggpcbcaaDoor
open Go.RowKit

/-- What head answers: the function's needs, and the error. -/
def hdF (n last : Nat) (ws : List Bs) : Int × Int :=
  if ws.length ≠ 4 ∨ ws.getD 2 [] ≠ wNeeds then (0, 11)
  else if isNum (ws.getD 1 []) = false ∨ isNum (ws.getD 3 []) = false then (0, 11)
  else if 32 ≤ n ∨ (0 < n ∧ last = 0) then (0, 12)
  else if val (ws.getD 1 []) ≠ n ∨ 255 < val (ws.getD 3 []) then (0, 10)
  else ((val (ws.getD 3 []) : Int), 0)

theorem hdF_form {n last : Nat} {ws : List Bs} (h : ws.length ≠ 4 ∨ ws.getD 2 [] ≠ wNeeds) : hdF n last ws = (0, 11) := if_pos h
theorem hdF_num {n last : Nat} {ws : List Bs} (h : ¬ (ws.length ≠ 4 ∨ ws.getD 2 [] ≠ wNeeds)) (h2 : isNum (ws.getD 1 []) = false ∨ isNum (ws.getD 3 []) = false) : hdF n last ws = (0, 11) := by unfold hdF; rw [if_neg h, if_pos h2]
theorem hdF_long {n last : Nat} {ws : List Bs} (h : ¬ (ws.length ≠ 4 ∨ ws.getD 2 [] ≠ wNeeds)) (h2 : ¬ (isNum (ws.getD 1 []) = false ∨ isNum (ws.getD 3 []) = false)) (h3 : 32 ≤ n ∨ (0 < n ∧ last = 0)) : hdF n last ws = (0, 12) := by unfold hdF; rw [if_neg h, if_neg h2, if_pos h3]
theorem hdF_range {n last : Nat} {ws : List Bs} (h : ¬ (ws.length ≠ 4 ∨ ws.getD 2 [] ≠ wNeeds)) (h2 : ¬ (isNum (ws.getD 1 []) = false ∨ isNum (ws.getD 3 []) = false)) (h3 : ¬ (32 ≤ n ∨ (0 < n ∧ last = 0))) (h4 : val (ws.getD 1 []) ≠ n ∨ 255 < val (ws.getD 3 [])) : hdF n last ws = (0, 10) := by unfold hdF; rw [if_neg h, if_neg h2, if_neg h3, if_pos h4]
theorem hdF_ok {n last : Nat} {ws : List Bs} (h : ¬ (ws.length ≠ 4 ∨ ws.getD 2 [] ≠ wNeeds)) (h2 : ¬ (isNum (ws.getD 1 []) = false ∨ isNum (ws.getD 3 []) = false)) (h3 : ¬ (32 ≤ n ∨ (0 < n ∧ last = 0))) (h4 : ¬ (val (ws.getD 1 []) ≠ n ∨ 255 < val (ws.getD 3 []))) : hdF n last ws = ((val (ws.getD 3 []) : Int), 0) := by unfold hdF; rw [if_neg h, if_neg h2, if_neg h3, if_neg h4]

theorem bare_last (fs : List Fn) : bare fs = true ↔ 0 < fs.length ∧ lastLen fs = 0 := by
  unfold bare lastLen
  cases h : fs.getLast? with
  | none =>
    have : fs = [] := List.getLast?_eq_none_iff.1 h
    subst this
    simp
  | some f =>
    have : fs ≠ [] := fun e => by rw [e] at h; cases h
    have := List.length_pos_iff.2 this
    simp [List.isEmpty_iff]
    exact fun _ => this

theorem begF_hd (fs : List Fn) (ws : List Bs) (h32 : fs.length ≤ 32) : begF fs ws = if (hdF fs.length (lastLen fs) ws).2 = 0 then (fs ++ [⟨(hdF fs.length (lastLen fs) ws).1, []⟩], 0) else ([], (hdF fs.length (lastLen fs) ws).2) := by
  by_cases h : ws.length ≠ 4 ∨ ws.getD 2 [] ≠ wNeeds
  · rw [begF_form h, hdF_form h]; rfl
  · by_cases h2 : isNum (ws.getD 1 []) = false ∨ isNum (ws.getD 3 []) = false
    · rw [begF_num h h2, hdF_num h h2]; rfl
    · by_cases h3 : fs.length = 32 ∨ bare fs = true
      · have h3' : 32 ≤ fs.length ∨ (0 < fs.length ∧ lastLen fs = 0) := h3.imp (fun h => by omega) (fun h => (bare_last fs).1 h)
        rw [begF_long h h2 h3, hdF_long h h2 h3']; rfl
      · have h3' : ¬ (32 ≤ fs.length ∨ (0 < fs.length ∧ lastLen fs = 0)) := fun hh => h3 (hh.imp (fun h => by omega) (fun h => (bare_last fs).2 h))
        by_cases h4 : val (ws.getD 1 []) ≠ fs.length ∨ 255 < val (ws.getD 3 [])
        · rw [begF_range h h2 h3 h4, hdF_range h h2 h3' h4]; rfl
        · rw [begF_ok h h2 h3 h4, hdF_ok h h2 h3' h4]; rfl

def HdPost (w : World) (q : Int × Int) (e : Ending) (w' : World) : Prop := e = .returned (.tuple #[.agg #[.int .i64 q.1, .slice none 0 0], .int .i64 q.2]) ∧ Fr (fun _ => False) w w'

theorem cap_is (v n : Nat) (h : n ≤ 1000) : cap v = n ↔ v = n := by
  unfold cap
  split <;> omega
theorem cap_gt (v : Nat) : 255 < cap v ↔ 255 < v := by
  unfold cap
  split <;> omega

set_option maxRecDepth 100000 in
set_option maxHeartbeats 2000000 in
theorem head_form (w : World) (B : Nat) (Aw : Option Addr) (cw n m last : Nat) (ws : List Bs) (hw : OwnS w B Aw m cw ws) (hm : ws.length = m) (hf : ws.length ≠ 4 ∨ ws.getD 2 [] ≠ wNeeds) :
    Calls Tryd.prog 37 #[.slice Aw m cw, .int .i64 (n : Int), .int .i64 (last : Int)] w (HdPost w (hdF n last ws)) := by
  have HQ := hid (hdF_form (n := n) (last := last) hf)
  obtain ⟨W, hW⟩ : ∃ W, W = (w.alloc (.cells #[.int .i64 0, .slice none 0 0] 49)).alloc (.cells #[.int .i64 0, .slice none 0 0] 49) := ⟨_, rfl⟩
  have hFW : Fr (fun _ => False) w W := by rw [hW]; exact (Fr.alloc _ _ _).trans (Fr.alloc _ _ _)
  have hR : Blk W w.heap.size #[.int .i64 0, .slice none 0 0] := by rw [hW]; exact (Blk.new _ _ _).alloc _
  have hN : Blk W (w.heap.size + 1) #[.int .i64 0, .slice none 0 0] := by rw [hW]; exact (Blk.new _ _ _).at (by simp)
  have p0 : W.cell? ⟨w.heap.size, 0, none⟩ = some (.int .i64 0) := hR.cell rfl
  have p1 : W.cell? ⟨w.heap.size, 1, none⟩ = some (.slice none 0 0) := hR.cell rfl
  have f0 := hR.frozen 0
  have f1 := hR.frozen 1
  have n0 : W.cell? ⟨w.heap.size + 1, 0, none⟩ = some (.int .i64 0) := hN.cell rfl
  have n1 : W.cell? ⟨w.heap.size + 1, 1, none⟩ = some (.slice none 0 0) := hN.cell rfl
  have pl := hR.lt
  have pn := hN.lt
  by_cases h4 : m = 4
  · subst h4
    obtain ⟨g, rfl, _, hg, _, hc⟩ := OwnR.cell (OwnR.same hw hFW) (by omega)
    have h2 : ws.getD 2 [] ≠ wNeeds := by
      rcases hf with h | h
      · exact absurd hm h
      · exact h
    have c2 : W.cell? ⟨g, 2, none⟩ = some (.string (bs (ws.getD 2 []))) := hc 2 _ (by
      unfold strs
      rw [List.getElem?_map, List.getD_eq_getElem?_getD, List.getElem?_eq_getElem (by omega)]; rfl)
    have t : ((bs (ws.getD 2 [])).toList == [110, 101, 101, 100, 115]) = false := by rw [bs_toList]; exact beq_eq_false_iff_ne.2 h2
    have t2 : ((bs (ws.getD 2 [])).toList != [110, 101, 101, 100, 115]) = true := by rw [bs_toList]; exact bne_iff_ne.2 h2
    generalize ws.getD 2 [] = x at c2 t t2
    clear hc hm hw hf h2
    go_enter Tryd.func37, Tryd.ntmps37
    go_upto_region 2 with fail
    rw [← hW]
    clear hW
    go_wp2_with fail
    have hR9 := (hR.set 0 (.int .i64 0)).set 1 (.slice none 0 0)
    have hF9 : Fr (fun k => k = w.heap.size) W _ := (Fr.setCell (S := fun k => k = w.heap.size) W ⟨w.heap.size, 0, none⟩ (.int .i64 0) rfl).trans (Fr.setCell _ ⟨w.heap.size, 1, none⟩ (.slice none 0 0) rfl)
    obtain ⟨w9, hw9⟩ : ∃ w9, w9 = (W.setCell ⟨w.heap.size, 0, none⟩ (.int .i64 0)).setCell ⟨w.heap.size, 1, none⟩ (.slice none 0 0) := ⟨_, rfl⟩
    rw [← hw9] at hR9 hF9 ⊢
    clear hw9 p0 p1
    have p0 : w9.cell? ⟨w.heap.size, 0, none⟩ = some (.int .i64 0) := hR9.cell rfl
    have p1 : w9.cell? ⟨w.heap.size, 1, none⟩ = some (.slice none 0 0) := hR9.cell rfl
    refine bodyPost_ret (v := .tuple #[.agg #[.int .i64 0, .slice none 0 0], .int .i64 11]) ?hv rfl ?hp
    case hv => (simp [results, Tryd.results37, go_sem, p0, p1]; try rfl)
    case hp => exact ⟨by rw [HQ.out], ((hFW.mono (fun _ h => h.elim)).trans (hF9.mono (fun k hk => by show w.heap.size ≤ k; omega))).all⟩
  · have t : ((m : Int) != 4) = true := by simp; omega
    clear hm hw hf
    go_enter Tryd.func37, Tryd.ntmps37
    go_upto_region 2 with fail
    rw [← hW]
    clear hW
    go_wp2_with fail
    have hR9 := (hR.set 0 (.int .i64 0)).set 1 (.slice none 0 0)
    have hF9 : Fr (fun k => k = w.heap.size) W _ := (Fr.setCell (S := fun k => k = w.heap.size) W ⟨w.heap.size, 0, none⟩ (.int .i64 0) rfl).trans (Fr.setCell _ ⟨w.heap.size, 1, none⟩ (.slice none 0 0) rfl)
    obtain ⟨w9, hw9⟩ : ∃ w9, w9 = (W.setCell ⟨w.heap.size, 0, none⟩ (.int .i64 0)).setCell ⟨w.heap.size, 1, none⟩ (.slice none 0 0) := ⟨_, rfl⟩
    rw [← hw9] at hR9 hF9 ⊢
    clear hw9 p0 p1
    have p0 : w9.cell? ⟨w.heap.size, 0, none⟩ = some (.int .i64 0) := hR9.cell rfl
    have p1 : w9.cell? ⟨w.heap.size, 1, none⟩ = some (.slice none 0 0) := hR9.cell rfl
    refine bodyPost_ret (v := .tuple #[.agg #[.int .i64 0, .slice none 0 0], .int .i64 11]) ?hv rfl ?hp
    case hv => (simp [results, Tryd.results37, go_sem, p0, p1]; try rfl)
    case hp => exact ⟨by rw [HQ.out], ((hFW.mono (fun _ h => h.elim)).trans (hF9.mono (fun k hk => by show w.heap.size ≤ k; omega))).all⟩

set_option maxRecDepth 100000 in
set_option maxHeartbeats 4000000 in
theorem head_go (w : World) (B : Nat) (Aw : Option Addr) (cw n last : Nat) (ws : List Bs) (hw : OwnS w B Aw 4 cw ws) (hm : ws.length = 4) (h32 : n ≤ 1000) (hf : ¬ (ws.length ≠ 4 ∨ ws.getD 2 [] ≠ wNeeds)) (hlen : ∀ x ∈ ws, x.length ≤ 1000000) :
    Calls Tryd.prog 37 #[.slice Aw 4 cw, .int .i64 (n : Int), .int .i64 (last : Int)] w (HdPost w (hdF n last ws)) := by
  have HNUM := hid (fun h2 => hdF_num (n := n) (last := last) hf h2)
  have HLONG := hid (fun h2 h3 => hdF_long (n := n) (last := last) hf h2 h3)
  have HRANGE := hid (fun h2 h3 h4 => hdF_range (n := n) (last := last) hf h2 h3 h4)
  have HOK := hid (fun h2 h3 h4 => hdF_ok (n := n) (last := last) hf h2 h3 h4)
  obtain ⟨W, hW⟩ : ∃ W, W = (w.alloc (.cells #[.int .i64 0, .slice none 0 0] 49)).alloc (.cells #[.int .i64 0, .slice none 0 0] 49) := ⟨_, rfl⟩
  have hFW : Fr (fun _ => False) w W := by rw [hW]; exact (Fr.alloc _ _ _).trans (Fr.alloc _ _ _)
  have hR : Blk W w.heap.size #[.int .i64 0, .slice none 0 0] := by rw [hW]; exact (Blk.new _ _ _).alloc _
  have hN : Blk W (w.heap.size + 1) #[.int .i64 0, .slice none 0 0] := by rw [hW]; exact (Blk.new _ _ _).at (by simp)
  have p0 : W.cell? ⟨w.heap.size, 0, none⟩ = some (.int .i64 0) := hR.cell rfl
  have p1 : W.cell? ⟨w.heap.size, 1, none⟩ = some (.slice none 0 0) := hR.cell rfl
  have f0 := hR.frozen 0
  have f1 := hR.frozen 1
  have n0 : W.cell? ⟨w.heap.size + 1, 0, none⟩ = some (.int .i64 0) := hN.cell rfl
  have n1 : W.cell? ⟨w.heap.size + 1, 1, none⟩ = some (.slice none 0 0) := hN.cell rfl
  have pl := hR.lt
  have pn := hN.lt
  obtain ⟨g, rfl, _, hg, _, hc⟩ := OwnR.cell (OwnR.same hw hFW) (by omega)
  have h2 : ws.getD 2 [] = wNeeds := by
    simp only [not_or, ne_eq, Decidable.not_not] at hf
    exact hf.2
  have hin : ∀ k, k < 4 → ws[k]? = some (ws.getD k []) := fun k hk => by rw [List.getD_eq_getElem?_getD, List.getElem?_eq_getElem (by omega)]; rfl
  have hst : ∀ k, k < 4 → (strs ws)[k]? = some (.string (bs (ws.getD k []))) := fun k hk => by
    unfold strs
    rw [List.getElem?_map, hin k hk]
    rfl
  have c2 : W.cell? ⟨g, 2, none⟩ = some (.string (bs wNeeds)) := hc 2 _ (by rw [hst 2 (by omega), h2])
  have c1 : W.cell? ⟨g, 1, none⟩ = some (.string (bs (ws.getD 1 []))) := hc 1 _ (hst 1 (by omega))
  have c3 : W.cell? ⟨g, 3, none⟩ = some (.string (bs (ws.getD 3 []))) := hc 3 _ (hst 3 (by omega))
  have t1 : ((bs wNeeds).toList == [110, 101, 101, 100, 115]) = true := by rw [bs_toList]; rfl
  have t2 : ((bs wNeeds).toList != [110, 101, 101, 100, 115]) = false := by rw [bs_toList]; rfl
  have HN1 := hid (value_any (ws.getD 1 []) (hlen _ (List.mem_of_getElem? (hin 1 (by omega)))))
  have HN3 := hid (value_any (ws.getD 3 []) (hlen _ (List.mem_of_getElem? (hin 3 (by omega)))))
  generalize ws.getD 1 [] = x1 at c1 HN1 HNUM HLONG HRANGE HOK
  generalize ws.getD 3 [] = x3 at c3 HN3 HNUM HLONG HRANGE HOK
  clear hc hin hst hm hw h2 hf hlen
  go_enter Tryd.func37, Tryd.ntmps37
  go_upto_region 2 with fail
  rw [← hW]
  clear hW
  go_wp2_with fail
  refine (HN1.out _).mono ?_
  rintro e w1 ⟨rfl, rfl⟩
  clear c1 c2
  cases k1 : isNum x1 with
  | false =>
    rw [cvV_no k1]
    have HQ := hid (HNUM.out (.inl k1))
    clear k1
    go_wp2_with fail
    refine (HN3.out _).mono ?_
    rintro e w2 ⟨rfl, rfl⟩
    clear c3
    cases k3 : isNum x3 with
    | false =>
      rw [cvV_no k3]
      clear k3
      go_wp2_with fail
      have hR9 := (hR.set 0 (.int .i64 0)).set 1 (.slice none 0 0)
      have hF9 : Fr (fun k => k = w.heap.size) W _ := (Fr.setCell (S := fun k => k = w.heap.size) W ⟨w.heap.size, 0, none⟩ (.int .i64 0) rfl).trans (Fr.setCell _ ⟨w.heap.size, 1, none⟩ (.slice none 0 0) rfl)
      obtain ⟨w9, hw9⟩ : ∃ w9, w9 = (W.setCell ⟨w.heap.size, 0, none⟩ (.int .i64 0)).setCell ⟨w.heap.size, 1, none⟩ (.slice none 0 0) := ⟨_, rfl⟩
      rw [← hw9] at hR9 hF9 ⊢
      clear hw9 p0 p1
      have p0 : w9.cell? ⟨w.heap.size, 0, none⟩ = some (.int .i64 0) := hR9.cell rfl
      have p1 : w9.cell? ⟨w.heap.size, 1, none⟩ = some (.slice none 0 0) := hR9.cell rfl
      refine bodyPost_ret (v := .tuple #[.agg #[.int .i64 0, .slice none 0 0], .int .i64 11]) ?hv rfl ?hp
      case hv => (simp [results, Tryd.results37, go_sem, p0, p1]; try rfl)
      case hp => exact ⟨by rw [HQ.out], ((hFW.mono (fun _ h => h.elim)).trans (hF9.mono (fun k hk => by show w.heap.size ≤ k; omega))).all⟩
    | true =>
      rw [cvV_yes k3]
      clear k3
      go_wp2_with fail
      have hR9 := (hR.set 0 (.int .i64 0)).set 1 (.slice none 0 0)
      have hF9 : Fr (fun k => k = w.heap.size) W _ := (Fr.setCell (S := fun k => k = w.heap.size) W ⟨w.heap.size, 0, none⟩ (.int .i64 0) rfl).trans (Fr.setCell _ ⟨w.heap.size, 1, none⟩ (.slice none 0 0) rfl)
      obtain ⟨w9, hw9⟩ : ∃ w9, w9 = (W.setCell ⟨w.heap.size, 0, none⟩ (.int .i64 0)).setCell ⟨w.heap.size, 1, none⟩ (.slice none 0 0) := ⟨_, rfl⟩
      rw [← hw9] at hR9 hF9 ⊢
      clear hw9 p0 p1
      have p0 : w9.cell? ⟨w.heap.size, 0, none⟩ = some (.int .i64 0) := hR9.cell rfl
      have p1 : w9.cell? ⟨w.heap.size, 1, none⟩ = some (.slice none 0 0) := hR9.cell rfl
      refine bodyPost_ret (v := .tuple #[.agg #[.int .i64 0, .slice none 0 0], .int .i64 11]) ?hv rfl ?hp
      case hv => (simp [results, Tryd.results37, go_sem, p0, p1]; try rfl)
      case hp => exact ⟨by rw [HQ.out], ((hFW.mono (fun _ h => h.elim)).trans (hF9.mono (fun k hk => by show w.heap.size ≤ k; omega))).all⟩
  | true =>
    rw [cvV_yes k1]
    have K1 := hid k1
    clear k1
    go_wp2_with fail
    refine (HN3.out _).mono ?_
    rintro e w2 ⟨rfl, rfl⟩
    clear c3
    cases k3 : isNum x3 with
    | false =>
      rw [cvV_no k3]
      have HQ := hid (HNUM.out (.inr k3))
      clear k3
      go_wp2_with fail
      have hR9 := (hR.set 0 (.int .i64 0)).set 1 (.slice none 0 0)
      have hF9 : Fr (fun k => k = w.heap.size) W _ := (Fr.setCell (S := fun k => k = w.heap.size) W ⟨w.heap.size, 0, none⟩ (.int .i64 0) rfl).trans (Fr.setCell _ ⟨w.heap.size, 1, none⟩ (.slice none 0 0) rfl)
      obtain ⟨w9, hw9⟩ : ∃ w9, w9 = (W.setCell ⟨w.heap.size, 0, none⟩ (.int .i64 0)).setCell ⟨w.heap.size, 1, none⟩ (.slice none 0 0) := ⟨_, rfl⟩
      rw [← hw9] at hR9 hF9 ⊢
      clear hw9 p0 p1
      have p0 : w9.cell? ⟨w.heap.size, 0, none⟩ = some (.int .i64 0) := hR9.cell rfl
      have p1 : w9.cell? ⟨w.heap.size, 1, none⟩ = some (.slice none 0 0) := hR9.cell rfl
      refine bodyPost_ret (v := .tuple #[.agg #[.int .i64 0, .slice none 0 0], .int .i64 11]) ?hv rfl ?hp
      case hv => (simp [results, Tryd.results37, go_sem, p0, p1]; try rfl)
      case hp => exact ⟨by rw [HQ.out], ((hFW.mono (fun _ h => h.elim)).trans (hF9.mono (fun k hk => by show w.heap.size ≤ k; omega))).all⟩
    | true =>
      rw [cvV_yes k3]
      have hnn : ¬ (isNum x1 = false ∨ isNum x3 = false) := by rw [K1.out, k3]; simp
      have HL2 := hid (HLONG.out hnn)
      have HR2 := hid (HRANGE.out hnn)
      have HK2 := hid (HOK.out hnn)
      clear k3 hnn
      have s1 := cap_le (val x1)
      have s3 := cap_le (val x3)
      have HS1 := hid (cap_is (val x1) n h32)
      have HS3 := hid (cap_gt (val x3))
      have HS4 := hid (show cap (val x3) ≤ 255 → ((cap (val x3) : Nat) : Int) = val x3 from fun h => by
        rw [cap_small]
        have := HS3.out
        omega)
      generalize cap (val x1) = y1 at s1 HS1
      generalize cap (val x3) = y3 at s3 HS3 HS4
      by_cases hn32 : 32 ≤ n
      · have HQ := hid (HL2.out (.inl hn32))
        go_wp2_with fail
        have hR9 := (hR.set 0 (.int .i64 0)).set 1 (.slice none 0 0)
        have hF9 : Fr (fun k => k = w.heap.size) W _ := (Fr.setCell (S := fun k => k = w.heap.size) W ⟨w.heap.size, 0, none⟩ (.int .i64 0) rfl).trans (Fr.setCell _ ⟨w.heap.size, 1, none⟩ (.slice none 0 0) rfl)
        obtain ⟨w9, hw9⟩ : ∃ w9, w9 = (W.setCell ⟨w.heap.size, 0, none⟩ (.int .i64 0)).setCell ⟨w.heap.size, 1, none⟩ (.slice none 0 0) := ⟨_, rfl⟩
        rw [← hw9] at hR9 hF9 ⊢
        clear hw9 p0 p1
        have p0 : w9.cell? ⟨w.heap.size, 0, none⟩ = some (.int .i64 0) := hR9.cell rfl
        have p1 : w9.cell? ⟨w.heap.size, 1, none⟩ = some (.slice none 0 0) := hR9.cell rfl
        refine bodyPost_ret (v := .tuple #[.agg #[.int .i64 0, .slice none 0 0], .int .i64 12]) ?hv rfl ?hp
        case hv => (simp [results, Tryd.results37, go_sem, p0, p1]; try rfl)
        case hp => exact ⟨by rw [HQ.out], ((hFW.mono (fun _ h => h.elim)).trans (hF9.mono (fun k hk => by show w.heap.size ≤ k; omega))).all⟩
      · by_cases hn0 : 0 < n
        · by_cases hl0 : last = 0
          · have HQ := hid (HL2.out (.inr ⟨hn0, hl0⟩))
            subst hl0
            rw [show ((0 : Nat) : Int) = 0 from rfl]
            go_wp2_with fail
            have hR9 := (hR.set 0 (.int .i64 0)).set 1 (.slice none 0 0)
            have hF9 : Fr (fun k => k = w.heap.size) W _ := (Fr.setCell (S := fun k => k = w.heap.size) W ⟨w.heap.size, 0, none⟩ (.int .i64 0) rfl).trans (Fr.setCell _ ⟨w.heap.size, 1, none⟩ (.slice none 0 0) rfl)
            obtain ⟨w9, hw9⟩ : ∃ w9, w9 = (W.setCell ⟨w.heap.size, 0, none⟩ (.int .i64 0)).setCell ⟨w.heap.size, 1, none⟩ (.slice none 0 0) := ⟨_, rfl⟩
            rw [← hw9] at hR9 hF9 ⊢
            clear hw9 p0 p1
            have p0 : w9.cell? ⟨w.heap.size, 0, none⟩ = some (.int .i64 0) := hR9.cell rfl
            have p1 : w9.cell? ⟨w.heap.size, 1, none⟩ = some (.slice none 0 0) := hR9.cell rfl
            refine bodyPost_ret (v := .tuple #[.agg #[.int .i64 0, .slice none 0 0], .int .i64 12]) ?hv rfl ?hp
            case hv => (simp [results, Tryd.results37, go_sem, p0, p1]; try rfl)
            case hp => exact ⟨by rw [HQ.out], ((hFW.mono (fun _ h => h.elim)).trans (hF9.mono (fun k hk => by show w.heap.size ≤ k; omega))).all⟩
          · have hnl : ¬ (32 ≤ n ∨ (0 < n ∧ last = 0)) := by omega
            have HR3 := hid (HR2.out hnl)
            have HK3 := hid (HK2.out hnl)
            have t5 : ((last : Int) == 0) = false := beq_eq_false_iff_ne.2 (by omega)
            clear hnl hl0
            by_cases hy1 : y1 = n
            · have t6 : ((y1 : Int) != (n : Int)) = false := by simp; omega
              by_cases hy3 : 255 < y3
              · have HQ := hid (HR3.out (.inr (HS3.out.1 hy3)))
                clear hy1
                go_wp2_with fail
                have hR9 := (hR.set 0 (.int .i64 0)).set 1 (.slice none 0 0)
                have hF9 : Fr (fun k => k = w.heap.size) W _ := (Fr.setCell (S := fun k => k = w.heap.size) W ⟨w.heap.size, 0, none⟩ (.int .i64 0) rfl).trans (Fr.setCell _ ⟨w.heap.size, 1, none⟩ (.slice none 0 0) rfl)
                obtain ⟨w9, hw9⟩ : ∃ w9, w9 = (W.setCell ⟨w.heap.size, 0, none⟩ (.int .i64 0)).setCell ⟨w.heap.size, 1, none⟩ (.slice none 0 0) := ⟨_, rfl⟩
                rw [← hw9] at hR9 hF9 ⊢
                clear hw9 p0 p1
                have p0 : w9.cell? ⟨w.heap.size, 0, none⟩ = some (.int .i64 0) := hR9.cell rfl
                have p1 : w9.cell? ⟨w.heap.size, 1, none⟩ = some (.slice none 0 0) := hR9.cell rfl
                refine bodyPost_ret (v := .tuple #[.agg #[.int .i64 0, .slice none 0 0], .int .i64 10]) ?hv rfl ?hp
                case hv => (simp [results, Tryd.results37, go_sem, p0, p1]; try rfl)
                case hp => exact ⟨by rw [HQ.out], ((hFW.mono (fun _ h => h.elim)).trans (hF9.mono (fun k hk => by show w.heap.size ≤ k; omega))).all⟩
              · have HQ := hid (HK3.out (by
                  simp only [not_or, ne_eq, Decidable.not_not]
                  exact ⟨HS1.out.1 hy1, fun h => hy3 (HS3.out.2 h)⟩))
                have HV := hid (HS4.out (by omega))
                clear hy1
                go_wp2_with fail
                have hR9 := (hR.set 0 (.int .i64 (y3 : Int))).set 1 (.slice none 0 0)
                have hF9 : Fr (fun k => k = w.heap.size) W _ := (Fr.setCell (S := fun k => k = w.heap.size) W ⟨w.heap.size, 0, none⟩ (.int .i64 (y3 : Int)) rfl).trans (Fr.setCell _ ⟨w.heap.size, 1, none⟩ (.slice none 0 0) rfl)
                obtain ⟨w9, hw9⟩ : ∃ w9, w9 = (W.setCell ⟨w.heap.size, 0, none⟩ (.int .i64 (y3 : Int))).setCell ⟨w.heap.size, 1, none⟩ (.slice none 0 0) := ⟨_, rfl⟩
                rw [← hw9] at hR9 hF9 ⊢
                clear hw9 p0 p1
                have p0 : w9.cell? ⟨w.heap.size, 0, none⟩ = some (.int .i64 (y3 : Int)) := hR9.cell rfl
                have p1 : w9.cell? ⟨w.heap.size, 1, none⟩ = some (.slice none 0 0) := hR9.cell rfl
                refine bodyPost_ret (v := .tuple #[.agg #[.int .i64 (y3 : Int), .slice none 0 0], .int .i64 0]) ?hv rfl ?hp
                case hv => (simp [results, Tryd.results37, go_sem, p0, p1]; try rfl)
                case hp => exact ⟨by rw [HQ.out, HV.out], ((hFW.mono (fun _ h => h.elim)).trans (hF9.mono (fun k hk => by show w.heap.size ≤ k; omega))).all⟩
            · have t6 : ((y1 : Int) != (n : Int)) = true := by simp; omega
              have HQ := hid (HR3.out (.inl (fun h => hy1 (HS1.out.2 h))))
              clear hy1
              go_wp2_with fail
              have hR9 := (hR.set 0 (.int .i64 0)).set 1 (.slice none 0 0)
              have hF9 : Fr (fun k => k = w.heap.size) W _ := (Fr.setCell (S := fun k => k = w.heap.size) W ⟨w.heap.size, 0, none⟩ (.int .i64 0) rfl).trans (Fr.setCell _ ⟨w.heap.size, 1, none⟩ (.slice none 0 0) rfl)
              obtain ⟨w9, hw9⟩ : ∃ w9, w9 = (W.setCell ⟨w.heap.size, 0, none⟩ (.int .i64 0)).setCell ⟨w.heap.size, 1, none⟩ (.slice none 0 0) := ⟨_, rfl⟩
              rw [← hw9] at hR9 hF9 ⊢
              clear hw9 p0 p1
              have p0 : w9.cell? ⟨w.heap.size, 0, none⟩ = some (.int .i64 0) := hR9.cell rfl
              have p1 : w9.cell? ⟨w.heap.size, 1, none⟩ = some (.slice none 0 0) := hR9.cell rfl
              refine bodyPost_ret (v := .tuple #[.agg #[.int .i64 0, .slice none 0 0], .int .i64 10]) ?hv rfl ?hp
              case hv => (simp [results, Tryd.results37, go_sem, p0, p1]; try rfl)
              case hp => exact ⟨by rw [HQ.out], ((hFW.mono (fun _ h => h.elim)).trans (hF9.mono (fun k hk => by show w.heap.size ≤ k; omega))).all⟩
        · obtain rfl : n = 0 := by omega
          have hnl : ¬ (32 ≤ 0 ∨ (0 < 0 ∧ last = 0)) := by omega
          have HR3 := hid (HR2.out hnl)
          have HK3 := hid (HK2.out hnl)
          clear hnl hn0
          by_cases hy1 : y1 = 0
          · have t6 : ((y1 : Int) != (0 : Int)) = false := by simp; omega
            by_cases hy3 : 255 < y3
            · have HQ := hid (HR3.out (.inr (HS3.out.1 hy3)))
              clear hy1
              go_wp2_with fail
              have hR9 := (hR.set 0 (.int .i64 0)).set 1 (.slice none 0 0)
              have hF9 : Fr (fun k => k = w.heap.size) W _ := (Fr.setCell (S := fun k => k = w.heap.size) W ⟨w.heap.size, 0, none⟩ (.int .i64 0) rfl).trans (Fr.setCell _ ⟨w.heap.size, 1, none⟩ (.slice none 0 0) rfl)
              obtain ⟨w9, hw9⟩ : ∃ w9, w9 = (W.setCell ⟨w.heap.size, 0, none⟩ (.int .i64 0)).setCell ⟨w.heap.size, 1, none⟩ (.slice none 0 0) := ⟨_, rfl⟩
              rw [← hw9] at hR9 hF9 ⊢
              clear hw9 p0 p1
              have p0 : w9.cell? ⟨w.heap.size, 0, none⟩ = some (.int .i64 0) := hR9.cell rfl
              have p1 : w9.cell? ⟨w.heap.size, 1, none⟩ = some (.slice none 0 0) := hR9.cell rfl
              refine bodyPost_ret (v := .tuple #[.agg #[.int .i64 0, .slice none 0 0], .int .i64 10]) ?hv rfl ?hp
              case hv => (simp [results, Tryd.results37, go_sem, p0, p1]; try rfl)
              case hp => exact ⟨by rw [HQ.out], ((hFW.mono (fun _ h => h.elim)).trans (hF9.mono (fun k hk => by show w.heap.size ≤ k; omega))).all⟩
            · have HQ := hid (HK3.out (by
                simp only [not_or, ne_eq, Decidable.not_not]
                exact ⟨HS1.out.1 hy1, fun h => hy3 (HS3.out.2 h)⟩))
              have HV := hid (HS4.out (by omega))
              clear hy1
              go_wp2_with fail
              have hR9 := (hR.set 0 (.int .i64 (y3 : Int))).set 1 (.slice none 0 0)
              have hF9 : Fr (fun k => k = w.heap.size) W _ := (Fr.setCell (S := fun k => k = w.heap.size) W ⟨w.heap.size, 0, none⟩ (.int .i64 (y3 : Int)) rfl).trans (Fr.setCell _ ⟨w.heap.size, 1, none⟩ (.slice none 0 0) rfl)
              obtain ⟨w9, hw9⟩ : ∃ w9, w9 = (W.setCell ⟨w.heap.size, 0, none⟩ (.int .i64 (y3 : Int))).setCell ⟨w.heap.size, 1, none⟩ (.slice none 0 0) := ⟨_, rfl⟩
              rw [← hw9] at hR9 hF9 ⊢
              clear hw9 p0 p1
              have p0 : w9.cell? ⟨w.heap.size, 0, none⟩ = some (.int .i64 (y3 : Int)) := hR9.cell rfl
              have p1 : w9.cell? ⟨w.heap.size, 1, none⟩ = some (.slice none 0 0) := hR9.cell rfl
              refine bodyPost_ret (v := .tuple #[.agg #[.int .i64 (y3 : Int), .slice none 0 0], .int .i64 0]) ?hv rfl ?hp
              case hv => (simp [results, Tryd.results37, go_sem, p0, p1]; try rfl)
              case hp => exact ⟨by rw [HQ.out, HV.out], ((hFW.mono (fun _ h => h.elim)).trans (hF9.mono (fun k hk => by show w.heap.size ≤ k; omega))).all⟩
          · have t6 : ((y1 : Int) != (0 : Int)) = true := by simp; omega
            have HQ := hid (HR3.out (.inl (fun h => hy1 (HS1.out.2 h))))
            clear hy1
            go_wp2_with fail
            have hR9 := (hR.set 0 (.int .i64 0)).set 1 (.slice none 0 0)
            have hF9 : Fr (fun k => k = w.heap.size) W _ := (Fr.setCell (S := fun k => k = w.heap.size) W ⟨w.heap.size, 0, none⟩ (.int .i64 0) rfl).trans (Fr.setCell _ ⟨w.heap.size, 1, none⟩ (.slice none 0 0) rfl)
            obtain ⟨w9, hw9⟩ : ∃ w9, w9 = (W.setCell ⟨w.heap.size, 0, none⟩ (.int .i64 0)).setCell ⟨w.heap.size, 1, none⟩ (.slice none 0 0) := ⟨_, rfl⟩
            rw [← hw9] at hR9 hF9 ⊢
            clear hw9 p0 p1
            have p0 : w9.cell? ⟨w.heap.size, 0, none⟩ = some (.int .i64 0) := hR9.cell rfl
            have p1 : w9.cell? ⟨w.heap.size, 1, none⟩ = some (.slice none 0 0) := hR9.cell rfl
            refine bodyPost_ret (v := .tuple #[.agg #[.int .i64 0, .slice none 0 0], .int .i64 10]) ?hv rfl ?hp
            case hv => (simp [results, Tryd.results37, go_sem, p0, p1]; try rfl)
            case hp => exact ⟨by rw [HQ.out], ((hFW.mono (fun _ h => h.elim)).trans (hF9.mono (fun k hk => by show w.heap.size ≤ k; omega))).all⟩

theorem head_any (w : World) (B : Nat) (Aw : Option Addr) (cw n last : Nat) (ws : List Bs) (hw : OwnS w B Aw ws.length cw ws) (h32 : n ≤ 1000) (hlen : ∀ x ∈ ws, x.length ≤ 1000000) :
    Calls Tryd.prog 37 #[.slice Aw ws.length cw, .int .i64 (n : Int), .int .i64 (last : Int)] w (HdPost w (hdF n last ws)) := by
  by_cases hf : ws.length ≠ 4 ∨ ws.getD 2 [] ≠ wNeeds
  · exact head_form w B Aw cw n ws.length last ws hw rfl hf
  · have h4 : ws.length = 4 := by
      simp only [not_or, ne_eq, Decidable.not_not] at hf
      exact hf.1
    rw [h4] at hw ⊢
    exact head_go w B Aw cw n last ws hw h4 h32 hf hlen

end Go.Proofs.YtepbnneggpcbcaaDoor
