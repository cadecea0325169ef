/-
  asm.bare, asm.begin.
-/
import Derived.Test.YtepbnneggpcbcaaGreatDoorReadM
namespace Go.Proofs.YtepbnneggpcbcaaGreatDoor
open Go.RowKit

/-- The blocks of a program that is the call's own. -/
def progB (A : Option Addr) (L : List Fo) (j : Nat) : Prop := ownB A j ∨ ∃ x ∈ L, ownB x.A j

theorem OwnP.len {w : World} {B : Nat} {A : Option Addr} {cap : Nat} {L : List Fo} (h : OwnP w B A cap L) : ∀ j, progB A L j → B ≤ j ∧ j < w.heap.size := by
  rintro j (hj | ⟨x, hx, hj⟩)
  · exact h.row.lt j hj
  · exact OwnR.lt (h.codes x hx) j hj

/-- The cells of the function k of an own program. -/
theorem OwnP.at_ {w : World} {B : Nat} {A : Option Addr} {cap : Nat} {L : List Fo} (h : OwnP w B A cap L) {k : Nat} {x : Fo} (hk : L[k]? = some x) :
    ∃ g, A = some ⟨g, 0, none⟩ ∧ B ≤ g ∧ g < w.heap.size ∧ (∀ j, w.frozen? ⟨g, j, none⟩ = false) ∧ w.cell? ⟨g, k * 2, none⟩ = some (.int .i64 x.f.needs) ∧ w.cell? ⟨g, k * 2 + 1, none⟩ = some (.slice x.A x.f.code.length x.c) := by
  have hl := (List.getElem?_eq_some_iff.1 hk).1
  obtain ⟨g, rfl, h1, h2, h3, hc⟩ := h.row.cell (by omega)
  exact ⟨g, rfl, h1, h2, h3, hc (k * 2 + 0) _ (by rw [flat_at Fo.cells 2 Fo.cells_len hk (by omega)]; rfl), hc (k * 2 + 1) _ (by rw [flat_at Fo.cells 2 Fo.cells_len hk (by omega)]; rfl)⟩

theorem bare_nil : bare [] = false := rfl
theorem last_cases (L : List Fo) : L = [] ∨ ∃ L' x, L = L' ++ [x] := by
  rcases List.eq_nil_or_concat L with h | ⟨l, x, h⟩
  · exact .inl h
  · exact .inr ⟨l, x, by simpa using h⟩

set_option maxHeartbeats 400000 in
theorem bare_any (w : World) (B : Nat) (A : Option Addr) (cap n : Nat) (L : List Fo) (h : OwnP w B A cap L) (hn : L.length = n) (hs : n ≤ 1000) :
    Calls Tryz.prog 27 #[.slice A n cap] w fun e w' => e = .returned (.bool (bare (L.map (·.f)))) ∧ w = w' := by
  rcases last_cases L with rfl | ⟨L', x, rfl⟩
  · obtain rfl : n = 0 := by simpa using hn.symm
    go_enter Tryz.func27, Tryz.ntmps27
    go_wp2_with fail
    go_ret
    exact ⟨rfl, rfl⟩
  · have hk : (L' ++ [x])[L'.length]? = some x := by simp
    obtain ⟨g, rfl, h1, h2, _, _, c1⟩ := h.at_ hk
    have hn' : L'.length + 1 = n := by rw [← hn]; simp
    have HB := hid (show bare ((L' ++ [x]).map (·.f)) = x.f.code.isEmpty by rw [List.map_append]; exact bare_snoc _ _)
    obtain ⟨m, rfl⟩ : ∃ m, n = m + 1 := ⟨L'.length, hn'.symm⟩
    obtain rfl : L'.length = m := by omega
    obtain ⟨cl, hcl⟩ : ∃ cl, x.f.code.length = cl := ⟨_, rfl⟩
    rw [hcl] at c1
    have HE := hid (show x.f.code.isEmpty = ((cl : Int) == 0) by rw [← hcl]; cases x.f.code <;> simp; omega)
    generalize L'.length = m at *
    clear h hn hk hcl hn'
    have z1 : (0 : Int) < (m : Int) + 1 := by omega
    go_enter Tryz.func27, Tryz.ntmps27
    go_wp2_with fail
    go_ret
    exact ⟨by rw [HB.out, HE.out]; rfl, rfl⟩

/-- One function more. -/
theorem OwnP.snoc {w w' : World} {B C : Nat} {A A' : Option Addr} {cap cap' : Nat} {L : List Fo} {x : Fo} (h : OwnP w B A cap L) (hx : OwnI w C x.A x.c x.f.code) (hBC : B ≤ C) (hC : ∀ y ∈ L, ∀ j, ownB y.A j → j < C)
    (hr : OwnR w' B 32 2 A' (L.length + 1) cap' (L.flatMap Fo.cells ++ x.cells)) (f : Fr (ownB A) w w') : OwnP w' B A' cap' (L ++ [x]) := by
  have hk : ∀ {D : Nat} {A2 : Option Addr} {c2 : Nat} {l2 : List Ins}, OwnI w D A2 c2 l2 → OwnI w' D A2 c2 l2 := fun {D A2 c2 l2} hi => OwnR.keep hi f (fun j hj => OwnR.apart hi h.row (by decide) j hj)
  refine ⟨?_, fun y hy => ?_, ?_⟩
  · rw [List.length_append, List.flatMap_append]
    exact hr.eq (by simp)
  · rw [List.mem_append] at hy
    rcases hy with hy | hy
    · exact hk (h.codes y hy)
    · simp at hy
      subst hy
      exact OwnR.less (hk hx) hBC
  · rw [List.pairwise_append]
    refine ⟨h.apart, List.pairwise_singleton _ _, fun y hy z hz j hj hj' => ?_⟩
    simp at hz
    subst hz
    have h1 := hC y hy j hj
    have h2 := (OwnR.lt hx j hj').1
    omega

theorem fo_one (needs : Int) (A : Option Addr) (n c : Nat) : ∀ u ∈ [Value.int .i64 needs, .slice A n c], u.oneCell' = true := by
  intro u hu
  simp only [List.mem_cons, List.not_mem_nil, or_false] at hu
  rcases hu with rfl | rfl <;> rfl


/-- What begin, extend and put answer. -/
def PgPost (w : World) (B : Nat) (A : Option Addr) (L : List Fo) (q : List Fn × Int) (e : Ending) (w' : World) : Prop :=
  ∃ (A' : Option Addr) (cap' : Nat) (L' : List Fo), e = .returned (.tuple #[.slice A' L'.length cap', .int .i64 q.2]) ∧ L'.map (·.f) = q.1 ∧ OwnP w' B A' cap' L' ∧ Fr (progB A L) w w' ∧ (∀ j, progB A' L' j → progB A L j ∨ w.heap.size ≤ j)

theorem PgPost.bad {w w' : World} {B : Nat} {A : Option Addr} {L : List Fo} {x : Int} {e : Ending} (he : e = .returned (.tuple #[.slice none 0 0, .int .i64 x])) (hF : Fr (fun _ => False) w w') : PgPost w B A L ([], x) e w' :=
  ⟨none, 0, [], he, rfl, OwnP.nil _ _, hF.mono (fun _ h => h.elim), fun j hj => by
    rcases hj with ⟨a, ha, _⟩ | ⟨x, hx, _⟩
    · cases ha
    · simp at hx⟩

theorem PgPost.eq {w w' : World} {B : Nat} {A : Option Addr} {L : List Fo} {q q' : List Fn × Int} {e : Ending} (h : PgPost w B A L q e w') (hq : q' = q) : PgPost w B A L q' e w' := hq ▸ h

theorem begF_form {fs : List Fn} {ws : List Bs} (h : ws.length ≠ 4 ∨ ws.getD 2 [] ≠ wNeeds) : begF fs ws = ([], 11) := by unfold begF; rw [if_pos h]
theorem begF_num {fs : List Fn} {ws : List Bs} (h : ¬ (ws.length ≠ 4 ∨ ws.getD 2 [] ≠ wNeeds)) (h2 : isNum (ws.getD 1 []) = false ∨ isNum (ws.getD 3 []) = false) : begF fs ws = ([], 11) := by unfold begF; rw [if_neg h, if_pos h2]
theorem begF_long {fs : List Fn} {ws : List Bs} (h : ¬ (ws.length ≠ 4 ∨ ws.getD 2 [] ≠ wNeeds)) (h2 : ¬ (isNum (ws.getD 1 []) = false ∨ isNum (ws.getD 3 []) = false)) (h3 : fs.length = 32 ∨ bare fs = true) : begF fs ws = ([], 12) := by unfold begF; rw [if_neg h, if_neg h2, if_pos h3]
theorem begF_range {fs : List Fn} {ws : List Bs} (h : ¬ (ws.length ≠ 4 ∨ ws.getD 2 [] ≠ wNeeds)) (h2 : ¬ (isNum (ws.getD 1 []) = false ∨ isNum (ws.getD 3 []) = false)) (h3 : ¬ (fs.length = 32 ∨ bare fs = true)) (h4 : val (ws.getD 1 []) ≠ fs.length ∨ 255 < val (ws.getD 3 [])) : begF fs ws = ([], 10) := by unfold begF; rw [if_neg h, if_neg h2, if_neg h3, if_pos h4]
theorem begF_ok {fs : List Fn} {ws : List Bs} (h : ¬ (ws.length ≠ 4 ∨ ws.getD 2 [] ≠ wNeeds)) (h2 : ¬ (isNum (ws.getD 1 []) = false ∨ isNum (ws.getD 3 []) = false)) (h3 : ¬ (fs.length = 32 ∨ bare fs = true)) (h4 : ¬ (val (ws.getD 1 []) ≠ fs.length ∨ 255 < val (ws.getD 3 []))) : begF fs ws = (fs ++ [⟨val (ws.getD 3 []), []⟩], 0) := by unfold begF; rw [if_neg h, if_neg h2, if_neg h3, if_neg h4]

set_option maxRecDepth 100000 in
set_option maxHeartbeats 2000000 in
theorem begin_form (w : World) (B : Nat) (A Aw : Option Addr) (cap cw n m : Nat) (L : List Fo) (ws : List Bs) (hw : OwnW w B Aw m cw ws) (hf : ws.length ≠ 4 ∨ ws.getD 2 [] ≠ wNeeds) :
    Calls Tryz.prog 47 #[.slice A n cap, .slice Aw m cw] w (PgPost w B A L (begF (L.map (·.f)) ws)) := by
  have HQ := hid (begF_form (fs := L.map (·.f)) hf)
  have hm := hw.1
  by_cases h4 : m = 4
  · subst h4
    obtain ⟨g, rfl, _, hg, hc⟩ := hw.2.2 (by omega)
    have h2 : ws.getD 2 [] ≠ wNeeds := by
      rcases hf with h | h
      · exact absurd hm h
      · exact h
    have c2 : w.cell? ⟨g, 2, none⟩ = some (.string (bs (ws.getD 2 []))) := hc 2 _ (by rw [List.getD_eq_getElem?_getD, List.getElem?_eq_getElem (by omega)]; rfl)
    have t : ((bs (ws.getD 2 [])).toList == [110, 101, 101, 100, 115]) = false := by rw [bs_toList]; exact beq_eq_false_iff_ne.2 h2
    generalize ws.getD 2 [] = x at c2 t
    clear hc hm hw hf h2
    go_enter Tryz.func47, Tryz.ntmps47
    go_wp2_with fail
    go_ret2
    exact (PgPost.bad rfl (Fr.refl _ _)).eq HQ.out
  · have t : ((m : Int) != 4) = true := by simp; omega
    clear hm hw hf
    go_enter Tryz.func47, Tryz.ntmps47
    go_wp2_with fail
    go_ret2
    exact (PgPost.bad rfl (Fr.refl _ _)).eq HQ.out

set_option maxRecDepth 100000 in
set_option maxHeartbeats 4000000 in
theorem begin_go (w : World) (ht : Tabs w) (B : Nat) (A Aw : Option Addr) (cap cw n : Nat) (L : List Fo) (ws : List Bs) (hw : OwnW w B Aw 4 cw ws) (ho : OwnP w B A cap L) (hB : B ≤ w.heap.size) (hn : L.length = n) (h32 : n ≤ 32) (hf : ¬ (ws.length ≠ 4 ∨ ws.getD 2 [] ≠ wNeeds)) (hlen : ∀ x ∈ ws, x.length ≤ 1000000) :
    Calls Tryz.prog 47 #[.slice A n cap, .slice Aw 4 cw] w (PgPost w B A L (begF (L.map (·.f)) ws)) := by
  obtain ⟨i0, hi, hz⟩ := Option.map_eq_some_iff.1 Tryz.infof
  simp only [Prod.mk.injEq] at hz
  obtain ⟨hz0, hz1, hz2⟩ := hz
  have HI := hid hi
  have HZ0 := hid hz0
  have HZ1 := hid hz1
  have HZ2 := hid hz2
  clear hi hz0 hz1 hz2
  have hm := hw.1
  have h2 : ws.getD 2 [] = wNeeds := by
    simp only [not_or, ne_eq, Decidable.not_not] at hf
    exact hf.2
  obtain ⟨g, rfl, hgB, hg, hc⟩ := hw.2.2 (by omega)
  have hin : ∀ k, k < 4 → ws[k]? = some (ws.getD k []) := fun k hk => by rw [List.getD_eq_getElem?_getD, List.getElem?_eq_getElem (by omega)]; rfl
  have c2 : w.cell? ⟨g, 2, none⟩ = some (.string (bs wNeeds)) := hc 2 _ (by rw [hin 2 (by omega), h2])
  have c1 : w.cell? ⟨g, 1, none⟩ = some (.string (bs (ws.getD 1 []))) := hc 1 _ (hin 1 (by omega))
  have c3 : w.cell? ⟨g, 3, none⟩ = some (.string (bs (ws.getD 3 []))) := hc 3 _ (hin 3 (by omega))
  have t2 : ((bs wNeeds).toList == [110, 101, 101, 100, 115]) = true := by rw [bs_toList]; rfl
  have l1 := hlen _ (List.mem_of_getElem? (hin 1 (by omega)))
  have l3 := hlen _ (List.mem_of_getElem? (hin 3 (by omega)))
  have HNUM := hid (fun h2 => begF_num (fs := L.map (·.f)) hf h2)
  have HLONG := hid (fun h2 h3 => begF_long (fs := L.map (·.f)) hf h2 h3)
  have HRANGE := hid (fun h2 h3 h4 => begF_range (fs := L.map (·.f)) hf h2 h3 h4)
  have HOK := hid (fun h2 h3 h4 => begF_ok (fs := L.map (·.f)) hf h2 h3 h4)
  have HFL := hid (show (L.map (·.f)).length = n by rw [List.length_map, hn])
  have HO := hid ho
  have HNN := hid hn
  have HBA := hid (fun (W : World) (hW : Fr (fun _ => False) w W) => bare_any W B A cap n L (ho.same hW) hn (by omega))
  have HN1 := hid (numeral_any (ws.getD 1 []) l1 w ht)
  have HN3 := hid (fun (W : World) (hW : Fr (fun _ => False) w W) => numeral_any (ws.getD 3 []) l3 W (ht.same hW))
  generalize ws.getD 1 [] = x1 at c1 HN1 HNUM HLONG HRANGE HOK
  generalize ws.getD 3 [] = x3 at c3 HN3 HNUM HLONG HRANGE HOK
  have HC3 := hid c3
  generalize bare (L.map (·.f)) = bb at HBA HLONG HRANGE HOK
  clear hc hin hm hw h2 hf ho hn l1 l3 c3 hlen
  go_enter Tryz.func47, Tryz.ntmps47
  go_wp2_with fail
  refine HN1.out.mono ?_
  rintro e w1 ⟨rfl, hF1⟩
  have c3 : w1.cell? ⟨g, 3, none⟩ = some (.string (bs x3)) := (cell_keep hF1 (p := ⟨g, 3, none⟩) hg (fun h => h)).trans HC3.out
  have hs1 := hF1.size
  clear c1 c2
  have HN3' := hid (HN3.out w1 hF1)
  cases k1 : isNum x1 with
  | false =>
    rw [nuV_no k1]
    have HQ := hid (HNUM.out (.inl k1))
    clear k1
    go_wp2_with fail
    refine HN3'.out.mono ?_
    rintro e w2 ⟨rfl, hF2⟩
    cases k3 : isNum x3 with
    | false =>
      rw [nuV_no k3]
      clear k3
      go_wp2_with fail
      go_ret2
      exact (PgPost.bad rfl (hF1.trans hF2)).eq HQ.out
    | true =>
      rw [nuV_yes k3]
      clear k3
      go_wp2_with fail
      go_ret2
      exact (PgPost.bad rfl (hF1.trans hF2)).eq HQ.out
  | true =>
    rw [nuV_yes k1]
    have K1 := hid k1
    clear k1
    go_wp2_with fail
    refine HN3'.out.mono ?_
    rintro e w2 ⟨rfl, hF2⟩
    cases k3 : isNum x3 with
    | false =>
      rw [nuV_no k3]
      have HQ := hid (HNUM.out (.inr k3))
      clear k3
      go_wp2_with fail
      go_ret2
      exact (PgPost.bad rfl (hF1.trans hF2)).eq HQ.out
    | true =>
      rw [nuV_yes k3]
      have hnn : ¬ (isNum x1 = false ∨ isNum x3 = false) := by rw [K1.out, k3]; simp
      have HL2 := hid (HLONG.out hnn)
      have HR2 := hid (HRANGE.out hnn)
      have HK2 := hid (HOK.out hnn)
      clear k3 hnn
      have hF12 := hF1.trans hF2
      have hs2 := hF2.size
      have s1 : sat (val x1) ≤ 9223372036854775807 := by unfold sat; omega
      have s3 : sat (val x3) ≤ 9223372036854775807 := by unfold sat; omega
      have HS1 := hid (show sat (val x1) = n ↔ val x1 = n by unfold sat; omega)
      have HS3 := hid (show 255 < sat (val x3) ↔ 255 < val x3 by unfold sat; omega)
      have HS4 := hid (show sat (val x3) ≤ 255 → (sat (val x3) : Int) = val x3 by unfold sat; omega)
      generalize sat (val x1) = y1 at s1 HS1
      generalize sat (val x3) = y3 at s3 HS3 HS4
      by_cases hn32 : n = 32
      · have HQ := hid (HL2.out (.inl (by rw [HFL.out]; exact hn32)))
        have t : ((n : Int) == 32) = true := by simp; omega
        clear hn32
        go_wp2_with fail
        go_ret2
        exact (PgPost.bad rfl hF12).eq HQ.out
      · have t : ((n : Int) == 32) = false := by simp; omega
        cases bb with
        | true =>
          have HQ := hid (HL2.out (.inr rfl))
          go_wp2_with fail
          refine (HBA.out w2 hF12).mono ?_
          rintro e w3 ⟨rfl, rfl⟩
          go_wp2_with fail
          go_ret2
          exact (PgPost.bad rfl hF12).eq HQ.out
        | false =>
          have hnl : ¬ ((L.map (·.f)).length = 32 ∨ false = true) := by rw [HFL.out]; simp; omega
          have HR3 := hid (HR2.out hnl)
          have HK3 := hid (HK2.out hnl)
          clear hnl
          by_cases hy1 : y1 = n
          · have t1 : ((y1 : Int) != (n : Int)) = false := by simp; omega
            by_cases hy3 : 255 < y3
            · have HQ := hid (HR3.out (.inr (HS3.out.1 hy3)))
              clear hy1
              go_wp2_with fail
              refine (HBA.out w2 hF12).mono ?_
              rintro e w3 ⟨rfl, rfl⟩
              go_wp2_with fail
              go_ret2
              exact (PgPost.bad rfl hF12).eq HQ.out
            · have HQ := hid (HK3.out (by
                simp only [not_or, ne_eq, Decidable.not_not]
                rw [HFL.out]
                exact ⟨HS1.out.1 hy1, fun h => hy3 (HS3.out.2 h)⟩))
              have HV := hid (HS4.out (by omega))
              clear hy1
              have HROW := hid (HO.out.row.same hF12)
              rw [HNN.out] at HROW
              have HRW := hid (OwnR.same HROW.out (Fr.alloc _ w2 (.cells #[.int .i64 (y3 : Int), .slice none 0 0] 32)))
              have HN1 := hid (news8 w2 32 [.int .i64 (y3 : Int), .slice none 0 0])
              go_wp2_with fail
              refine (HBA.out w2 hF12).mono ?_
              rintro e w3 ⟨rfl, rfl⟩
              go_wp2_with (at_builtin; refine wpList_append_lies _ rfl _ _ 22 rfl B 32 i0 (.agg #[.int .i64 0, .slice none 0 0]) 2 32 Tryz.underlying22 HI.out HZ0.out HZ1.out HZ2.out rfl (by decide) (.slice A n cap) n _ rfl HRW.out ⟨w2.heap.size, 0, none⟩ 1 1 [.int .i64 (y3 : Int), .slice none 0 0] rfl rfl HN1.out (fo_one _ _ _ _) (by omega) (by unfold maxLen; omega) (by omega) (by simp; omega) (w2.heap.size + 1) (by simp) ?_; intro g4 c4 w4 hown4 hgrow4 hat4 hlt4; have HO4 := hid hown4; have HG4 := hid hgrow4; have HAT := hid hat4; clear hown4 hgrow4 hat4)
              go_ret2
              refine PgPost.eq (q := (L.map (·.f) ++ [⟨(y3 : Int), []⟩], 0)) ?_ (by rw [HQ.out, HV.out])
              refine ⟨some ⟨g4, 0, none⟩, c4, L ++ [⟨⟨(y3 : Int), []⟩, none, 0⟩], ?_, by simp, ?_, ?_, ?_⟩
              · rw [List.length_append, HNN.out]
                rfl
              · have hP := (HO.out.same hF12).same (Fr.alloc _ w2 (.cells #[.int .i64 (y3 : Int), .slice none 0 0] 32))
                refine OwnP.snoc (C := w2.heap.size + 1) hP (OwnR.nil _ _ _ _) (by omega) (fun y hy j hj => by
                  have := (OwnR.lt (hP.codes y hy) j hj).2
                  rwa [size_alloc] at this) ?_ (Fr.of_grown' HG4.out)
                rw [HNN.out]
                exact HO4.out
              · exact (hF12.mono (fun _ h => h.elim)).trans (((Fr.alloc _ _ _).mono (fun _ h => h)).trans ((Fr.of_grown' HG4.out).mono (fun j hj => .inl hj)))
              · rintro j (⟨a', e1, e2⟩ | ⟨x, hx, hj⟩)
                · injection e1 with e1
                  subst e1
                  have e2 : g4 = j := e2
                  subst e2
                  rcases HAT.out with h | h
                  · left
                    left
                    cases A with
                    | none => simp [Value.ownBlock] at h
                    | some a0 => exact ⟨a0, rfl, by simpa [Value.ownBlock] using h⟩
                  · right
                    omega
                · rw [List.mem_append] at hx
                  rcases hx with hx | hx
                  · exact .inl (.inr ⟨x, hx, hj⟩)
                  · simp at hx
                    subst hx
                    obtain ⟨a', e1, _⟩ := hj
                    cases e1
          · have t1 : ((y1 : Int) != (n : Int)) = true := by simp; omega
            have HQ := hid (HR3.out (.inl (by rw [HFL.out]; exact fun h => hy1 (HS1.out.2 h))))
            clear hy1
            go_wp2_with fail
            refine (HBA.out w2 hF12).mono ?_
            rintro e w3 ⟨rfl, rfl⟩
            go_wp2_with fail
            go_ret2
            exact (PgPost.bad rfl hF12).eq HQ.out

theorem begin_any (w : World) (ht : Tabs w) (B Bw : Nat) (A Aw : Option Addr) (cap cw : Nat) (L : List Fo) (ws : List Bs) (hw : OwnW w Bw Aw ws.length cw ws) (ho : OwnP w B A cap L) (hB : B ≤ w.heap.size) (hBw : B ≤ Bw) (h32 : L.length ≤ 32) (hlen : ∀ x ∈ ws, x.length ≤ 1000000) :
    Calls Tryz.prog 47 #[.slice A L.length cap, .slice Aw ws.length cw] w (PgPost w B A L (begF (L.map (·.f)) ws)) := by
  have hw' : OwnW w B Aw ws.length cw ws := ⟨hw.1, hw.2.1, fun hn => by
    obtain ⟨g, h1, h2, h3⟩ := hw.2.2 hn
    exact ⟨g, h1, Nat.le_trans hBw h2, h3⟩⟩
  by_cases hf : ws.length ≠ 4 ∨ ws.getD 2 [] ≠ wNeeds
  · exact begin_form w B A Aw cap cw L.length ws.length L ws hw' hf
  · have h4 : ws.length = 4 := by
      simp only [not_or, ne_eq, Decidable.not_not] at hf
      exact hf.1
    rw [h4] at hw' ⊢
    exact begin_go w ht B A Aw cap cw L.length L ws hw' ho hB rfl h32 hf hlen

end Go.Proofs.YtepbnneggpcbcaaGreatDoor
