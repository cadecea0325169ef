/-
  The document's bit, and what comes behind.
-/
import Derived.Test.YthpkhcompkfcaaaDoorHeldA
import Derived.Deep.RegionHeld3
import Derived.Deep.DeepCutAuto
namespace Go.Proofs.YthpkhcompkfcaaaDoor
open Go.RowKit
set_option linter.unusedVariables false

theorem rbit_any (x : Int) (h : Nat) (w : World) (hh : h < 8) : Calls Tryd.prog 28 #[.int .i64 x, .int .i64 h] w fun e w' => e = .returned (.bool ((low x).testBit h)) ∧ w = w' := by
  have HQ := hid (bit_is x hh)
  go_enter Tryd.func28, Tryd.ntmps28
  go_wp2_with fail
  go_ret
  exact ⟨ret_bool HQ.out, rfl⟩

/-- Where an instruction may go, in range or not. -/
def goL (k : Nat) (x : Ins) : List Int := (if isJ x = true then [x.n] else []) ++ (if isP x = true then [(k : Int) + 1] else [])
def inR (n : Nat) (y : Int) : Bool := decide (0 ≤ y ∧ y < n)

theorem goL_filter {l : List Ins} {k : Nat} {x : Ins} (h : l[k]? = some x) : (goL k x).filter (inR l.length) = natsI (bhd l k) := by
  rw [bhd_at h]
  unfold goL natsI bhdJ bhdP
  rw [List.filter_append, List.map_append]
  congr 1
  · by_cases hJ : isJ x = true
    · rw [if_pos hJ]
      by_cases hr : 0 ≤ x.n ∧ x.n < l.length
      · rw [if_pos ⟨hJ, hr⟩]
        simp [inR, hr]
        omega
      · rw [if_neg (fun hh => hr hh.2)]
        have : inR l.length x.n = false := by unfold inR; exact decide_eq_false hr
        simp [this]
    · rw [if_neg hJ, if_neg (fun hh => hJ hh.1)]
      rfl
  · by_cases hP : isP x = true
    · rw [if_pos hP]
      by_cases hr : k + 1 < l.length
      · rw [if_pos ⟨hP, hr⟩]
        have : inR l.length ((k : Int) + 1) = true := by unfold inR; exact decide_eq_true (by omega)
        simp [this]
      · rw [if_neg (fun hh => hr hh.2)]
        have : inR l.length ((k : Int) + 1) = false := by unfold inR; exact decide_eq_false (by omega)
        simp [this]
    · rw [if_neg hP, if_neg (fun hh => hP hh.1)]
      rfl

theorem goL_len (k : Nat) (x : Ins) : (goL k x).length ≤ 2 := by
  unfold goL
  rw [List.length_append]
  split <;> split <;> simp

/-- A row of the call's own. -/
theorem ints_app (a b : List Int) : ints (a ++ b) = ints a ++ ints b := by simp [ints]

/-- A row of numbers of the call's own is handed back. -/
def OwnPost (w : World) (L : List Int) (e : Ending) (w' : World) : Prop := ∃ A n c, e = .returned (.slice A n c) ∧ L.length = n ∧ OwnN w' w.heap.size A n c L ∧ Fr (fun _ => False) w w'

def BhCome (w : World) (B : Nat) (L : List Int) (u : Value) (wx : World) : Prop := ∃ A1 c1, u = .slice A1 L.length c1 ∧ OwnN wx B A1 L.length c1 L ∧ Fr (fun _ => False) w wx

def BoRel (w : World) (B : Nat) (n : Nat) (L : List Int) (m : Nat) (w1 : World) (d : Nat) (out k : Value) (wr : World) : Prop :=
  ∃ (j : Nat) (A2 : Option Addr) (c2 : Nat), j ≤ m ∧ d = m - j ∧ k = .int .i64 j ∧ out = .slice A2 ((L.take j).filter (inR n)).length c2 ∧ OwnN wr w1.heap.size A2 ((L.take j).filter (inR n)).length c2 ((L.take j).filter (inR n)) ∧ Fr (fun k => w1.heap.size ≤ k) w1 wr

theorem filter_snoc {L : List Int} {n j : Nat} {y : Int} (h : L[j]? = some y) : (L.take (j + 1)).filter (inR n) = (L.take j).filter (inR n) ++ if inR n y = true then [y] else [] := by
  rw [take_snoc' h, List.filter_append]
  congr 1
  simp [List.filter_cons]

set_option maxRecDepth 100000 in
set_option maxHeartbeats 4000000 in
theorem rbehind_any (A : Option Addr) (n c k : Nat) (l : List Ins) (x : Ins) (w : World) (hl : l.length = n) (hn : n ≤ 1000) (hx : l[k]? = some x) (hp : Cod w w.heap.size A l) :
    Calls Tryd.prog 41 #[.slice A n c, .int .i64 k] w (OwnPost w (natsI (bhd l k))) := by
  have HL := hid hl
  have HX := hid hx
  have hkn : k < n := by have := (List.getElem?_eq_some_iff.1 hx).1; omega
  obtain ⟨g, o, rfl, hg, hcell⟩ := hp (by omega)
  obtain ⟨s0, s1, s2, s3, s4⟩ := hcell k _ hx
  obtain ⟨i0, hi, hz⟩ := Option.map_eq_some_iff.1 Tryd.infon
  simp only [Prod.mk.injEq] at hz
  obtain ⟨hz0, hz1, hz2⟩ := hz
  have HI := hid hi
  have HZ0 := hid hz0
  have HZ1 := hid hz1
  have HZ2 := hid hz2
  have HGF := hid (goL_filter hx)
  rw [hl] at HGF
  have hgl := goL_len k x
  obtain ⟨L, hL⟩ : ∃ L, L = goL k x := ⟨_, rfl⟩
  rw [← hL] at HGF hgl
  have HLL := hid hL
  obtain ⟨op, a, b, ci, m⟩ := x
  simp only at s0 s1 s2 s3 s4
  have HS4 := hid s4
  clear hi hz0 hz1 hz2 hl hx hcell hL s1 s2 s3
  go_enter Tryd.func41, Tryd.ntmps41
  by_cases h6 : op = 6
  · subst h6
    have hL : L = [m] := by rw [HLL.out]; rfl
    go_wp2_with (at_builtin; (refine wpList_append_own _ rfl _ _ 25 rfl w.heap.size 3 i0 (.int .i64 0) 1 8 Tryd.underlying25 HI.out HZ0.out HZ1.out HZ2.out rfl (by decide) (.slice none 0 0) 0 _ rfl (OwnR.nil _ _ _ _) ⟨w.heap.size, 0, none⟩ 1 1 (ints [m]) rfl rfl (news_int w (m) rfl) (ints_one _) (by unfold maxLen; omega) (by omega) (by simp; try omega) ?_; intro v2 w2 hown2 hgrow2 hnil2; clear hnil2; rw [show 0 + 1 = 1 from rfl] at hown2; obtain ⟨A1, c1, rfl, ho2⟩ := OwnR.form hown2; have HO5 := hid ho2; have HF5 := hid ((Fr.trans (Fr.alloc (fun _ => False) w (.cells #[.int .i64 (m)] 3)) ((Fr.of_grown hgrow2).mono (fun k hk => by obtain ⟨a, ha, _⟩ := hk; cases ha)))); clear hown2 hgrow2 ho2))
    have HO6 := hid (show OwnN w2 w.heap.size A1 1 c1 L by rw [hL]; exact HO5.out)
    have HMM := hid (show 1 = L.length by rw [hL]; rfl)
    have HLQ := hid hL
    clear hL
    go_loopg [7, 8] 1 (fun d out k wr => BoRel w 0 n L 1 w2 d out k wr)
    case atStart => exact ⟨0, none, 0, by omega, by omega, rfl, rfl, OwnR.nil _ _ _ _, Fr.refl _ _⟩
    case round =>
      obtain ⟨wo, rfl⟩ : ∃ wo, wo = wr := ⟨_, rfl⟩
      obtain ⟨j, A2, c2, hj, hd, rfl, rfl, hown, hF⟩ := hrel
      have HD := hid hd
      have HF := hid hF
      have HOW := hid hown
      obtain ⟨q, hq⟩ : ∃ q, q = ((L.take j).filter (inR n)).length := ⟨_, rfl⟩
      have hq2 : q ≤ 2 := by
        have h1 := List.length_filter_le (inR n) (L.take j)
        have h2 : (L.take j).length ≤ L.length := by simp; omega
        omega
      rw [← hq] at HOW ⊢
      have HQ := hid hq
      clear hd hown hq
      by_cases hlt : j < 1
      · obtain ⟨y, hy⟩ : ∃ y, L[j]? = some y := ⟨_, List.getElem?_eq_getElem (by rw [← HMM.out]; exact hlt)⟩
        have hoL := OwnR.keep HO6.out hF (fun i hi h => by have := (OwnR.lt HO6.out i hi).2; omega)
        obtain ⟨ga, rfl, _, hga, _, hca⟩ := OwnR.cell hoL (by omega)
        have c0 := hca j (.int .i64 y) (by simp [ints, hy])
        have HY := hid hy
        have hsn := filter_snoc (n := n) hy
        have HGA := hid (show w2.heap.size ≤ wo.heap.size from hF.size)
        have hgaq : ga < w2.heap.size := (OwnR.lt HO6.out ga ⟨_, rfl, rfl⟩).2
        have HCA := hid (show ∀ w', Fr (fun k => w2.heap.size ≤ k) wo w' → w'.cell? ⟨ga, j, none⟩ = some (.int .i64 y) from fun w' F => (cell_keep F (p := ⟨ga, j, none⟩) hga (by show ¬ w2.heap.size ≤ ga; omega)).trans c0)
        clear hy hoL hca hF
        have hy3 : y < 0 ∨ (0 ≤ y ∧ (n : Int) ≤ y) ∨ (0 ≤ y ∧ y < n) := by omega
        rcases hy3 with hy3 | ⟨hy3, hy4⟩ | ⟨hy3, hy4⟩
        · have e : inR n y = false := by unfold inR; exact decide_eq_false (by omega)
          rw [e] at hsn
          simp only [Bool.false_eq_true, if_false, List.append_nil] at hsn
          have HSN := hid hsn
          have hy5 : ¬ 0 ≤ y := by omega
          clear hsn
          go_wp2_with fail
          go_roundg (1 - (j + 1))
          case rel => exact ⟨j + 1, A2, c2, by omega, rfl, by go_num, by rw [HSN.out, ← HQ.out], by rw [HSN.out, ← HQ.out]; exact HOW.out, HF.out⟩
          case measure => have := HD.out; omega
        · have e : inR n y = false := by unfold inR; exact decide_eq_false (by omega)
          rw [e] at hsn
          simp only [Bool.false_eq_true, if_false, List.append_nil] at hsn
          have HSN := hid hsn
          have hy5 : ¬ y < n := by omega
          clear hsn
          go_wp2_with fail
          go_roundg (1 - (j + 1))
          case rel => exact ⟨j + 1, A2, c2, by omega, rfl, by go_num, by rw [HSN.out, ← HQ.out], by rw [HSN.out, ← HQ.out]; exact HOW.out, HF.out⟩
          case measure => have := HD.out; omega
        · have e : inR n y = true := by unfold inR; exact decide_eq_true (by omega)
          rw [e] at hsn
          simp only [if_true] at hsn
          have HSN := hid hsn
          have HOW2 := hid (OwnR.same HOW.out (Fr.alloc _ wo (.cells #[.int .i64 y] 3)))
          have hwo := HGA.out
          clear hsn
          go_wp2_with (at_builtin; (refine wpList_append_own _ rfl _ _ 25 rfl w2.heap.size 3 i0 (.int .i64 0) 1 8 Tryd.underlying25 HI.out HZ0.out HZ1.out HZ2.out rfl (by decide) (.slice A2 q c2) q _ rfl HOW2.out ⟨wo.heap.size, 0, none⟩ 1 1 (ints [y]) rfl rfl (news_int wo y rfl) (ints_one _) (by unfold maxLen; omega) (by omega) (by simp; omega) ?_; intro v2 w2 hown2 hgrow2 hnil2; clear hnil2; obtain ⟨A4, c4, rfl, ho2⟩ := OwnR.form hown2; have HO4 := hid ho2; have HF4 := hid (((Fr.alloc (fun _ => False) wo (.cells #[.int .i64 y] 3)).mono (fun _ h => h.elim)).trans ((Fr.of_grown hgrow2).mono (fun i h => (OwnR.lt HOW.out i h).1))); clear hown2 hgrow2 ho2))
          go_roundg (1 - (j + 1))
          case rel => exact ⟨j + 1, A4, c4, by omega, rfl, by go_num, by rw [HSN.out, List.length_append, ← HQ.out]; rfl, by rw [HSN.out, List.length_append, ← HQ.out]; exact OwnR.eq HO4.out (by rw [ints_app]), HF.out.trans HF4.out⟩
          case measure => have := HD.out; omega
      · clear hF
        go_wp2_with fail
        go_ret
        have e : (L.take j).filter (inR n) = natsI (bhd l k) := by rw [List.take_of_length_le (by have := HMM.out; omega)]; exact HGF.out
        refine ⟨A2, q, c2, rfl, by rw [← e]; exact HQ.out.symm, ?_, ?_⟩
        · rw [← e]
          exact OwnR.less HOW.out (HF5.out.size)
        · exact HF5.out.trans (Fr.to_none HF.out)
  by_cases h7 : op = 7
  · subst h7
    have hL : L = [m, (k : Int) + 1] := by rw [HLL.out]; rfl
    go_wp2_with (at_builtin; first | (refine wpList_append_own _ rfl _ _ 25 rfl w.heap.size 3 i0 (.int .i64 0) 1 8 Tryd.underlying25 HI.out HZ0.out HZ1.out HZ2.out rfl (by decide) (.slice none 0 0) 0 _ rfl (OwnR.nil _ _ _ _) ⟨w.heap.size, 0, none⟩ 1 1 (ints [m]) rfl rfl (news_int w (m) rfl) (ints_one _) (by unfold maxLen; omega) (by omega) (by simp; try omega) ?_; intro v2 w2 hown2 hgrow2 hnil2; clear hnil2; rw [show 0 + 1 = 1 from rfl] at hown2; obtain ⟨A1, c1, rfl, ho2⟩ := OwnR.form hown2; have HO5 := hid ho2; have HF5 := hid ((Fr.trans (Fr.alloc (fun _ => False) w (.cells #[.int .i64 (m)] 3)) ((Fr.of_grown hgrow2).mono (fun k hk => by obtain ⟨a, ha, _⟩ := hk; cases ha)))); clear hown2 hgrow2 ho2) | (refine wpList_append_own _ rfl _ _ 25 rfl w.heap.size 3 i0 (.int .i64 0) 1 8 Tryd.underlying25 HI.out HZ0.out HZ1.out HZ2.out rfl (by decide) (.slice A1 1 c1) 1 _ rfl (OwnR.same HO5.out (Fr.alloc _ w2 (.cells #[.int .i64 ((k : Int) + 1)] 3))) ⟨w2.heap.size, 0, none⟩ 1 1 (ints [(k : Int) + 1]) rfl rfl (news_int w2 ((k : Int) + 1) rfl) (ints_one _) (by unfold maxLen; omega) (by omega) (by have := HF5.out.size; simp; try omega) ?_; intro v2 w3 hown2 hgrow2 hnil2; clear hnil2; rw [show 1 + 1 = 2 from rfl] at hown2; obtain ⟨A3, c3, rfl, ho2⟩ := OwnR.form hown2; have HO7 := hid ho2; have HF7 := hid (Fr.to_none ((HF5.out.mono (fun _ h => h.elim)).trans (((Fr.alloc (fun _ => False) w2 (.cells #[.int .i64 ((k : Int) + 1)] 3)).mono (fun _ h => h.elim)).trans ((Fr.of_grown hgrow2).mono (fun i h => (OwnR.lt HO5.out i h).1))))); clear hown2 hgrow2 ho2))
    have HO6 := hid (show OwnN w3 w.heap.size A3 2 c3 L by rw [hL]; exact HO7.out)
    have HMM := hid (show 2 = L.length by rw [hL]; rfl)
    have HLQ := hid hL
    clear hL
    go_loopg [7, 8] 2 (fun d out k wr => BoRel w 0 n L 2 w3 d out k wr)
    case atStart => exact ⟨0, none, 0, by omega, by omega, rfl, rfl, OwnR.nil _ _ _ _, Fr.refl _ _⟩
    case round =>
      obtain ⟨wo, rfl⟩ : ∃ wo, wo = wr := ⟨_, rfl⟩
      obtain ⟨j, A2, c2, hj, hd, rfl, rfl, hown, hF⟩ := hrel
      have HD := hid hd
      have HF := hid hF
      have HOW := hid hown
      obtain ⟨q, hq⟩ : ∃ q, q = ((L.take j).filter (inR n)).length := ⟨_, rfl⟩
      have hq2 : q ≤ 2 := by
        have h1 := List.length_filter_le (inR n) (L.take j)
        have h2 : (L.take j).length ≤ L.length := by simp; omega
        omega
      rw [← hq] at HOW ⊢
      have HQ := hid hq
      clear hd hown hq
      by_cases hlt : j < 2
      · obtain ⟨y, hy⟩ : ∃ y, L[j]? = some y := ⟨_, List.getElem?_eq_getElem (by rw [← HMM.out]; exact hlt)⟩
        have hoL := OwnR.keep HO6.out hF (fun i hi h => by have := (OwnR.lt HO6.out i hi).2; omega)
        obtain ⟨ga, rfl, _, hga, _, hca⟩ := OwnR.cell hoL (by omega)
        have c0 := hca j (.int .i64 y) (by simp [ints, hy])
        have HY := hid hy
        have hsn := filter_snoc (n := n) hy
        have HGA := hid (show w3.heap.size ≤ wo.heap.size from hF.size)
        have hgaq : ga < w3.heap.size := (OwnR.lt HO6.out ga ⟨_, rfl, rfl⟩).2
        have HCA := hid (show ∀ w', Fr (fun k => w3.heap.size ≤ k) wo w' → w'.cell? ⟨ga, j, none⟩ = some (.int .i64 y) from fun w' F => (cell_keep F (p := ⟨ga, j, none⟩) hga (by show ¬ w3.heap.size ≤ ga; omega)).trans c0)
        clear hy hoL hca hF
        have hy3 : y < 0 ∨ (0 ≤ y ∧ (n : Int) ≤ y) ∨ (0 ≤ y ∧ y < n) := by omega
        rcases hy3 with hy3 | ⟨hy3, hy4⟩ | ⟨hy3, hy4⟩
        · have e : inR n y = false := by unfold inR; exact decide_eq_false (by omega)
          rw [e] at hsn
          simp only [Bool.false_eq_true, if_false, List.append_nil] at hsn
          have HSN := hid hsn
          have hy5 : ¬ 0 ≤ y := by omega
          clear hsn
          go_wp2_with fail
          go_roundg (2 - (j + 1))
          case rel => exact ⟨j + 1, A2, c2, by omega, rfl, by go_num, by rw [HSN.out, ← HQ.out], by rw [HSN.out, ← HQ.out]; exact HOW.out, HF.out⟩
          case measure => have := HD.out; omega
        · have e : inR n y = false := by unfold inR; exact decide_eq_false (by omega)
          rw [e] at hsn
          simp only [Bool.false_eq_true, if_false, List.append_nil] at hsn
          have HSN := hid hsn
          have hy5 : ¬ y < n := by omega
          clear hsn
          go_wp2_with fail
          go_roundg (2 - (j + 1))
          case rel => exact ⟨j + 1, A2, c2, by omega, rfl, by go_num, by rw [HSN.out, ← HQ.out], by rw [HSN.out, ← HQ.out]; exact HOW.out, HF.out⟩
          case measure => have := HD.out; omega
        · have e : inR n y = true := by unfold inR; exact decide_eq_true (by omega)
          rw [e] at hsn
          simp only [if_true] at hsn
          have HSN := hid hsn
          have HOW2 := hid (OwnR.same HOW.out (Fr.alloc _ wo (.cells #[.int .i64 y] 3)))
          have hwo := HGA.out
          clear hsn
          go_wp2_with (at_builtin; (refine wpList_append_own _ rfl _ _ 25 rfl w3.heap.size 3 i0 (.int .i64 0) 1 8 Tryd.underlying25 HI.out HZ0.out HZ1.out HZ2.out rfl (by decide) (.slice A2 q c2) q _ rfl HOW2.out ⟨wo.heap.size, 0, none⟩ 1 1 (ints [y]) rfl rfl (news_int wo y rfl) (ints_one _) (by unfold maxLen; omega) (by omega) (by simp; omega) ?_; intro v2 w2 hown2 hgrow2 hnil2; clear hnil2; obtain ⟨A4, c4, rfl, ho2⟩ := OwnR.form hown2; have HO4 := hid ho2; have HF4 := hid (((Fr.alloc (fun _ => False) wo (.cells #[.int .i64 y] 3)).mono (fun _ h => h.elim)).trans ((Fr.of_grown hgrow2).mono (fun i h => (OwnR.lt HOW.out i h).1))); clear hown2 hgrow2 ho2))
          go_roundg (2 - (j + 1))
          case rel => exact ⟨j + 1, A4, c4, by omega, rfl, by go_num, by rw [HSN.out, List.length_append, ← HQ.out]; rfl, by rw [HSN.out, List.length_append, ← HQ.out]; exact OwnR.eq HO4.out (by rw [ints_app]), HF.out.trans HF4.out⟩
          case measure => have := HD.out; omega
      · clear hF
        go_wp2_with fail
        go_ret
        have e : (L.take j).filter (inR n) = natsI (bhd l k) := by rw [List.take_of_length_le (by have := HMM.out; omega)]; exact HGF.out
        refine ⟨A2, q, c2, rfl, by rw [← e]; exact HQ.out.symm, ?_, ?_⟩
        · rw [← e]
          exact OwnR.less HOW.out (HF7.out.size)
        · exact HF7.out.trans (Fr.to_none HF.out)
  by_cases h15 : op = 15
  · subst h15
    have hL : L = [] := by rw [HLL.out]; rfl
    have HE := hid (show [] = natsI (bhd l k) by have h := HGF.out; rw [hL] at h; exact h)
    clear hL
    go_wp2_with fail
    go_loopg [7, 8] 0 (fun d out kv wr => out = .slice none 0 0 ∧ kv = .int .i64 0 ∧ wr = w)
    case atStart => exact ⟨rfl, rfl, rfl⟩
    case round =>
      obtain ⟨rfl, rfl, rfl⟩ := hrel
      go_wp2_with fail
      go_ret
      refine ⟨none, 0, 0, rfl, by rw [← HE.out]; rfl, by rw [← HE.out]; exact OwnR.nil _ _ _ _, Fr.refl _ _⟩
  by_cases h16 : op = 16
  · subst h16
    have hL : L = [] := by rw [HLL.out]; rfl
    have HE := hid (show [] = natsI (bhd l k) by have h := HGF.out; rw [hL] at h; exact h)
    clear hL
    go_wp2_with fail
    go_loopg [7, 8] 0 (fun d out kv wr => out = .slice none 0 0 ∧ kv = .int .i64 0 ∧ wr = w)
    case atStart => exact ⟨rfl, rfl, rfl⟩
    case round =>
      obtain ⟨rfl, rfl, rfl⟩ := hrel
      go_wp2_with fail
      go_ret
      refine ⟨none, 0, 0, rfl, by rw [← HE.out]; rfl, by rw [← HE.out]; exact OwnR.nil _ _ _ _, Fr.refl _ _⟩
  · have hL : L = [(k : Int) + 1] := by rw [HLL.out]; unfold goL isJ isP; simp [h6, h7, h15, h16]
    have t6 := beq_eq_false_iff_ne.2 h6
    have t7 := beq_eq_false_iff_ne.2 h7
    have t15 := beq_eq_false_iff_ne.2 h15
    have t16 := beq_eq_false_iff_ne.2 h16
    have u6 : (op != 6) = true := by simpa using h6
    have u16 : (op != 16) = true := by simpa using h16
    have u15 : (op != 15) = true := by simpa using h15
    go_wp2_with (at_builtin; (refine wpList_append_own _ rfl _ _ 25 rfl w.heap.size 3 i0 (.int .i64 0) 1 8 Tryd.underlying25 HI.out HZ0.out HZ1.out HZ2.out rfl (by decide) (.slice none 0 0) 0 _ rfl (OwnR.nil _ _ _ _) ⟨w.heap.size, 0, none⟩ 1 1 (ints [(k : Int) + 1]) rfl rfl (news_int w ((k : Int) + 1) rfl) (ints_one _) (by unfold maxLen; omega) (by omega) (by simp; try omega) ?_; intro v2 w2 hown2 hgrow2 hnil2; clear hnil2; rw [show 0 + 1 = 1 from rfl] at hown2; obtain ⟨A1, c1, rfl, ho2⟩ := OwnR.form hown2; have HO5 := hid ho2; have HF5 := hid ((Fr.trans (Fr.alloc (fun _ => False) w (.cells #[.int .i64 ((k : Int) + 1)] 3)) ((Fr.of_grown hgrow2).mono (fun k hk => by obtain ⟨a, ha, _⟩ := hk; cases ha)))); clear hown2 hgrow2 ho2))
    have HO6 := hid (show OwnN w2 w.heap.size A1 1 c1 L by rw [hL]; exact HO5.out)
    have HMM := hid (show 1 = L.length by rw [hL]; rfl)
    have HLQ := hid hL
    clear hL
    go_loopg [7, 8] 1 (fun d out k wr => BoRel w 0 n L 1 w2 d out k wr)
    case atStart => exact ⟨0, none, 0, by omega, by omega, rfl, rfl, OwnR.nil _ _ _ _, Fr.refl _ _⟩
    case round =>
      obtain ⟨wo, rfl⟩ : ∃ wo, wo = wr := ⟨_, rfl⟩
      obtain ⟨j, A2, c2, hj, hd, rfl, rfl, hown, hF⟩ := hrel
      have HD := hid hd
      have HF := hid hF
      have HOW := hid hown
      obtain ⟨q, hq⟩ : ∃ q, q = ((L.take j).filter (inR n)).length := ⟨_, rfl⟩
      have hq2 : q ≤ 2 := by
        have h1 := List.length_filter_le (inR n) (L.take j)
        have h2 : (L.take j).length ≤ L.length := by simp; omega
        omega
      rw [← hq] at HOW ⊢
      have HQ := hid hq
      clear hd hown hq
      by_cases hlt : j < 1
      · obtain ⟨y, hy⟩ : ∃ y, L[j]? = some y := ⟨_, List.getElem?_eq_getElem (by rw [← HMM.out]; exact hlt)⟩
        have hoL := OwnR.keep HO6.out hF (fun i hi h => by have := (OwnR.lt HO6.out i hi).2; omega)
        obtain ⟨ga, rfl, _, hga, _, hca⟩ := OwnR.cell hoL (by omega)
        have c0 := hca j (.int .i64 y) (by simp [ints, hy])
        have HY := hid hy
        have hsn := filter_snoc (n := n) hy
        have HGA := hid (show w2.heap.size ≤ wo.heap.size from hF.size)
        have hgaq : ga < w2.heap.size := (OwnR.lt HO6.out ga ⟨_, rfl, rfl⟩).2
        have HCA := hid (show ∀ w', Fr (fun k => w2.heap.size ≤ k) wo w' → w'.cell? ⟨ga, j, none⟩ = some (.int .i64 y) from fun w' F => (cell_keep F (p := ⟨ga, j, none⟩) hga (by show ¬ w2.heap.size ≤ ga; omega)).trans c0)
        clear hy hoL hca hF
        have hy3 : y < 0 ∨ (0 ≤ y ∧ (n : Int) ≤ y) ∨ (0 ≤ y ∧ y < n) := by omega
        rcases hy3 with hy3 | ⟨hy3, hy4⟩ | ⟨hy3, hy4⟩
        · have e : inR n y = false := by unfold inR; exact decide_eq_false (by omega)
          rw [e] at hsn
          simp only [Bool.false_eq_true, if_false, List.append_nil] at hsn
          have HSN := hid hsn
          have hy5 : ¬ 0 ≤ y := by omega
          clear hsn
          go_wp2_with fail
          go_roundg (1 - (j + 1))
          case rel => exact ⟨j + 1, A2, c2, by omega, rfl, by go_num, by rw [HSN.out, ← HQ.out], by rw [HSN.out, ← HQ.out]; exact HOW.out, HF.out⟩
          case measure => have := HD.out; omega
        · have e : inR n y = false := by unfold inR; exact decide_eq_false (by omega)
          rw [e] at hsn
          simp only [Bool.false_eq_true, if_false, List.append_nil] at hsn
          have HSN := hid hsn
          have hy5 : ¬ y < n := by omega
          clear hsn
          go_wp2_with fail
          go_roundg (1 - (j + 1))
          case rel => exact ⟨j + 1, A2, c2, by omega, rfl, by go_num, by rw [HSN.out, ← HQ.out], by rw [HSN.out, ← HQ.out]; exact HOW.out, HF.out⟩
          case measure => have := HD.out; omega
        · have e : inR n y = true := by unfold inR; exact decide_eq_true (by omega)
          rw [e] at hsn
          simp only [if_true] at hsn
          have HSN := hid hsn
          have HOW2 := hid (OwnR.same HOW.out (Fr.alloc _ wo (.cells #[.int .i64 y] 3)))
          have hwo := HGA.out
          clear hsn
          go_wp2_with (at_builtin; (refine wpList_append_own _ rfl _ _ 25 rfl w2.heap.size 3 i0 (.int .i64 0) 1 8 Tryd.underlying25 HI.out HZ0.out HZ1.out HZ2.out rfl (by decide) (.slice A2 q c2) q _ rfl HOW2.out ⟨wo.heap.size, 0, none⟩ 1 1 (ints [y]) rfl rfl (news_int wo y rfl) (ints_one _) (by unfold maxLen; omega) (by omega) (by simp; omega) ?_; intro v2 w2 hown2 hgrow2 hnil2; clear hnil2; obtain ⟨A4, c4, rfl, ho2⟩ := OwnR.form hown2; have HO4 := hid ho2; have HF4 := hid (((Fr.alloc (fun _ => False) wo (.cells #[.int .i64 y] 3)).mono (fun _ h => h.elim)).trans ((Fr.of_grown hgrow2).mono (fun i h => (OwnR.lt HOW.out i h).1))); clear hown2 hgrow2 ho2))
          go_roundg (1 - (j + 1))
          case rel => exact ⟨j + 1, A4, c4, by omega, rfl, by go_num, by rw [HSN.out, List.length_append, ← HQ.out]; rfl, by rw [HSN.out, List.length_append, ← HQ.out]; exact OwnR.eq HO4.out (by rw [ints_app]), HF.out.trans HF4.out⟩
          case measure => have := HD.out; omega
      · clear hF
        go_wp2_with fail
        go_ret
        have e : (L.take j).filter (inR n) = natsI (bhd l k) := by rw [List.take_of_length_le (by have := HMM.out; omega)]; exact HGF.out
        refine ⟨A2, q, c2, rfl, by rw [← e]; exact HQ.out.symm, ?_, ?_⟩
        · rw [← e]
          exact OwnR.less HOW.out (HF5.out.size)
        · exact HF5.out.trans (Fr.to_none HF.out)

end Go.Proofs.YthpkhcompkfcaaaDoor
