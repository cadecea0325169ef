/-
  Program: the four tells, one after the other; and whether a program may be.
-/
import Derived.Test.YtpjcdjooiaefdaaDoorVFlowAll
namespace Go.Proofs.YtpjcdjooiaefdaaDoor
open Go.RowKit
set_option linter.unusedVariables false

theorem upto_flows {P : List Fn} (r : Value) (f1 f2 f3 f4 : Nat) : firstT [⟨f1, r, sizeF P⟩, ⟨f2, r, partsF P⟩, ⟨f3, r, rootF P⟩, ⟨f4, r, flowsF P⟩] = prgF P := by
  by_cases h1 : sizeF P = Flt.none
  · by_cases h2 : partsF P = Flt.none
    · by_cases h3 : rootF P = Flt.none
      · by_cases h4 : flowsF P = Flt.none
        · simp [firstT, prgF, h1, h2, h3, h4]
        · simp [firstT, prgF, h1, h2, h3, h4]
      · simp [firstT, prgF, h1, h2, h3]
    · simp [firstT, prgF, h1, h2]
  · simp [firstT, prgF, h1]

theorem prg_first {P : List Fn} (A : Option Addr) (n c b o cc : Nat) (w : World) (ht : Tabs w) (hp : Prg w w.heap.size A P) (hn : P.length = n) (hnl : n ≤ 1000) (hb : b < w.heap.size)
    (h0 : w.cell? ⟨b, o + 0, none⟩ = some (.func (.func 25) #[.agg #[.slice A n c]] #[]))
    (h1 : w.cell? ⟨b, o + 1, none⟩ = some (.func (.func 26) #[.agg #[.slice A n c]] #[]))
    (h2 : w.cell? ⟨b, o + 2, none⟩ = some (.func (.func 27) #[.agg #[.slice A n c]] #[]))
    (h3 : w.cell? ⟨b, o + 3, none⟩ = some (.func (.func 28) #[.agg #[.slice A n c]] #[])) :
    Calls Tryd.prog 24 #[.slice (some ⟨b, o, none⟩) 4 cc] w (FltPost w (prgF P)) := by
  rw [← upto_flows (P := P) (.agg #[.slice A n c]) 25 26 27 28]
  refine first_any b o cc _ 4 w rfl (Nat.le_refl _) hb ?_ ?_ ?_
  · intro i t ht
    match i, ht with
    | 0, ht => cases ht; exact h0
    | 1, ht => cases ht; exact h1
    | 2, ht => cases ht; exact h2
    | 3, ht => cases ht; exact h3
    | i + 4, ht => cases ht
  · intro i t ht
    match i, ht with
    | 0, ht => cases ht; exact enters_of Tryd.func25 (by kernel_rfl) rfl
    | 1, ht => cases ht; exact enters_of Tryd.func26 (by kernel_rfl) rfl
    | 2, ht => cases ht; exact enters_of Tryd.func27 (by kernel_rfl) rfl
    | 3, ht => cases ht; exact enters_of Tryd.func28 (by kernel_rfl) rfl
    | i + 4, ht => cases ht
  · intro i t W hti hbe hF
    have hpW := (hp.same hF (Nat.le_refl _)).more hF.size
    match i, hti with
    | 0, hti => cases hti; exact size_any A n c P W hn
    | 1, hti => cases hti; exact parts_any A n c P W (ht.same hF) hpW hn hnl
    | 2, hti =>
      cases hti
      have hs := (sizeF_none.1 (hbe 0 _ (by omega) rfl)).1
      exact root_prg A n c P W hpW hn (by omega)
    | 3, hti =>
      cases hti
      have hs := firstW_none.1 (hbe 1 _ (by omega) rfl)
      refine flow_any A n c P W hpW hn hnl fun k f hk => ?_
      have h := shapeF_none.1 (hs k f hk)
      exact ⟨h.1, h.2.1, by have := h.2.2.2.1; omega, h.2.2.2.2⟩
    | i + 4, hti => cases hti

set_option maxHeartbeats 1000000 in
theorem program_any (A : Option Addr) (n c : Nat) (P : List Fn) (w : World) (ht : Tabs w) (hp : Prg w w.heap.size A P) (hn : P.length = n) (hnl : n ≤ 1000) : Calls Tryd.prog 17 #[.agg #[.slice A n c]] w (FltPost w (prgF P)) := by
  have HN := hid hn
  clear hn
  obtain ⟨w1, hw1⟩ : ∃ w1, w1 = ((w.alloc (.cells #[.slice A n c] 24)).alloc (.cells #[.int .i64 0, .int .i64 0, .int .i64 0] 49)).alloc (.cells #[.slice A n c] 71) := ⟨_, rfl⟩
  have HF1 := hid (show Fr (fun _ => False) w w1 by rw [hw1]; exact ((Fr.alloc _ _ _).trans (Fr.alloc _ _ _)).trans (Fr.alloc _ _ _))
  have hp1 : Blk w1 (w.heap.size + 2) #[.slice A n c] := by rw [hw1]; exact (Blk.new _ _ _).at (by simp)
  have hr1 : Blk w1 (w.heap.size + 1) #[.int .i64 0, .int .i64 0, .int .i64 0] := by rw [hw1]; exact ((Blk.new _ _ _).alloc _).at (by simp)
  have HR := hid hr1
  have p0 := hp1.cell (i := 0) rfl
  have p1 := hp1.lt
  simp only [List.getElem_toArray, List.getElem_cons_zero] at p0
  go_enter Tryd.func17, Tryd.ntmps17
  go_upto_region 2 with fail
  rw [show w.heap.size + 1 + 1 = w.heap.size + 2 from rfl]
  try rw [← hw1]
  clear hw1 hp1 hr1
  go_wp2_with fail
  refine (prg_first (P := P) A n c w1.heap.size 0 4 _ (ht.same (HF1.out.trans (Fr.alloc _ _ _))) ((hp.same (HF1.out.trans (Fr.alloc _ _ _)) (Nat.le_refl _)).more (HF1.out.trans (Fr.alloc _ _ _)).size) HN.out hnl (by simp) ((Blk.new _ _ _).cell rfl) ((Blk.new _ _ _).cell rfl) ((Blk.new _ _ _).cell rfl) ((Blk.new _ _ _).cell rfl)).mono ?_
  rintro e w5 ⟨rfl, hF5⟩
  obtain ⟨y, hy⟩ : ∃ y, prgF P = y := ⟨_, rfl⟩
  rw [hy]
  have HY := hid hy
  clear hy
  obtain ⟨x0, x1, x2⟩ := y
  unfold Flt.val
  simp only
  have hF6 := (Fr.alloc (fun _ => False) w1 _).trans hF5
  have hR2 := HR.out.keep hF6 (fun h => h)
  have HF6 := hid (HF1.out.trans hF6)
  have z0 := hR2.frozen 0
  have z1 := hR2.frozen 1
  have z2 := hR2.frozen 2
  have r0 := hR2.cell (i := 0) rfl
  have r1 := hR2.cell (i := 1) rfl
  have r2 := hR2.cell (i := 2) rfl
  clear hF5 hF6
  go_wp2_with fail
  refine bodyPost_ret (by simp [results, Tryd.results17, go_sem, r0, r1, r2]; try rfl) rfl (FltPost.eq (x := ⟨x0, x1, x2⟩) ⟨rfl, Fr.put3 HF6.out _ _ _ (by omega)⟩ HY.out.symm)

theorem accepts_any (A : Option Addr) (n c : Nat) (P : List Fn) (w : World) (ht : Tabs w) (hp : Prg w w.heap.size A P) (hn : P.length = n) (hnl : n ≤ 1000) : Calls Tryd.prog 12 #[.agg #[.slice A n c]] w fun e w' => e = .returned (.bool (accB P)) ∧ Fr (fun _ => False) w w' := by
  have hF0 := Fr.alloc (fun _ => False) w (.cells #[.slice A n c] 24)
  have HC := hid (program_any A n c P _ (ht.same hF0) ((hp.same hF0 (Nat.le_refl _)).more hF0.size) hn hnl)
  have HF0 := hid hF0
  clear hF0
  go_enter Tryd.func12, Tryd.ntmps12
  go_wp2_with fail
  refine HC.out.mono ?_
  rintro e w5 ⟨rfl, hF5⟩
  obtain ⟨y, hy⟩ : ∃ y, prgF P = y := ⟨_, rfl⟩
  rw [hy]
  obtain ⟨x0, x1, x2⟩ := y
  unfold Flt.val
  simp only
  have HF5 := hid (HF0.out.trans hF5)
  by_cases hx : x0 = 0 ∧ x1 = 0 ∧ x2 = 0
  · obtain ⟨rfl, rfl, rfl⟩ := hx
    have HQ := hid (show accB P = true by unfold accB; rw [hy]; rfl)
    clear hy hF5
    go_wp2_with fail
    go_ret
    exact ⟨ret_bool HQ.out.symm, HF5.out⟩
  · have HQ := hid (show accB P = false by unfold accB; rw [hy]; exact decide_eq_false (fun h => by injection h with h1 h2 h3; exact hx ⟨h1, h2, h3⟩))
    have hm : ¬ x0 = 0 ∨ (x0 = 0 ∧ ¬ x1 = 0) ∨ (x0 = 0 ∧ x1 = 0 ∧ ¬ x2 = 0) := by
      by_cases h0 : x0 = 0
      · by_cases h1 : x1 = 0
        · exact .inr (.inr ⟨h0, h1, fun h2 => hx ⟨h0, h1, h2⟩⟩)
        · exact .inr (.inl ⟨h0, h1⟩)
      · exact .inl h0
    clear hx hy hF5
    rcases hm with hm | ⟨rfl, hm⟩ | ⟨rfl, rfl, hm⟩
    all_goals
      go_wp2_with fail
      go_ret
      exact ⟨ret_bool HQ.out.symm, HF5.out⟩

end Go.Proofs.YtpjcdjooiaefdaaDoor
