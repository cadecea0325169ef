/-
  CellsBack answers true at any two places, any two callers, any number.
-/
import Derived.Test.YtdhlicagdcefoaaBase
namespace Go.Proofs.Ytdhlicagdcefoaa
open Go.RowKit

theorem Mach.put_same (M : Mach) (k : Nat) (x : Int) (h : k < M.all.length) : (M.put k x).all.getD k 0 = x := by
  simp [Mach.put, h]

theorem Mach.put_other (M : Mach) (k i : Nat) (x : Int) (h : k ≠ i) : (M.put k x).all.getD i 0 = M.all.getD i 0 := by
  simp only [Mach.put]
  rw [List.getD_eq_getElem?_getD, List.getElem?_set_ne h, ← List.getD_eq_getElem?_getD]

theorem Mach.step_all (M : Mach) (j : Nat) : (M.step j).all = M.all := rfl

def backWorld (a0 a1 v0 v1 : Int) (w : World) : World := (w.alloc (.cells #[.int .i64 a0, .int .i64 a1] 52)).alloc (.cells #[.int .i64 v0, .int .i64 v1] 52)
theorem backWorld_fr (a0 a1 v0 v1 : Int) (w : World) (S : Nat → Prop) : Fr S w (backWorld a0 a1 v0 v1 w) := (Fr.alloc _ _ _).trans (Fr.alloc _ _ _)
theorem back_box0 (a0 a1 v0 v1 : Int) (w : World) : Blk (backWorld a0 a1 v0 v1 w) w.heap.size #[.int .i64 a0, .int .i64 a1] := (Blk.new _ _ _).alloc _
theorem back_box1 (a0 a1 v0 v1 : Int) (w : World) : Blk (backWorld a0 a1 v0 v1 w) (w.heap.size + 1) #[.int .i64 v0, .int .i64 v1] := (Blk.new _ _ _).at (by simp)
theorem back_size (a0 a1 v0 v1 : Int) (w : World) : (backWorld a0 a1 v0 v1 w).heap.size = w.heap.size + 1 + 1 := by simp [backWorld]

set_option maxHeartbeats 1000000 in
theorem backLaw_no (a0 a1 v0 v1 x : Int) (w : World) (h : ¬ (0 ≤ a0 ∧ a0 ≤ 15 ∧ 0 ≤ a1 ∧ a1 ≤ 15 ∧ 0 ≤ v0 ∧ v0 ≤ 3 ∧ 0 ≤ v1 ∧ v1 ≤ 3)) :
    Calls Try.prog 6 #[.agg #[.int .i64 a0, .int .i64 a1], .agg #[.int .i64 v0, .int .i64 v1], .int .i64 x] w fun e w' => e = .returned (.bool true) ∧ Below w.heap.size w w' := by
  have HX := hid h
  clear h
  go_enter Try.func6, Try.ntmps6
  go_wp2_with fail
  refine (made_ok _).mono ?_
  rintro e w1 ⟨b, rfl, m1, hF1, hN⟩
  clear hN m1
  have b0 := (back_box0 a0 a1 v0 v1 w).keep hF1 id
  have b1 := (back_box1 a0 a1 v0 v1 w).keep hF1 id
  have c00 := b0.cell (i := 0) rfl
  have c01 := b0.cell (i := 1) rfl
  have c10 := b1.cell (i := 0) rfl
  have c11 := b1.cell (i := 1) rfl
  go_wp2_with fail
  all_goals first
    | (refine (awake_ok _).mono ?_
       rintro e w2 ⟨rfl, hF2⟩
       go_wp2_with fail
       go_ret
       exact ⟨rfl, (((backWorld_fr a0 a1 v0 v1 w _).trans hF1).trans hF2).below (Nat.le_refl _) (fun _ hh => hh.elim)⟩)
    | (exfalso
       have := HX.out
       omega)

set_option maxHeartbeats 1000000 in
theorem backLaw_yes (a0 a1 v0 v1 : Nat) (x : Int) (w : World) (h0 : a0 ≤ 15) (h1 : a1 ≤ 15) (h2 : v0 ≤ 3) (h3 : v1 ≤ 3) :
    Calls Try.prog 6 #[.agg #[.int .i64 a0, .int .i64 a1], .agg #[.int .i64 v0, .int .i64 v1], .int .i64 x] w fun e w' => e = .returned (.bool true) ∧ Below w.heap.size w w' := by
  go_enter Try.func6, Try.ntmps6
  go_wp2_with fail
  refine (made_ok _).mono ?_
  rintro e w1 ⟨b, rfl, m1, hF1, hN⟩
  have HN : Hid (∀ i, b.own i → w.heap.size + 1 + 1 ≤ i) := fun i hi => by have := hN i hi; rw [← back_size a0 a1 v0 v1 w]; exact this
  clear hN
  have b0 := (back_box0 a0 a1 v0 v1 w).keep hF1 id
  have b1 := (back_box1 a0 a1 v0 v1 w).keep hF1 id
  have c00 := b0.cell (i := 0) rfl
  have c01 := b0.cell (i := 1) rfl
  have c10 := b1.cell (i := 0) rfl
  have c11 := b1.cell (i := 1) rfl
  have t00 : ¬ ((a0 : Int) < 0) := by omega
  have t01 : ¬ ((15 : Int) < a0) := by omega
  have t10 : ¬ ((a1 : Int) < 0) := by omega
  have t11 : ¬ ((15 : Int) < a1) := by omega
  have t20 : ¬ ((v0 : Int) < 0) := by omega
  have t21 : ¬ ((3 : Int) < v0) := by omega
  have t30 : ¬ ((v1 : Int) < 0) := by omega
  have t31 : ¬ ((3 : Int) < v1) := by omega
  go_wp2_with fail
  refine (store_ok b _ v0 a0 x _ m1 (by simp [made0]; omega) (by simp [made0]; omega)).mono ?_
  rintro e w2 ⟨rfl, m2, hF2⟩
  have e0 : ¬ b.own w.heap.size := fun hh => by have := HN.out _ hh; omega
  have e1 : ¬ b.own (w.heap.size + 1) := fun hh => by have := HN.out _ hh; omega
  replace b0 := b0.keep hF2 e0
  replace b1 := b1.keep hF2 e1
  replace c00 := b0.cell (i := 0) rfl
  replace c01 := b0.cell (i := 1) rfl
  replace c10 := b1.cell (i := 0) rfl
  replace c11 := b1.cell (i := 1) rfl
  go_wp2_with fail
  have l1 := load_ok b _ v1 a0 _ m2 (by simp [made0, Mach.step, Mach.put]; omega) (by simp [made0, Mach.step, Mach.put]; omega)
  rw [Mach.put_same _ _ _ (by simp [made0, Mach.step]; omega)] at l1
  refine l1.mono ?_
  clear l1
  rintro e w3 ⟨rfl, m3, hF3⟩
  replace b0 := b0.keep hF3 e0
  replace b1 := b1.keep hF3 e1
  replace c00 := b0.cell (i := 0) rfl
  replace c01 := b0.cell (i := 1) rfl
  replace c10 := b1.cell (i := 0) rfl
  replace c11 := b1.cell (i := 1) rfl
  go_wp2_with fail
  obtain ⟨z, HZ, l2⟩ : ∃ z : Int, Hid (z = 0 ∨ a0 = a1) ∧ Calls Try.prog 25 #[.pointer (some ⟨b.m, 0, none⟩), .int .i64 v1, .int .i64 a1] w3 fun e w' => e = .returned (.tuple #[.int .i64 z, .int .i64 0]) ∧ IsM w' b ((((made0.step v0).put a0 x).step v1).step v1) ∧ Fr b.own w3 w' := by
    refine ⟨_, ?_, load_ok b _ v1 a1 _ m3 (by simp [made0, Mach.step, Mach.put]; omega) (by simp [made0, Mach.step, Mach.put]; omega)⟩
    by_cases hh : a0 = a1
    · exact .inr hh
    · left
      rw [Mach.step_all, Mach.put_other _ _ _ _ hh, Mach.step_all]
      exact rep_free 16 a1
  refine l2.mono ?_
  clear l2
  rintro e w4 ⟨rfl, m4, hF4⟩
  clear m1 m2 m3 m4
  replace b0 := b0.keep hF4 e0
  replace c00 := b0.cell (i := 0) rfl
  replace c01 := b0.cell (i := 1) rfl
  clear b0 b1 c10 c11 e0 e1
  have hl : Hid (∀ i, b.own i → i < w.heap.size → False) := fun i hi hl => by have := HN.out i hi; omega
  have hfr : Fr (fun _ => False) w w4 := (((((backWorld_fr a0 a1 v0 v1 w _).trans hF1).since hF2 hl.out).since hF3 hl.out).since hF4 hl.out)
  clear hF1 hF2 hF3 hF4 HN hl
  by_cases hz : z = 0
  · subst hz
    clear HZ
    go_wp2_with fail
    refine (awake_ok _).mono ?_
    rintro e w5 ⟨rfl, hF5⟩
    go_wp2_with fail
    go_ret
    exact ⟨rfl, (hfr.trans hF5).below (Nat.le_refl _) (fun _ hh => hh.elim)⟩
  · have tz : (z == 0) = false := by simpa using hz
    obtain rfl : a0 = a1 := HZ.out.resolve_left hz
    clear HZ hz
    go_wp2_with fail
    refine (awake_ok _).mono ?_
    rintro e w5 ⟨rfl, hF5⟩
    go_wp2_with fail
    go_ret
    exact ⟨rfl, (hfr.trans hF5).below (Nat.le_refl _) (fun _ hh => hh.elim)⟩

theorem backLaw (a0 a1 v0 v1 x : Int) (w : World) :
    Calls Try.prog 6 #[.agg #[.int .i64 a0, .int .i64 a1], .agg #[.int .i64 v0, .int .i64 v1], .int .i64 x] w fun e w' => e = .returned (.bool true) ∧ Below w.heap.size w w' := by
  by_cases h : 0 ≤ a0 ∧ a0 ≤ 15 ∧ 0 ≤ a1 ∧ a1 ≤ 15 ∧ 0 ≤ v0 ∧ v0 ≤ 3 ∧ 0 ≤ v1 ∧ v1 ≤ 3
  · obtain ⟨n0, rfl⟩ := Int.eq_ofNat_of_zero_le (show 0 ≤ a0 by omega)
    obtain ⟨n1, rfl⟩ := Int.eq_ofNat_of_zero_le (show 0 ≤ a1 by omega)
    obtain ⟨n2, rfl⟩ := Int.eq_ofNat_of_zero_le (show 0 ≤ v0 by omega)
    obtain ⟨n3, rfl⟩ := Int.eq_ofNat_of_zero_le (show 0 ≤ v1 by omega)
    exact backLaw_yes n0 n1 n2 n3 x w (by omega) (by omega) (by omega) (by omega)
  · exact backLaw_no a0 a1 v0 v1 x w h
end Go.Proofs.Ytdhlicagdcefoaa
