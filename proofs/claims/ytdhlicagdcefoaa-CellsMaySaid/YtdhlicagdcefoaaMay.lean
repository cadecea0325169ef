/-
  CellsMay answers true at any two numbers.
-/
import Derived.Test.YtdhlicagdcefoaaBase
namespace Go.Proofs.Ytdhlicagdcefoaa
open Go.RowKit

set_option maxHeartbeats 400000 in
theorem mayLaw_no (x y : Int) (w : World) (h : ¬ (1 ≤ x ∧ x ≤ 1048576 ∧ 1 ≤ y ∧ y ≤ 16)) :
    Calls Try.prog 4 #[.int .i64 x, .int .i64 y] w fun e w' => e = .returned (.bool true) ∧ Below w.heap.size w w' := by
  have HX := hid h
  clear h
  go_enter Try.func4, Try.ntmps4
  go_wp2_with fail
  refine (new_no x y _ HX.out).mono ?_
  rintro e w' ⟨rfl, rfl⟩
  go_wp2_with fail
  refine (may_no x y _ HX.out).mono ?_
  rintro e w' ⟨rfl, rfl⟩
  go_wp2_with fail
  refine (awake_ok _).mono ?_
  rintro e w1 ⟨rfl, hF⟩
  go_wp2_with fail
  go_ret
  exact ⟨rfl, hF.below (Nat.le_refl _) (fun _ hh => hh.elim)⟩

set_option maxHeartbeats 400000 in
theorem mayLaw_yes (n k : Nat) (w : World) (h1 : 1 ≤ n) (h2 : n ≤ 1048576) (h3 : 1 ≤ k) (h4 : k ≤ 16) :
    Calls Try.prog 4 #[.int .i64 n, .int .i64 k] w fun e w' => e = .returned (.bool true) ∧ Below w.heap.size w w' := by
  go_enter Try.func4, Try.ntmps4
  go_wp2_with fail
  refine (new_ok n k _ h1 h2 h3 h4).mono ?_
  rintro e w1 ⟨b, rfl, m1, hF1, hN⟩
  have HN := hid hN
  clear hN
  go_wp2_with fail
  refine (may_yes n k _ ⟨by omega, by omega, by omega, by omega⟩).mono ?_
  rintro e w' ⟨rfl, rfl⟩
  go_wp2_with fail
  refine (used_ok b _ _ m1).mono ?_
  rintro e w' ⟨rfl, rfl⟩
  go_wp2_with fail
  refine (steps_in b _ 0 _ m1 (by simp)).mono ?_
  rintro e w' ⟨rfl, rfl⟩
  go_wp2_with fail
  refine (alloc_ok b _ k n _ m1 (by simp) h1 (by simp)).mono ?_
  rintro e w2 ⟨rfl, m2, hF2⟩
  go_wp2_with fail
  obtain ⟨L, hL, m3⟩ : ∃ L : List Int, 0 < L.length ∧ IsM w2 b ⟨List.replicate n 0, n, L⟩ :=
    ⟨((⟨List.replicate n 0, 0, List.replicate (k + 1) 0⟩ : Mach).step k).steps, by simp [Mach.step], by simpa [Mach.give, Mach.step] using m2⟩
  clear m2
  refine (alloc_full b _ 0 1 _ m3 hL (by omega) (by simp)).mono ?_
  rintro e w3 ⟨rfl, m4, hF3⟩
  clear m3
  go_wp2_with fail
  refine (used_ok b _ _ m4).mono ?_
  rintro e w' ⟨rfl, rfl⟩
  go_wp2_with fail
  have hp : Mach.peek ⟨List.replicate n 0, n, L⟩ ((n : Int) - 1) = 0 := by
    unfold Mach.peek
    split
    · exact rep_free n _
    · rfl
  have hc := peek_any b _ ((n : Int) - 1) _ m4
  rw [hp] at hc
  refine hc.mono ?_
  clear hp hc
  rintro e w' ⟨rfl, rfl⟩
  go_wp2_with fail
  refine (awake_ok _).mono ?_
  rintro e w4 ⟨rfl, hF4⟩
  go_wp2_with fail
  go_ret
  have hl : ∀ i, b.own i → i < w.heap.size → False := fun i hi hl => by have := HN.out i hi; omega
  exact ⟨rfl, (((hF1.since hF2 hl).since hF3 hl).trans hF4).below (Nat.le_refl _) (fun _ hh => hh.elim)⟩

theorem mayLaw (x y : Int) (w : World) : Calls Try.prog 4 #[.int .i64 x, .int .i64 y] w fun e w' => e = .returned (.bool true) ∧ Below w.heap.size w w' := by
  by_cases h : 1 ≤ x ∧ x ≤ 1048576 ∧ 1 ≤ y ∧ y ≤ 16
  · obtain ⟨n, rfl⟩ := Int.eq_ofNat_of_zero_le (show 0 ≤ x by omega)
    obtain ⟨k, rfl⟩ := Int.eq_ofNat_of_zero_le (show 0 ≤ y by omega)
    exact mayLaw_yes n k w (by omega) (by omega) (by omega) (by omega)
  · exact mayLaw_no x y w h
end Go.Proofs.Ytdhlicagdcefoaa
