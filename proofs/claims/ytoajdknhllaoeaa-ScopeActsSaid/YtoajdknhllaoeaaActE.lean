/-
  ScopeActs where there are no acts: a size that is none, too many acts, a machine of one cell (walks).
-/
import Derived.Test.YtoajdknhllaoeaaAcm
namespace Go.Proofs.Ytoajdknhllaoeaa
open Go.RowKit
set_option linter.unusedVariables false

set_option maxRecDepth 100000 in
set_option maxHeartbeats 4000000 in
theorem acts_none (x : Int) (A2 : Option Addr) (la c2 : Nat) (w0 : World) (h : x < 1 ∨ 200 < x ∨ 200 < la) :
    Calls Try.prog 3 #[.int .i64 x, .slice A2 la c2] w0 fun e w' => e = .returned (.bool true) ∧ Below w0.heap.size w0 w' := by
  have HAW := hid (awake_ok w0)
  by_cases h1 : x < 1
  · have t1 : decide (x < 1) = true := decide_eq_true h1
    clear h h1
    go_enter Try.func3, Try.ntmps3
    go_wp2_with fail
    refine HAW.out.mono ?_
    rintro e w9 ⟨rfl, hF9⟩
    have HF9 := hid hF9
    clear hF9
    go_wp2_with fail
    go_ret
    exact ⟨rfl, HF9.out.below (Nat.le_refl _) (fun _ hh => hh.elim)⟩
  · have t1 : decide (x < 1) = false := decide_eq_false h1
    by_cases h2 : 200 < x
    · have t2 : decide (200 < x) = true := decide_eq_true h2
      clear h h1 h2
      go_enter Try.func3, Try.ntmps3
      go_wp2_with fail
      refine HAW.out.mono ?_
      rintro e w9 ⟨rfl, hF9⟩
      have HF9 := hid hF9
      clear hF9
      go_wp2_with fail
      go_ret
      exact ⟨rfl, HF9.out.below (Nat.le_refl _) (fun _ hh => hh.elim)⟩
    · have t2 : decide (200 < x) = false := decide_eq_false h2
      have h3 : 200 < la := by omega
      have t3 : decide ((200 : Int) < (la : Int)) = true := decide_eq_true (by omega)
      have t3b : decide (200 < la) = true := decide_eq_true h3
      clear h h1 h2 h3
      go_enter Try.func3, Try.ntmps3
      go_wp2_with fail
      refine HAW.out.mono ?_
      rintro e w9 ⟨rfl, hF9⟩
      have HF9 := hid hF9
      clear hF9
      go_wp2_with fail
      go_ret
      exact ⟨rfl, HF9.out.below (Nat.le_refl _) (fun _ hh => hh.elim)⟩

set_option maxRecDepth 100000 in
set_option maxHeartbeats 4000000 in
theorem acts_one (A2 : Option Addr) (la c2 : Nat) (w0 : World) (h : ¬ 200 < la) :
    Calls Try.prog 3 #[.int .i64 1, .slice A2 la c2] w0 fun e w' => e = .returned (.bool true) ∧ Below w0.heap.size w0 w' := by
  have t3 : decide ((200 : Int) < (la : Int)) = false := decide_eq_false (by omega)
  have t3b : decide (200 < la) = false := decide_eq_false h
  clear h
  go_enter Try.func3, Try.ntmps3
  go_wp2_with fail
  refine (new_mk 1 2 1 2 rfl rfl _ (by omega) (by omega) (by omega) (by omega)).mono ?_
  rintro e w1 ⟨b, rfl, hM, hF, hown⟩
  have HM := hid hM
  have HF := hid hF
  have HO := hid hown
  clear hM hF hown
  go_wp2_with fail
  refine (new_tree_full w1 _ _ 2 2 rfl (by simp) (by simp) HM.out).mono ?_
  rintro e w2 ⟨rfl, hF2⟩
  have HF2 := hid (HF.out.since hF2 (fun i hi hl => by have := HO.out i hi; omega))
  clear hF2
  go_wp2_with fail
  refine (awake_ok w2).mono ?_
  rintro e w9 ⟨rfl, hF9⟩
  have HF9 := hid (HF2.out.trans hF9)
  clear hF9
  go_wp2_with fail
  go_ret
  exact ⟨rfl, HF9.out.below (Nat.le_refl _) (fun _ hh => hh.elim)⟩
end Go.Proofs.Ytoajdknhllaoeaa
