/-
  Stage 7: the small functions, and the ways up.
-/
import Derived.Test.YticlnopklpaikaaDoorRow
namespace Go.Proofs.YticlnopklpaikaaDoor
open Go.RowKit
set_option linter.unusedVariables false

theorem ret_bool {a b : Bool} (h : a = b) : Ending.returned (.bool a) = .returned (.bool b) := by rw [h]

def upB (n m : Int) : Bool := decide (0 ≤ n ∧ n ≤ m)
def inB (n i : Int) : Bool := decide (0 ≤ i ∧ i < n)
def cameB (r : Tw) : Bool := decide (2 ≤ r.kind)

theorem upTo_any (n m : Int) (w : World) : Calls Tryd.prog 44 #[.int .i64 n, .int .i64 m] w fun e w' => e = .returned (.bool (upB n m)) ∧ w = w' := by
  by_cases h0 : 0 ≤ n
  · by_cases h1 : n ≤ m
    · have HQ := hid (show upB n m = true from decide_eq_true ⟨h0, h1⟩)
      go_enter Tryd.func44, Tryd.ntmps44
      go_wp2
      all_goals
        go_ret
        exact ⟨ret_bool HQ.out.symm, rfl⟩
    · have HQ := hid (show upB n m = false from decide_eq_false (fun h => h1 h.2))
      go_enter Tryd.func44, Tryd.ntmps44
      go_wp2
      all_goals
        go_ret
        exact ⟨ret_bool HQ.out.symm, rfl⟩
  · have HQ := hid (show upB n m = false from decide_eq_false (fun h => h0 h.1))
    go_enter Tryd.func44, Tryd.ntmps44
    go_wp2
    all_goals
      go_ret
      exact ⟨ret_bool HQ.out.symm, rfl⟩

theorem has_any (A : Option Addr) (n c : Nat) (i : Int) (w : World) (hn : n ≤ 4000000) : Calls Tryd.prog 27 #[.slice A n c, .int .i64 i] w fun e w' => e = .returned (.bool (inB n i)) ∧ w = w' := by
  have HQ := hid (show upB i ((n : Int) - 1) = inB n i from decide_eq_decide.2 (by omega))
  go_enter Tryd.func27, Tryd.ntmps27
  go_wp2_with fail
  refine (upTo_any _ _ _).mono ?_
  rintro e w' ⟨rfl, rfl⟩
  rw [HQ.out]
  go_wp2_with fail
  go_ret
  exact ⟨rfl, rfl⟩

theorem came_any (r : Tw) (w : World) : Calls Tryd.prog 29 #[.agg #[.int .i64 r.par, .int .i64 r.in_, .int .i64 r.fn, .int .i64 r.kind, .int .i64 r.v, .int .i64 r.st, .string r.cl]] w fun e w' => e = .returned (.bool (cameB r)) ∧ Fr (fun _ => False) w w' := by
  obtain ⟨p, i, f, k, v, s, c⟩ := r
  simp only
  go_enter Tryd.func29, Tryd.ntmps29
  go_wp2
  all_goals
    go_ret
    exact ⟨ret_bool (by unfold cameB; simp [*]), Fr.alloc _ _ _⟩

theorem rcame_any (r : Tw) (w : World) : Calls Tryd.prog 42 #[.agg #[.int .i64 r.par, .int .i64 r.in_, .int .i64 r.fn, .int .i64 r.kind, .int .i64 r.v, .int .i64 r.st, .string r.cl]] w fun e w' => e = .returned (.bool (cameB r)) ∧ Fr (fun _ => False) w w' := by
  obtain ⟨p, i, f, k, v, s, c⟩ := r
  simp only
  go_enter Tryd.func42, Tryd.ntmps42
  go_wp2
  all_goals
    go_ret
    exact ⟨ret_bool (by unfold cameB; simp [*]), Fr.alloc _ _ _⟩

end Go.Proofs.YticlnopklpaikaaDoor
