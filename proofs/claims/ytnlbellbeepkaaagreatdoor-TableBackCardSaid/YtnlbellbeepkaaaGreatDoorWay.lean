/-
  Stage 7: the small functions, and the ways up.
-/
import Derived.Test.YtnlbellbeepkaaaGreatDoorRow
namespace Go.Proofs.YtnlbellbeepkaaaGreatDoor
open Go.RowKit
set_option linter.unusedVariables false

theorem ret_bool {a b : Bool} (h : a = b) : Ending.returned (.bool a) = .returned (.bool b) := by rw [h]

def upB (n m : Int) : Bool := decide (0 ≤ n ∧ n ≤ m)
def inB (n i : Int) : Bool := decide (0 ≤ i ∧ i < n)
def cameB (r : Tw) : Bool := decide (2 ≤ r.kind)

theorem upTo_any (n m : Int) (w : World) : Calls Tryz.prog 51 #[.int .i64 n, .int .i64 m] w fun e w' => e = .returned (.bool (upB n m)) ∧ w = w' := by
  by_cases h0 : 0 ≤ n
  · by_cases h1 : n ≤ m
    · have HQ := hid (show upB n m = true from decide_eq_true ⟨h0, h1⟩)
      go_enter Tryz.func51, Tryz.ntmps51
      go_wp2
      all_goals
        go_ret
        exact ⟨ret_bool HQ.out.symm, rfl⟩
    · have HQ := hid (show upB n m = false from decide_eq_false (fun h => h1 h.2))
      go_enter Tryz.func51, Tryz.ntmps51
      go_wp2
      all_goals
        go_ret
        exact ⟨ret_bool HQ.out.symm, rfl⟩
  · have HQ := hid (show upB n m = false from decide_eq_false (fun h => h0 h.1))
    go_enter Tryz.func51, Tryz.ntmps51
    go_wp2
    all_goals
      go_ret
      exact ⟨ret_bool HQ.out.symm, rfl⟩

theorem came_any (r : Tw) (w : World) : Calls Tryz.prog 34 #[.agg #[.int .i64 r.par, .int .i64 r.in_, .int .i64 r.fn, .int .i64 r.kind, .int .i64 r.v, .int .i64 r.st, .string r.cl]] w fun e w' => e = .returned (.bool (cameB r)) ∧ Fr (fun _ => False) w w' := by
  obtain ⟨p, i, f, k, v, s, c⟩ := r
  simp only
  go_enter Tryz.func34, Tryz.ntmps34
  go_wp2
  all_goals
    go_ret
    exact ⟨ret_bool (by unfold cameB; simp [*]), Fr.alloc _ _ _⟩

end Go.Proofs.YtnlbellbeepkaaaGreatDoor
