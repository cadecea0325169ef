/-
  The small functions: has, jumps, passes, gives.
-/
import Derived.Test.YthpkhcompkfcaaaDoorMem
namespace Go.Proofs.YthpkhcompkfcaaaDoor
open Go.RowKit

def hasB (s k : Int) : Bool := decide (0 ≤ k ∧ k < s)

theorem has_any (s k : Int) (w : World) : Calls Tryd.prog 37 #[.int .i64 s, .int .i64 k] w fun e w' => e = .returned (.bool (hasB s k)) ∧ w = w' := by
  by_cases h0 : 0 ≤ k
  · by_cases h1 : k < s
    · have HQ := hid (show hasB s k = true by unfold hasB; exact decide_eq_true ⟨h0, h1⟩)
      go_enter Tryd.func37, Tryd.ntmps37
      go_wp2
      all_goals
        go_ret
        exact ⟨ret_bool HQ.out.symm, rfl⟩
    · have HQ := hid (show hasB s k = false by unfold hasB; exact decide_eq_false (fun h => h1 h.2))
      go_enter Tryd.func37, Tryd.ntmps37
      go_wp2
      all_goals
        go_ret
        exact ⟨ret_bool HQ.out.symm, rfl⟩
  · have HQ := hid (show hasB s k = false by unfold hasB; exact decide_eq_false (fun h => h0 h.1))
    go_enter Tryd.func37, Tryd.ntmps37
    go_wp2
    all_goals
      go_ret
      exact ⟨ret_bool HQ.out.symm, rfl⟩

theorem jumps_any (i : Ins) (w : World) : Calls Tryd.prog 39 #[i.val] w fun e w' => e = .returned (.bool (isJ i)) ∧ Fr (fun _ => False) w w' := by
  obtain ⟨op, a, b, c, n⟩ := i
  unfold Ins.val
  simp only
  go_enter Tryd.func39, Tryd.ntmps39
  go_wp2
  all_goals
    go_ret
    exact ⟨ret_bool (by unfold isJ; simp [*]), Fr.alloc _ _ _⟩

theorem passes_any (i : Ins) (w : World) : Calls Tryd.prog 40 #[i.val] w fun e w' => e = .returned (.bool (isP i)) ∧ Fr (fun _ => False) w w' := by
  obtain ⟨op, a, b, c, n⟩ := i
  unfold Ins.val
  simp only
  go_enter Tryd.func40, Tryd.ntmps40
  go_wp2
  all_goals
    go_ret
    exact ⟨ret_bool (by first | rfl | (unfold isP; simp [*])), Fr.alloc _ _ _⟩

theorem gives_any (i : Ins) (w : World) : Calls Tryd.prog 25 #[i.val] w fun e w' => e = .returned (.int .i64 (gv i : Nat)) ∧ Fr (fun _ => False) w w' := by
  obtain ⟨op, a, b, c, n⟩ := i
  by_cases h8 : op = 8
  · by_cases ha : 0 ≤ a ∧ a < 8
    · have hm : a = 0 ∨ a = 1 ∨ a = 2 ∨ a = 3 ∨ a = 4 ∨ a = 5 ∨ a = 6 ∨ a = 7 := by omega
      have HQ := hid (show gv ⟨op, a, b, c, n⟩ = 2 ^ a.toNat by unfold gv; rw [if_pos ⟨h8, ha⟩])
      have HB := hid (show hasB 8 a = true by unfold hasB; exact decide_eq_true ha)
      unfold Ins.val
      simp only
      subst h8
      rcases hm with rfl | rfl | rfl | rfl | rfl | rfl | rfl | rfl
      all_goals
        go_enter Tryd.func25, Tryd.ntmps25
        go_wp2_with fail
        refine (has_any _ _ _).mono ?_
        rintro e w' ⟨rfl, rfl⟩
        rw [HB.out]
        go_wp2_with fail
        go_ret
        exact ⟨ret_num (by rw [HQ.out]; decide), Fr.alloc _ _ _⟩
    · have HQ := hid (show gv ⟨op, a, b, c, n⟩ = 0 by unfold gv; rw [if_neg (fun h => ha h.2)])
      have HB := hid (show hasB 8 a = false by unfold hasB; exact decide_eq_false ha)
      unfold Ins.val
      simp only
      subst h8
      go_enter Tryd.func25, Tryd.ntmps25
      go_wp2_with fail
      refine (has_any _ _ _).mono ?_
      rintro e w' ⟨rfl, rfl⟩
      rw [HB.out]
      go_wp2_with fail
      go_ret
      exact ⟨ret_num (by rw [HQ.out]; rfl), Fr.alloc _ _ _⟩
  · have HQ := hid (show gv ⟨op, a, b, c, n⟩ = 0 by unfold gv; rw [if_neg (fun h => h8 h.1)])
    have t1 : (op != 8) = true := by simpa using h8
    unfold Ins.val
    simp only
    go_enter Tryd.func25, Tryd.ntmps25
    go_wp2_with fail
    go_ret
    exact ⟨ret_num (by rw [HQ.out]; rfl), Fr.alloc _ _ _⟩

end Go.Proofs.YthpkhcompkfcaaaDoor
