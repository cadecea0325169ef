/-
  Has: whether a worker is among bits.
-/
import Derived.Test.YtiofdfgcghiibaaBt
import Derived.Test.YtiofdfgcghiibaaOps
import Derived.Deep.DeepMust
import Derived.Deep.DeepCutAuto
namespace Go.Proofs.Ytiofdfgcghiibaa
open Go.RowKit
set_option linter.unusedVariables false

set_option maxHeartbeats 1000000 in
theorem has_any (x v : Int) (w : World) : Calls Try.prog 30 #[.int .i64 x, .int .i64 v] w fun e w' => e = .returned (.bool (hasB x v)) ∧ w = w' := by
  by_cases h0 : 0 ≤ v
  · by_cases h1 : v < 64
    · obtain ⟨k, rfl⟩ := Int.eq_ofNat_of_zero_le h0
      have hk : k < 64 := by omega
      rw [has_nat x k hk]
      go_enter Try.func30, Try.ntmps30
      go_wp2_with fail
      go_ret
      exact ⟨by rw [and_one]; rfl, rfl⟩
    · rw [has_out x v (by omega)]
      go_enter Try.func30, Try.ntmps30
      go_wp2_with fail
      go_ret
      exact ⟨rfl, rfl⟩
  · rw [has_out x v (by omega)]
    go_enter Try.func30, Try.ntmps30
    go_wp2_with fail
    go_ret
    exact ⟨rfl, rfl⟩
end Go.Proofs.Ytiofdfgcghiibaa
