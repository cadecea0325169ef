/-
  ScopeActs answers true at every input.
-/
import Derived.Test.YtoajdknhllaoeaaActW
import Derived.Test.YtoajdknhllaoeaaActE
namespace Go.Proofs.Ytoajdknhllaoeaa
open Go.RowKit
set_option linter.unusedVariables false

theorem actsLaw (x : Int) (A2 : Option Addr) (la c2 : Nat) (g : Nat → Nat → Int) (w0 : World) (hg : Row w0 A2 la 3 g) :
    Calls Try.prog 3 #[.int .i64 x, .slice A2 la c2] w0 fun e w' => e = .returned (.bool true) ∧ Below w0.heap.size w0 w' := by
  by_cases h : x < 1 ∨ 200 < x ∨ 200 < la
  · exact acts_none x A2 la c2 w0 h
  · obtain ⟨sz, rfl⟩ := Int.eq_ofNat_of_zero_le (show 0 ≤ x by omega)
    by_cases h1 : sz = 1
    · subst h1
      exact acts_one A2 la c2 w0 (by omega)
    · exact acts_in sz (by omega) (by omega) A2 la c2 g w0 (by omega) hg
end Go.Proofs.Ytoajdknhllaoeaa
