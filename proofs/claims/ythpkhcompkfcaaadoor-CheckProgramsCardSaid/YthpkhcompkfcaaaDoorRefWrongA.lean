/-
  What is wrong with an instruction, as the document has it.
-/
import Derived.Test.YthpkhcompkfcaaaDoorAcc
import Derived.Test.YthpkhcompkfcaaaDoorSite3
import Derived.Test.YthpkhcompkfcaaaDoorRefBhd
import Derived.BigQuiet
import Derived.Deep.QuietTactic
namespace Go.Proofs.YthpkhcompkfcaaaDoor
open Go.RowKit
set_option linter.unusedVariables false

def WrPost (w : World) (x : Int) (e : Ending) (w' : World) : Prop := e = .returned (.int .i64 x) ∧ Fr (fun _ => False) w w'
theorem WrPost.mk {w w' : World} {x y : Int} {e : Ending} (h : e = .returned (.int .i64 y)) (F : Fr (fun _ => False) w w') (hx : x = y) : WrPost w x e w' := ⟨by rw [h, hx], F⟩

section
variable {P : List Fn} {f : Fn} {k : Nat} {x : Ins}
theorem w10 (h1 : goalW P f x = true) : wrongAt P f k x = 10 := by unfold wrongAt; rw [if_pos h1]
theorem w11 (h1 : goalW P f x = false) (h2 : endW f k x = true) : wrongAt P f k x = 11 := by unfold wrongAt; rw [h1, h2]; rfl
theorem w15 (h1 : goalW P f x = false) (h2 : endW f k x = false) (h3 : scopeW f k x = true) : wrongAt P f k x = 15 := by unfold wrongAt; rw [h1, h2, h3]; rfl
theorem w16 (h1 : goalW P f x = false) (h2 : endW f k x = false) (h3 : scopeW f k x = false) (h4 : handW P f k x = true) : wrongAt P f k x = 16 := by unfold wrongAt; rw [h1, h2, h3, h4]; rfl
theorem w0 (h1 : goalW P f x = false) (h2 : endW f k x = false) (h3 : scopeW f k x = false) (h4 : handW P f k x = false) : wrongAt P f k x = 0 := by unfold wrongAt; rw [h1, h2, h3, h4]; rfl
end

theorem less_bit_one {b H : Nat} (hb : b < 8) : (!(less (2 ^ b) H == 0)) = !(H.testBit b) := by
  congr 1
  rw [Bool.eq_iff_iff, beq_iff_eq, less_zero (pow_lt hb)]
  constructor
  · intro h
    exact h b hb (by rw [Nat.testBit_two_pow]; simp)
  · intro h i hi hbit
    rw [Nat.testBit_two_pow] at hbit
    have : b = i := by simpa using hbit
    rw [← this]
    exact h

def WlRel (w : World) (d : Nat) (kv : Value) (wr : World) : Prop := ∃ h : Nat, h ≤ 8 ∧ d = 8 - h ∧ kv = .int .i64 h ∧ Fr (fun _ => False) w wr
def WhRel (N H : Nat) (w : World) (d : Nat) (kv : Value) (wr : World) : Prop := ∃ h : Nat, h ≤ 8 ∧ d = 8 - h ∧ kv = .int .i64 h ∧ (∀ i, i < h → N.testBit i = true → H.testBit i = true) ∧ Fr (fun _ => False) w wr

end Go.Proofs.YthpkhcompkfcaaaDoor
