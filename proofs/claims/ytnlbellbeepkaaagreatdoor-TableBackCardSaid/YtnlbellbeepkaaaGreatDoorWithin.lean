/-
  Stage 7: Within, the program's and the document's.
-/
import Derived.Test.YtnlbellbeepkaaaGreatDoorWay
namespace Go.Proofs.YtnlbellbeepkaaaGreatDoor
open Go.RowKit
set_option linter.unusedVariables false

theorem parAt_of {l : List Tw} {i : Nat} {r : Tw} (h : l[i]? = some r) : parAt l (i : Int) = r.par := by
  unfold parAt
  rw [if_pos (by omega)]
  simp [h]

theorem wth_out {l : List Tw} {t : Int} {n : Nat} {y : Int} (h : ¬ (0 ≤ y ∧ y < l.length)) : wth l t n y = false := by
  cases n with
  | zero => rfl
  | succ n => simp only [wth]; rw [if_neg h]

theorem wth_hit {l : List Tw} {t : Int} {n : Nat} {y : Int} (hn : 0 < n) (h : 0 ≤ y ∧ y < l.length) (ht : y = t) : wth l t n y = true := by
  obtain ⟨m, rfl⟩ : ∃ m, n = m + 1 := ⟨n - 1, by omega⟩
  simp only [wth]; rw [if_pos h, if_pos ht]

theorem wth_up {l : List Tw} {t : Int} {n : Nat} {y : Int} (hn : 0 < n) (h : 0 ≤ y ∧ y < l.length) (ht : y ≠ t) : wth l t n y = wth l t (n - 1) (parAt l y) := by
  obtain ⟨m, rfl⟩ : ∃ m, n = m + 1 := ⟨n - 1, by omega⟩
  simp only [wth]; rw [if_pos h, if_neg ht]; rfl

/-- Where the loop stands. -/
def WtRel (l : List Tw) (t : Int) (b : Bool) (n : Nat) (w : World) (d : Nat) (x k : Value) (wr : World) : Prop := ∃ (j : Nat) (y : Int), j ≤ n ∧ d = n + 1 - j ∧ x = .int .i64 y ∧ k = .int .i64 j ∧ wth l t (n - j) y = b ∧ Fr (fun _ => False) w wr

end Go.Proofs.YtnlbellbeepkaaaGreatDoor
