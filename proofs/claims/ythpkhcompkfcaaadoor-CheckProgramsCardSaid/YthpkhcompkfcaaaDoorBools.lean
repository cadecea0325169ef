/-
  Rows of truths.
-/
import Derived.Test.YthpkhcompkfcaaaDoorMem
namespace Go.Proofs.YthpkhcompkfcaaaDoor
open Go.RowKit

/-- Truths that are read. -/
def Boos (w : World) (B : Nat) (A : Option Addr) (l : List Bool) : Prop :=
  0 < l.length → ∃ b o, A = some ⟨b, o, none⟩ ∧ b < B ∧ ∀ k x, l[k]? = some x → w.cell? ⟨b, o + k, none⟩ = some (.bool x)

theorem Boos.keep {w w' : World} {B : Nat} {A : Option Addr} {l : List Bool} (h : Boos w B A l) {S : Nat → Prop} (f : Fr S w w') (hB : B ≤ w.heap.size) (hs : ∀ k, k < B → ¬ S k) : Boos w' B A l := fun hl => by
  obtain ⟨b, o, rfl, hb, hc⟩ := h hl
  exact ⟨b, o, rfl, hb, fun k x hx => (cell_keep f (p := ⟨b, o + k, none⟩) (Nat.lt_of_lt_of_le hb hB) (hs b hb)).trans (hc k x hx)⟩

theorem Boos.same {w w' : World} {B : Nat} {A : Option Addr} {l : List Bool} (h : Boos w B A l) (f : Fr (fun _ => False) w w') (hB : B ≤ w.heap.size) : Boos w' B A l := h.keep f hB (fun _ _ hh => hh)

def truths (l : List Bool) : List Value := l.map Value.bool
theorem truths_len (l : List Bool) : (truths l).length = l.length := by simp [truths]

end Go.Proofs.YthpkhcompkfcaaaDoor
