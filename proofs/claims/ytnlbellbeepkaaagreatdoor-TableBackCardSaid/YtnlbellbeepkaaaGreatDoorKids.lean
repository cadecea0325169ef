/-
  Stage 7: Kids, the document's.
-/
import Derived.Test.YtnlbellbeepkaaaGreatDoorOwn
import Derived.Test.YtnlbellbeepkaaaGreatDoorKin
import Derived.Deep.DeepMust
namespace Go.Proofs.YtnlbellbeepkaaaGreatDoor
open Go.RowKit
set_option linter.unusedVariables false

def intsV (l : List Int) : List Value := l.map (fun k => Value.int .i64 k)
theorem newk (w : World) (e : TypeId) (x : Value) : ∀ j u, ([x] : List Value)[j]? = some u → (w.alloc (.cells #[x] e)).cell? ((⟨w.heap.size, 0, none⟩ : Addr).add j) = some u := fun j u hu => by
  rw [add_none, Nat.zero_add]
  exact (Blk.new w #[x] e).cell (by simpa using hu)

theorem infoint : (Tryz.prog.info? 3).map (fun i => (i.zero, i.size, i.bytes)) = some (some (.int .i64 0), 1, 8) := by kernel_rfl

/-- Where the loop stands. -/
def KdRel (l : List Tw) (t : Int) (n : Nat) (w : World) (d : Nat) (x k : Value) (wr : World) : Prop := ∃ (j m : Nat) (A : Option Addr) (cap : Nat), j ≤ n ∧ d = n + 1 - j ∧ x = .slice A m cap ∧ k = .int .i64 j ∧ m = (kidsN l t j).length ∧ OwnR wr w.heap.size 3 1 A m cap (intsV (kidsN l t j)) ∧ Fr (fun _ => False) w wr

end Go.Proofs.YtnlbellbeepkaaaGreatDoor
