/-
  A piece of a string.
-/
import Derived.Test.YtepbnneggpcbcaaGreatDoorRefForms
namespace Go.Proofs.YtepbnneggpcbcaaGreatDoor
open Go.RowKit

theorem bs_extract (l : Bs) (f k : Nat) : (bs l).extract f k = bs ((l.take k).drop f) := by
  unfold bs
  apply ByteArray.ext
  simp [List.drop_take]

end Go.Proofs.YtepbnneggpcbcaaGreatDoor
