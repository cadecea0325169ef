/-
  What a law answers; sums of short strings.
-/
import Derived.Test.YtepbnneggpcbcaaGreatDoorAwake
import Derived.Deep.RegionHeld3
namespace Go.Proofs.YtepbnneggpcbcaaGreatDoor
open Go.RowKit

def LawPost (w : World) (e : Ending) (w' : World) : Prop := e = .returned (.bool true) ∧ Fr (fun _ => False) w w'

theorem add_ok (a b : ByteArray) (ha : a.size ≤ 200000) (hb : b.size ≤ 200000) : ∀ W, (Op.stringOp .add a b).run Tryz.prog W = .ok (.string (a ++ b)) W := fun W => run_string_add_sum W a b (by omega)

end Go.Proofs.YtepbnneggpcbcaaGreatDoor
