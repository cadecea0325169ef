/-
  What the laws' walks share.
-/
import Derived.Test.YtedpgfldkjimpaaDoorAwake
import Derived.Test.YtedpgfldkjimpaaDoorFork
namespace Go.Proofs.YtedpgfldkjimpaaDoor
open Go.RowKit

/-- A law's end. -/
def LawPost (W : World) : Ending → World → Prop := fun e w' => e = .returned (.bool true) ∧ Fr (fun _ => False) W w'

theorem blk_of {W w' : World} {c : Array Value} {t : TypeId} (h : Fr (fun _ => False) (W.alloc (.cells c t)) w') : Blk w' W.heap.size c := (Blk.new W c t).keep h (fun h => h)
theorem blk_of' {W w' : World} {c : Array Value} {t : TypeId} (h : Fr (fun _ => False) (W.alloc (.cells c t)).drew w') : Blk w' W.heap.size c := (Blk.new W c t).drew.keep h (fun h => h)

/-- A task in a new block, and a truth. -/
def CameB (cel : Frm → Array Value) (G : Frm) (b : Bool) (w : World) (u v : Value) (wx : World) : Prop := ∃ g, u = .pointer (some ⟨g, 0, none⟩) ∧ v = .bool b ∧ Blk wx g (cel G) ∧ Fr (fun _ => False) w wx

theorem two (w : World) (c0 c1 : Array Value) (t0 t1 : TypeId) : Fr (fun _ => False) w ((w.alloc (.cells c0 t0)).alloc (.cells c1 t1)) ∧
    Blk ((w.alloc (.cells c0 t0)).alloc (.cells c1 t1)) w.heap.size c0 ∧ Blk ((w.alloc (.cells c0 t0)).alloc (.cells c1 t1)) (w.heap.size + 1) c1 :=
  ⟨(Fr.alloc _ _ _).trans (Fr.alloc _ _ _), (Blk.new _ _ _).alloc _, (Blk.new _ _ _).at (by simp)⟩

end Go.Proofs.YtedpgfldkjimpaaDoor
