/-
  What stands in the tables that the program reads.
-/
import Derived.Test.YtepbnneggpcbcaaGreatDoorHeap
import Derived.Test.YtepbnneggpcbcaaGreatDoorText
namespace Go.Proofs.YtepbnneggpcbcaaGreatDoor
open Go.RowKit

def bs (l : Bs) : ByteArray := ⟨l.toArray⟩

/-- The cells of the tables. -/
structure Tabs (w : World) : Prop where
  two : 12 ≤ w.heap.size
  ops : ∀ j, j < 68 → w.cell? ⟨2, j, none⟩ = some (.int .i64 (kinds.getD j 0 : Nat))
  ends : ∀ j, j < 14 → w.cell? ⟨3, j, none⟩ = some (.int .i64 (ends.getD j 0))
  nms : ∀ op, op < 17 → w.cell? ⟨0, op * 5, none⟩ = some (.string (bs (names.getD op [])))
  kds : ∀ op k, op < 17 → k < 4 → w.cell? ⟨0, op * 5 + 1 + k, none⟩ = some (.int .i64 (ak op k : Nat))
  mks : ∀ k, k < 5 → w.cell? ⟨1, k, none⟩ = some (.string (bs (mk k)))
  pow : ∃ t fz, w.heap[(4 : Nat)]? = some (.cells (Lib.pow10Tab.map fun z => Value.int .u64 z).toArray t fz)
  rng : ∃ t fz tp p, w.heap[(11 : Nat)]? = some (.cells #[.iface tp p] t fz)
  most : ∃ m, w.cell? ⟨5, 0, none⟩ = some (.int .i64 m)

theorem Tabs.keep {w w' : World} (h : Tabs w) {S : Nat → Prop} (f : Fr S w w') (hs : ∀ k, k < 12 → ¬ S k) : Tabs w' := by
  have h2 := h.two
  have hk : ∀ (b j : Nat), b < 12 → w'.cell? ⟨b, j, none⟩ = w.cell? ⟨b, j, none⟩ := fun b j hb => cell_keep f (p := ⟨b, j, none⟩) (by show b < _; omega) (hs b hb)
  have hb : ∀ b : Nat, b < 12 → w'.heap[b]? = w.heap[b]? := fun b hb => f.block b (by omega) (hs b hb)
  refine ⟨Nat.le_trans h2 f.size, fun j hj => ?_, fun j hj => ?_, fun o ho => ?_, fun o k ho hk' => ?_, fun k hk' => ?_, ?_, ?_, ?_⟩
  · rw [hk _ _ (by decide)]; exact h.ops j hj
  · rw [hk _ _ (by decide)]; exact h.ends j hj
  · rw [hk _ _ (by decide)]; exact h.nms o ho
  · rw [hk _ _ (by decide)]; exact h.kds o k ho hk'
  · rw [hk _ _ (by decide)]; exact h.mks k hk'
  · rw [hb _ (by decide)]; exact h.pow
  · rw [hb _ (by decide)]; exact h.rng
  · rw [hk _ _ (by decide)]; exact h.most
theorem Tabs.same {w w' : World} (h : Tabs w) (f : Fr (fun _ => False) w w') : Tabs w' := h.keep f (fun _ _ hh => hh)

end Go.Proofs.YtepbnneggpcbcaaGreatDoor
