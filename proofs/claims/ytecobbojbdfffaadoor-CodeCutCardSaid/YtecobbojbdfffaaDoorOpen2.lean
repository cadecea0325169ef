/-
  Bytes of an argument, with their room.
-/
import Derived.Test.YtecobbojbdfffaaDoorOpen
import Derived.Test.YtecobbojbdfffaaDoorTake
namespace Go.Proofs.YtecobbojbdfffaaDoor
open Go.ChangeShapes Go.WideShapes Go.ChangeAt Go.RowKit Go.Deep

section
variable {H : Type} {enc : TypeId × Value → H} {w : World} {base : Nat} {spare : Nat → Bool} {held : Bool}

theorem open_src {a : Option Addr} {len cap : Nat} {d : DataW H} {p : List MemPlace} (hsp : ∀ b, spare b = true) (h : DataW.Trod enc Tryd.prog w base spare held 29 (.slice a len cap) d p) :
    ∃ l : List Int, Src w w.heap.size a len cap l := by
  obtain ⟨l, hl, hb, hy⟩ := open_bytes hsp h
  obtain ⟨fuel, hf⟩ := h
  rcases open_slice Tryd.underlying29 hf with ⟨hcs, _⟩ | ⟨a', l', c, m, n, D, Pl, hcs, _, hlc, hm, _, _, _⟩
  · simp [Value.cells] at hcs
    obtain ⟨rfl, rfl, rfl⟩ := hcs
    exact ⟨l, hl, Nat.le_refl _, Nat.zero_le _, hb, hy⟩
  · simp [Value.cells] at hcs
    obtain ⟨rfl, rfl, rfl⟩ := hcs
    exact ⟨l, hl, hlc, hm, hb, hy⟩
end

end Go.Proofs.YtecobbojbdfffaaDoor
