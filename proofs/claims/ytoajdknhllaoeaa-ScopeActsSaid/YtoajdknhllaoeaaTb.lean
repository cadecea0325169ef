/-
  Blocks whose type is known, too.
-/
import Derived.Test.YtoajdknhllaoeaaOwn
namespace Go.Proofs.Ytoajdknhllaoeaa
open Go.RowKit
set_option linter.unusedVariables false

theorem TBlk.blk {w : World} {b : Nat} {c : Array Value} {t : TypeId} (h : TBlk w b c t) : Blk w b c := ⟨t, h⟩
theorem TBlk.lt {w : World} {b : Nat} {c : Array Value} {t : TypeId} (h : TBlk w b c t) : b < w.heap.size := h.blk.lt
theorem TBlk.keep {S : Nat → Prop} {w w' : World} {b : Nat} {c : Array Value} {t : TypeId} (h : TBlk w b c t) (f : Fr S w w') (hb : ¬ S b) : TBlk w' b c t := by
  have hl := h.lt
  unfold TBlk at h ⊢
  rw [f.block b hl hb]
  exact h
theorem TBlk.set {w : World} {b : Nat} {c : Array Value} {t : TypeId} (h : TBlk w b c t) (i : Nat) (v : Value) : TBlk (w.setCell ⟨b, i, none⟩ v) b (c.setIfInBounds i v) t := by
  unfold TBlk at h ⊢
  simp [World.setCell, Array.getElem?_modify, h]
theorem TBlk.far {w : World} {b b' : Nat} {c : Array Value} {t : TypeId} (h : TBlk w b c t) (i : Nat) (v : Value) (hb : b ≠ b') : TBlk (w.setCell ⟨b', i, none⟩ v) b c t := by
  unfold TBlk at h ⊢
  rw [Below.heap_setCell _ _ _ _ hb]
  exact h
theorem TBlk.drewN {w : World} {b : Nat} {c : Array Value} {t : TypeId} (h : TBlk w b c t) (n : Nat) : TBlk (w.drewN n) b c t := h

theorem TBlk.same {w w' : World} {b : Nat} {c : Array Value} {t : TypeId} (h : TBlk w b c t) (f : Fr (fun _ => False) w w') : TBlk w' b c t := h.keep f id
theorem TBlk.cell {w : World} {b : Nat} {c : Array Value} {t : TypeId} (h : TBlk w b c t) {i : Nat} {v : Value} (hv : c[i]? = some v) : w.cell? ⟨b, i, none⟩ = some v := h.blk.cell hv
theorem TBlk.frozen {w : World} {b : Nat} {c : Array Value} {t : TypeId} (h : TBlk w b c t) (i : Nat) : w.frozen? ⟨b, i, none⟩ = false := h.blk.frozen i
theorem TBlk.drew {w : World} {b : Nat} {c : Array Value} {t : TypeId} (h : TBlk w b c t) : TBlk w.drew b c t := h
theorem TBlk.alloc {w : World} {b : Nat} {c : Array Value} {t : TypeId} (h : TBlk w b c t) (o : Obj) : TBlk (w.alloc o) b c t := by
  have hl := h.lt
  unfold TBlk at h ⊢
  rw [Below.heap_alloc _ _ _ hl]
  exact h
theorem TBlk.new (w : World) (c : Array Value) (t : TypeId) : TBlk (w.alloc (.cells c t)) w.heap.size c t := by
  show (w.heap.push _)[w.heap.size]? = _
  simp
theorem TBlk.at {w : World} {b n : Nat} {c : Array Value} {t : TypeId} (h : TBlk w b c t) (hn : b = n) : TBlk w n c t := hn ▸ h

end Go.Proofs.Ytoajdknhllaoeaa
