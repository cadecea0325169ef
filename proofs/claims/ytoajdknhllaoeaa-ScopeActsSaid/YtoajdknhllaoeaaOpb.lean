/-
  Arguments: rows of truths.
-/
import Derived.Test.YtoajdknhllaoeaaOpen
import Derived.Test.YtoajdknhllaoeaaHeap
namespace Go.Proofs.Ytoajdknhllaoeaa
open Go.ChangeShapes Go.WideShapes Go.ChangeAt Go.RowKit Go.Deep
set_option linter.unusedVariables false

/-- A row of truths that is read. -/
def BRow (w : World) (a : Option Addr) (len : Nat) (g : Nat → Bool) : Prop := 0 < len → ∃ b off, a = some ⟨b, off, none⟩ ∧ b < w.heap.size ∧ ∀ i, i < len → w.cell? ⟨b, off + i, none⟩ = some (.bool (g i))

def boolAt (w : World) (a : Addr) : Bool := match w.cell? a with
  | some (.bool q) => q
  | _ => false

theorem BRow.at_ {w : World} {a : Option Addr} {len i : Nat} {g : Nat → Bool} (h : BRow w a len g) (hi : i < len) :
    ∃ b off, a = some ⟨b, off, none⟩ ∧ (∀ v, Fr (fun _ => False) w v → v.cell? ⟨b, off + i, none⟩ = some (.bool (g i))) := by
  obtain ⟨b, off, ha, hb, hc⟩ := h (by omega)
  exact ⟨b, off, ha, fun v hf => by rw [← hc i hi]; exact World.cell?_of_block (w := w) (hf.block b hb id)⟩

theorem row1_at {w : World} {a : Option Addr} {len i : Nat} {f : Nat → Nat → Int} (h : Row w a len 1 f) (hi : i < len) :
    ∃ b off, a = some ⟨b, off, none⟩ ∧ (∀ v, Fr (fun _ => False) w v → v.cell? ⟨b, off + i, none⟩ = some (.int .i64 (f i 0))) := by
  obtain ⟨b, off, ha, hb, hc⟩ := h (by omega)
  refine ⟨b, off, ha, fun v hf => ?_⟩
  have := (hc i 0 hi (by omega)).1
  rw [show off + (i * 1 + 0) = off + i by omega] at this
  rw [← this]
  exact World.cell?_of_block (w := w) (hf.block b hb id)

section
variable {H : Type} {enc : TypeId × Value → H} {P : Program} {w : World} {base : Nat} {spare : Nat → Bool} {held : Bool}

theorem brow_of {a : Addr} {len : Nat} (hc : ∀ i, i < len → ∃ cs, w.cells? base (a.add (i * 1)) 1 = some cs ∧ ∃ q, cs[0]? = some (Value.bool q)) :
    ∃ g, BRow w (some a) len g := by
  have hcell : ∀ i, i < len → ∃ q, w.cell? (a.add i) = some (.bool q) := by
    intro i hi
    obtain ⟨cs, hcs, q, hq⟩ := hc i hi
    obtain ⟨_, hl, hat⟩ := World.cells?_some hcs
    refine ⟨q, ?_⟩
    have := hat 0 (by omega)
    rw [add_add, Nat.mul_one, Nat.add_zero, hq] at this
    exact this
  refine ⟨fun i => boolAt w (a.add i), fun hlen => ?_⟩
  obtain ⟨q0, h0⟩ := hcell 0 hlen
  have e0 : a.add 0 = a := by simp [Addr.add]
  rw [e0] at h0
  obtain ⟨hs, hb⟩ := cell_spot h0
  refine ⟨a.block, a.off, by obtain ⟨b, o, s⟩ := a; simp only at hs; subst hs; rfl, hb, fun i hi => ?_⟩
  obtain ⟨q, hq1⟩ := hcell i hi
  have e : boolAt w (a.add i) = q := by simp [boolAt, hq1]
  simp only [e]
  rw [← add_spot a _ hs]
  exact hq1

/-- A slice of truths. -/
theorem open_bools {t e : TypeId} {a : Option Addr} {len cap : Nat} {d : DataW H} {p : List MemPlace} (ht : P.underlying t = some (.slice e)) (he : P.underlying e = some .bool) (hE : P.cellsOf e = 1)
    (hsp : ∀ b, spare b = true) (h : DataW.Trod enc P w base spare held t (.slice a len cap) d p) : len ≤ maxLen ∧ ∃ g, BRow w a len g := by
  obtain ⟨fuel, hf⟩ := h
  rcases open_slice ht hf with ⟨hcs, _⟩ | ⟨a', l, c, m, n, D, Pl, hcs, _, hl, hm, hmm, _, hi⟩
  · simp [Value.cells] at hcs
    obtain ⟨rfl, rfl, rfl⟩ := hcs
    exact ⟨Nat.zero_le _, fun _ => false, fun hh => absurd hh (by omega)⟩
  · simp [Value.cells] at hcs
    obtain ⟨rfl, rfl, rfl⟩ := hcs
    refine ⟨by omega, brow_of (base := base) fun i hil => ?_⟩
    rw [if_pos (hsp _)] at hmm
    obtain ⟨cs', hc, ht'⟩ := hi i (by omega)
    rw [hE] at hc
    obtain ⟨q, hq, _⟩ := DataW.trod_bool he ht'
    exact ⟨cs', hc, q, by rw [hq]; rfl⟩
end
end Go.Proofs.Ytoajdknhllaoeaa
