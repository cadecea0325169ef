/-
  Blocks of memory known whole, what may have turned between two worlds, rows that read as lists.
-/
import Derived.WalkKit
import Derived.WalkSpells
import Derived.WalkLawsBesides
import Derived.Deep.Draws
namespace Go.Proofs.YtnlbellbeepkaaaGreatDoor
open Go.RowKit

/-- A fact kept from the walk. -/
theorem hid {p : Prop} (h : p) : Hid p := h

/-- A block that is known whole, with nothing frozen. -/
def Blk (w : World) (b : Nat) (c : Array Value) : Prop := ∃ t, w.heap[b]? = some (.cells c t (0, 0))

/-- From w to w' nothing has turned but blocks of S, and new ones. -/
structure Fr (S : Nat → Prop) (w w' : World) : Prop where
  os : w'.os = w.os
  tape : w'.tape = w.tape
  output : w'.output = w.output
  size : w.heap.size ≤ w'.heap.size
  block : ∀ k, k < w.heap.size → ¬ S k → w'.heap[k]? = w.heap[k]?

theorem Fr.refl (S : Nat → Prop) (w : World) : Fr S w w := ⟨rfl, rfl, rfl, Nat.le_refl _, fun _ _ _ => rfl⟩

theorem Fr.trans {S : Nat → Prop} {a b c : World} (h : Fr S a b) (k : Fr S b c) : Fr S a c :=
  ⟨k.os.trans h.os, k.tape.trans h.tape, k.output.trans h.output, Nat.le_trans h.size k.size, fun i hi hn => (k.block i (Nat.lt_of_lt_of_le hi h.size) hn).trans (h.block i hi hn)⟩

theorem Fr.mono {S T : Nat → Prop} {w w' : World} (h : Fr S w w') (hs : ∀ k, S k → T k) : Fr T w w' :=
  ⟨h.os, h.tape, h.output, h.size, fun k hk hn => h.block k hk (fun hh => hn (hs k hh))⟩

/-- What was turned lies in new blocks, seen from an older world. -/
theorem Fr.since {S T : Nat → Prop} {a b c : World} (h : Fr S a b) (k : Fr T b c) (ht : ∀ i, T i → i < a.heap.size → S i) : Fr S a c :=
  ⟨k.os.trans h.os, k.tape.trans h.tape, k.output.trans h.output, Nat.le_trans h.size k.size,
    fun i hi hn => (k.block i (Nat.lt_of_lt_of_le hi h.size) (fun hh => hn (ht i hh hi))).trans (h.block i hi hn)⟩

theorem Fr.drew (S : Nat → Prop) (w : World) : Fr S w w.drew := ⟨rfl, rfl, rfl, Nat.le_refl _, fun _ _ _ => rfl⟩
theorem Fr.drewN (S : Nat → Prop) (w : World) (n : Nat) : Fr S w (w.drewN n) := ⟨rfl, rfl, rfl, Nat.le_refl _, fun _ _ _ => rfl⟩
theorem Fr.alloc (S : Nat → Prop) (w : World) (o : Obj) : Fr S w (w.alloc o) :=
  ⟨rfl, rfl, rfl, by simp, fun k hk _ => Below.heap_alloc w o k hk⟩
theorem Fr.setCell {S : Nat → Prop} (w : World) (a : Addr) (v : Value) (h : S a.block) : Fr S w (w.setCell a v) :=
  ⟨rfl, rfl, rfl, by simp [World.setCell], fun k _ hn => Below.heap_setCell w a v k (fun e => hn (e ▸ h))⟩
theorem Fr.below {S : Nat → Prop} {w w' : World} {B : Nat} (h : Fr S w w') (hB : B ≤ w.heap.size) (hs : ∀ k, S k → B ≤ k) : Below B w w' :=
  ⟨h.os, h.tape, h.output, h.size, fun k hk => h.block k (by omega) (fun hh => by have := hs k hh; omega)⟩

theorem Blk.lt {w : World} {b : Nat} {c : Array Value} (h : Blk w b c) : b < w.heap.size := by
  obtain ⟨t, h⟩ := h
  exact (Array.getElem?_eq_some_iff.1 h).1

theorem Blk.keep {S : Nat → Prop} {w w' : World} {b : Nat} {c : Array Value} (h : Blk w b c) (f : Fr S w w') (hb : ¬ S b) : Blk w' b c := by
  have hl := h.lt
  obtain ⟨t, h⟩ := h
  exact ⟨t, by rw [f.block b hl hb]; exact h⟩

theorem Blk.cell {w : World} {b : Nat} {c : Array Value} (h : Blk w b c) {i : Nat} {v : Value} (hv : c[i]? = some v) : w.cell? ⟨b, i, none⟩ = some v := by
  obtain ⟨t, h⟩ := h
  simp [World.cell?, h, hv]

theorem Blk.frozen {w : World} {b : Nat} {c : Array Value} (h : Blk w b c) (i : Nat) : w.frozen? ⟨b, i, none⟩ = false := by
  obtain ⟨t, h⟩ := h
  simp [World.frozen?, h]

theorem Blk.set {w : World} {b : Nat} {c : Array Value} (h : Blk w b c) (i : Nat) (v : Value) : Blk (w.setCell ⟨b, i, none⟩ v) b (c.setIfInBounds i v) := by
  have hl := h.lt
  obtain ⟨t, h⟩ := h
  refine ⟨t, ?_⟩
  simp [World.setCell, Array.getElem?_modify, h]

theorem Blk.far {w : World} {b b' : Nat} {c : Array Value} (h : Blk w b c) (i : Nat) (v : Value) (hb : b ≠ b') : Blk (w.setCell ⟨b', i, none⟩ v) b c := by
  obtain ⟨t, h⟩ := h
  exact ⟨t, by rw [Below.heap_setCell _ _ _ _ hb]; exact h⟩

theorem Blk.alloc {w : World} {b : Nat} {c : Array Value} (h : Blk w b c) (o : Obj) : Blk (w.alloc o) b c := by
  have hl := h.lt
  obtain ⟨t, h⟩ := h
  exact ⟨t, by rw [Below.heap_alloc _ _ _ hl]; exact h⟩

theorem Blk.new (w : World) (c : Array Value) (t : TypeId) : Blk (w.alloc (.cells c t)) w.heap.size c :=
  ⟨t, by show (w.heap.push _)[w.heap.size]? = _; simp⟩

theorem Blk.at {w : World} {b n : Nat} {c : Array Value} (h : Blk w b c) (hn : b = n) : Blk w n c := hn ▸ h

theorem Blk.drew {w : World} {b : Nat} {c : Array Value} (h : Blk w b c) : Blk w.drew b c := h
theorem Blk.drewN {w : World} {b : Nat} {c : Array Value} (h : Blk w b c) (n : Nat) : Blk (w.drewN n) b c := h

/-- Cells from an address on read as a list. -/
def Rd (w : World) (a : Addr) (xs : List Value) : Prop := ∀ j u, xs[j]? = some u → w.cell? (a.add j) = some u

/-- A slice's address and length: its cells read as a list, and lie below B. -/
def Reads (w : World) (B : Nat) (A : Option Addr) (xs : List Value) : Prop := xs = [] ∨ ∃ a, A = some a ∧ a.block < B ∧ Rd w a xs

theorem block_of_add (a : Addr) (n : Nat) : (a.add n).block = a.block := by unfold Addr.add; split <;> rfl
theorem add_of_add (a : Addr) (i j : Nat) : (a.add i).add j = a.add (i + j) := by
  unfold Addr.add
  by_cases hi : i = 0 <;> by_cases hj : j = 0 <;> simp [hi, hj, Nat.add_assoc]
theorem add_none (b o n : Nat) : (⟨b, o, none⟩ : Addr).add n = ⟨b, o + n, none⟩ := by
  unfold Addr.add
  split
  · simp_all
  · rfl

theorem cell_keep {S : Nat → Prop} {w w' : World} (f : Fr S w w') {p : Addr} (hl : p.block < w.heap.size) (hn : ¬ S p.block) : w'.cell? p = w.cell? p :=
  World.cell?_of_block (f.block p.block hl hn)

theorem Rd.keep {S : Nat → Prop} {w w' : World} {a : Addr} {xs : List Value} (h : Rd w a xs) (f : Fr S w w') (hl : a.block < w.heap.size) (hn : ¬ S a.block) : Rd w' a xs :=
  fun j u hu => (cell_keep f (by rw [block_of_add]; exact hl) (by rw [block_of_add]; exact hn)).trans (h j u hu)

theorem Reads.keep {S : Nat → Prop} {w w' : World} {B : Nat} {A : Option Addr} {xs : List Value} (h : Reads w B A xs) (f : Fr S w w') (hB : B ≤ w.heap.size) (hn : ∀ k, k < B → ¬ S k) : Reads w' B A xs := by
  rcases h with h | ⟨a, rfl, hb, hr⟩
  · exact .inl h
  · exact .inr ⟨a, rfl, hb, hr.keep f (by omega) (hn _ hb)⟩

theorem Reads.same {w w' : World} {B : Nat} {A : Option Addr} {xs : List Value} (h : Reads w B A xs) (f : Fr (fun _ => False) w w') (hB : B ≤ w.heap.size) : Reads w' B A xs := h.keep f hB (fun _ _ hh => hh)

theorem Reads.more {w : World} {B C : Nat} {A : Option Addr} {xs : List Value} (h : Reads w B A xs) (hB : B ≤ C) : Reads w C A xs := by
  rcases h with h | ⟨a, rfl, hb, hr⟩
  · exact .inl h
  · exact .inr ⟨a, rfl, by omega, hr⟩

theorem Reads.at_ {w : World} {B : Nat} {A : Option Addr} {xs : List Value} (h : Reads w B A xs) {k : Nat} (hk : k < xs.length) : ∃ a, A = some a ∧ a.block < B ∧ Rd w a xs := by
  rcases h with h | h
  · subst h
    simp at hk
  · exact h

theorem Rd.cell {w : World} {a : Addr} {xs : List Value} (h : Rd w a xs) {k : Nat} {v : Value} (hk : xs[k]? = some v) : w.cell? (a.add k) = some v := h k v hk

theorem Rd.drop {w : World} {a : Addr} {xs : List Value} (h : Rd w a xs) (k : Nat) : Rd w (a.add k) (xs.drop k) := fun j u hu => by
  rw [add_of_add]
  exact h _ u (by rw [← hu, List.getElem?_drop])

theorem Rd.take {w : World} {a : Addr} {xs : List Value} (h : Rd w a xs) (k : Nat) : Rd w a (xs.take k) := fun j u hu => by
  rw [List.getElem?_take] at hu
  split at hu
  · exact h j u hu
  · cases hu

theorem Blk.rd {w : World} {b : Nat} {c : Array Value} (h : Blk w b c) : Rd w ⟨b, 0, none⟩ c.toList := fun j u hu => by
  rw [add_none, Nat.zero_add]
  exact h.cell (by simpa using hu)

def TBlk (w : World) (b : Nat) (c : Array Value) (t : TypeId) : Prop := w.heap[b]? = some (.cells c t (0, 0))

theorem TBlk.blk {w : World} {b : Nat} {c : Array Value} {t : TypeId} (h : TBlk w b c t) : Blk w b c := ⟨t, h⟩
theorem TBlk.new (w : World) (c : Array Value) (t : TypeId) : TBlk (w.alloc (.cells c t)) w.heap.size c t := by
  show (w.heap.push _)[w.heap.size]? = _
  simp
theorem TBlk.keep {S : Nat → Prop} {w w' : World} {b : Nat} {c : Array Value} {t : TypeId} (h : TBlk w b c t) (f : Fr S w w') (hb : ¬ S b) : TBlk w' b c t := by
  have hl := h.blk.lt
  unfold TBlk
  rw [f.block b hl hb]
  exact h

theorem TBlk.at {w : World} {b n : Nat} {c : Array Value} {t : TypeId} (h : TBlk w b c t) (hn : b = n) : TBlk w n c t := hn ▸ h
theorem TBlk.set {w : World} {b : Nat} {c : Array Value} {t : TypeId} (h : TBlk w b c t) (i : Nat) (v : Value) : TBlk (w.setCell ⟨b, i, none⟩ v) b (c.setIfInBounds i v) t := by
  unfold TBlk at *
  simp [World.setCell, Array.getElem?_modify, h]

end Go.Proofs.YtnlbellbeepkaaaGreatDoor
