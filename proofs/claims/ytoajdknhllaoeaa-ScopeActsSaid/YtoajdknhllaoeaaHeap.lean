/-
  Blocks of memory known whole, what may have turned between two worlds, and a machine of cells as it stands in memory.
-/
import Derived.WalkKit
import Derived.WalkSpells
import Derived.WalkLawsBesides
import Derived.Deep.Draws
namespace Go.Proofs.Ytoajdknhllaoeaa
open Go.RowKit
set_option linter.unusedVariables false

/-- A fact kept from the walk. -/
theorem hid {p : Prop} (h : p) : Hid p := h

/-- A block that is known whole, with nothing frozen. -/
def Blk (w : World) (b : Nat) (c : Array Value) : Prop := ∃ t, w.heap[b]? = some (.cells c t (0, 0))

/-- From w to w' nothing has turned but blocks of S, and new ones. -/
structure Fr (S : Nat → Prop) (w w' : World) : Prop where
  os : w'.os = w.os
  tape : w'.tape = w.tape
  output : w'.output = w.output
  size : w.heap.size ≤ w'.heap.size
  block : ∀ k, k < w.heap.size → ¬ S k → w'.heap[k]? = w.heap[k]?

theorem Fr.refl (S : Nat → Prop) (w : World) : Fr S w w := ⟨rfl, rfl, rfl, Nat.le_refl _, fun _ _ _ => rfl⟩

theorem Fr.trans {S : Nat → Prop} {a b c : World} (h : Fr S a b) (k : Fr S b c) : Fr S a c :=
  ⟨k.os.trans h.os, k.tape.trans h.tape, k.output.trans h.output, Nat.le_trans h.size k.size, fun i hi hn => (k.block i (Nat.lt_of_lt_of_le hi h.size) hn).trans (h.block i hi hn)⟩

theorem Fr.mono {S T : Nat → Prop} {w w' : World} (h : Fr S w w') (hs : ∀ k, S k → T k) : Fr T w w' :=
  ⟨h.os, h.tape, h.output, h.size, fun k hk hn => h.block k hk (fun hh => hn (hs k hh))⟩

/-- What was turned lies in new blocks, seen from an older world. -/
theorem Fr.since {S T : Nat → Prop} {a b c : World} (h : Fr S a b) (k : Fr T b c) (ht : ∀ i, T i → i < a.heap.size → S i) : Fr S a c :=
  ⟨k.os.trans h.os, k.tape.trans h.tape, k.output.trans h.output, Nat.le_trans h.size k.size,
    fun i hi hn => (k.block i (Nat.lt_of_lt_of_le hi h.size) (fun hh => hn (ht i hh hi))).trans (h.block i hi hn)⟩

theorem Fr.drew (S : Nat → Prop) (w : World) : Fr S w w.drew := ⟨rfl, rfl, rfl, Nat.le_refl _, fun _ _ _ => rfl⟩
theorem Fr.drewN (S : Nat → Prop) (w : World) (n : Nat) : Fr S w (w.drewN n) := ⟨rfl, rfl, rfl, Nat.le_refl _, fun _ _ _ => rfl⟩
theorem Fr.alloc (S : Nat → Prop) (w : World) (o : Obj) : Fr S w (w.alloc o) :=
  ⟨rfl, rfl, rfl, by simp, fun k hk _ => Below.heap_alloc w o k hk⟩
theorem Fr.setCell {S : Nat → Prop} (w : World) (a : Addr) (v : Value) (h : S a.block) : Fr S w (w.setCell a v) :=
  ⟨rfl, rfl, rfl, by simp [World.setCell], fun k _ hn => Below.heap_setCell w a v k (fun e => hn (e ▸ h))⟩
theorem Fr.below {S : Nat → Prop} {w w' : World} {B : Nat} (h : Fr S w w') (hB : B ≤ w.heap.size) (hs : ∀ k, S k → B ≤ k) : Below B w w' :=
  ⟨h.os, h.tape, h.output, h.size, fun k hk => h.block k (by omega) (fun hh => by have := hs k hh; omega)⟩

theorem Blk.lt {w : World} {b : Nat} {c : Array Value} (h : Blk w b c) : b < w.heap.size := by
  obtain ⟨t, h⟩ := h
  exact (Array.getElem?_eq_some_iff.1 h).1

theorem Blk.keep {S : Nat → Prop} {w w' : World} {b : Nat} {c : Array Value} (h : Blk w b c) (f : Fr S w w') (hb : ¬ S b) : Blk w' b c := by
  have hl := h.lt
  obtain ⟨t, h⟩ := h
  exact ⟨t, by rw [f.block b hl hb]; exact h⟩

theorem Blk.cell {w : World} {b : Nat} {c : Array Value} (h : Blk w b c) {i : Nat} {v : Value} (hv : c[i]? = some v) : w.cell? ⟨b, i, none⟩ = some v := by
  obtain ⟨t, h⟩ := h
  simp [World.cell?, h, hv]

theorem Blk.frozen {w : World} {b : Nat} {c : Array Value} (h : Blk w b c) (i : Nat) : w.frozen? ⟨b, i, none⟩ = false := by
  obtain ⟨t, h⟩ := h
  simp [World.frozen?, h]

theorem Blk.set {w : World} {b : Nat} {c : Array Value} (h : Blk w b c) (i : Nat) (v : Value) : Blk (w.setCell ⟨b, i, none⟩ v) b (c.setIfInBounds i v) := by
  have hl := h.lt
  obtain ⟨t, h⟩ := h
  refine ⟨t, ?_⟩
  simp [World.setCell, Array.getElem?_modify, h]

theorem Blk.far {w : World} {b b' : Nat} {c : Array Value} (h : Blk w b c) (i : Nat) (v : Value) (hb : b ≠ b') : Blk (w.setCell ⟨b', i, none⟩ v) b c := by
  obtain ⟨t, h⟩ := h
  exact ⟨t, by rw [Below.heap_setCell _ _ _ _ hb]; exact h⟩

theorem Blk.alloc {w : World} {b : Nat} {c : Array Value} (h : Blk w b c) (o : Obj) : Blk (w.alloc o) b c := by
  have hl := h.lt
  obtain ⟨t, h⟩ := h
  exact ⟨t, by rw [Below.heap_alloc _ _ _ hl]; exact h⟩

theorem Blk.new (w : World) (c : Array Value) (t : TypeId) : Blk (w.alloc (.cells c t)) w.heap.size c :=
  ⟨t, by show (w.heap.push _)[w.heap.size]? = _; simp⟩

theorem Blk.at {w : World} {b n : Nat} {c : Array Value} (h : Blk w b c) (hn : b = n) : Blk w n c := hn ▸ h

theorem Blk.drew {w : World} {b : Nat} {c : Array Value} (h : Blk w b c) : Blk w.drew b c := h
theorem Blk.drewN {w : World} {b : Nat} {c : Array Value} (h : Blk w b c) (n : Nat) : Blk (w.drewN n) b c := h

theorem Blk.set2 {w : World} {b : Nat} {x y : Value} (h : Blk w b #[x, y]) (u v : Value) : Blk ((w.setCell ⟨b, 0, none⟩ u).setCell ⟨b, 1, none⟩ v) b #[u, v] := by
  simpa using (h.set 0 u).set 1 v

theorem fr_set2 (w : World) (b : Nat) (u v : Value) : Fr (fun k => k = b) w ((w.setCell ⟨b, 0, none⟩ u).setCell ⟨b, 1, none⟩ v) :=
  (Fr.setCell (S := fun k => k = b) _ _ _ rfl).trans (Fr.setCell _ _ _ rfl)

/-- Numbers as they lie in cells. -/
def ints (l : List Int) : Array Value := (l.map (Value.int .i64)).toArray

theorem ints_at (l : List Int) (i : Nat) (h : i < l.length) : (ints l)[i]? = some (.int .i64 (l.getD i 0)) := by
  simp [ints, h]

theorem ints_set (l : List Int) (i : Nat) (x : Int) : (ints l).setIfInBounds i (.int .i64 x) = ints (l.set i x) := by
  simp [ints, List.map_set]

theorem ints_ex (l : List Int) (e : Array Value) (i : Nat) (h : i < l.length) : (ints l ++ e)[i]? = some (.int .i64 (l.getD i 0)) := by
  rw [Array.getElem?_append_left (by simpa [ints] using h)]
  exact ints_at l i h

theorem ints_ex_set (l : List Int) (e : Array Value) (i : Nat) (x : Int) (h : i < l.length) : (ints l ++ e).setIfInBounds i (.int .i64 x) = ints (l.set i x) ++ e := by
  rw [← ints_set]
  apply Array.ext'
  simp [ints, h]

theorem ints_size (l : List Int) : (ints l).size = l.length := by simp [ints]

/-- A machine, as plain data: all its cells, how many of them are given away, the steps of each caller. -/
structure Mach where
  all : List Int
  used : Nat
  steps : List Int

/-- The three blocks of a machine; the room of its steps, and what stands behind them. -/
structure MB where
  m : Nat
  g : Nat
  s : Nat
  cap : Nat
  ex : Array Value

def MB.own (b : MB) (k : Nat) : Prop := k = b.m ∨ k = b.g ∨ k = b.s

def MB.ptr (b : MB) : Value := .pointer (some ⟨b.m, 0, none⟩)

/-- A machine stands in memory. -/
structure IsM (w : World) (b : MB) (M : Mach) : Prop where
  hm : Blk w b.m #[.slice (some ⟨b.g, 0, none⟩) M.used M.all.length, .int .i64 M.all.length, .slice (some ⟨b.s, 0, none⟩) M.steps.length b.cap]
  hg : Blk w b.g (ints M.all)
  hs : Blk w b.s (ints M.steps ++ b.ex)
  mg : b.m ≠ b.g
  ms : b.m ≠ b.s
  gs : b.g ≠ b.s
  le : M.used ≤ M.all.length
  free : ∀ i, M.used ≤ i → M.all.getD i 0 = 0
  small : M.all.length ≤ 1048576
  few : M.steps.length ≤ 17

theorem IsM.keep {S : Nat → Prop} {w w' : World} {b : MB} {M : Mach} (h : IsM w b M) (f : Fr S w w') (hb : ∀ k, b.own k → ¬ S k) : IsM w' b M :=
  { h with hm := h.hm.keep f (hb _ (.inl rfl)), hg := h.hg.keep f (hb _ (.inr (.inl rfl))), hs := h.hs.keep f (hb _ (.inr (.inr rfl))) }

theorem IsM.same {w w' : World} {b : MB} {M : Mach} (h : IsM w b M) (f : Fr (fun _ => False) w w') : IsM w' b M := h.keep f (fun _ _ hh => hh)

theorem IsM.own_lt {w : World} {b : MB} {M : Mach} (h : IsM w b M) : ∀ k, b.own k → k < w.heap.size := by
  rintro k (rfl | rfl | rfl)
  · exact h.hm.lt
  · exact h.hg.lt
  · exact h.hs.lt

theorem IsM.c0 {w : World} {b : MB} {M : Mach} (h : IsM w b M) : w.cell? ⟨b.m, 0, none⟩ = some (.slice (some ⟨b.g, 0, none⟩) M.used M.all.length) := h.hm.cell rfl
theorem IsM.c1 {w : World} {b : MB} {M : Mach} (h : IsM w b M) : w.cell? ⟨b.m, 1, none⟩ = some (.int .i64 M.all.length) := h.hm.cell rfl
theorem IsM.c2 {w : World} {b : MB} {M : Mach} (h : IsM w b M) : w.cell? ⟨b.m, 2, none⟩ = some (.slice (some ⟨b.s, 0, none⟩) M.steps.length b.cap) := h.hm.cell rfl
theorem IsM.cg {w : World} {b : MB} {M : Mach} (h : IsM w b M) {k : Nat} (hk : k < M.all.length) : w.cell? ⟨b.g, k, none⟩ = some (.int .i64 (M.all.getD k 0)) := h.hg.cell (ints_at _ _ hk)
theorem IsM.cs {w : World} {b : MB} {M : Mach} (h : IsM w b M) {k : Nat} (hk : k < M.steps.length) : w.cell? ⟨b.s, k, none⟩ = some (.int .i64 (M.steps.getD k 0)) := h.hs.cell (ints_ex _ _ _ hk)

def Mach.step (M : Mach) (j : Nat) : Mach := { M with steps := M.steps.set j (wrap64 (M.steps.getD j 0 + 1)) }
def Mach.put (M : Mach) (k : Nat) (x : Int) : Mach := { M with all := M.all.set k x }
def Mach.give (M : Mach) (n : Nat) : Mach := { M with used := M.used + n }

theorem IsM.setStep {w : World} {b : MB} {M : Mach} (h : IsM w b M) (j : Nat) (x : Int) (hj : j < M.steps.length) : IsM (w.setCell ⟨b.s, j, none⟩ (.int .i64 x)) b { M with steps := M.steps.set j x } := by
  refine ⟨?_, h.hg.far _ _ h.gs, ?_, h.mg, h.ms, h.gs, h.le, h.free, h.small, ?_⟩
  · simpa using h.hm.far _ _ h.ms
  · rw [← ints_ex_set _ _ _ _ hj]
    exact h.hs.set j (.int .i64 x)
  · simpa using h.few

theorem IsM.stepped {w : World} {b : MB} {M : Mach} (h : IsM w b M) {j : Nat} {s : Int} (hj : j < M.steps.length) (hs : M.steps.getD j 0 = s) : IsM (w.setCell ⟨b.s, j, none⟩ (.int .i64 (wrap64 (s + 1)))) b (M.step j) := by
  subst hs
  exact h.setStep j _ hj

theorem IsM.cs' {w : World} {b : MB} {M : Mach} (h : IsM w b M) {k : Nat} (hk : k < M.steps.length) : ∃ s, Hid (M.steps.getD k 0 = s) ∧ w.cell? ⟨b.s, k, none⟩ = some (.int .i64 s) := ⟨_, rfl, h.cs hk⟩
theorem IsM.cg' {w : World} {b : MB} {M : Mach} (h : IsM w b M) {k : Nat} (hk : k < M.all.length) : ∃ s, Hid (M.all.getD k 0 = s) ∧ w.cell? ⟨b.g, k, none⟩ = some (.int .i64 s) := ⟨_, rfl, h.cg hk⟩

theorem IsM.setNum {w : World} {b : MB} {M : Mach} (h : IsM w b M) (k : Nat) (x : Int) (hk : k < M.used) : IsM (w.setCell ⟨b.g, k, none⟩ (.int .i64 x)) b (M.put k x) := by
  refine ⟨?_, ?_, h.hs.far _ _ (Ne.symm h.gs), h.mg, h.ms, h.gs, ?_, ?_, ?_, h.few⟩
  · simpa [Mach.put] using h.hm.far _ _ h.mg
  · simpa [ints_set, Mach.put] using h.hg.set k (.int .i64 x)
  · simpa [Mach.put] using h.le
  · intro i hi
    have hi' : M.used ≤ i := hi
    have := h.free i hi'
    simp only [Mach.put]
    rw [List.getD_eq_getElem?_getD, List.getElem?_set_ne (by omega), ← List.getD_eq_getElem?_getD]
    exact this
  · simpa [Mach.put] using h.small

theorem IsM.setUsed {w : World} {b : MB} {M : Mach} (h : IsM w b M) (n : Nat) (hn : M.used + n ≤ M.all.length) :
    IsM (w.setCell ⟨b.m, 0, none⟩ (.slice (some ⟨b.g, 0, none⟩) (M.used + n) M.all.length)) b (M.give n) := by
  refine ⟨?_, h.hg.far _ _ (Ne.symm h.mg), h.hs.far _ _ (Ne.symm h.ms), h.mg, h.ms, h.gs, hn, fun i hi => h.free i (Nat.le_trans (Nat.le_add_right _ _) hi), h.small, h.few⟩
  simpa [Mach.give] using h.hm.set 0 (.slice (some ⟨b.g, 0, none⟩) (M.used + n) M.all.length)

end Go.Proofs.Ytoajdknhllaoeaa
