/-
  Blocks of memory known whole, what may have turned between two worlds, rows that read as lists.
-/
import Derived.WalkKit
import Derived.WalkSpells
import Derived.WalkLawsBesides
import Derived.Deep.Draws
import Derived.Test.YtpjcdjooiaefdaaDoorProg
import Derived.Test.YtpjcdjooiaefdaaDoorVPlain
import Derived.Deep.QuietTactic
import Derived.BigQuiet
import Derived.RegionTactic
import Derived.Laws.Rows
import Derived.Laws.Tables
import Derived.Deep.MidRow
import Derived.Deep.RegionHeld3
import Derived.Deep.DeepCutAuto
import Derived.Laws.StructEq
namespace Go.Proofs.YtpjcdjooiaefdaaDoor
open Go.RowKit

/-- A fact kept from the walk. -/
theorem hid {p : Prop} (h : p) : Hid p := h

/-- A block that is known whole, with nothing frozen. -/
def Blk (w : World) (b : Nat) (c : Array Value) : Prop := ∃ t, w.heap[b]? = some (.cells c t (0, 0))

/-- From w to w' nothing has turned but blocks of S, and new ones. -/
structure Fr (S : Nat → Prop) (w w' : World) : Prop where
  os : w'.os = w.os
  tape : w'.tape = w.tape
  output : w'.output = w.output
  size : w.heap.size ≤ w'.heap.size
  block : ∀ k, k < w.heap.size → ¬ S k → w'.heap[k]? = w.heap[k]?

theorem Fr.refl (S : Nat → Prop) (w : World) : Fr S w w := ⟨rfl, rfl, rfl, Nat.le_refl _, fun _ _ _ => rfl⟩

theorem Fr.trans {S : Nat → Prop} {a b c : World} (h : Fr S a b) (k : Fr S b c) : Fr S a c :=
  ⟨k.os.trans h.os, k.tape.trans h.tape, k.output.trans h.output, Nat.le_trans h.size k.size, fun i hi hn => (k.block i (Nat.lt_of_lt_of_le hi h.size) hn).trans (h.block i hi hn)⟩

theorem Fr.mono {S T : Nat → Prop} {w w' : World} (h : Fr S w w') (hs : ∀ k, S k → T k) : Fr T w w' :=
  ⟨h.os, h.tape, h.output, h.size, fun k hk hn => h.block k hk (fun hh => hn (hs k hh))⟩

/-- What was turned lies in new blocks, seen from an older world. -/
theorem Fr.since {S T : Nat → Prop} {a b c : World} (h : Fr S a b) (k : Fr T b c) (ht : ∀ i, T i → i < a.heap.size → S i) : Fr S a c :=
  ⟨k.os.trans h.os, k.tape.trans h.tape, k.output.trans h.output, Nat.le_trans h.size k.size,
    fun i hi hn => (k.block i (Nat.lt_of_lt_of_le hi h.size) (fun hh => hn (ht i hh hi))).trans (h.block i hi hn)⟩

theorem Fr.drew (S : Nat → Prop) (w : World) : Fr S w w.drew := ⟨rfl, rfl, rfl, Nat.le_refl _, fun _ _ _ => rfl⟩
theorem Fr.drewN (S : Nat → Prop) (w : World) (n : Nat) : Fr S w (w.drewN n) := ⟨rfl, rfl, rfl, Nat.le_refl _, fun _ _ _ => rfl⟩
theorem Fr.alloc (S : Nat → Prop) (w : World) (o : Obj) : Fr S w (w.alloc o) :=
  ⟨rfl, rfl, rfl, by simp, fun k hk _ => Below.heap_alloc w o k hk⟩
theorem Fr.setCell {S : Nat → Prop} (w : World) (a : Addr) (v : Value) (h : S a.block) : Fr S w (w.setCell a v) :=
  ⟨rfl, rfl, rfl, by simp [World.setCell], fun k _ hn => Below.heap_setCell w a v k (fun e => hn (e ▸ h))⟩
theorem Fr.below {S : Nat → Prop} {w w' : World} {B : Nat} (h : Fr S w w') (hB : B ≤ w.heap.size) (hs : ∀ k, S k → B ≤ k) : Below B w w' :=
  ⟨h.os, h.tape, h.output, h.size, fun k hk => h.block k (by omega) (fun hh => by have := hs k hh; omega)⟩

theorem Blk.lt {w : World} {b : Nat} {c : Array Value} (h : Blk w b c) : b < w.heap.size := by
  obtain ⟨t, h⟩ := h
  exact (Array.getElem?_eq_some_iff.1 h).1

theorem Blk.keep {S : Nat → Prop} {w w' : World} {b : Nat} {c : Array Value} (h : Blk w b c) (f : Fr S w w') (hb : ¬ S b) : Blk w' b c := by
  have hl := h.lt
  obtain ⟨t, h⟩ := h
  exact ⟨t, by rw [f.block b hl hb]; exact h⟩

theorem Blk.cell {w : World} {b : Nat} {c : Array Value} (h : Blk w b c) {i : Nat} {v : Value} (hv : c[i]? = some v) : w.cell? ⟨b, i, none⟩ = some v := by
  obtain ⟨t, h⟩ := h
  simp [World.cell?, h, hv]

theorem Blk.frozen {w : World} {b : Nat} {c : Array Value} (h : Blk w b c) (i : Nat) : w.frozen? ⟨b, i, none⟩ = false := by
  obtain ⟨t, h⟩ := h
  simp [World.frozen?, h]

theorem Blk.set {w : World} {b : Nat} {c : Array Value} (h : Blk w b c) (i : Nat) (v : Value) : Blk (w.setCell ⟨b, i, none⟩ v) b (c.setIfInBounds i v) := by
  have hl := h.lt
  obtain ⟨t, h⟩ := h
  refine ⟨t, ?_⟩
  simp [World.setCell, Array.getElem?_modify, h]

theorem Blk.far {w : World} {b b' : Nat} {c : Array Value} (h : Blk w b c) (i : Nat) (v : Value) (hb : b ≠ b') : Blk (w.setCell ⟨b', i, none⟩ v) b c := by
  obtain ⟨t, h⟩ := h
  exact ⟨t, by rw [Below.heap_setCell _ _ _ _ hb]; exact h⟩

theorem Blk.alloc {w : World} {b : Nat} {c : Array Value} (h : Blk w b c) (o : Obj) : Blk (w.alloc o) b c := by
  have hl := h.lt
  obtain ⟨t, h⟩ := h
  exact ⟨t, by rw [Below.heap_alloc _ _ _ hl]; exact h⟩

theorem Blk.new (w : World) (c : Array Value) (t : TypeId) : Blk (w.alloc (.cells c t)) w.heap.size c :=
  ⟨t, by show (w.heap.push _)[w.heap.size]? = _; simp⟩

theorem Blk.at {w : World} {b n : Nat} {c : Array Value} (h : Blk w b c) (hn : b = n) : Blk w n c := hn ▸ h

theorem Blk.drew {w : World} {b : Nat} {c : Array Value} (h : Blk w b c) : Blk w.drew b c := h
theorem Blk.drewN {w : World} {b : Nat} {c : Array Value} (h : Blk w b c) (n : Nat) : Blk (w.drewN n) b c := h

/-- Cells from an address on read as a list. -/
def Rd (w : World) (a : Addr) (xs : List Value) : Prop := ∀ j u, xs[j]? = some u → w.cell? (a.add j) = some u

/-- A slice's address and length: its cells read as a list, and lie below B. -/
def Reads (w : World) (B : Nat) (A : Option Addr) (xs : List Value) : Prop := xs = [] ∨ ∃ a, A = some a ∧ a.block < B ∧ Rd w a xs

theorem block_of_add (a : Addr) (n : Nat) : (a.add n).block = a.block := by unfold Addr.add; split <;> rfl
theorem add_of_add (a : Addr) (i j : Nat) : (a.add i).add j = a.add (i + j) := by
  unfold Addr.add
  by_cases hi : i = 0 <;> by_cases hj : j = 0 <;> simp [hi, hj, Nat.add_assoc]
theorem add_none (b o n : Nat) : (⟨b, o, none⟩ : Addr).add n = ⟨b, o + n, none⟩ := by
  unfold Addr.add
  split
  · simp_all
  · rfl

theorem cell_keep {S : Nat → Prop} {w w' : World} (f : Fr S w w') {p : Addr} (hl : p.block < w.heap.size) (hn : ¬ S p.block) : w'.cell? p = w.cell? p :=
  World.cell?_of_block (f.block p.block hl hn)

theorem Rd.keep {S : Nat → Prop} {w w' : World} {a : Addr} {xs : List Value} (h : Rd w a xs) (f : Fr S w w') (hl : a.block < w.heap.size) (hn : ¬ S a.block) : Rd w' a xs :=
  fun j u hu => (cell_keep f (by rw [block_of_add]; exact hl) (by rw [block_of_add]; exact hn)).trans (h j u hu)

theorem Reads.keep {S : Nat → Prop} {w w' : World} {B : Nat} {A : Option Addr} {xs : List Value} (h : Reads w B A xs) (f : Fr S w w') (hB : B ≤ w.heap.size) (hn : ∀ k, k < B → ¬ S k) : Reads w' B A xs := by
  rcases h with h | ⟨a, rfl, hb, hr⟩
  · exact .inl h
  · exact .inr ⟨a, rfl, hb, hr.keep f (by omega) (hn _ hb)⟩

theorem Reads.same {w w' : World} {B : Nat} {A : Option Addr} {xs : List Value} (h : Reads w B A xs) (f : Fr (fun _ => False) w w') (hB : B ≤ w.heap.size) : Reads w' B A xs := h.keep f hB (fun _ _ hh => hh)

theorem Reads.more {w : World} {B C : Nat} {A : Option Addr} {xs : List Value} (h : Reads w B A xs) (hB : B ≤ C) : Reads w C A xs := by
  rcases h with h | ⟨a, rfl, hb, hr⟩
  · exact .inl h
  · exact .inr ⟨a, rfl, by omega, hr⟩

theorem Reads.at_ {w : World} {B : Nat} {A : Option Addr} {xs : List Value} (h : Reads w B A xs) {k : Nat} (hk : k < xs.length) : ∃ a, A = some a ∧ a.block < B ∧ Rd w a xs := by
  rcases h with h | h
  · subst h
    simp at hk
  · exact h

theorem Rd.cell {w : World} {a : Addr} {xs : List Value} (h : Rd w a xs) {k : Nat} {v : Value} (hk : xs[k]? = some v) : w.cell? (a.add k) = some v := h k v hk

theorem Rd.drop {w : World} {a : Addr} {xs : List Value} (h : Rd w a xs) (k : Nat) : Rd w (a.add k) (xs.drop k) := fun j u hu => by
  rw [add_of_add]
  exact h _ u (by rw [← hu, List.getElem?_drop])

theorem Rd.take {w : World} {a : Addr} {xs : List Value} (h : Rd w a xs) (k : Nat) : Rd w a (xs.take k) := fun j u hu => by
  rw [List.getElem?_take] at hu
  split at hu
  · exact h j u hu
  · cases hu

theorem Blk.rd {w : World} {b : Nat} {c : Array Value} (h : Blk w b c) : Rd w ⟨b, 0, none⟩ c.toList := fun j u hu => by
  rw [add_none, Nat.zero_add]
  exact h.cell (by simpa using hu)

def TBlk (w : World) (b : Nat) (c : Array Value) (t : TypeId) : Prop := w.heap[b]? = some (.cells c t (0, 0))

theorem TBlk.blk {w : World} {b : Nat} {c : Array Value} {t : TypeId} (h : TBlk w b c t) : Blk w b c := ⟨t, h⟩
theorem TBlk.new (w : World) (c : Array Value) (t : TypeId) : TBlk (w.alloc (.cells c t)) w.heap.size c t := by
  show (w.heap.push _)[w.heap.size]? = _
  simp
theorem TBlk.keep {S : Nat → Prop} {w w' : World} {b : Nat} {c : Array Value} {t : TypeId} (h : TBlk w b c t) (f : Fr S w w') (hb : ¬ S b) : TBlk w' b c t := by
  have hl := h.blk.lt
  unfold TBlk
  rw [f.block b hl hb]
  exact h

theorem TBlk.at {w : World} {b n : Nat} {c : Array Value} {t : TypeId} (h : TBlk w b c t) (hn : b = n) : TBlk w n c t := hn ▸ h
theorem TBlk.set {w : World} {b : Nat} {c : Array Value} {t : TypeId} (h : TBlk w b c t) (i : Nat) (v : Value) : TBlk (w.setCell ⟨b, i, none⟩ v) b (c.setIfInBounds i v) t := by
  unfold TBlk at *
  simp [World.setCell, Array.getElem?_modify, h]

end Go.Proofs.YtpjcdjooiaefdaaDoor

/-
  Check and Point, the program's and the document's.
-/
namespace Go.Proofs.YtpjcdjooiaefdaaDoor
open Go.RowKit

theorem Tabs.keep {w w' : World} (h : Tabs w) {S : Nat → Prop} (f : Fr S w w') (h0 : ¬ S 0) (h1 : ¬ S 1) : Tabs w' :=
  ⟨Nat.le_trans h.two f.size, fun j hj => (cell_keep f (p := ⟨0, j, none⟩) (by have := h.two; show 0 < _; omega) h0).trans (h.ops j hj), fun j hj => (cell_keep f (p := ⟨1, j, none⟩) (by have := h.two; show 1 < _; omega) h1).trans (h.ends j hj)⟩
theorem Tabs.same {w w' : World} (h : Tabs w) (f : Fr (fun _ => False) w w') : Tabs w' := h.keep f (fun hh => hh) (fun hh => hh)

theorem Tabs.kd {w : World} (h : Tabs w) {op k : Nat} (ho : op ≤ 16) (hk : k < 4) : w.cell? ⟨0, op * 4 + k, none⟩ = some (.int .i64 (kd op k : Nat)) := h.ops _ (by omega)
theorem Tabs.lo {w : World} (h : Tabs w) (op k : Nat) : w.cell? ⟨1, YtpjcdjooiaefdaaDoor.kd op k * 2, none⟩ = some (.int .i64 (lo op k)) := h.ends _ (by have := kd_lt op k; omega)
theorem Tabs.hi {w : World} (h : Tabs w) (op k : Nat) : w.cell? ⟨1, YtpjcdjooiaefdaaDoor.kd op k * 2 + 1, none⟩ = some (.int .i64 (hi op k)) := h.ends _ (by have := kd_lt op k; omega)

set_option maxHeartbeats 400000 in
theorem check_op (i : Ins) (w : World) (ho : i.op < 0 ∨ 16 < i.op) :
    Calls Tryd.prog 41 #[i.val] w fun e w' => e = .returned (.int .i64 13) ∧ Fr (fun _ => False) w w' := by
  obtain ⟨op, a, b, c, n⟩ := i
  unfold Ins.val
  rcases ho with ho | ho
  · simp only at ho
    go_enter Tryd.func41, Tryd.ntmps41
    go_wp2
    go_step3
    go_wp2
    rw [Exit.noGoto_ret]
    go_ret
    exact ⟨rfl, Fr.alloc _ _ _⟩
  · simp only at ho
    have t1 : ¬ op < 0 := by omega
    go_enter Tryd.func41, Tryd.ntmps41
    go_wp2
    go_step3
    go_wp2
    rw [Exit.noGoto_ret]
    go_ret
    exact ⟨rfl, Fr.alloc _ _ _⟩


theorem not_bad {op k : Nat} {x : Int} (h : bad op k x = false) : ¬ x < lo op k ∧ ¬ hi op k < x := by
  simpa [bad] using h

/-- The fields ahead of k are right. -/
def Good (op k : Nat) (f : Nat → Int) : Prop := ∀ j, j < k → bad op j (f j) = false

theorem Good.next {op k : Nat} {f : Nat → Int} (h : Good op k f) (hb : bad op k (f k) = false) : Good op (k + 1) f := by
  intro j hj
  rcases Nat.lt_or_ge j k with hl | hl
  · exact h j hl
  · obtain rfl : j = k := by omega
    exact hb

theorem chk_in {i : Ins} {o : Nat} (h : i.op = o) (ho : o ≤ 16) : chk i = if bad o 0 i.a || bad o 1 i.b || bad o 2 i.c || bad o 3 i.n then 10 else 0 := by
  unfold chk Ins.wrong
  rw [if_neg (by omega), h, Int.toNat_natCast]

theorem chk_good {i : Ins} {o : Nat} (h : i.op = o) (ho : o ≤ 16) (hg : Good o 4 i.fld) : chk i = 0 := by
  have h0 : bad o 0 i.a = false := hg 0 (by omega)
  have h1 : bad o 1 i.b = false := hg 1 (by omega)
  have h2 : bad o 2 i.c = false := hg 2 (by omega)
  have h3 : bad o 3 i.n = false := hg 3 (by omega)
  rw [chk_in h ho, h0, h1, h2, h3]
  rfl

theorem chk_bad {i : Ins} {o k : Nat} (h : i.op = o) (ho : o ≤ 16) (hk : k < 4) (hb : bad o k (i.fld k) = true) : chk i = 10 := by
  rw [chk_in h ho]
  rcases k with _ | _ | _ | _ | k
  · have hb : bad o 0 i.a = true := hb
    simp [hb]
  · have hb : bad o 1 i.b = true := hb
    simp [hb]
  · have hb : bad o 2 i.c = true := hb
    simp [hb]
  · have hb : bad o 3 i.n = true := hb
    simp [hb]
  · omega

theorem cells_int : Tryd.prog.cellsOf 3 = 1 := by kernel_rfl
theorem und4 : Tryd.prog.underlying 95 = some (.array 4 3) := by kernel_rfl

theorem index4 (a b c n x : Int) (k : Nat) (hx : [a, b, c, n][k]? = some x) (W : World) :
    (Instr.index 95 (.agg #[.int .i64 a, .int .i64 b, .int .i64 c, .int .i64 n]) (.int .i64 k)).run Tryd.prog W = .ok (.int .i64 x) W := by
  rcases k with _ | _ | _ | _ | k
  · simp at hx
    subst hx
    kernel_rfl
  · simp at hx
    subst hx
    kernel_rfl
  · simp at hx
    subst hx
    kernel_rfl
  · simp at hx
    subst hx
    kernel_rfl
  · simp at hx

def CRel (o : Nat) (f : Nat → Int) (x k : Value) : Prop := ∃ j : Nat, j ≤ 4 ∧ k = .int .i64 j ∧ x = .int .i64 0 ∧ Good o j f

theorem ret_num {a b : Int} (h : a = b) : Ending.returned (.int .i64 a) = .returned (.int .i64 b) := by rw [h]

set_option maxHeartbeats 1000000 in
theorem check_in (o : Nat) (a b c n : Int) (w : World) (ht : Tabs w) (ho : o ≤ 16) :
    Calls Tryd.prog 41 #[Ins.val ⟨o, a, b, c, n⟩] w fun e w' => e = .returned (.int .i64 (chk ⟨o, a, b, c, n⟩)) ∧ Fr (fun _ => False) w w' := by
  obtain ⟨f, hf⟩ : ∃ f, f = (⟨o, a, b, c, n⟩ : Ins).fld := ⟨_, rfl⟩
  have HF := hid hf
  clear hf
  unfold Ins.val
  have t1 : ¬ (o : Int) < 0 := by omega
  have t2 : ¬ (16 : Int) < o := by omega
  have H0 := ht.two
  go_enter Tryd.func41, Tryd.ntmps41
  go_wp2
  go_step3
  go_wp2
  go_step3
  go_wp2
  go_loop [3, 24] (fun x k => CRel o f x k) (fun _ k => 4 - (intOf k).toNat)
  case atStart => exact ⟨0, by omega, rfl, rfl, fun j hj => by omega⟩
  case round =>
    obtain ⟨j, hj, rfl, rfl, hg⟩ := hrel
    have hT := ht.same (Fr.alloc (fun _ => False) w (.cells #[.int .i64 o, .int .i64 a, .int .i64 b, .int .i64 c, .int .i64 n] 43))
    clear ht
    have hm : j = 0 ∨ j = 1 ∨ j = 2 ∨ j = 3 ∨ j = 4 := by omega
    rcases hm with rfl | rfl | rfl | rfl | rfl
    · have q0 : ∀ W, (Instr.index 95 (.agg #[.int .i64 a, .int .i64 b, .int .i64 c, .int .i64 n]) (.int .i64 0)).run Tryd.prog W = .ok (.int .i64 a) W := index4 a b c n a 0 rfl
      rw [show ((0 : Nat) : Int) = 0 from rfl]
      have q1 := hT.kd ho (show 0 < 4 by omega)
      have q2 := hT.lo o 0
      have q3 := hT.hi o 0
      have q4 := kd_lt o 0
      simp only [Nat.add_zero] at q1
      go_wp2
      all_goals first
        | (go_ret
           exact ⟨ret_num (chk_bad (k := 0) rfl ho (by omega) (by show bad o 0 a = true; unfold bad; simp [*])).symm, Fr.alloc _ _ _⟩)
        | exact ⟨⟨1, by omega, rfl, rfl, Good.next hg (by rw [HF.out]; show bad o 0 a = false; unfold bad; simp [*])⟩, by simp [intOf]⟩
    · have q0 : ∀ W, (Instr.index 95 (.agg #[.int .i64 a, .int .i64 b, .int .i64 c, .int .i64 n]) (.int .i64 1)).run Tryd.prog W = .ok (.int .i64 b) W := index4 a b c n b 1 rfl
      rw [show ((1 : Nat) : Int) = 1 from rfl]
      have q1 := hT.kd ho (show 1 < 4 by omega)
      have q2 := hT.lo o 1
      have q3 := hT.hi o 1
      have q4 := kd_lt o 1

      go_wp2
      all_goals first
        | (go_ret
           exact ⟨ret_num (chk_bad (k := 1) rfl ho (by omega) (by show bad o 1 b = true; unfold bad; simp [*])).symm, Fr.alloc _ _ _⟩)
        | exact ⟨⟨2, by omega, rfl, rfl, Good.next hg (by rw [HF.out]; show bad o 1 b = false; unfold bad; simp [*])⟩, by simp [intOf]⟩
    · have q0 : ∀ W, (Instr.index 95 (.agg #[.int .i64 a, .int .i64 b, .int .i64 c, .int .i64 n]) (.int .i64 2)).run Tryd.prog W = .ok (.int .i64 c) W := index4 a b c n c 2 rfl
      rw [show ((2 : Nat) : Int) = 2 from rfl]
      have q1 := hT.kd ho (show 2 < 4 by omega)
      have q2 := hT.lo o 2
      have q3 := hT.hi o 2
      have q4 := kd_lt o 2

      go_wp2
      all_goals first
        | (go_ret
           exact ⟨ret_num (chk_bad (k := 2) rfl ho (by omega) (by show bad o 2 c = true; unfold bad; simp [*])).symm, Fr.alloc _ _ _⟩)
        | exact ⟨⟨3, by omega, rfl, rfl, Good.next hg (by rw [HF.out]; show bad o 2 c = false; unfold bad; simp [*])⟩, by simp [intOf]⟩
    · have q0 : ∀ W, (Instr.index 95 (.agg #[.int .i64 a, .int .i64 b, .int .i64 c, .int .i64 n]) (.int .i64 3)).run Tryd.prog W = .ok (.int .i64 n) W := index4 a b c n n 3 rfl
      rw [show ((3 : Nat) : Int) = 3 from rfl]
      have q1 := hT.kd ho (show 3 < 4 by omega)
      have q2 := hT.lo o 3
      have q3 := hT.hi o 3
      have q4 := kd_lt o 3

      go_wp2
      all_goals first
        | (go_ret
           exact ⟨ret_num (chk_bad (k := 3) rfl ho (by omega) (by show bad o 3 n = true; unfold bad; simp [*])).symm, Fr.alloc _ _ _⟩)
        | exact ⟨⟨4, by omega, rfl, rfl, Good.next hg (by rw [HF.out]; show bad o 3 n = false; unfold bad; simp [*])⟩, by simp [intOf]⟩
    · rw [show ((4 : Nat) : Int) = 4 from rfl]
      go_wp2
      go_ret
      exact ⟨ret_num (chk_good rfl ho (by rw [← HF.out]; exact hg)).symm, Fr.alloc _ _ _⟩

theorem check_any (i : Ins) (w : World) (ht : Tabs w) :
    Calls Tryd.prog 41 #[i.val] w fun e w' => e = .returned (.int .i64 (chk i)) ∧ Fr (fun _ => False) w w' := by
  by_cases ho : i.op < 0 ∨ 16 < i.op
  · have e : chk i = 13 := by unfold chk; rw [if_pos ho]
    rw [e]
    exact check_op i w ho
  · obtain ⟨op, a, b, c, n⟩ := i
    simp only at ho
    obtain ⟨o, rfl⟩ := Int.eq_ofNat_of_zero_le (show 0 ≤ op by omega)
    exact check_in o a b c n w ht (by omega)

end Go.Proofs.YtpjcdjooiaefdaaDoor

/-
  Tasks as plain data, and as they lie in memory.
-/
namespace Go.Proofs.YtpjcdjooiaefdaaDoor
open Go.RowKit

/-- A task. -/
structure Frm where
  f : Int
  pc : Int
  r : Nat → Int
  h : Nat → Int
  st : Int

def num (x : Int) : Value := .int .i64 x

def Frm.cells (F : Frm) : Array Value := #[.int .i64 F.f, .int .i64 F.pc, .int .i64 (F.r 0), .int .i64 (F.r 1), .int .i64 (F.r 2), .int .i64 (F.r 3), .int .i64 (F.r 4), .int .i64 (F.r 5), .int .i64 (F.r 6), .int .i64 (F.r 7), .int .i64 (F.h 0), .int .i64 (F.h 1), .int .i64 (F.h 2), .int .i64 (F.h 3), .int .i64 (F.h 4), .int .i64 (F.h 5), .int .i64 (F.h 6), .int .i64 (F.h 7), .int .i64 F.st]
def Frm.val (F : Frm) : Value := .agg F.cells

theorem Frm.size (F : Frm) : F.cells.size = 19 := rfl
theorem Frm.one (F : Frm) : F.cells.all (·.oneCell') = true := by simp [Frm.cells, Value.oneCell']
theorem Frm.at_f (F : Frm) : F.cells[0]? = some (.int .i64 F.f) := rfl
theorem Frm.at_pc (F : Frm) : F.cells[1]? = some (.int .i64 F.pc) := rfl
theorem Frm.at_st (F : Frm) : F.cells[18]? = some (.int .i64 F.st) := rfl
theorem Frm.at_r (F : Frm) {k : Nat} (hk : k < 8) : F.cells[2 + k]? = some (.int .i64 (F.r k)) := by
  rcases k with _ | _ | _ | _ | _ | _ | _ | _ | k
  all_goals first | rfl | omega
theorem Frm.at_h (F : Frm) {k : Nat} (hk : k < 8) : F.cells[10 + k]? = some (.int .i64 (F.h k)) := by
  rcases k with _ | _ | _ | _ | _ | _ | _ | _ | k
  all_goals first | rfl | omega

/-- One register turned. -/
def Frm.put (F : Frm) (k : Nat) (v : Int) : Frm := { F with r := fun j => if j = k then v else F.r j }
/-- One handle turned. -/
def Frm.hold (F : Frm) (k : Nat) (v : Int) : Frm := { F with h := fun j => if j = k then v else F.h j }
def Frm.setPc (F : Frm) (v : Int) : Frm := { F with pc := v }
def Frm.setSt (F : Frm) (v : Int) : Frm := { F with st := v }
/-- The task that passes to an instruction. -/
def Frm.to (F : Frm) (v : Int) : Frm := (F.setPc v).setSt (wrap64 (F.st + 1))
def Frm.on (F : Frm) : Frm := F.to (wrap64 (F.pc + 1))

theorem Frm.put_cells (F : Frm) {k : Nat} (v : Int) (hk : k < 8) : F.cells.setIfInBounds (2 + k) (.int .i64 v) = (F.put k v).cells := by
  rcases k with _ | _ | _ | _ | _ | _ | _ | _ | k
  all_goals first | rfl | omega
theorem Frm.hold_cells (F : Frm) {k : Nat} (v : Int) (hk : k < 8) : F.cells.setIfInBounds (10 + k) (.int .i64 v) = (F.hold k v).cells := by
  rcases k with _ | _ | _ | _ | _ | _ | _ | _ | k
  all_goals first | rfl | omega
theorem Frm.pc_cells (F : Frm) (v : Int) : F.cells.setIfInBounds 1 (.int .i64 v) = (F.setPc v).cells := rfl
theorem Frm.st_cells (F : Frm) (v : Int) : F.cells.setIfInBounds 18 (.int .i64 v) = (F.setSt v).cells := rfl

/-- The cells of a task, by what they are alone. -/
structure Cel (cel : Frm → Array Value) : Prop where
  size : ∀ F, (cel F).size = 19
  one : ∀ F, (cel F).all (·.oneCell') = true
  f : ∀ F, (cel F)[0]? = some (.int .i64 F.f)
  pc : ∀ F, (cel F)[1]? = some (.int .i64 F.pc)
  st : ∀ F, (cel F)[18]? = some (.int .i64 F.st)
  r : ∀ F k, k < 8 → (cel F)[2 + k]? = some (.int .i64 (F.r k))
  h : ∀ F k, k < 8 → (cel F)[10 + k]? = some (.int .i64 (F.h k))
  setPc : ∀ F v, (cel F).setIfInBounds 1 (.int .i64 v) = cel (F.setPc v)
  setSt : ∀ F v, (cel F).setIfInBounds 18 (.int .i64 v) = cel (F.setSt v)
  put : ∀ F k v, k < 8 → (cel F).setIfInBounds (2 + k) (.int .i64 v) = cel (F.put k v)
  hold : ∀ F k v, k < 8 → (cel F).setIfInBounds (10 + k) (.int .i64 v) = cel (F.hold k v)
  eq : cel = Frm.cells

theorem cel_is : Cel Frm.cells :=
  ⟨Frm.size, Frm.one, Frm.at_f, Frm.at_pc, Frm.at_st, fun F _ hk => F.at_r hk, fun F _ hk => F.at_h hk, Frm.pc_cells, Frm.st_cells, fun F _ v hk => F.put_cells v hk, fun F _ v hk => F.hold_cells v hk, rfl⟩

theorem heapA (w : World) (o : Obj) : (w.alloc o).heap[w.heap.size]? = some o := by
  show (w.heap.push o)[w.heap.size]? = some o
  simp
theorem heapB (w : World) (o o' : Obj) : ((w.alloc o).alloc o').heap[w.heap.size]? = some o := by
  rw [Below.heap_alloc _ _ _ (by simp)]
  exact heapA w o
theorem heapB' (w : World) (o o' : Obj) : ((w.alloc o).alloc o').heap[w.heap.size + 1]? = some o' := by
  have h := heapA (w.alloc o) o'
  simpa using h
theorem setRowA (w : World) (c c' : Array Value) (t : TypeId) : (w.alloc (.cells c t)).setRow w.heap.size c' = w.alloc (.cells c' t) := by
  simp only [World.setRow, World.alloc]
  congr 1
  apply Array.ext_getElem?
  intro i
  rw [Array.getElem?_modify]
  by_cases h : w.heap.size = i
  · subst h
    simp
  · have h' : ¬ i = w.heap.size := fun e => h e.symm
    simp [h, h', Array.getElem?_push]
theorem setRowB (w : World) (o : Obj) (c c' : Array Value) (t : TypeId) : ((w.alloc o).alloc (.cells c t)).setRow (w.heap.size + 1) c' = (w.alloc o).alloc (.cells c' t) := by
  have h := setRowA (w.alloc o) c c' t
  simpa using h

/-- The first task. -/
def Frm.root : Frm := ⟨0, 0, fun _ => 0, fun _ => -1, 0⟩

def zeros : Array Value := #[.int .i64 0, .int .i64 0, .int .i64 0, .int .i64 0, .int .i64 0, .int .i64 0, .int .i64 0, .int .i64 0, .int .i64 0, .int .i64 0, .int .i64 0, .int .i64 0, .int .i64 0, .int .i64 0, .int .i64 0, .int .i64 0, .int .i64 0, .int .i64 0, .int .i64 0]

theorem setRow_blk {w : World} {b : Nat} {c : Array Value} (h : Blk w b c) (c' : Array Value) : Blk (w.setRow b c') b c' := by
  obtain ⟨t, h⟩ := h
  refine ⟨t, ?_⟩
  simp [World.setRow, Array.getElem?_modify, h]
theorem setRow_fr {S : Nat → Prop} (w : World) (b : Nat) (c : Array Value) (h : S b) : Fr S w (w.setRow b c) :=
  ⟨rfl, rfl, rfl, by simp [World.setRow], fun k _ hn => by
    have hne : b ≠ k := fun e => hn (e ▸ h)
    simp [World.setRow, Array.getElem?_modify, hne]⟩

theorem infoF : (Tryd.prog.info? 59).map (·.size) = some 19 := by kernel_rfl
theorem infoR : (Tryd.prog.info? 56).map (·.size) = some 8 := by kernel_rfl
theorem infoH : (Tryd.prog.info? 57).map (·.size) = some 8 := by kernel_rfl

end Go.Proofs.YtpjcdjooiaefdaaDoor

/-
  Loads and stores of whole rows over blocks that are known, and results that lie in one.
-/
namespace Go.Proofs.YtpjcdjooiaefdaaDoor
open Go.RowKit

variable {P : Program}

/-- A store into a new block. -/
theorem Fr.over {a b c : World} (h : Fr (fun _ => False) a b) {g : Nat} (k : Fr (fun j => j = g) b c) (hg : a.heap.size ≤ g) : Fr (fun _ => False) a c :=
  h.since k (fun i hi hl => absurd hl (by omega))

/-- A whole row is loaded. -/
theorem row_load {ops : Array Oper} {rest : List Oper} {o : Oper} {a : Act} {w : World} {Q : Exit → Act → World → Prop} (hgd : o.guard = none) (ty : TypeId) (x : Operand) (ho : o.op = .load ty x)
    (g : Nat) (hx : a.eval x = .pointer (some ⟨g, 0, none⟩)) {cs : Array Value} {d : TypeDesc} (hB : Blk w g cs)
    (hu : P.underlying ty = some d) (hd : (match d with | .struct _ | .array _ _ => true | _ => false) = true) {n : Nat} (hi : (P.info? ty).map (·.size) = some n) (hn : cs.size = n)
    (h : wpList P ops Q rest (a.put o.dst (.agg cs)) w) : wpList P ops Q (o :: rest) a w := by
  obtain ⟨t, hB⟩ := hB
  exact wpList_load_row hgd ty x ho g hx t cs (0, 0) d hB hu hd (hi.trans (by rw [hn])) h

/-- A whole row is stored. -/
theorem row_store {ops : Array Oper} {rest : List Oper} {o : Oper} {a : Act} {w : World} {Q : Exit → Act → World → Prop} (hgd : o.guard = none) (ty : TypeId) (x y : Operand) (ho : o.op = .store ty x y)
    (g : Nat) (cells : Array Value) (hx : a.eval x = .pointer (some ⟨g, 0, none⟩)) (hy : a.eval y = .agg cells)
    {old : Array Value} (hB : Blk w g old) {n : Nat} (hi : (P.info? ty).map (·.size) = some n) (ho' : old.size = n) (hn : cells.size = n) (h1 : cells.all (·.oneCell') = true)
    (h : ∀ w', Blk w' g cells → Fr (fun k => k = g) w w' → wpList P ops Q rest (a.put o.dst undef) w') : wpList P ops Q (o :: rest) a w := by
  have hB' := hB
  obtain ⟨t, hB⟩ := hB
  exact wpList_store_row hgd ty x y ho g cells hx hy t old hB (hi.trans (by rw [hn])) (by rw [ho', hn]) h1 (h _ (setRow_blk hB' _) (setRow_fr _ _ _ rfl))

theorem res_one {fn : Func} {p : Tmp} {ty : TypeId} (h : fn.results = #[.cell p ty]) {tmps : Array Value} {w : World} {g : Nat} {cs : Array Value} {d : TypeDesc}
    (hp : tmps.getD p undef = .pointer (some ⟨g, 0, none⟩)) (hB : Blk w g cs)
    (hu : P.underlying ty = some d) (hd : (match d with | .struct _ | .array _ _ => true | _ => false) = true) {n : Nat} (hi : (P.info? ty).map (·.size) = some n) (hn : cs.size = n) :
    (results fn tmps).run P w = .ok (.agg cs) w := by
  obtain ⟨t, hB⟩ := hB
  exact results_cell_row h tmps w g t cs (0, 0) d hp hB hu hd (hi.trans (by rw [hn]))

theorem res_two {fn : Func} {p q : Tmp} {ty : TypeId} (h : fn.results = #[.cell p ty, .tmp q]) {tmps : Array Value} {w : World} {g : Nat} {cs : Array Value} {d : TypeDesc}
    (hp : tmps.getD p undef = .pointer (some ⟨g, 0, none⟩)) (hB : Blk w g cs)
    (hu : P.underlying ty = some d) (hd : (match d with | .struct _ | .array _ _ => true | _ => false) = true) {n : Nat} (hi : (P.info? ty).map (·.size) = some n) (hn : cs.size = n) {v : Value} (hq : tmps.getD q undef = v) :
    (results fn tmps).run P w = .ok (.tuple #[.agg cs, v]) w := by
  obtain ⟨t, hB⟩ := hB
  have hl := run_loadVar_row (P := P) w g t ty cs (0, 0) d hB hu hd (hi.trans (by rw [hn]))
  have hp' : tmps[p]?.getD undef = .pointer (some ⟨g, 0, none⟩) := by simpa using hp
  have hq' : tmps[q]?.getD undef = v := by simpa using hq
  simp [results, h, hp', hq', asAddr, hl]

theorem res_three {fn : Func} {p q q2 : Tmp} {ty : TypeId} (h : fn.results = #[.cell p ty, .tmp q, .tmp q2]) {tmps : Array Value} {w : World} {g : Nat} {cs : Array Value} {d : TypeDesc}
    (hp : tmps.getD p undef = .pointer (some ⟨g, 0, none⟩)) (hB : Blk w g cs)
    (hu : P.underlying ty = some d) (hd : (match d with | .struct _ | .array _ _ => true | _ => false) = true) {n : Nat} (hi : (P.info? ty).map (·.size) = some n) (hn : cs.size = n) {v v2 : Value} (hq : tmps.getD q undef = v) (hq2 : tmps.getD q2 undef = v2) :
    (results fn tmps).run P w = .ok (.tuple #[.agg cs, v, v2]) w := by
  obtain ⟨t, hB⟩ := hB
  have hl := run_loadVar_row (P := P) w g t ty cs (0, 0) d hB hu hd (hi.trans (by rw [hn]))
  have hp' : tmps[p]?.getD undef = .pointer (some ⟨g, 0, none⟩) := by simpa using hp
  have hq' : tmps[q]?.getD undef = v := by simpa using hq
  have hq2' : tmps[q2]?.getD undef = v2 := by simpa using hq2
  simp [results, h, hp', hq', hq2', asAddr, hl]

/-- A whole row stored, as a walk's simp leaves it. -/
theorem store_eq {w : World} {b : Nat} {c : Array Value} (hB : Blk w b zeros) (hs : c.size = 19) (h1 : c.all (·.oneCell') = true) :
    (storeCells ⟨b, 0, none⟩ c.toList 0).run P w = .ok () (w.setRow b c) := by
  obtain ⟨t, hB⟩ := hB
  exact run_storeCells_from (P := P) b t c.toList 0 zeros w hB (by simp [hs, zeros]) (fun v hv => (Array.all_eq_true_iff_forall_mem.1 h1) v (by simpa using hv))

/-- A whole row loaded, as a walk's simp leaves it. -/
theorem load_eq {w : World} {b : Nat} {c : Array Value} (hB : Blk w b c) {n : Nat} (hs : c.size = n) :
    (loadCellsFrom ⟨b, 0, none⟩ 0 n #[]).run P w = .ok c w := by
  subst hs
  have h := run_loadCells_list (P := P) w ⟨b, 0, none⟩ c.toList (fun j v hv => by
    rw [add_none, Nat.zero_add]
    exact hB.cell (by simpa using hv))
  simpa [loadCells] using h

/-- A whole row stored, as a walk's simp leaves it. -/
theorem store_at {w : World} {b : Nat} {old c : Array Value} (hB : Blk w b old) {n : Nat} (ho : old.size = n) (hs : c.size = n) (h1 : c.all (·.oneCell') = true) :
    (storeCells ⟨b, 0, none⟩ c.toList 0).run P w = .ok () (w.setRow b c) := by
  obtain ⟨t, hB⟩ := hB
  exact run_storeCells_from (P := P) b t c.toList 0 old w hB (by simp [hs, ho]) (fun v hv => (Array.all_eq_true_iff_forall_mem.1 h1) v (by simpa using hv))

/-- How many cells a task has, kept closed: so that a walk does not load them one by one. -/
theorem nineteen : ∃ N : Nat, N = 19 ∧ (∀ w, (sizeOf 59).run Tryd.prog w = .ok N w) ∧ True :=
  ⟨19, rfl, fun _ => by kernel_rfl, trivial⟩

end Go.Proofs.YtpjcdjooiaefdaaDoor

/-
  The small steps of a task: to, with, Passed; the document's To, With, On.
-/
namespace Go.Proofs.YtpjcdjooiaefdaaDoor
open Go.RowKit
set_option linter.unusedVariables false

set_option maxRecDepth 100000 in
theorem to_any {cel : Frm → Array Value} (hC : Cel cel) (F : Frm) (at_ : Int) (w : World) : Calls Tryd.prog 74 #[.agg (cel F), .int .i64 at_] w fun e w' => e = .returned (.agg (cel (F.to at_))) ∧ Fr (fun _ => False) w w' := by
  have hpc := hC.pc
  have hst := hC.st
  have spc := hC.setPc
  have sst := hC.setSt
  go_enter Tryd.func74, Tryd.ntmps74
  go_wp2_with (first
    | (refine wpList_load_row rfl 59 _ rfl _ rfl _ _ _ _ (by first | exact heapB _ _ _ | exact heapA _ _) Tryd.underlying59 rfl (infoF.trans (by rw [hC.size])) ?_)
    | (refine wpList_store_row rfl 59 _ _ rfl _ _ rfl rfl _ _ (by first | exact heapB' _ _ _ | exact heapA _ _) (infoF.trans (by rw [hC.size])) (by rw [hC.size]; rfl) (hC.one _) ?_; rw [setRowB]))
  exact bodyPost_ret (results_cell_row rfl _ _ _ _ _ _ _ rfl (heapB' _ _ _) Tryd.underlying59 rfl (infoF.trans (by rw [hC.size]))) rfl ⟨rfl, (Fr.alloc _ _ _).trans (Fr.alloc _ _ _)⟩

set_option maxRecDepth 100000 in
theorem with_any {cel : Frm → Array Value} (hC : Cel cel) (F : Frm) (k : Nat) (v : Int) (w : World) (hk : k < 8) : Calls Tryd.prog 65 #[.agg (cel F), .int .i64 k, .int .i64 v] w fun e w' => e = .returned (.agg (cel (F.put k v))) ∧ Fr (fun _ => False) w w' := by
  have hr := hC.r F k hk
  have sr := hC.put F k v hk
  have hb : (0 : Int) ≤ k ∧ (k : Int) < 8 := by omega
  go_enter Tryd.func65, Tryd.ntmps65
  go_wp2_with (first
    | (refine wpList_load_row rfl 59 _ rfl _ rfl _ _ _ _ (by first | exact heapB _ _ _ | exact heapA _ _) Tryd.underlying59 rfl (infoF.trans (by rw [hC.size])) ?_)
    | (refine wpList_store_row rfl 59 _ _ rfl _ _ rfl rfl _ _ (by first | exact heapB' _ _ _ | exact heapA _ _) (infoF.trans (by rw [hC.size])) (by rw [hC.size]; rfl) (hC.one _) ?_; rw [setRowB]))
  exact bodyPost_ret (results_cell_row rfl _ _ _ _ _ _ _ rfl (heapB' _ _ _) Tryd.underlying59 rfl (infoF.trans (by rw [hC.size]))) rfl ⟨rfl, (Fr.alloc _ _ _).trans (Fr.alloc _ _ _)⟩

set_option maxRecDepth 100000 in
theorem passed_any {cel : Frm → Array Value} (hC : Cel cel) (F : Frm) (w : World) : Calls Tryd.prog 53 #[.agg (cel F)] w fun e w' => e = .returned (.agg (cel F.on)) ∧ Fr (fun _ => False) w w' := by
  have hpc := hC.pc
  go_enter Tryd.func53, Tryd.ntmps53
  go_wp2_with (first
    | (refine wpList_load_row rfl 59 _ rfl _ rfl _ _ _ _ (by first | exact heapB _ _ _ | exact heapA _ _) Tryd.underlying59 rfl (infoF.trans (by rw [hC.size])) ?_))
  have hB := (Blk.new (w.alloc (.cells (cel F) 59)) zeros 59).at (show _ = w.heap.size + 1 by simp)
  unfold zeros at hB
  refine (to_any hC F _ _).mono ?_
  rintro e w2 ⟨rfl, hF2⟩
  have hB2 := hB.keep hF2 (fun h => h)
  clear hB
  go_wp2_with (refine row_store rfl 59 _ _ rfl _ _ rfl rfl hB2 infoF rfl (hC.size _) (hC.one _) ?_)
  intro w3 hB3 hF3
  go_wp2
  exact bodyPost_ret (res_one rfl rfl hB3 Tryd.underlying59 rfl infoF (hC.size _)) rfl ⟨rfl, (((Fr.alloc _ _ _).trans (Fr.alloc _ _ _)).trans hF2).over hF3 (Nat.le_succ _)⟩

end Go.Proofs.YtpjcdjooiaefdaaDoor

/-
  What the closures of Plain do, and bit.
-/
namespace Go.Proofs.YtpjcdjooiaefdaaDoor
open Go.RowKit
set_option linter.unusedVariables false

/-- An instruction that may be, as a row of cells. -/
def insC (o a b c n : Int) : Array Value := #[.int .i64 o, .int .i64 a, .int .i64 b, .int .i64 c, .int .i64 n]

/-- What 'put' is, in its box. -/
def putV (bf bi : Nat) : Value := .func (.func 64) #[] #[.pointer (some ⟨bf, 0, none⟩), .pointer (some ⟨bi, 0, none⟩)]

theorem bit_any (x : Bool) (w : World) : Calls Tryd.prog 72 #[.bool x] w fun e w' => e = .returned (.int .i64 (if x then 1 else 0)) ∧ w = w' := by
  cases x
  all_goals
    go_enter Tryd.func72, Tryd.ntmps72
    go_wp2
    go_ret
    exact ⟨rfl, rfl⟩

set_option maxRecDepth 100000 in
theorem put_ok {cel : Frm → Array Value} (hC : Cel cel) (F : Frm) (o a b c : Nat) (n v : Int) (bf bi : Nat) (w : World) (ha : a < 8) (hf : Blk w bf (cel F)) (hi : Blk w bi (insC o a b c n)) :
    Calls Tryd.prog 64 #[.int .i64 v, .pointer (some ⟨bf, 0, none⟩), .pointer (some ⟨bi, 0, none⟩)] w fun e w' => e = .returned (.agg (cel (F.put a v).on)) ∧ Fr (fun _ => False) w w' := by
  obtain ⟨w1, hw1⟩ : ∃ w1, w1 = w.alloc (.cells zeros 59) := ⟨_, rfl⟩
  have HA := hid (show Fr (fun _ => False) w w1 by rw [hw1]; exact Fr.alloc _ _ _)
  have HZ := hid (show Blk w1 w.heap.size zeros by rw [hw1]; exact Blk.new _ _ _)
  have hb1 := hf.keep HA.out (fun h => h)
  clear hf
  have hi1 := hi.keep HA.out (fun h => h)
  clear hi
  unfold zeros at hw1
  have q1 : w1.cell? ⟨bi, 1, none⟩ = some (.int .i64 a) := hi1.cell rfl
  go_enter Tryd.func64, Tryd.ntmps64
  go_upto_region 1 with fail
  rw [← hw1]
  clear hw1
  go_wp2_with (refine row_load rfl 59 _ rfl _ rfl hb1 Tryd.underlying59 rfl infoF (hC.size _) ?_)
  refine (with_any hC F a v w1 ha).mono ?_
  rintro e w2 ⟨rfl, hF2⟩
  go_wp2_with fail
  refine (passed_any hC _ _).mono ?_
  rintro e w3 ⟨rfl, hF3⟩
  have hz := HZ.out.keep (hF2.trans hF3) (fun h => h)
  go_wp2_with (refine row_store rfl 59 _ _ rfl _ _ rfl rfl hz infoF rfl (hC.size _) (hC.one _) ?_)
  intro w9 hB9 hF9
  go_wp2
  exact bodyPost_ret (res_one rfl rfl hB9 Tryd.underlying59 rfl infoF (hC.size _)) rfl ⟨rfl, (HA.out.trans (hF2.trans hF3)).over hF9 (Nat.le_refl _)⟩

set_option maxRecDepth 100000 in
theorem const_ok {cel : Frm → Array Value} (hC : Cel cel) (F : Frm) (o a b c : Nat) (n x y : Int) (bf bi bp bb bc : Nat) (w : World) (ha : a < 8) (hf : Blk w bf (cel F)) (hi : Blk w bi (insC o a b c n)) (hp : Blk w bp #[putV bf bi]) :
    Calls Tryd.prog 66 #[.pointer (some ⟨bp, 0, none⟩), .pointer (some ⟨bi, 0, none⟩)] w fun e w' => e = .returned (.agg (cel (F.put a (n)).on)) ∧ Fr (fun _ => False) w w' := by
  obtain ⟨w1, hw1⟩ : ∃ w1, w1 = w.alloc (.cells zeros 59) := ⟨_, rfl⟩
  have HA := hid (show Fr (fun _ => False) w w1 by rw [hw1]; exact Fr.alloc _ _ _)
  have HZ := hid (show Blk w1 w.heap.size zeros by rw [hw1]; exact Blk.new _ _ _)
  have hb1 := hf.keep HA.out (fun h => h)
  clear hf
  have hi1 := hi.keep HA.out (fun h => h)
  clear hi
  have hp1 := hp.keep HA.out (fun h => h)
  clear hp
  unfold zeros at hw1
  have qp : w1.cell? ⟨bp, 0, none⟩ = some (putV bf bi) := hp1.cell rfl
  unfold putV at qp
  have q4 : w1.cell? ⟨bi, 4, none⟩ = some (.int .i64 n) := hi1.cell rfl
  go_enter Tryd.func66, Tryd.ntmps66
  go_upto_region 1 with fail
  rw [← hw1]
  clear hw1
  go_wp2_with fail
  refine (put_ok hC F o a b c n _ bf bi w1 ha hb1 hi1).mono ?_
  rintro e w3 ⟨rfl, hF3⟩
  have hz := HZ.out.keep hF3 (fun h => h)
  go_wp2_with (refine row_store rfl 59 _ _ rfl _ _ rfl rfl hz infoF rfl (hC.size _) (hC.one _) ?_)
  intro w9 hB9 hF9
  go_wp2
  exact bodyPost_ret (res_one rfl rfl hB9 Tryd.underlying59 rfl infoF (hC.size _)) rfl ⟨rfl, (HA.out.trans hF3).over hF9 (Nat.le_refl _)⟩

set_option maxRecDepth 100000 in
theorem move_ok {cel : Frm → Array Value} (hC : Cel cel) (F : Frm) (o a b c : Nat) (n x y : Int) (bf bi bp bb bc : Nat) (w : World) (ha : a < 8) (hf : Blk w bf (cel F)) (hi : Blk w bi (insC o a b c n)) (hp : Blk w bp #[putV bf bi]) (hx : w.cell? ⟨bb, 0, none⟩ = some (.int .i64 x)) (hxl : bb < w.heap.size) :
    Calls Tryd.prog 67 #[.pointer (some ⟨bp, 0, none⟩), .pointer (some ⟨bb, 0, none⟩)] w fun e w' => e = .returned (.agg (cel (F.put a (x)).on)) ∧ Fr (fun _ => False) w w' := by
  obtain ⟨w1, hw1⟩ : ∃ w1, w1 = w.alloc (.cells zeros 59) := ⟨_, rfl⟩
  have HA := hid (show Fr (fun _ => False) w w1 by rw [hw1]; exact Fr.alloc _ _ _)
  have HZ := hid (show Blk w1 w.heap.size zeros by rw [hw1]; exact Blk.new _ _ _)
  have hb1 := hf.keep HA.out (fun h => h)
  clear hf
  have hi1 := hi.keep HA.out (fun h => h)
  clear hi
  have hp1 := hp.keep HA.out (fun h => h)
  clear hp
  unfold zeros at hw1
  have qx : w1.cell? ⟨bb, 0, none⟩ = some (.int .i64 x) := (cell_keep HA.out (p := ⟨bb, 0, none⟩) hxl (fun h => h)).trans hx
  clear hx
  have qp : w1.cell? ⟨bp, 0, none⟩ = some (putV bf bi) := hp1.cell rfl
  unfold putV at qp
  go_enter Tryd.func67, Tryd.ntmps67
  go_upto_region 1 with fail
  rw [← hw1]
  clear hw1
  go_wp2_with fail
  refine (put_ok hC F o a b c n _ bf bi w1 ha hb1 hi1).mono ?_
  rintro e w3 ⟨rfl, hF3⟩
  have hz := HZ.out.keep hF3 (fun h => h)
  go_wp2_with (refine row_store rfl 59 _ _ rfl _ _ rfl rfl hz infoF rfl (hC.size _) (hC.one _) ?_)
  intro w9 hB9 hF9
  go_wp2
  exact bodyPost_ret (res_one rfl rfl hB9 Tryd.underlying59 rfl infoF (hC.size _)) rfl ⟨rfl, (HA.out.trans hF3).over hF9 (Nat.le_refl _)⟩

set_option maxRecDepth 100000 in
theorem add_ok {cel : Frm → Array Value} (hC : Cel cel) (F : Frm) (o a b c : Nat) (n x y : Int) (bf bi bp bb bc : Nat) (w : World) (ha : a < 8) (hf : Blk w bf (cel F)) (hi : Blk w bi (insC o a b c n)) (hp : Blk w bp #[putV bf bi]) (hx : w.cell? ⟨bb, 0, none⟩ = some (.int .i64 x)) (hxl : bb < w.heap.size) (hy : w.cell? ⟨bc, 0, none⟩ = some (.int .i64 y)) (hyl : bc < w.heap.size) :
    Calls Tryd.prog 68 #[.pointer (some ⟨bp, 0, none⟩), .pointer (some ⟨bb, 0, none⟩), .pointer (some ⟨bc, 0, none⟩)] w fun e w' => e = .returned (.agg (cel (F.put a (wrap64 (x + y))).on)) ∧ Fr (fun _ => False) w w' := by
  obtain ⟨w1, hw1⟩ : ∃ w1, w1 = w.alloc (.cells zeros 59) := ⟨_, rfl⟩
  have HA := hid (show Fr (fun _ => False) w w1 by rw [hw1]; exact Fr.alloc _ _ _)
  have HZ := hid (show Blk w1 w.heap.size zeros by rw [hw1]; exact Blk.new _ _ _)
  have hb1 := hf.keep HA.out (fun h => h)
  clear hf
  have hi1 := hi.keep HA.out (fun h => h)
  clear hi
  have hp1 := hp.keep HA.out (fun h => h)
  clear hp
  unfold zeros at hw1
  have qy : w1.cell? ⟨bc, 0, none⟩ = some (.int .i64 y) := (cell_keep HA.out (p := ⟨bc, 0, none⟩) hyl (fun h => h)).trans hy
  clear hy
  have qx : w1.cell? ⟨bb, 0, none⟩ = some (.int .i64 x) := (cell_keep HA.out (p := ⟨bb, 0, none⟩) hxl (fun h => h)).trans hx
  clear hx
  have qp : w1.cell? ⟨bp, 0, none⟩ = some (putV bf bi) := hp1.cell rfl
  unfold putV at qp
  go_enter Tryd.func68, Tryd.ntmps68
  go_upto_region 1 with fail
  rw [← hw1]
  clear hw1
  go_wp2_with fail
  refine (put_ok hC F o a b c n _ bf bi w1 ha hb1 hi1).mono ?_
  rintro e w3 ⟨rfl, hF3⟩
  have hz := HZ.out.keep hF3 (fun h => h)
  go_wp2_with (refine row_store rfl 59 _ _ rfl _ _ rfl rfl hz infoF rfl (hC.size _) (hC.one _) ?_)
  intro w9 hB9 hF9
  go_wp2
  exact bodyPost_ret (res_one rfl rfl hB9 Tryd.underlying59 rfl infoF (hC.size _)) rfl ⟨rfl, (HA.out.trans hF3).over hF9 (Nat.le_refl _)⟩

set_option maxRecDepth 100000 in
theorem sub_ok {cel : Frm → Array Value} (hC : Cel cel) (F : Frm) (o a b c : Nat) (n x y : Int) (bf bi bp bb bc : Nat) (w : World) (ha : a < 8) (hf : Blk w bf (cel F)) (hi : Blk w bi (insC o a b c n)) (hp : Blk w bp #[putV bf bi]) (hx : w.cell? ⟨bb, 0, none⟩ = some (.int .i64 x)) (hxl : bb < w.heap.size) (hy : w.cell? ⟨bc, 0, none⟩ = some (.int .i64 y)) (hyl : bc < w.heap.size) :
    Calls Tryd.prog 69 #[.pointer (some ⟨bp, 0, none⟩), .pointer (some ⟨bb, 0, none⟩), .pointer (some ⟨bc, 0, none⟩)] w fun e w' => e = .returned (.agg (cel (F.put a (wrap64 (x - y))).on)) ∧ Fr (fun _ => False) w w' := by
  obtain ⟨w1, hw1⟩ : ∃ w1, w1 = w.alloc (.cells zeros 59) := ⟨_, rfl⟩
  have HA := hid (show Fr (fun _ => False) w w1 by rw [hw1]; exact Fr.alloc _ _ _)
  have HZ := hid (show Blk w1 w.heap.size zeros by rw [hw1]; exact Blk.new _ _ _)
  have hb1 := hf.keep HA.out (fun h => h)
  clear hf
  have hi1 := hi.keep HA.out (fun h => h)
  clear hi
  have hp1 := hp.keep HA.out (fun h => h)
  clear hp
  unfold zeros at hw1
  have qy : w1.cell? ⟨bc, 0, none⟩ = some (.int .i64 y) := (cell_keep HA.out (p := ⟨bc, 0, none⟩) hyl (fun h => h)).trans hy
  clear hy
  have qx : w1.cell? ⟨bb, 0, none⟩ = some (.int .i64 x) := (cell_keep HA.out (p := ⟨bb, 0, none⟩) hxl (fun h => h)).trans hx
  clear hx
  have qp : w1.cell? ⟨bp, 0, none⟩ = some (putV bf bi) := hp1.cell rfl
  unfold putV at qp
  go_enter Tryd.func69, Tryd.ntmps69
  go_upto_region 1 with fail
  rw [← hw1]
  clear hw1
  go_wp2_with fail
  refine (put_ok hC F o a b c n _ bf bi w1 ha hb1 hi1).mono ?_
  rintro e w3 ⟨rfl, hF3⟩
  have hz := HZ.out.keep hF3 (fun h => h)
  go_wp2_with (refine row_store rfl 59 _ _ rfl _ _ rfl rfl hz infoF rfl (hC.size _) (hC.one _) ?_)
  intro w9 hB9 hF9
  go_wp2
  exact bodyPost_ret (res_one rfl rfl hB9 Tryd.underlying59 rfl infoF (hC.size _)) rfl ⟨rfl, (HA.out.trans hF3).over hF9 (Nat.le_refl _)⟩

set_option maxRecDepth 100000 in
theorem mul_ok {cel : Frm → Array Value} (hC : Cel cel) (F : Frm) (o a b c : Nat) (n x y : Int) (bf bi bp bb bc : Nat) (w : World) (ha : a < 8) (hf : Blk w bf (cel F)) (hi : Blk w bi (insC o a b c n)) (hp : Blk w bp #[putV bf bi]) (hx : w.cell? ⟨bb, 0, none⟩ = some (.int .i64 x)) (hxl : bb < w.heap.size) (hy : w.cell? ⟨bc, 0, none⟩ = some (.int .i64 y)) (hyl : bc < w.heap.size) :
    Calls Tryd.prog 70 #[.pointer (some ⟨bp, 0, none⟩), .pointer (some ⟨bb, 0, none⟩), .pointer (some ⟨bc, 0, none⟩)] w fun e w' => e = .returned (.agg (cel (F.put a (wrap64 (x * y))).on)) ∧ Fr (fun _ => False) w w' := by
  obtain ⟨w1, hw1⟩ : ∃ w1, w1 = w.alloc (.cells zeros 59) := ⟨_, rfl⟩
  have HA := hid (show Fr (fun _ => False) w w1 by rw [hw1]; exact Fr.alloc _ _ _)
  have HZ := hid (show Blk w1 w.heap.size zeros by rw [hw1]; exact Blk.new _ _ _)
  have hb1 := hf.keep HA.out (fun h => h)
  clear hf
  have hi1 := hi.keep HA.out (fun h => h)
  clear hi
  have hp1 := hp.keep HA.out (fun h => h)
  clear hp
  unfold zeros at hw1
  have qy : w1.cell? ⟨bc, 0, none⟩ = some (.int .i64 y) := (cell_keep HA.out (p := ⟨bc, 0, none⟩) hyl (fun h => h)).trans hy
  clear hy
  have qx : w1.cell? ⟨bb, 0, none⟩ = some (.int .i64 x) := (cell_keep HA.out (p := ⟨bb, 0, none⟩) hxl (fun h => h)).trans hx
  clear hx
  have qp : w1.cell? ⟨bp, 0, none⟩ = some (putV bf bi) := hp1.cell rfl
  unfold putV at qp
  go_enter Tryd.func70, Tryd.ntmps70
  go_upto_region 1 with fail
  rw [← hw1]
  clear hw1
  go_wp2_with fail
  refine (put_ok hC F o a b c n _ bf bi w1 ha hb1 hi1).mono ?_
  rintro e w3 ⟨rfl, hF3⟩
  have hz := HZ.out.keep hF3 (fun h => h)
  go_wp2_with (refine row_store rfl 59 _ _ rfl _ _ rfl rfl hz infoF rfl (hC.size _) (hC.one _) ?_)
  intro w9 hB9 hF9
  go_wp2
  exact bodyPost_ret (res_one rfl rfl hB9 Tryd.underlying59 rfl infoF (hC.size _)) rfl ⟨rfl, (HA.out.trans hF3).over hF9 (Nat.le_refl _)⟩

set_option maxRecDepth 100000 in
theorem less_ok {cel : Frm → Array Value} (hC : Cel cel) (F : Frm) (o a b c : Nat) (n x y : Int) (bf bi bp bb bc : Nat) (w : World) (ha : a < 8) (hf : Blk w bf (cel F)) (hi : Blk w bi (insC o a b c n)) (hp : Blk w bp #[putV bf bi]) (hx : w.cell? ⟨bb, 0, none⟩ = some (.int .i64 x)) (hxl : bb < w.heap.size) (hy : w.cell? ⟨bc, 0, none⟩ = some (.int .i64 y)) (hyl : bc < w.heap.size) :
    Calls Tryd.prog 71 #[.pointer (some ⟨bp, 0, none⟩), .pointer (some ⟨bb, 0, none⟩), .pointer (some ⟨bc, 0, none⟩)] w fun e w' => e = .returned (.agg (cel (F.put a (if x < y then 1 else 0)).on)) ∧ Fr (fun _ => False) w w' := by
  have HF0 := hid hf
  have HI0 := hid hi
  have HP0 := hid hp
  have HX0 := hid hx
  have HY0 := hid hy
  obtain ⟨w1, hw1⟩ : ∃ w1, w1 = w.alloc (.cells zeros 59) := ⟨_, rfl⟩
  have HA := hid (show Fr (fun _ => False) w w1 by rw [hw1]; exact Fr.alloc _ _ _)
  have HZ := hid (show Blk w1 w.heap.size zeros by rw [hw1]; exact Blk.new _ _ _)
  have hb1 := hf.keep HA.out (fun h => h)
  clear hf
  have hi1 := hi.keep HA.out (fun h => h)
  clear hi
  have hp1 := hp.keep HA.out (fun h => h)
  clear hp
  unfold zeros at hw1
  have qy : w1.cell? ⟨bc, 0, none⟩ = some (.int .i64 y) := (cell_keep HA.out (p := ⟨bc, 0, none⟩) hyl (fun h => h)).trans hy
  clear hy
  have qx : w1.cell? ⟨bb, 0, none⟩ = some (.int .i64 x) := (cell_keep HA.out (p := ⟨bb, 0, none⟩) hxl (fun h => h)).trans hx
  clear hx
  have qp : w1.cell? ⟨bp, 0, none⟩ = some (putV bf bi) := hp1.cell rfl
  unfold putV at qp
  obtain ⟨t, ht⟩ : ∃ t : Int, t = if x < y then 1 else 0 := ⟨_, rfl⟩
  have hbit := fun w' => bit_any (decide (x < y)) w'
  rw [show (if decide (x < y) = true then (1 : Int) else 0) = t by rw [ht]; simp] at hbit
  rw [← ht]
  have HBIT := hid hbit
  clear hbit ht
  have HP := hid (fun (w' : World) (F' : Fr (fun _ => False) w w') => put_ok hC F o a b c n t bf bi w' ha (HF0.out.keep F' (fun h => h)) (HI0.out.keep F' (fun h => h)))
  have HS := hid (show ∀ w', Fr (fun _ => False) w w' → w'.cell? ⟨bp, 0, none⟩ = some (putV bf bi) ∧ w'.cell? ⟨bb, 0, none⟩ = some (.int .i64 x) ∧ w'.cell? ⟨bc, 0, none⟩ = some (.int .i64 y) from fun w' F' => ⟨(HP0.out.keep F' (fun h => h)).cell rfl, (cell_keep F' (p := ⟨bb, 0, none⟩) hxl (fun h => h)).trans HX0.out, (cell_keep F' (p := ⟨bc, 0, none⟩) hyl (fun h => h)).trans HY0.out⟩)
  unfold putV at HS
  have HFd := hid HA.out
  have HZ' := hid (fun (w' : World) (F' : Fr (fun _ => False) w1 w') => HZ.out.keep F' (fun h => h))
  have HG := hid (Fr.refl (fun _ => False) w1)
  clear hb1 hi1 hp1
  go_enter Tryd.func71, Tryd.ntmps71
  go_upto_region 1 with fail
  rw [← hw1]
  clear hw1
  go_region_held3 (fun w' => w'.cell? ⟨bp, 0, none⟩ = some (.func (.func 64) #[] #[.pointer (some ⟨bf, 0, none⟩), .pointer (some ⟨bi, 0, none⟩)]) ∧ w'.cell? ⟨bb, 0, none⟩ = some (.int .i64 x) ∧ w'.cell? ⟨bc, 0, none⟩ = some (.int .i64 y))
    (first | exact HS.out _ HFd.out | exact HS.out _ (HFd.out.trans (Fr.drew _ _)) | exact HS.out _ (HFd.out.over (setRow_fr _ _ _ rfl) (Nat.le_refl _)))
    (first
      | (go_at_call 72; (with_reducible refine (HBIT.out _).mono ?_); rintro e w6 ⟨rfl, rfl⟩)
      | (go_at_call 64; (with_reducible refine (HP.out _ (by first | exact HFd.out | exact HFd.out.trans (Fr.drew _ _))).mono ?_); rintro e w7 ⟨rfl, hF7⟩; have HG := hid (HG.out.trans (Fr.trans (by first | exact Fr.refl _ _ | exact Fr.drew _ _) hF7)); have HFd := hid (HFd.out.trans (Fr.trans (by first | exact Fr.refl _ _ | exact Fr.drew _ _) hF7)); have hst := store_eq (P := Tryd.prog) (HZ'.out _ HG.out) (hC.size (F.put a t).on) (hC.one _); have hsz := hC.size (F.put a t).on; clear hF7))
  all_goals
    go_wp2_with fail
    exact bodyPost_ret (res_one rfl rfl (setRow_blk (HZ'.out _ HG.out) _) Tryd.underlying59 rfl infoF (hC.size _)) rfl ⟨rfl, HFd.out.over (setRow_fr _ _ _ rfl) (Nat.le_refl _)⟩

set_option maxRecDepth 100000 in
theorem jump_ok {cel : Frm → Array Value} (hC : Cel cel) (F : Frm) (o a b c : Nat) (n : Int) (bf bi : Nat) (w : World) (hf : Blk w bf (cel F)) (hi : Blk w bi (insC o a b c n)) :
    Calls Tryd.prog 73 #[.pointer (some ⟨bf, 0, none⟩), .pointer (some ⟨bi, 0, none⟩)] w fun e w' => e = .returned (.agg (cel (F.to n))) ∧ Fr (fun _ => False) w w' := by
  obtain ⟨w1, hw1⟩ : ∃ w1, w1 = w.alloc (.cells zeros 59) := ⟨_, rfl⟩
  have HA := hid (show Fr (fun _ => False) w w1 by rw [hw1]; exact Fr.alloc _ _ _)
  have HZ := hid (show Blk w1 w.heap.size zeros by rw [hw1]; exact Blk.new _ _ _)
  have hb1 := hf.keep HA.out (fun h => h)
  clear hf
  have hi1 := hi.keep HA.out (fun h => h)
  clear hi
  unfold zeros at hw1
  have q4 : w1.cell? ⟨bi, 4, none⟩ = some (.int .i64 n) := hi1.cell rfl
  go_enter Tryd.func73, Tryd.ntmps73
  go_upto_region 1 with fail
  rw [← hw1]
  clear hw1
  go_wp2_with (refine row_load rfl 59 _ rfl _ rfl hb1 Tryd.underlying59 rfl infoF (hC.size _) ?_)
  refine (to_any hC F n w1).mono ?_
  rintro e w3 ⟨rfl, hF3⟩
  have hz := HZ.out.keep hF3 (fun h => h)
  go_wp2_with (refine row_store rfl 59 _ _ rfl _ _ rfl rfl hz infoF rfl (hC.size _) (hC.one _) ?_)
  intro w9 hB9 hF9
  go_wp2
  exact bodyPost_ret (res_one rfl rfl hB9 Tryd.underlying59 rfl infoF (hC.size _)) rfl ⟨rfl, (HA.out.trans hF3).over hF9 (Nat.le_refl _)⟩

set_option maxRecDepth 100000 in
theorem if_ok {cel : Frm → Array Value} (hC : Cel cel) (F : Frm) (o a b c : Nat) (n : Int) (bf bi : Nat) (w : World) (ha : a < 8) (hf : Blk w bf (cel F)) (hi : Blk w bi (insC o a b c n)) :
    Calls Tryd.prog 75 #[.pointer (some ⟨bf, 0, none⟩), .pointer (some ⟨bi, 0, none⟩)] w fun e w' => e = .returned (.agg (cel (if F.r a = 0 then F.on else F.to n))) ∧ Fr (fun _ => False) w w' := by
  obtain ⟨w1, hw1⟩ : ∃ w1, w1 = w.alloc (.cells zeros 59) := ⟨_, rfl⟩
  have HA := hid (show Fr (fun _ => False) w w1 by rw [hw1]; exact Fr.alloc _ _ _)
  have HZ := hid (show Blk w1 w.heap.size zeros by rw [hw1]; exact Blk.new _ _ _)
  have hb1 := hf.keep HA.out (fun h => h)
  clear hf
  have hi1 := hi.keep HA.out (fun h => h)
  clear hi
  unfold zeros at hw1
  have q1 : w1.cell? ⟨bi, 1, none⟩ = some (.int .i64 a) := hi1.cell rfl
  have q4 : w1.cell? ⟨bi, 4, none⟩ = some (.int .i64 n) := hi1.cell rfl
  have q5 : w1.cell? ⟨bf, 2 + a, none⟩ = some (.int .i64 (F.r a)) := hb1.cell (hC.r F a ha)
  have hb0 : (0 : Int) ≤ a ∧ (a : Int) < 8 := by omega
  obtain ⟨x, hx⟩ : ∃ x, F.r a = x := ⟨_, rfl⟩
  rw [hx] at q5 ⊢
  clear hx
  by_cases h0 : x = 0
  · subst h0
    rw [if_pos rfl]
    go_enter Tryd.func75, Tryd.ntmps75
    go_upto_region 1 with fail
    rw [← hw1]
    clear hw1
    go_wp2_with (refine row_load rfl 59 _ rfl _ rfl hb1 Tryd.underlying59 rfl infoF (hC.size _) ?_)
    refine (passed_any hC F w1).mono ?_
    rintro e w3 ⟨rfl, hF3⟩
    have hz := HZ.out.keep hF3 (fun h => h)
    go_wp2_with (refine row_store rfl 59 _ _ rfl _ _ rfl rfl hz infoF rfl (hC.size _) (hC.one _) ?_)
    intro w9 hB9 hF9
    go_wp2
    exact bodyPost_ret (res_one rfl rfl hB9 Tryd.underlying59 rfl infoF (hC.size _)) rfl ⟨rfl, (HA.out.trans hF3).over hF9 (Nat.le_refl _)⟩
  · rw [if_neg h0]
    have t0 : (x == 0) = false := beq_eq_false_iff_ne.2 h0
    go_enter Tryd.func75, Tryd.ntmps75
    go_upto_region 1 with fail
    rw [← hw1]
    clear hw1
    go_wp2_with (refine row_load rfl 59 _ rfl _ rfl hb1 Tryd.underlying59 rfl infoF (hC.size _) ?_)
    refine (to_any hC F n w1).mono ?_
    rintro e w3 ⟨rfl, hF3⟩
    have hz := HZ.out.keep hF3 (fun h => h)
    go_wp2_with (refine row_store rfl 59 _ _ rfl _ _ rfl rfl hz infoF rfl (hC.size _) (hC.one _) ?_)
    intro w9 hB9 hF9
    go_wp2
    exact bodyPost_ret (res_one rfl rfl hB9 Tryd.underlying59 rfl infoF (hC.size _)) rfl ⟨rfl, (HA.out.trans hF3).over hF9 (Nat.le_refl _)⟩

end Go.Proofs.YtpjcdjooiaefdaaDoor

/-
  When two rows of numbers, two tasks are the same.
-/
namespace Go.Proofs.YtpjcdjooiaefdaaDoor
open Go.RowKit

/-- The first n numbers are the same. -/
def sameN (n : Nat) (x y : Nat → Int) : Bool := (List.range n).all fun j => x j == y j

theorem sameN_self (n : Nat) (x : Nat → Int) : sameN n x x = true := by simp [sameN]

theorem run_equalIn_ints (P : Program) (w : World) (d : Nat) (t e : TypeId) (n : Nat) (ht : P.underlying t = some (.array n e)) (he : P.underlying e = some (.int .i64)) (hsz : ∀ w, (sizeOf e).run P w = .ok 1 w)
    (X Y : Array Value) (xs ys : Nat → Int) (hx : ∀ j, j < n → X[j]? = some (.int .i64 (xs j))) (hy : ∀ j, j < n → Y[j]? = some (.int .i64 (ys j))) :
    (Op.equalIn (d + 2) t (.agg X) (.agg Y)).run P w = .ok (sameN n xs ys) w := by
  rw [sameN, List.range_eq_range', Op.equalIn]
  simp only [Sem.run_bind, run_underlying ht, Result.andThen_ok, hsz, Std.Legacy.Range.forIn_eq_forIn_range', Std.Legacy.Range.size, Nat.sub_zero, Nat.add_sub_cancel, Nat.div_one]
  have hl : ∀ i ∈ List.range' 0 n 1, i < n := fun i hi => by simpa using (List.mem_range'_1.1 hi).2
  generalize List.range' 0 n 1 = l at hl ⊢
  induction l with
  | nil => simp
  | cons i l ih =>
    have hi : i < n := hl i (by simp)
    have px : (part e X (i * 1)).run P w = .ok (.int .i64 (xs i)) w := by
      rw [Nat.mul_one]
      simp [part, isAgg, run_underlying he, hx i hi]
    have py : (part e Y (i * 1)).run P w = .ok (.int .i64 (ys i)) w := by
      rw [Nat.mul_one]
      simp [part, isAgg, run_underlying he, hy i hi]
    have pe := run_equalIn_int (P := P) w d e .i64 .i64 (xs i) (ys i) he
    simp only [List.forIn_cons, Sem.run_bind, px, py, pe, Result.andThen_ok, List.all_cons]
    cases hb : (xs i == ys i)
    · simp
    · simp only [Bool.not_true, Bool.false_eq_true, if_false, Sem.run_pure, Result.andThen_ok, Bool.true_and]
      exact ih fun j hj => hl j (by simp [hj])

def row8 (x : Nat → Int) : Array Value := #[.int .i64 (x 0), .int .i64 (x 1), .int .i64 (x 2), .int .i64 (x 3), .int .i64 (x 4), .int .i64 (x 5), .int .i64 (x 6), .int .i64 (x 7)]
theorem row8_at (x : Nat → Int) (j : Nat) (h : j < 8) : (row8 x)[j]? = some (.int .i64 (x j)) := by
  rcases j with _ | _ | _ | _ | _ | _ | _ | _ | j
  all_goals first | rfl | omega

theorem size64 (w : World) : (sizeOf 2).run Tryd.prog w = .ok 1 w := by kernel_rfl
theorem sizeI (w : World) : (sizeOf 3).run Tryd.prog w = .ok 1 w := by kernel_rfl
theorem sizeR (w : World) : (sizeOf 56).run Tryd.prog w = .ok 8 w := by kernel_rfl
theorem sizeH (w : World) : (sizeOf 57).run Tryd.prog w = .ok 8 w := by kernel_rfl

theorem eqR (d : Nat) (x y : Nat → Int) (w : World) : (Op.equalIn (d + 2) 56 (.agg (row8 x)) (.agg (row8 y))).run Tryd.prog w = .ok (sameN 8 x y) w :=
  run_equalIn_ints _ w d _ _ 8 Tryd.underlying56 Tryd.underlying2 size64 _ _ x y (row8_at x) (row8_at y)
theorem eqH (d : Nat) (x y : Nat → Int) (w : World) : (Op.equalIn (d + 2) 57 (.agg (row8 x)) (.agg (row8 y))).run Tryd.prog w = .ok (sameN 8 x y) w :=
  run_equalIn_ints _ w d _ _ 8 Tryd.underlying57 Tryd.underlying3 sizeI _ _ x y (row8_at x) (row8_at y)

theorem bopR (x y : Nat → Int) (w : World) : (binOp .eql 56 (.agg (row8 x)) (.agg (row8 y))).run Tryd.prog w = .ok (.bool (sameN 8 x y)) w := by
  rw [run_eql_struct, eqR 9998 x y w]
  rfl
theorem bopH (x y : Nat → Int) (w : World) : (binOp .eql 57 (.agg (row8 x)) (.agg (row8 y))).run Tryd.prog w = .ok (.bool (sameN 8 x y)) w := by
  rw [run_eql_struct, eqH 9998 x y w]
  rfl
theorem bopRn (x y : Nat → Int) (w : World) : (binOp .neq 56 (.agg (row8 x)) (.agg (row8 y))).run Tryd.prog w = .ok (.bool (!sameN 8 x y)) w := by
  rw [run_neq_struct, eqR 9998 x y w]
  rfl
theorem bopHn (x y : Nat → Int) (w : World) : (binOp .neq 57 (.agg (row8 x)) (.agg (row8 y))).run Tryd.prog w = .ok (.bool (!sameN 8 x y)) w := by
  rw [run_neq_struct, eqH 9998 x y w]
  rfl

/-- Two tasks are the same. -/
def Frm.same (F G : Frm) : Bool := F.f == G.f && (F.pc == G.pc && (sameN 8 F.r G.r && (sameN 8 F.h G.h && F.st == G.st)))

theorem Frm.same_self (F : Frm) : F.same F = true := by simp [Frm.same, sameN_self]
theorem Frm.same_ne {F G : Frm} (h : F.st ≠ G.st) : F.same G = false := by
  have : (F.st == G.st) = false := beq_eq_false_iff_ne.2 h
  simp [Frm.same, this]

theorem frm_fields : Tryd.prog.underlying 59 = some (.struct (Tryd.prog.fieldsOf 59)) := by kernel_rfl
theorem frm_plain : Tryd.prog.stoodInHeld 59 = false := by kernel_rfl

theorem partR (F : Frm) (w : World) : (part 56 F.cells 2).run Tryd.prog w = .ok (.agg (row8 F.r)) w := by
  simp [part, isAgg, run_underlying Tryd.underlying56, Frm.cells, row8]
theorem partH (F : Frm) (w : World) : (part 57 F.cells 10).run Tryd.prog w = .ok (.agg (row8 F.h)) w := by
  simp [part, isAgg, run_underlying Tryd.underlying57, Frm.cells, row8]
theorem partI (F : Frm) (k : Nat) (x : Int) (h : F.cells[k]? = some (.int .i64 x)) (w : World) : (part 3 F.cells k).run Tryd.prog w = .ok (.int .i64 x) w := by
  simp [part, isAgg, run_underlying Tryd.underlying3, h]

theorem eqFrm (F G : Frm) (w : World) : (binOp .eql 59 (.agg F.cells) (.agg G.cells)).run Tryd.prog w = .ok (.bool (F.same G)) w := by
  rw [run_eql_struct, run_equalIn_struct w 9999 _ _ _ frm_fields frm_plain]
  have hf : (Tryd.prog.fieldsOf 59).toList.map (fun f => (f.name, f.type, f.offset)) = [("Func", 3, 0), ("PC", 3, 1), ("R", 56, 2), ("H", 57, 10), ("Steps", 3, 18)] := by kernel_rfl
  generalize (Tryd.prog.fieldsOf 59).toList = L at hf
  have hL : L.length = 5 := by
    have := congrArg List.length hf
    simpa using this
  match L, hL with
  | [f0, f1, f2, f3, f4], _ =>
    obtain ⟨n0, t0, o0⟩ : f0.name = "Func" ∧ f0.type = 3 ∧ f0.offset = 0 := by simp at hf; simp [hf]
    obtain ⟨n1, t1, o1⟩ : f1.name = "PC" ∧ f1.type = 3 ∧ f1.offset = 1 := by simp at hf; simp [hf]
    obtain ⟨n2, t2, o2⟩ : f2.name = "R" ∧ f2.type = 56 ∧ f2.offset = 2 := by simp at hf; simp [hf]
    obtain ⟨n3, t3, o3⟩ : f3.name = "H" ∧ f3.type = 57 ∧ f3.offset = 10 := by simp at hf; simp [hf]
    obtain ⟨n4, t4, o4⟩ : f4.name = "Steps" ∧ f4.type = 3 ∧ f4.offset = 18 := by simp at hf; simp [hf]
    have e0 := run_equalIn_int (P := Tryd.prog) w 9998 3 .i64 .i64 F.f G.f Tryd.underlying3
    have e1 := run_equalIn_int (P := Tryd.prog) w 9998 3 .i64 .i64 F.pc G.pc Tryd.underlying3
    have e2 := eqR 9997 F.r G.r w
    have e3 := eqH 9997 F.h G.h w
    have e4 := run_equalIn_int (P := Tryd.prog) w 9998 3 .i64 .i64 F.st G.st Tryd.underlying3
    simp only [Nat.reduceAdd] at e0 e1 e2 e3 e4
    have a0 := partI F 0 _ F.at_f w
    have a1 := partI F 1 _ F.at_pc w
    have a4 := partI F 18 _ F.at_st w
    have b0 := partI G 0 _ G.at_f w
    have b1 := partI G 1 _ G.at_pc w
    have b4 := partI G 18 _ G.at_st w
    simp only [Op.eqFields, n0, n1, n2, n3, n4, t0, t1, t2, t3, t4, o0, o1, o2, o3, o4, ne_eq, String.reduceEq, not_false_eq_true, if_true, Sem.run_bind, a0, b0, Result.andThen_ok, e0]
    unfold Frm.same
    cases F.f == G.f
    · simp [Result.andThen]
    · simp only [Bool.not_true, Bool.false_eq_true, if_false, Sem.run_bind, a1, b1, Result.andThen_ok, e1, Bool.true_and]
      cases F.pc == G.pc
      · simp [Result.andThen]
      · simp only [Bool.not_true, Bool.false_eq_true, if_false, Sem.run_bind, partR, Result.andThen_ok, e2, Bool.true_and]
        cases sameN 8 F.r G.r
        · simp [Result.andThen]
        · simp only [Bool.not_true, Bool.false_eq_true, if_false, Sem.run_bind, partH, Result.andThen_ok, e3, Bool.true_and]
          cases sameN 8 F.h G.h
          · simp [Result.andThen]
          · simp only [Bool.not_true, Bool.false_eq_true, if_false, Sem.run_bind, a4, b4, Result.andThen_ok, e4, Bool.true_and]
            cases F.st == G.st <;> simp [Result.andThen]

end Go.Proofs.YtpjcdjooiaefdaaDoor

/-
  May and is, the first task, the document's plain task, whether two are the same, and usual ones.
-/
namespace Go.Proofs.YtpjcdjooiaefdaaDoor
open Go.RowKit
set_option linter.unusedVariables false

set_option maxRecDepth 100000 in
theorem may_any (i : Ins) (w : World) (ht : Tabs w) : Calls Tryd.prog 63 #[i.val] w fun e w' => e = .returned (.bool (chk i == 0)) ∧ Fr (fun _ => False) w w' := by
  have HC := hid (check_any i)
  obtain ⟨x, hx⟩ : ∃ x, chk i = x := ⟨_, rfl⟩
  rw [hx] at HC ⊢
  unfold Ins.val at *
  have hA := Fr.alloc (fun _ => False) w (.cells #[.int .i64 i.op, .int .i64 i.a, .int .i64 i.b, .int .i64 i.c, .int .i64 i.n] 43)
  have hT := ht.same hA
  go_enter Tryd.func63, Tryd.ntmps63
  go_wp2_with fail
  refine (HC.out _ hT).mono ?_
  rintro e w2 ⟨rfl, hF2⟩
  go_wp2_with fail
  go_ret
  exact ⟨rfl, hA.trans hF2⟩

set_option maxRecDepth 100000 in
theorem is_any (i : Ins) (o : Int) (w : World) (ht : Tabs w) : Calls Tryd.prog 76 #[i.val, .int .i64 o] w fun e w' => e = .returned (.bool (i.op == o && chk i == 0)) ∧ Fr (fun _ => False) w w' := by
  have HC := hid (may_any i)
  obtain ⟨x, hx⟩ : ∃ x, (chk i == 0) = x := ⟨_, rfl⟩
  rw [hx] at HC ⊢
  unfold Ins.val at *
  obtain ⟨op, a, b, c, n⟩ := i
  simp only at *
  have hA := Fr.alloc (fun _ => False) w (.cells #[.int .i64 op, .int .i64 a, .int .i64 b, .int .i64 c, .int .i64 n] 43)
  have hT := ht.same hA
  rcases Bool.eq_false_or_eq_true (op == o) with h | h
  · rw [h, Bool.true_and]
    go_enter Tryd.func76, Tryd.ntmps76
    go_wp2_with fail
    refine (HC.out _ hT).mono ?_
    rintro e w2 ⟨rfl, hF2⟩
    go_wp2_with fail
    go_ret
    exact ⟨rfl, hA.trans hF2⟩
  · rw [h, Bool.false_and]
    go_enter Tryd.func76, Tryd.ntmps76
    go_wp2_with fail
    go_ret
    exact ⟨rfl, hA⟩

def none8 : Array Value := #[.int .i64 (-1), .int .i64 (-1), .int .i64 (-1), .int .i64 (-1), .int .i64 (-1), .int .i64 (-1), .int .i64 (-1), .int .i64 (-1)]

set_option maxRecDepth 100000 in
set_option maxHeartbeats 1000000 in
theorem empty_any (w : World) : Calls Tryd.prog 40 #[] w fun e w' => e = .returned (.agg none8) ∧ Fr (fun _ => False) w w' := by
  go_enter Tryd.func40, Tryd.ntmps40
  go_wp2
  refine wp_loop_rounds 9 ?_
  rw [rounds_succ]
  go_wp2
  rw [rounds_succ]
  go_wp2
  rw [rounds_succ]
  go_wp2
  rw [rounds_succ]
  go_wp2
  rw [rounds_succ]
  go_wp2
  rw [rounds_succ]
  go_wp2
  rw [rounds_succ]
  go_wp2
  rw [rounds_succ]
  go_wp2
  rw [rounds_succ]
  go_wp2
  exact bodyPost_ret (v := .agg none8) (by simp [results, Tryd.results40, go_sem]; try rfl) rfl ⟨rfl, (Fr.alloc _ _ _).trans (Fr.alloc _ _ _)⟩

/-- Some truth. -/
def SomeB (e : Ending) : Prop := ∃ b, e = .returned (.bool b)
theorem SomeB.mk (b : Bool) : SomeB (.returned (.bool b)) := ⟨b, rfl⟩

set_option maxRecDepth 100000 in
theorem root_any {cel : Frm → Array Value} (hC : Cel cel) (w : World) : Calls Tryd.prog 23 #[] w fun e w' => e = .returned (.agg (cel Frm.root)) ∧ Fr (fun _ => False) w w' := by
  have hr : #[.int .i64 0, .int .i64 0, .int .i64 0, .int .i64 0, .int .i64 0, .int .i64 0, .int .i64 0, .int .i64 0, .int .i64 0, .int .i64 0, .int .i64 (-1), .int .i64 (-1), .int .i64 (-1), .int .i64 (-1), .int .i64 (-1), .int .i64 (-1), .int .i64 (-1), .int .i64 (-1), .int .i64 0] = cel Frm.root := by rw [hC.eq]; rfl
  have hB := Blk.new w zeros 59
  unfold zeros at hB
  go_enter Tryd.func23, Tryd.ntmps23
  go_wp2_with fail
  refine (empty_any _).mono ?_
  rintro e w2 ⟨rfl, hF2⟩
  have hB2 := hB.keep hF2 (fun h => h)
  unfold none8
  clear hB
  go_wp2_with (refine row_store rfl 59 _ _ rfl _ _ rfl rfl hB2 infoF rfl (hC.size _) (hC.one _) ?_)
  intro w9 hB9 hF9
  go_wp2
  exact bodyPost_ret (res_one rfl rfl hB9 Tryd.underlying59 rfl infoF (hC.size _)) rfl ⟨rfl, ((Fr.alloc _ _ _).trans hF2).over hF9 (Nat.le_refl _)⟩

/-- The cells of a task by themselves. -/
theorem Cel.all {cel : Frm → Array Value} (hC : Cel cel) (F : Frm) {w : World} {b : Nat} (h : Blk w b (cel F)) :
    w.cell? ⟨b, 0, none⟩ = some (.int .i64 F.f) ∧ w.cell? ⟨b, 1, none⟩ = some (.int .i64 F.pc) ∧ w.cell? ⟨b, 18, none⟩ = some (.int .i64 F.st) :=
  ⟨h.cell (hC.f F), h.cell (hC.pc F), h.cell (hC.st F)⟩
theorem Cel.regs {cel : Frm → Array Value} (hC : Cel cel) (F : Frm) {w : World} {b : Nat} (h : Blk w b (cel F)) :
    w.cell? ⟨b, 2, none⟩ = some (.int .i64 (F.r 0)) ∧ w.cell? ⟨b, 3, none⟩ = some (.int .i64 (F.r 1)) ∧ w.cell? ⟨b, 4, none⟩ = some (.int .i64 (F.r 2)) ∧ w.cell? ⟨b, 5, none⟩ = some (.int .i64 (F.r 3)) ∧ w.cell? ⟨b, 6, none⟩ = some (.int .i64 (F.r 4)) ∧ w.cell? ⟨b, 7, none⟩ = some (.int .i64 (F.r 5)) ∧ w.cell? ⟨b, 8, none⟩ = some (.int .i64 (F.r 6)) ∧ w.cell? ⟨b, 9, none⟩ = some (.int .i64 (F.r 7)) :=
  ⟨h.cell (hC.r F 0 (by omega)), h.cell (hC.r F 1 (by omega)), h.cell (hC.r F 2 (by omega)), h.cell (hC.r F 3 (by omega)), h.cell (hC.r F 4 (by omega)), h.cell (hC.r F 5 (by omega)), h.cell (hC.r F 6 (by omega)), h.cell (hC.r F 7 (by omega))⟩
theorem Cel.hands {cel : Frm → Array Value} (hC : Cel cel) (F : Frm) {w : World} {b : Nat} (h : Blk w b (cel F)) :
    w.cell? ⟨b, 10, none⟩ = some (.int .i64 (F.h 0)) ∧ w.cell? ⟨b, 11, none⟩ = some (.int .i64 (F.h 1)) ∧ w.cell? ⟨b, 12, none⟩ = some (.int .i64 (F.h 2)) ∧ w.cell? ⟨b, 13, none⟩ = some (.int .i64 (F.h 3)) ∧ w.cell? ⟨b, 14, none⟩ = some (.int .i64 (F.h 4)) ∧ w.cell? ⟨b, 15, none⟩ = some (.int .i64 (F.h 5)) ∧ w.cell? ⟨b, 16, none⟩ = some (.int .i64 (F.h 6)) ∧ w.cell? ⟨b, 17, none⟩ = some (.int .i64 (F.h 7)) :=
  ⟨h.cell (hC.h F 0 (by omega)), h.cell (hC.h F 1 (by omega)), h.cell (hC.h F 2 (by omega)), h.cell (hC.h F 3 (by omega)), h.cell (hC.h F 4 (by omega)), h.cell (hC.h F 5 (by omega)), h.cell (hC.h F 6 (by omega)), h.cell (hC.h F 7 (by omega))⟩

/-- A middle row is loaded. -/
theorem mid_load {P : Program} {ops : Array Oper} {rest : List Oper} {o : Oper} {a : Act} {w : World} {Q : Exit → Act → World → Prop} (hgd : o.guard = none) (ty : TypeId) (x : Operand) (ho : o.op = .load ty x)
    (g k : Nat) (hx : a.eval x = .pointer (some ⟨g, k, none⟩)) {y : Nat → Int} {d : TypeDesc} (hB : ∀ j, j < 8 → w.cell? ⟨g, k + j, none⟩ = some (.int .i64 (y j)))
    (hu : P.underlying ty = some d) (hd : d.isRow = true) (hi : (P.info? ty).map (·.size) = some 8)
    (h : wpList P ops Q rest (a.put o.dst (.agg #[.int .i64 (y 0), .int .i64 (y 1), .int .i64 (y 2), .int .i64 (y 3), .int .i64 (y 4), .int .i64 (y 5), .int .i64 (y 6), .int .i64 (y 7)])) w) : wpList P ops Q (o :: rest) a w := by
  refine wpList_load_mid hgd ty x ho g k hx (row8 y).toList d (fun j v hv => ?_) hu hd hi h
  have hj : j < 8 := (List.getElem?_eq_some_iff.1 hv).1
  have := row8_at y j hj
  rw [Array.getElem?_toList, this] at hv
  rw [hB j hj, ← hv]

end Go.Proofs.YtpjcdjooiaefdaaDoor

/-
  Instructions that may be, in letters; what an instruction makes of a task.
-/
namespace Go.Proofs.YtpjcdjooiaefdaaDoor
open Go.RowKit

theorem ok_reg {o k : Nat} {x : Int} (h : bad o k x = false) (hk : k < 3) : 0 ≤ x ∧ x < 8 := by
  obtain ⟨h1, h2⟩ := not_bad h
  have hlo : ∀ o, o < 17 → ∀ k, k < 3 → lo o k = 0 ∧ hi o k ≤ 7 := by decide
  rcases Nat.lt_or_ge o 17 with ho | ho
  · obtain ⟨e1, e2⟩ := hlo o ho k hk
    omega
  · have e : kd o k = 0 := by
      unfold kd
      rw [List.getD_eq_getElem?_getD, List.getElem?_eq_none (by simp [kinds]; omega)]
      rfl
    simp only [lo, hi, e] at h1 h2
    have e1 : ends.getD (0 * 2) 0 = 0 := rfl
    have e2 : ends.getD (0 * 2 + 1) 0 = 0 := rfl
    omega

theorem chk_letters {i : Ins} (h : chk i = 0) : ∃ (o a b c : Nat) (n : Int), o ≤ 16 ∧ a < 8 ∧ b < 8 ∧ c < 8 ∧ i = ⟨o, a, b, c, n⟩ := by
  obtain ⟨op, a, b, c, n⟩ := i
  unfold chk at h
  split at h
  · omega
  · rename_i ho
    simp only at ho
    split at h
    · omega
    · rename_i hw
      simp only [Ins.wrong, Bool.or_eq_true, not_or, Bool.not_eq_true] at hw
      obtain ⟨⟨⟨h0, h1⟩, h2⟩, _⟩ := hw
      have r0 := ok_reg h0 (by omega)
      have r1 := ok_reg h1 (by omega)
      have r2 := ok_reg h2 (by omega)
      refine ⟨op.toNat, a.toNat, b.toNat, c.toNat, n, by omega, by omega, by omega, by omega, ?_⟩
      congr 1 <;> omega

/-- What a plain instruction makes of a task. -/
def Frm.did (F : Frm) (o a b c : Nat) (n : Int) : Frm :=
  match o with
  | 0 => (F.put a n).on
  | 1 => (F.put a (F.r b)).on
  | 2 => (F.put a (wrap64 (F.r b + F.r c))).on
  | 3 => (F.put a (wrap64 (F.r b - F.r c))).on
  | 4 => (F.put a (wrap64 (F.r b * F.r c))).on
  | 5 => (F.put a (if F.r b < F.r c then 1 else 0)).on
  | 6 => F.to n
  | 7 => if F.r a = 0 then F.on else F.to n
  | _ => F

theorem Frm.did_high (F : Frm) (o a b c : Nat) (n : Int) (h : 7 < o) : F.did o a b c n = F := by
  unfold Frm.did
  split
  all_goals first | omega | rfl

end Go.Proofs.YtpjcdjooiaefdaaDoor

/-
  Forked and Closed, the program's and the document's.
-/
namespace Go.Proofs.YtpjcdjooiaefdaaDoor
open Go.RowKit
set_option linter.unusedVariables false

/-- Whether an instruction is of that kind, and may be. -/
def isOp (i : Ins) (o : Int) : Bool := i.op == o && chk i == 0
theorem isOp_letters {i : Ins} {o : Int} (h : isOp i o = true) : ∃ (a b c : Nat) (n : Int), a < 8 ∧ b < 8 ∧ c < 8 ∧ i = ⟨o, a, b, c, n⟩ := by
  unfold isOp at h
  simp only [Bool.and_eq_true, beq_iff_eq] at h
  obtain ⟨h1, h2⟩ := h
  obtain ⟨o', a, b, c, n, _, ha, hb, hc, rfl⟩ := chk_letters h2
  exact ⟨a, b, c, n, ha, hb, hc, by rw [← h1]⟩

/-- The task behind a fork, and behind a close. -/
def Frm.forked (F : Frm) (i : Ins) (id : Int) : Frm := if isOp i 8 then (F.hold i.a.toNat id).on else F
def Frm.closed (F : Frm) (i : Ins) (asked : Bool) : Frm := if isOp i 12 then (F.put i.a.toNat (if asked then 1 else 0)).on else F

/-- Three blocks laid one after the other. -/
theorem three (w : World) (c0 c1 c2 : Array Value) (t0 t1 t2 : TypeId) : Fr (fun _ => False) w (((w.alloc (.cells c0 t0)).alloc (.cells c1 t1)).alloc (.cells c2 t2)) ∧
    Blk (((w.alloc (.cells c0 t0)).alloc (.cells c1 t1)).alloc (.cells c2 t2)) w.heap.size c0 ∧ Blk (((w.alloc (.cells c0 t0)).alloc (.cells c1 t1)).alloc (.cells c2 t2)) (w.heap.size + 1) c1 ∧ Blk (((w.alloc (.cells c0 t0)).alloc (.cells c1 t1)).alloc (.cells c2 t2)) (w.heap.size + 2) c2 :=
  ⟨((Fr.alloc _ _ _).trans (Fr.alloc _ _ _)).trans (Fr.alloc _ _ _), ((Blk.new _ _ _).alloc _).alloc _, ((Blk.new _ _ _).at (by simp)).alloc _, (Blk.new _ _ _).at (by simp)⟩

set_option maxRecDepth 100000 in
theorem fork_no {cel : Frm → Array Value} (hC : Cel cel) (F : Frm) (i : Ins) (id : Int) (w : World) (ht : Tabs w) (hk : isOp i 8 = false) :
    Calls Tryd.prog 51 #[.agg (cel F), i.val, .int .i64 id] w fun e w' => e = .returned (.agg (cel F)) ∧ Fr (fun _ => False) w w' := by
  have HM := hid (is_any i 8)
  unfold isOp at hk
  rw [hk] at HM
  unfold Ins.val at *
  obtain ⟨w1, hw1⟩ : ∃ w1, w1 = ((w.alloc (.cells (cel F) 59)).alloc (.cells #[.int .i64 i.op, .int .i64 i.a, .int .i64 i.b, .int .i64 i.c, .int .i64 i.n] 43)).alloc (.cells zeros 59) := ⟨_, rfl⟩
  obtain ⟨hA, hB, hI, hZ⟩ := three w (cel F) #[.int .i64 i.op, .int .i64 i.a, .int .i64 i.b, .int .i64 i.c, .int .i64 i.n] zeros 59 43 59
  rw [← hw1] at hA hB hI hZ
  unfold zeros at hw1
  have HA := hid hA
  have HB := hid hB
  have HI := hid hI
  have HZ := hid hZ
  have i0 := hI.cell (i := 0) rfl
  have i1 := hI.cell (i := 1) rfl
  have i2 := hI.cell (i := 2) rfl
  have i3 := hI.cell (i := 3) rfl
  have i4 := hI.cell (i := 4) rfl
  simp only [List.getElem_toArray, List.getElem_cons_zero, List.getElem_cons_succ] at i0 i1 i2 i3 i4
  clear hA hB hI hZ
  go_enter Tryd.func51, Tryd.ntmps51
  go_upto_region 1 with fail
  rw [← hw1]
  clear hw1
  go_wp2_with fail
  refine (HM.out _ (ht.same HA.out)).mono ?_
  rintro e w2 ⟨rfl, hF2⟩
  have HA2 := hid (HA.out.trans hF2)
  have HB2 := hid (HB.out.keep hF2 (fun h => h))
  have HI2 := hid (HI.out.keep hF2 (fun h => h))
  have HZ2 := hid (HZ.out.keep hF2 (fun h => h))
  clear HA HB HI HZ i0 i1 i2 i3 i4 hF2 HM
  go_wp2_with (first
    | (refine row_load rfl 59 _ rfl _ rfl HB2.out Tryd.underlying59 rfl infoF (hC.size _) ?_)
    | (refine row_store rfl 59 _ _ rfl _ _ rfl rfl HZ2.out infoF rfl (hC.size _) (hC.one _) ?_))
  intro w9 hB9 hF9
  go_wp2_with fail
  exact bodyPost_ret (res_one rfl rfl hB9 Tryd.underlying59 rfl infoF (hC.size _)) rfl ⟨rfl, (HA2.out).over hF9 (by omega)⟩

set_option maxRecDepth 100000 in
theorem fork_in {cel : Frm → Array Value} (hC : Cel cel) (F : Frm) (a b c : Nat) (n id : Int) (w : World) (ht : Tabs w) (hk : isOp ⟨8, a, b, c, n⟩ 8 = true) (ha : a < 8) :
    Calls Tryd.prog 51 #[.agg (cel F), Ins.val ⟨8, a, b, c, n⟩, .int .i64 id] w fun e w' => e = .returned (.agg (cel (F.hold a id).on)) ∧ Fr (fun _ => False) w w' := by
  have HM := hid (is_any ⟨8, a, b, c, n⟩ 8)
  unfold isOp at hk
  rw [hk] at HM
  unfold Ins.val at *
  simp only at *
  clear hk
  obtain ⟨w1, hw1⟩ : ∃ w1, w1 = ((w.alloc (.cells (cel F) 59)).alloc (.cells #[.int .i64 8, .int .i64 a, .int .i64 b, .int .i64 c, .int .i64 n] 43)).alloc (.cells zeros 59) := ⟨_, rfl⟩
  obtain ⟨hA, hB, hI, hZ⟩ := three w (cel F) #[.int .i64 8, .int .i64 a, .int .i64 b, .int .i64 c, .int .i64 n] zeros 59 43 59
  rw [← hw1] at hA hB hI hZ
  unfold zeros at hw1
  have HA := hid hA
  have HB := hid hB
  have HI := hid hI
  have HZ := hid hZ
  have i0 := hI.cell (i := 0) rfl
  have i1 := hI.cell (i := 1) rfl
  have i2 := hI.cell (i := 2) rfl
  have i3 := hI.cell (i := 3) rfl
  have i4 := hI.cell (i := 4) rfl
  simp only [List.getElem_toArray, List.getElem_cons_zero, List.getElem_cons_succ] at i0 i1 i2 i3 i4
  clear hA hB hI hZ
  go_enter Tryd.func51, Tryd.ntmps51
  go_upto_region 1 with fail
  rw [← hw1]
  clear hw1
  go_wp2_with fail
  refine (HM.out _ (ht.same HA.out)).mono ?_
  rintro e w2 ⟨rfl, hF2⟩
  have HA2 := hid (HA.out.trans hF2)
  have HB2 := hid (HB.out.keep hF2 (fun h => h))
  have HI2 := hid (HI.out.keep hF2 (fun h => h))
  have HZ2 := hid (HZ.out.keep hF2 (fun h => h))
  clear HA HB HI HZ i0 i1 i2 i3 i4 hF2 HM
  have j1 : w2.cell? ⟨w.heap.size + 1, 1, none⟩ = some (.int .i64 a) := HI2.out.cell rfl
  have r1 : w2.cell? ⟨w.heap.size, 10 + a, none⟩ = some (.int .i64 (F.h a)) := HB2.out.cell (hC.h F a ha)
  have r2 := HB2.out.frozen (10 + a)
  have hb : (0 : Int) ≤ a ∧ (a : Int) < 8 := by omega
  obtain ⟨w3, hw3⟩ : ∃ w3, w3 = w2.setCell ⟨w.heap.size, 10 + a, none⟩ (.int .i64 id) := ⟨_, rfl⟩
  have hB3 : Blk w3 w.heap.size (cel (F.hold a id)) := by
    have h := HB2.out.set (10 + a) (.int .i64 id)
    rw [hC.hold F a id ha] at h
    rw [hw3]
    exact h
  have hF3 : Fr (fun k => k = w.heap.size) w2 w3 := by rw [hw3]; exact Fr.setCell _ _ _ rfl
  have HZ3 := hid (HZ2.out.keep hF3 (show ¬ (w.heap.size + 2 = w.heap.size) by omega))
  have HA3 := hid (HA2.out.over hF3 (Nat.le_refl _))
  have HB3 := hid hB3
  clear hF3 hB3
  go_upto_region 4 with fail
  rw [← hw3]
  clear hw3
  go_wp2_with (refine row_load rfl 59 _ rfl _ rfl HB3.out Tryd.underlying59 rfl infoF (hC.size _) ?_)
  refine (passed_any hC _ _).mono ?_
  rintro e w4 ⟨rfl, hF4⟩
  have hZ4 := HZ3.out.keep hF4 (fun h => h)
  go_wp2_with (refine row_store rfl 59 _ _ rfl _ _ rfl rfl hZ4 infoF rfl (hC.size _) (hC.one _) ?_)
  intro w9 hB9 hF9
  go_wp2_with fail
  exact bodyPost_ret (res_one rfl rfl hB9 Tryd.underlying59 rfl infoF (hC.size _)) rfl ⟨rfl, (HA3.out.trans hF4).over hF9 (by omega)⟩

theorem fork_any {cel : Frm → Array Value} (hC : Cel cel) (F : Frm) (i : Ins) (id : Int) (w : World) (ht : Tabs w) :
    Calls Tryd.prog 51 #[.agg (cel F), i.val, .int .i64 id] w fun e w' => e = .returned (.agg (cel (F.forked i id))) ∧ Fr (fun _ => False) w w' := by
  unfold Frm.forked
  rcases Bool.eq_false_or_eq_true (isOp i 8) with h | h
  · obtain ⟨a, b, c, n, ha, hb, hc, rfl⟩ := isOp_letters h
    rw [if_pos h]
    exact fork_in hC F a b c n id w ht h ha
  · rw [if_neg (by rw [h]; simp)]
    exact fork_no hC F i id w ht h

set_option maxRecDepth 100000 in
theorem close_no {cel : Frm → Array Value} (hC : Cel cel) (F : Frm) (i : Ins) (x : Bool) (w : World) (ht : Tabs w) (hk : isOp i 12 = false) :
    Calls Tryd.prog 52 #[.agg (cel F), i.val, .bool x] w fun e w' => e = .returned (.agg (cel F)) ∧ Fr (fun _ => False) w w' := by
  have HM := hid (is_any i 12)
  unfold isOp at hk
  rw [hk] at HM
  unfold Ins.val at *
  obtain ⟨w1, hw1⟩ : ∃ w1, w1 = ((w.alloc (.cells (cel F) 59)).alloc (.cells #[.int .i64 i.op, .int .i64 i.a, .int .i64 i.b, .int .i64 i.c, .int .i64 i.n] 43)).alloc (.cells zeros 59) := ⟨_, rfl⟩
  obtain ⟨hA, hB, hI, hZ⟩ := three w (cel F) #[.int .i64 i.op, .int .i64 i.a, .int .i64 i.b, .int .i64 i.c, .int .i64 i.n] zeros 59 43 59
  rw [← hw1] at hA hB hI hZ
  unfold zeros at hw1
  have HA := hid hA
  have HB := hid hB
  have HI := hid hI
  have HZ := hid hZ
  have i0 := hI.cell (i := 0) rfl
  have i1 := hI.cell (i := 1) rfl
  have i2 := hI.cell (i := 2) rfl
  have i3 := hI.cell (i := 3) rfl
  have i4 := hI.cell (i := 4) rfl
  simp only [List.getElem_toArray, List.getElem_cons_zero, List.getElem_cons_succ] at i0 i1 i2 i3 i4
  clear hA hB hI hZ
  go_enter Tryd.func52, Tryd.ntmps52
  go_upto_region 1 with fail
  rw [← hw1]
  clear hw1
  go_wp2_with fail
  refine (HM.out _ (ht.same HA.out)).mono ?_
  rintro e w2 ⟨rfl, hF2⟩
  have HA2 := hid (HA.out.trans hF2)
  have HB2 := hid (HB.out.keep hF2 (fun h => h))
  have HI2 := hid (HI.out.keep hF2 (fun h => h))
  have HZ2 := hid (HZ.out.keep hF2 (fun h => h))
  clear HA HB HI HZ i0 i1 i2 i3 i4 hF2 HM
  go_wp2_with (first
    | (refine row_load rfl 59 _ rfl _ rfl HB2.out Tryd.underlying59 rfl infoF (hC.size _) ?_)
    | (refine row_store rfl 59 _ _ rfl _ _ rfl rfl HZ2.out infoF rfl (hC.size _) (hC.one _) ?_))
  intro w9 hB9 hF9
  go_wp2_with fail
  exact bodyPost_ret (res_one rfl rfl hB9 Tryd.underlying59 rfl infoF (hC.size _)) rfl ⟨rfl, (HA2.out).over hF9 (by omega)⟩

set_option maxRecDepth 100000 in
set_option maxHeartbeats 1000000 in
theorem close_in {cel : Frm → Array Value} (hC : Cel cel) (F : Frm) (a b c : Nat) (n : Int) (x : Bool) (w : World) (ht : Tabs w) (hk : isOp ⟨12, a, b, c, n⟩ 12 = true) (ha : a < 8) :
    Calls Tryd.prog 52 #[.agg (cel F), Ins.val ⟨12, a, b, c, n⟩, .bool x] w fun e w' => e = .returned (.agg (cel (F.put a (if x then 1 else 0)).on)) ∧ Fr (fun _ => False) w w' := by
  have HM := hid (is_any ⟨12, a, b, c, n⟩ 12)
  unfold isOp at hk
  rw [hk] at HM
  unfold Ins.val at *
  simp only at *
  clear hk
  obtain ⟨v, hv⟩ : ∃ v : Int, v = if x then 1 else 0 := ⟨_, rfl⟩
  have HBIT := hid (fun w' => bit_any x w')
  rw [← hv] at HBIT
  rw [← hv]
  clear hv
  obtain ⟨w1, hw1⟩ : ∃ w1, w1 = ((w.alloc (.cells (cel F) 59)).alloc (.cells #[.int .i64 12, .int .i64 a, .int .i64 b, .int .i64 c, .int .i64 n] 43)).alloc (.cells zeros 59) := ⟨_, rfl⟩
  obtain ⟨hA, hB, hI, hZ⟩ := three w (cel F) #[.int .i64 12, .int .i64 a, .int .i64 b, .int .i64 c, .int .i64 n] zeros 59 43 59
  rw [← hw1] at hA hB hI hZ
  unfold zeros at hw1
  have HA := hid hA
  have HB := hid hB
  have HI := hid hI
  have HZ := hid hZ
  have i0 := hI.cell (i := 0) rfl
  have i1 := hI.cell (i := 1) rfl
  have i2 := hI.cell (i := 2) rfl
  have i3 := hI.cell (i := 3) rfl
  have i4 := hI.cell (i := 4) rfl
  simp only [List.getElem_toArray, List.getElem_cons_zero, List.getElem_cons_succ] at i0 i1 i2 i3 i4
  clear hA hB hI hZ
  go_enter Tryd.func52, Tryd.ntmps52
  go_upto_region 1 with fail
  rw [← hw1]
  clear hw1
  go_wp2_with fail
  refine (HM.out _ (ht.same HA.out)).mono ?_
  rintro e w2 ⟨rfl, hF2⟩
  have HA2 := hid (HA.out.trans hF2)
  have HB2 := hid (HB.out.keep hF2 (fun h => h))
  have HI2 := hid (HI.out.keep hF2 (fun h => h))
  have HZ2 := hid (HZ.out.keep hF2 (fun h => h))
  clear HA HB HI HZ i0 i1 i2 i3 i4 hF2 HM
  have j1 : w2.cell? ⟨w.heap.size + 1, 1, none⟩ = some (.int .i64 a) := HI2.out.cell rfl
  obtain ⟨N, hN, hN1, hN2⟩ := nineteen
  have hsz : ∀ F, (cel F).size = N := fun F => by rw [hC.size, hN]
  have HN := hid hN
  clear hN
  have HS := hid (show ∀ w', Fr (fun k => k = w.heap.size + 2) w2 w' → w'.cell? ⟨w.heap.size + 1, 1, none⟩ = some (.int .i64 a) ∧ (loadCellsFrom ⟨w.heap.size, 0, none⟩ 0 N #[]).run Tryd.prog w' = .ok (cel F) w' from fun w' F' => ⟨(cell_keep F' (p := ⟨w.heap.size + 1, 1, none⟩) HI2.out.lt (show ¬ (w.heap.size + 1 = w.heap.size + 2) by omega)).trans j1, load_eq (HB2.out.keep F' (show ¬ (w.heap.size = w.heap.size + 2) by omega)) (hsz _)⟩)
  have HFd := hid (Fr.refl (fun k => k = w.heap.size + 2) w2)
  have HG := hid (Fr.refl (fun _ => False) w2)
  clear j1
  go_upto_region 3 with fail
  go_region_held3 (fun w' => w'.cell? ⟨w.heap.size + 1, 1, none⟩ = some (.int .i64 a) ∧ (loadCellsFrom ⟨w.heap.size, 0, none⟩ 0 N #[]).run Tryd.prog w' = .ok (cel F) w')
    (first | exact HS.out _ HFd.out | exact HS.out _ (HFd.out.trans (Fr.drew _ _)) | exact HS.out _ (HFd.out.trans (setRow_fr _ _ _ rfl)))
    (first
      | (go_at_call 72; (with_reducible refine (HBIT.out _).mono ?_); rintro e w5 ⟨rfl, rfl⟩)
      | (go_at_call 65; (with_reducible refine (with_any hC F a _ _ ha).mono ?_); rintro e w6 ⟨rfl, hF6⟩; have HG := hid (HG.out.trans (Fr.trans (by first | exact Fr.refl _ _ | exact Fr.drew _ _) hF6)); have HFd := hid (HFd.out.trans (Fr.trans (by first | exact Fr.refl _ _ | exact Fr.drew _ _) (hF6.mono (fun _ h => h.elim)))); clear hF6)
      | (go_at_call 53; (with_reducible refine (passed_any hC _ _).mono ?_); rintro e w7 ⟨rfl, hF7⟩; have HG := hid (HG.out.trans (Fr.trans (by first | exact Fr.refl _ _ | exact Fr.drew _ _) hF7)); have HFd := hid (HFd.out.trans (Fr.trans (by first | exact Fr.refl _ _ | exact Fr.drew _ _) (hF7.mono (fun _ h => h.elim)))); have hst := fun v => store_eq (P := Tryd.prog) (HZ2.out.keep HG.out (fun h => h)) (hC.size (F.put a v).on) (hC.one _); clear hF7))
  all_goals
    go_wp2_with fail
    exact bodyPost_ret (res_one rfl rfl (setRow_blk (HZ2.out.keep HG.out (fun h => h)) _) Tryd.underlying59 rfl infoF (hC.size _)) rfl ⟨rfl, (HA2.out.trans HG.out).over (setRow_fr _ _ _ rfl) (by omega)⟩

theorem close_any {cel : Frm → Array Value} (hC : Cel cel) (F : Frm) (i : Ins) (x : Bool) (w : World) (ht : Tabs w) :
    Calls Tryd.prog 52 #[.agg (cel F), i.val, .bool x] w fun e w' => e = .returned (.agg (cel (F.closed i x))) ∧ Fr (fun _ => False) w w' := by
  unfold Frm.closed
  rcases Bool.eq_false_or_eq_true (isOp i 12) with h | h
  · obtain ⟨a, b, c, n, ha, hb, hc, rfl⟩ := isOp_letters h
    rw [if_pos h]
    exact close_in hC F a b c n x w ht h ha
  · rw [if_neg (by rw [h]; simp)]
    exact close_no hC F i x w ht h

end Go.Proofs.YtpjcdjooiaefdaaDoor
