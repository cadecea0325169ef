/-
  Instructions as plain data: which may be, and their bytes.
-/
import Derived.WalkKit
import Derived.IntWalk
namespace Go.Proofs.YtpjcdjooiaefdaaDoor
open Go.RowKit

structure Ins where
  op : Int
  a : Int
  b : Int
  c : Int
  n : Int
  deriving DecidableEq

def Ins.cells (i : Ins) : List Value := [.int .i64 i.op, .int .i64 i.a, .int .i64 i.b, .int .i64 i.c, .int .i64 i.n]
def Ins.val (i : Ins) : Value := .agg #[.int .i64 i.op, .int .i64 i.a, .int .i64 i.b, .int .i64 i.c, .int .i64 i.n]
def Ins.zero : Ins := ⟨0, 0, 0, 0, 0⟩

/-- What the fields of each instruction are. -/
def kinds : List Nat := [1, 0, 0, 3, 1, 1, 0, 0, 1, 1, 1, 0, 1, 1, 1, 0, 1, 1, 1, 0, 1, 1, 1, 0, 0, 0, 0, 4, 1, 0, 0, 4, 2, 0, 0, 5, 1, 2, 0, 0, 1, 1, 2, 0, 0, 0, 0, 6, 1, 0, 0, 0, 0, 0, 0, 0, 0, 0, 0, 0, 1, 0, 0, 0, 1, 0, 0, 0]
/-- From where to where each kind goes. -/
def ends : List Int := [0, 0, 0, 7, 0, 7, -2147483648, 2147483647, 0, 127, 0, 31, 0, 65535]

def kd (op k : Nat) : Nat := kinds.getD (op * 4 + k) 0
def lo (op k : Nat) : Int := ends.getD (kd op k * 2) 0
def hi (op k : Nat) : Int := ends.getD (kd op k * 2 + 1) 0

theorem kd_lt (op k : Nat) : kd op k < 7 := by
  unfold kd
  rcases Nat.lt_or_ge (op * 4 + k) 68 with h | h
  · have : ∀ j, j < 68 → kinds.getD j 0 < 7 := by decide
    exact this _ h
  · rw [List.getD_eq_getElem?_getD, List.getElem?_eq_none (by simpa [kinds] using h)]
    decide

def bad (op k : Nat) (x : Int) : Bool := decide (x < lo op k) || decide (hi op k < x)

def Ins.fld (i : Ins) (k : Nat) : Int := [i.a, i.b, i.c, i.n].getD k 0

def Ins.wrong (i : Ins) : Bool := bad i.op.toNat 0 i.a || bad i.op.toNat 1 i.b || bad i.op.toNat 2 i.c || bad i.op.toNat 3 i.n

/-- What is wrong with an instruction. -/
def chk (i : Ins) : Int := if i.op < 0 ∨ 16 < i.op then 13 else if i.wrong then 10 else 0

/-- The cells of the tables. -/
structure Tabs (w : World) : Prop where
  two : 2 ≤ w.heap.size
  ops : ∀ j, j < 68 → w.cell? ⟨0, j, none⟩ = some (.int .i64 (kinds.getD j 0 : Nat))
  ends : ∀ j, j < 14 → w.cell? ⟨1, j, none⟩ = some (.int .i64 (ends.getD j 0))

def pt (op : Int) : Bool := op == 6 || op == 7 || op == 8 || op == 9 || op == 10 || op == 11 || op == 12 || op == 14

end Go.Proofs.YtpjcdjooiaefdaaDoor

/-
  Functions and programs as plain data; what is wrong with them.
-/
namespace Go.Proofs.YtpjcdjooiaefdaaDoor
open Go.RowKit

structure Fn where
  needs : Int
  code : List Ins

/-- What is wrong first with instructions. -/
def codeErr : List Ins → Int
  | [] => 0
  | i :: r => if chk i = 0 then codeErr r else chk i

def fnErr (f : Fn) : Int := if f.needs < 0 ∨ 255 < f.needs then 10 else if f.code.length < 1 ∨ 128 < f.code.length then 12 else codeErr f.code

def prgErr : List Fn → Int
  | [] => 0
  | f :: r => if fnErr f = 0 then prgErr r else fnErr f

def packErr (P : List Fn) : Int := if P.length < 1 ∨ 32 < P.length then 12 else prgErr P

theorem codeErr_take {l : List Ins} {k : Nat} {i : Ins} (h : codeErr (l.take k) = 0) (hk : l[k]? = some i) (hi : chk i ≠ 0) : codeErr l = chk i := by
  induction l generalizing k with
  | nil => simp at hk
  | cons a r ih =>
    cases k with
    | zero =>
      simp at hk
      subst hk
      simp [codeErr, hi]
    | succ k =>
      simp only [List.take_succ_cons, codeErr] at h
      simp only [List.getElem?_cons_succ] at hk
      split at h
      · rename_i ha
        simp only [codeErr, if_pos ha]
        exact ih h hk
      · contradiction

theorem codeErr_snoc {l : List Ins} {k : Nat} {i : Ins} (h : codeErr (l.take k) = 0) (hk : l[k]? = some i) (hi : chk i = 0) : codeErr (l.take (k + 1)) = 0 := by
  induction l generalizing k with
  | nil => simp at hk
  | cons a r ih =>
    cases k with
    | zero =>
      simp at hk
      subst hk
      simp [codeErr, hi]
    | succ k =>
      simp only [List.take_succ_cons, codeErr] at h ⊢
      simp only [List.getElem?_cons_succ] at hk
      split at h
      · rename_i ha
        rw [if_pos ha]
        exact ih h hk
      · contradiction

theorem prgErr_take {l : List Fn} {k : Nat} {i : Fn} (h : prgErr (l.take k) = 0) (hk : l[k]? = some i) (hi : fnErr i ≠ 0) : prgErr l = fnErr i := by
  induction l generalizing k with
  | nil => simp at hk
  | cons a r ih =>
    cases k with
    | zero =>
      simp at hk
      subst hk
      simp [prgErr, hi]
    | succ k =>
      simp only [List.take_succ_cons, prgErr] at h
      simp only [List.getElem?_cons_succ] at hk
      split at h
      · rename_i ha
        simp only [prgErr, if_pos ha]
        exact ih h hk
      · contradiction

theorem prgErr_snoc {l : List Fn} {k : Nat} {i : Fn} (h : prgErr (l.take k) = 0) (hk : l[k]? = some i) (hi : fnErr i = 0) : prgErr (l.take (k + 1)) = 0 := by
  induction l generalizing k with
  | nil => simp at hk
  | cons a r ih =>
    cases k with
    | zero =>
      simp at hk
      subst hk
      simp [prgErr, hi]
    | succ k =>
      simp only [List.take_succ_cons, prgErr] at h ⊢
      simp only [List.getElem?_cons_succ] at hk
      split at h
      · rename_i ha
        rw [if_pos ha]
        exact ih h hk
      · contradiction

theorem snoc_flat {α β : Type} {l : List α} {k : Nat} {x : α} (g : α → List β) (h : l[k]? = some x) : (l.take (k + 1)).flatMap g = (l.take k).flatMap g ++ g x := by
  obtain ⟨hl, hx⟩ := List.getElem?_eq_some_iff.1 h
  rw [List.take_succ_eq_append_getElem hl, List.flatMap_append, hx]
  simp

end Go.Proofs.YtpjcdjooiaefdaaDoor

/-
  What comes behind an instruction, depths, handles that are held: as plain data.
-/
namespace Go.Proofs.YtpjcdjooiaefdaaDoor
open Go.RowKit

/-! ### Bits -/

theorem bit_add_pow {m n : Nat} (hm : m < 2 ^ n) (h : Nat) : (m + 2 ^ n).testBit h = (decide (h = n) || m.testBit h) := by
  rw [Nat.add_comm]
  rcases Nat.lt_trichotomy h n with hl | rfl | hl
  · rw [Nat.testBit_two_pow_add_gt hl, decide_eq_false (by omega), Bool.false_or]
  · rw [Nat.testBit_two_pow_add_eq, Nat.testBit_lt_two_pow hm]
    simp
  · have h1 : 2 ^ n + m < 2 ^ h := by
      have : 2 ^ (n + 1) ≤ 2 ^ h := Nat.pow_le_pow_right (by omega) hl
      rw [Nat.pow_succ] at this
      omega
    rw [Nat.testBit_lt_two_pow h1, Nat.testBit_lt_two_pow (show m < 2 ^ h by omega), decide_eq_false (by omega), Bool.false_or]

/-- The number of which just those bits are set that p tells, of the first n. -/
def maskOf (p : Nat → Bool) : Nat → Nat
  | 0 => 0
  | n + 1 => maskOf p n + if p n then 2 ^ n else 0

theorem maskOf_lt (p : Nat → Bool) (n : Nat) : maskOf p n < 2 ^ n := by
  induction n with
  | zero => simp [maskOf]
  | succ n ih =>
    simp only [maskOf, Nat.pow_succ]
    split <;> omega

theorem maskOf_bit (p : Nat → Bool) (n h : Nat) : (maskOf p n).testBit h = (decide (h < n) && p h) := by
  induction n with
  | zero => simp [maskOf]
  | succ n ih =>
    simp only [maskOf]
    cases hp : p n with
    | false =>
      simp only [Bool.false_eq_true, if_false, Nat.add_zero, ih]
      rcases Nat.lt_trichotomy h n with hl | rfl | hl
      · rw [decide_eq_true hl, decide_eq_true (show h < n + 1 by omega)]
      · simp [hp]
      · rw [decide_eq_false (by omega), decide_eq_false (by omega)]
    | true =>
      simp only [if_true, bit_add_pow (maskOf_lt p n), ih]
      rcases Nat.lt_trichotomy h n with hl | rfl | hl
      · rw [decide_eq_true hl, decide_eq_true (show h < n + 1 by omega), decide_eq_false (show ¬ h = n by omega)]
        simp
      · simp [hp]
      · rw [decide_eq_false (show ¬ h < n by omega), decide_eq_false (show ¬ h < n + 1 by omega), decide_eq_false (show ¬ h = n by omega)]
        simp

theorem bit_high {a h : Nat} (ha : a < 256) (hh : 8 ≤ h) : a.testBit h = false :=
  Nat.testBit_lt_two_pow (Nat.lt_of_lt_of_le ha (by have : 2 ^ 8 ≤ 2 ^ h := Nat.pow_le_pow_right (by omega) hh; omega))

theorem mask_ext {a b : Nat} (ha : a < 256) (hb : b < 256) (h : ∀ i, i < 8 → a.testBit i = b.testBit i) : a = b :=
  Nat.eq_of_testBit_eq fun i => by
    rcases Nat.lt_or_ge i 8 with hi | hi
    · exact h i hi
    · rw [bit_high ha hi, bit_high hb hi]

theorem wrap_nat {a : Nat} (h : a < 256) : IntKind.i64.wrap (a : Int) = a := IntWalk.i64_in _ (by omega)

theorem and_nat {a b : Nat} (ha : a < 256) (hb : b < 256) : bits .and .i64 (a : Int) (b : Int) = ((a &&& b : Nat) : Int) := by
  unfold bits
  simp only [BitVec.ofInt_natCast, BitVec.toNat_and, BitVec.toNat_ofNat]
  have e : ∀ x : Nat, x < 256 → x % 2 ^ IntKind.i64.bits = x := fun x hx => Nat.mod_eq_of_lt (Nat.lt_trans hx (by decide))
  rw [e a ha, e b hb]
  exact wrap_nat (Nat.lt_of_le_of_lt Nat.and_le_left ha)

theorem or_lt {a b : Nat} (ha : a < 256) (hb : b < 256) : a ||| b < 256 := Nat.or_lt_two_pow (n := 8) ha hb
theorem and_lt {a b : Nat} (ha : a < 256) : a &&& b < 256 := Nat.lt_of_le_of_lt Nat.and_le_left ha

theorem or_nat {a b : Nat} (ha : a < 256) (hb : b < 256) : bits .or .i64 (a : Int) (b : Int) = ((a ||| b : Nat) : Int) := by
  unfold bits
  simp only [BitVec.ofInt_natCast, BitVec.toNat_or, BitVec.toNat_ofNat]
  have e : ∀ x : Nat, x < 256 → x % 2 ^ IntKind.i64.bits = x := fun x hx => Nat.mod_eq_of_lt (Nat.lt_trans hx (by decide))
  rw [e a ha, e b hb]
  exact wrap_nat (or_lt ha hb)

/-- The bits of a that b has not. -/
def less (a b : Nat) : Nat := a &&& (255 ^^^ b)

theorem less_bit (a b h : Nat) (hh : h < 8) : (less a b).testBit h = (a.testBit h && !b.testBit h) := by
  unfold less
  rw [Nat.testBit_and, Nat.testBit_xor, show (255 : Nat) = 2 ^ 8 - 1 from rfl, Nat.testBit_two_pow_sub_one, decide_eq_true hh]
  simp

theorem less_lt {a b : Nat} (ha : a < 256) : less a b < 256 := and_lt ha

theorem andNot_nat {a b : Nat} (ha : a < 256) : bits .andNot .i64 (a : Int) (b : Int) = ((less a b : Nat) : Int) := by
  unfold bits
  simp only [BitVec.ofInt_natCast, BitVec.toNat_and, BitVec.toNat_ofNat]
  have e : ∀ x : Nat, x < 256 → x % 2 ^ IntKind.i64.bits = x := fun x hx => Nat.mod_eq_of_lt (Nat.lt_trans hx (by decide))
  rw [e a ha]
  have e2 : a &&& (~~~ BitVec.ofNat IntKind.i64.bits b).toNat = less a b := by
    refine Nat.eq_of_testBit_eq fun i => ?_
    rcases Nat.lt_or_ge i 8 with hi | hi
    · rw [less_bit _ _ _ hi, Nat.testBit_and, BitVec.testBit_toNat]
      simp only [BitVec.getLsbD_not, BitVec.getLsbD_ofNat]
      rw [decide_eq_true (show i < IntKind.i64.bits by have : IntKind.i64.bits = 64 := rfl; omega)]
      simp
    · rw [bit_high (less_lt ha) hi, Nat.testBit_and, bit_high ha hi, Bool.false_and]
  rw [e2]
  exact wrap_nat (less_lt ha)

theorem and_all (x : Int) : bits .and .i64 x 255 = x % 256 := by
  unfold bits
  have e1 : (BitVec.ofInt IntKind.i64.bits 255).toNat = 2 ^ 8 - 1 := by decide
  have e2 : (BitVec.ofInt IntKind.i64.bits x).toNat = (x % 18446744073709551616).toNat := BitVec.toNat_ofInt ..
  simp only [BitVec.toNat_and]
  rw [e1, e2, Nat.and_two_pow_sub_one_eq_mod]
  rw [wrap_nat (by omega)]
  omega

theorem and_one (x : Int) : bits .and .i64 x 1 = x % 2 := by
  unfold bits
  have e1 : (BitVec.ofInt IntKind.i64.bits 1).toNat = 2 ^ 1 - 1 := by decide
  have e2 : (BitVec.ofInt IntKind.i64.bits x).toNat = (x % 18446744073709551616).toNat := BitVec.toNat_ofInt ..
  simp only [BitVec.toNat_and]
  rw [e1, e2, Nat.and_two_pow_sub_one_eq_mod]
  rw [wrap_nat (by omega)]
  omega

/-- The lowest eight bits of a number. -/
def low (x : Int) : Nat := (x % 256).toNat

theorem low_lt (x : Int) : low x < 256 := by unfold low; omega
theorem low_cast (x : Int) : ((low x : Nat) : Int) = x % 256 := by unfold low; omega
theorem low_nat {a : Nat} (h : a < 256) : low (a : Int) = a := by unfold low; omega
theorem low_of {x : Int} (h0 : 0 ≤ x) (h1 : x ≤ 255) : ((low x : Nat) : Int) = x := by unfold low; omega

theorem low_bit (x : Int) {h : Nat} (hh : h < 8) : ((x / 2 ^ h) % 2 = 1) = ((low x).testBit h = true) := by
  rw [Nat.testBit_eq_decide_div_mod_eq, decide_eq_true_eq]
  unfold low
  have hm : h = 0 ∨ h = 1 ∨ h = 2 ∨ h = 3 ∨ h = 4 ∨ h = 5 ∨ h = 6 ∨ h = 7 := by omega
  rcases hm with rfl | rfl | rfl | rfl | rfl | rfl | rfl | rfl <;> (refine propext ?_; simp only [Nat.reducePow, Int.reducePow]; omega)

theorem bit_is (x : Int) {h : Nat} (hh : h < 8) : (bits .and .i64 (x / 2 ^ h) 1 == 1) = (low x).testBit h := by
  rw [and_one, Bool.eq_iff_iff, beq_iff_eq, low_bit x hh]

/-! ### What comes behind -/

def isJ (i : Ins) : Bool := i.op == 6 || i.op == 7
def isP (i : Ins) : Bool := !(i.op == 6) && !(i.op == 16) && !(i.op == 15)

def bhdJ (l : List Ins) (i : Ins) : List Nat := if isJ i = true ∧ 0 ≤ i.n ∧ i.n < l.length then [i.n.toNat] else []
def bhdP (l : List Ins) (k : Nat) (i : Ins) : List Nat := if isP i = true ∧ k + 1 < l.length then [k + 1] else []

/-- What comes behind the k-th instruction. -/
def bhd (l : List Ins) (k : Nat) : List Nat := match l[k]? with
  | none => []
  | some i => bhdJ l i ++ bhdP l k i

theorem bhd_at {l : List Ins} {k : Nat} {i : Ins} (h : l[k]? = some i) : bhd l k = bhdJ l i ++ bhdP l k i := by
  unfold bhd
  rw [h]

theorem bhd_lt {l : List Ins} {k j : Nat} (h : j ∈ bhd l k) : j < l.length := by
  unfold bhd at h
  split at h
  · simp at h
  · rw [List.mem_append] at h
    rcases h with h | h
    · unfold bhdJ at h
      split at h
      · simp at h; omega
      · simp at h
    · unfold bhdP at h
      split at h
      · simp at h; omega
      · simp at h

theorem bhd_len (l : List Ins) (k : Nat) : (bhd l k).length ≤ 2 := by
  unfold bhd
  split
  · simp
  · rw [List.length_append]
    unfold bhdJ bhdP
    split <;> split <;> simp

/-- A Fork of handle h. -/
def forks (i : Ins) (h : Nat) : Prop := i.op = 8 ∧ i.a = h

/-- To the k-th instruction a way leads on which handle h is not forked ahead of it. -/
inductive Free (l : List Ins) (h : Nat) : Nat → Prop
  | start : 0 < l.length → Free l h 0
  | go {i j : Nat} {x : Ins} : Free l h i → l[i]? = some x → ¬ forks x h → j ∈ bhd l i → Free l h j

theorem Free.lt {l : List Ins} {h k : Nat} (H : Free l h k) : k < l.length := by
  cases H with
  | start h => exact h
  | go _ _ _ hj => exact bhd_lt hj

open Classical in
/-- Handle h is held at the k-th instruction. -/
noncomputable def holds (f : Fn) (k h : Nat) : Bool := (low f.needs).testBit h || !decide (Free f.code h k)

theorem holds_iff {f : Fn} {k h : Nat} : holds f k h = true ↔ ((low f.needs).testBit h = true ∨ ¬ Free f.code h k) := by
  unfold holds
  simp

theorem holds_not {f : Fn} {k h : Nat} : holds f k h = false ↔ ((low f.needs).testBit h = false ∧ Free f.code h k) := by
  unfold holds
  simp

/-- The handles that are held at the k-th instruction, as bits. -/
noncomputable def heldN (f : Fn) (k : Nat) : Nat := maskOf (holds f k) 8

theorem heldN_lt (f : Fn) (k : Nat) : heldN f k < 256 := maskOf_lt _ 8
theorem heldN_bit (f : Fn) (k : Nat) {h : Nat} (hh : h < 8) : (heldN f k).testBit h = holds f k h := by
  unfold heldN
  rw [maskOf_bit, decide_eq_true hh, Bool.true_and]

noncomputable def heldL (f : Fn) : List Nat := (List.range f.code.length).map (heldN f)

theorem heldL_len (f : Fn) : (heldL f).length = f.code.length := by simp [heldL]
theorem heldL_at (f : Fn) {k : Nat} (h : k < f.code.length) : (heldL f)[k]? = some (heldN f k) := by simp [heldL, h]

/-- What is held behind an instruction: what was, and what it forks. -/
theorem heldN_step {f : Fn} {i j h : Nat} {x : Ins} (hx : f.code[i]? = some x) (hj : j ∈ bhd f.code i) (hh : h < 8) (hb : (heldN f j).testBit h = true) : (heldN f i).testBit h = true ∨ forks x h := by
  by_cases hf : forks x h
  · exact .inr hf
  · refine .inl ?_
    rw [heldN_bit _ _ hh, holds_iff] at hb ⊢
    rcases hb with hb | hb
    · exact .inl hb
    · exact .inr fun hF => hb (.go hF hx hf hj)

theorem heldN_zero (f : Fn) (hl : 0 < f.code.length) : heldN f 0 = low f.needs := by
  refine mask_ext (heldN_lt _ _) (low_lt _) fun h hh => ?_
  rw [heldN_bit _ _ hh, Bool.eq_iff_iff, holds_iff]
  exact ⟨fun h => h.elim id (fun h => absurd (.start hl) h), .inl⟩

/-! ### Depths -/

def dstep (op d : Int) : Int := if op = 11 then d + 1 else if op = 12 then d - 1 else d

def dep (d : Int) : List Ins → List Int
  | [] => []
  | i :: r => d :: dep (dstep i.op d) r

def dend (d : Int) : List Ins → Int
  | [] => d
  | i :: r => dend (dstep i.op d) r

theorem dep_len (d : Int) (l : List Ins) : (dep d l).length = l.length := by
  induction l generalizing d with
  | nil => rfl
  | cons i r ih => simp [dep, ih]

theorem dend_snoc (d : Int) (l : List Ins) (i : Ins) : dend d (l ++ [i]) = dstep i.op (dend d l) := by
  induction l generalizing d with
  | nil => rfl
  | cons a r ih => simp [dend, ih]

theorem dep_snoc (d : Int) (l : List Ins) (i : Ins) : dep d (l ++ [i]) = dep d l ++ [dend d l] := by
  induction l generalizing d with
  | nil => rfl
  | cons a r ih => simp [dep, dend, ih]

theorem take_snoc' {α : Type} {l : List α} {k : Nat} {x : α} (h : l[k]? = some x) : l.take (k + 1) = l.take k ++ [x] := by
  obtain ⟨hl, hx⟩ := List.getElem?_eq_some_iff.1 h
  rw [List.take_succ_eq_append_getElem hl, hx]

theorem dep_at (d : Int) (l : List Ins) {k : Nat} (h : k < l.length) : (dep d l)[k]? = some (dend d (l.take k)) := by
  induction l generalizing d k with
  | nil => simp at h
  | cons a r ih =>
    cases k with
    | zero => simp [dep, dend]
    | succ k =>
      simp only [dep, List.getElem?_cons_succ, List.take_succ_cons, dend]
      exact ih _ (by simpa using h)

theorem dend_bound (d : Int) (l : List Ins) : d - l.length ≤ dend d l ∧ dend d l ≤ d + l.length := by
  induction l generalizing d with
  | nil => simp [dend]
  | cons a r ih =>
    have h := ih (dstep a.op d)
    have h2 : d - 1 ≤ dstep a.op d ∧ dstep a.op d ≤ d + 1 := by unfold dstep; split <;> (try split) <;> omega
    simp only [dend, List.length_cons]
    omega

/-- The depth of the k-th instruction. -/
def depN (l : List Ins) (k : Nat) : Int := dend 0 (l.take k)

theorem depN_zero (l : List Ins) : depN l 0 = 0 := rfl
theorem depN_succ {l : List Ins} {k : Nat} {x : Ins} (h : l[k]? = some x) : depN l (k + 1) = dstep x.op (depN l k) := by
  unfold depN
  rw [take_snoc' h, dend_snoc]
theorem depN_at {l : List Ins} {k : Nat} (h : k < l.length) : (dep 0 l)[k]? = some (depN l k) := dep_at 0 l h
theorem depN_bound (l : List Ins) (k : Nat) : -(l.length : Int) ≤ depN l k ∧ depN l k ≤ l.length := by
  have h := dend_bound 0 (l.take k)
  have : (l.take k).length ≤ l.length := by simp; omega
  unfold depN
  omega

/-! ### What is wrong with an instruction where it stands -/

def goalW (P : List Fn) (f : Fn) (x : Ins) : Bool := (isJ x && !decide (0 ≤ x.n ∧ x.n < f.code.length)) || (x.op == 8 && !decide (0 ≤ x.n ∧ x.n < P.length))
def endW (f : Fn) (k : Nat) (x : Ins) : Bool := decide (k + 1 = f.code.length) && isP x
def scopeW (f : Fn) (k : Nat) (x : Ins) : Bool :=
  ((x.op == 12 || x.op == 13) && decide (depN f.code k < 1)) || (x.op == 16 && !(depN f.code k == 0)) || (isJ x && !(depN f.code x.n.toNat == depN f.code k))

/-- The handles that an instruction takes. -/
def takes (P : List Fn) (x : Ins) : Nat :=
  if x.op = 9 then 2 ^ x.b.toNat else if x.op = 10 then 2 ^ x.c.toNat else if x.op = 8 then match P[x.n.toNat]? with
    | some g => low g.needs
    | none => 0
  else 0

noncomputable def handW (P : List Fn) (f : Fn) (k : Nat) (x : Ins) : Bool := !(less (takes P x) (heldN f k) == 0)

noncomputable def wrongAt (P : List Fn) (f : Fn) (k : Nat) (x : Ins) : Int :=
  if goalW P f x = true then 10 else if endW f k x = true then 11 else if scopeW f k x = true then 15 else if handW P f k x = true then 16 else 0

/-- A fault: the function, the instruction, how. -/
structure Flt where
  fn : Int
  at_ : Int
  code : Int
  deriving DecidableEq

def Flt.none : Flt := ⟨0, 0, 0⟩
def Flt.val (x : Flt) : Value := .agg #[.int .i64 x.fn, .int .i64 x.at_, .int .i64 x.code]

/-- The first of l at which something is wrong. -/
def firstW {α : Type} (g : Nat → α → Flt) (k : Nat) : List α → Flt
  | [] => Flt.none
  | x :: r => if g k x = Flt.none then firstW g (k + 1) r else g k x

theorem firstW_stop {α : Type} {g : Nat → α → Flt} {l : List α} {k0 k : Nat} {x : α} (h : firstW g k0 (l.take k) = Flt.none) (hk : l[k]? = some x) (hx : g (k0 + k) x ≠ Flt.none) : firstW g k0 l = g (k0 + k) x := by
  induction l generalizing k0 k with
  | nil => simp at hk
  | cons a r ih =>
    cases k with
    | zero =>
      simp at hk
      subst hk
      simp only [firstW]
      have hx : g k0 a ≠ Flt.none := hx
      rw [if_neg hx]
      rfl
    | succ k =>
      simp only [List.take_succ_cons, firstW] at h
      simp only [List.getElem?_cons_succ] at hk
      split at h
      · rename_i ha
        simp only [firstW, if_pos ha]
        rw [show k0 + (k + 1) = k0 + 1 + k by omega] at hx ⊢
        exact ih h hk hx
      · contradiction

theorem firstW_snoc {α : Type} {g : Nat → α → Flt} {l : List α} {k0 k : Nat} {x : α} (h : firstW g k0 (l.take k) = Flt.none) (hk : l[k]? = some x) (hx : g (k0 + k) x = Flt.none) : firstW g k0 (l.take (k + 1)) = Flt.none := by
  induction l generalizing k0 k with
  | nil => simp at hk
  | cons a r ih =>
    cases k with
    | zero =>
      simp at hk
      subst hk
      simp only [List.take_succ_cons, List.take_zero, firstW]
      rw [Nat.add_zero] at hx
      rw [if_pos hx]
    | succ k =>
      simp only [List.take_succ_cons, firstW] at h ⊢
      simp only [List.getElem?_cons_succ] at hk
      split at h
      · rename_i ha
        rw [if_pos ha]
        rw [show k0 + (k + 1) = k0 + 1 + k by omega] at hx
        exact ih h hk hx
      · contradiction

theorem firstW_none {α : Type} {g : Nat → α → Flt} {l : List α} {k0 : Nat} : firstW g k0 l = Flt.none ↔ ∀ k x, l[k]? = some x → g (k0 + k) x = Flt.none := by
  induction l generalizing k0 with
  | nil => simp [firstW]
  | cons a r ih =>
    simp only [firstW]
    constructor
    · intro h k x hk
      split at h
      · rename_i ha
        cases k with
        | zero => simp at hk; subst hk; exact ha
        | succ k => rw [show k0 + (k + 1) = k0 + 1 + k by omega]; exact ih.1 h k x (by simpa using hk)
      · contradiction
    · intro h
      have h0 := h 0 a rfl
      rw [Nat.add_zero] at h0
      rw [if_pos h0]
      exact ih.2 fun k x hk => by rw [show k0 + 1 + k = k0 + (k + 1) by omega]; exact h (k + 1) x (by simpa using hk)

theorem firstW_is {α : Type} {g : Nat → α → Flt} {l : List α} {k0 : Nat} (h : firstW g k0 l ≠ Flt.none) : ∃ k x, l[k]? = some x ∧ firstW g k0 l = g (k0 + k) x := by
  induction l generalizing k0 with
  | nil => exact absurd rfl h
  | cons a r ih =>
    simp only [firstW] at h ⊢
    split at h
    · rename_i ha
      rw [if_pos ha]
      obtain ⟨k, x, h1, h2⟩ := ih h
      exact ⟨k + 1, x, by simpa using h1, by rw [show k0 + (k + 1) = k0 + 1 + k by omega]; exact h2⟩
    · rename_i ha
      rw [if_neg ha]
      exact ⟨0, a, rfl, rfl⟩

/-- A fault of an error's number, or none. -/
def flt (k at_ : Int) (e : Int) : Flt := if e = 0 then Flt.none else ⟨k, at_, e⟩

theorem flt_none {k at_ e : Int} : flt k at_ e = Flt.none ↔ e = 0 := by
  unfold flt
  split
  · simp [*]
  · rename_i h
    simp only [Flt.none, Flt.mk.injEq]
    exact ⟨fun hh => absurd hh.2.2 h, fun hh => absurd hh h⟩

/-- A function by itself. -/
def shapeF (k : Nat) (f : Fn) : Flt :=
  if f.needs < 0 ∨ 255 < f.needs then ⟨k, -1, 10⟩ else if f.code.length < 1 ∨ 128 < f.code.length then ⟨k, -1, 12⟩ else firstW (fun j i => flt k j (chk i)) 0 f.code

noncomputable def flowF (P : List Fn) (k : Nat) (f : Fn) : Flt := firstW (fun j i => flt k j (wrongAt P f j i)) 0 f.code

def partsF (P : List Fn) : Flt := firstW shapeF 0 P
def rootF (P : List Fn) : Flt := match P[0]? with
  | some f => if f.needs = 0 then Flt.none else ⟨0, -1, 16⟩
  | none => Flt.none
noncomputable def flowsF (P : List Fn) : Flt := firstW (flowF P) 0 P
def sizeF (P : List Fn) : Flt := if P.length < 1 ∨ 32 < P.length then ⟨-1, -1, 12⟩ else Flt.none

/-- What is wrong first with a program. -/
noncomputable def prgF (P : List Fn) : Flt :=
  if sizeF P ≠ Flt.none then sizeF P else if partsF P ≠ Flt.none then partsF P else if rootF P ≠ Flt.none then rootF P else flowsF P

/-- Neither cancels nor opens a scope for a time. -/
def plainI (i : Ins) : Bool := !(i.op == 13) && !(i.op == 11 && !(i.n == 0))
def plainP (P : List Fn) : Bool := P.all fun f => f.code.all plainI

end Go.Proofs.YtpjcdjooiaefdaaDoor

/-
  The searches: the program's for all handles at once, the document's handle by handle.
-/
namespace Go.Proofs.YtpjcdjooiaefdaaDoor
open Go.RowKit

/-- What an instruction gives, as a bit. -/
def gv (i : Ins) : Nat := if i.op = 8 ∧ 0 ≤ i.a ∧ i.a < 8 then 2 ^ i.a.toNat else 0

theorem gv_lt (i : Ins) : gv i < 256 := by
  unfold gv
  split
  · rename_i h
    have h1 : 2 ^ i.a.toNat ≤ 2 ^ 7 := Nat.pow_le_pow_right (by omega) (by omega)
    omega
  · omega

theorem gv_bit {i : Ins} {h : Nat} (hh : h < 8) : (gv i).testBit h = true ↔ forks i h := by
  unfold gv forks
  split
  · rename_i hc
    rw [Nat.testBit_two_pow, decide_eq_true_eq]
    constructor
    · intro e; exact ⟨hc.1, by omega⟩
    · intro e; omega
  · rename_i hc
    simp only [Nat.zero_testBit, Bool.false_eq_true, false_iff]
    intro e
    exact hc ⟨e.1, by omega, by omega⟩

/-- What the search knows: S is still to be looked at. -/
structure HInv (f : Fn) (S : Nat → Prop) (H : List Nat) : Prop where
  len : H.length = f.code.length
  lt : ∀ (k a : Nat), H[k]? = some a → a < 256
  zero : ∀ (a h : Nat), H[0]? = some a → h < 8 → a.testBit h = true → (low f.needs).testBit h = true
  snd : ∀ (k a h : Nat), H[k]? = some a → h < 8 → a.testBit h = false → holds f k h = false
  cls : ∀ (i : Nat) (x : Ins) (a : Nat), ¬ S i → f.code[i]? = some x → H[i]? = some a → ∀ j ∈ bhd f.code i, ∀ b, H[j]? = some b → ∀ h, h < 8 → b.testBit h = true → a.testBit h = true ∨ forks x h

theorem HInv.fin {f : Fn} {H : List Nat} (I : HInv f (fun _ => False) H) : H = heldL f := by
  apply List.ext_getElem?
  intro k
  rcases Nat.lt_or_ge k f.code.length with hk | hk
  · obtain ⟨a, ha⟩ : ∃ a, H[k]? = some a := ⟨_, List.getElem?_eq_getElem (by rw [I.len]; exact hk)⟩
    rw [heldL_at f hk, ha]
    congr 1
    refine mask_ext (I.lt k a ha) (heldN_lt f k) fun h hh => ?_
    rw [heldN_bit f k hh]
    have key : ∀ k, Free f.code h k → (low f.needs).testBit h = false → ∀ a, H[k]? = some a → a.testBit h = false := by
      intro k hF hn
      induction hF with
      | start h0 =>
        intro a ha
        cases hb : a.testBit h with
        | false => rfl
        | true => have := I.zero a h ha hh hb; rw [hn] at this; cases this
      | go hi hx hf hj ih =>
        intro b hb
        cases hbb : b.testBit h with
        | false => rfl
        | true =>
          obtain ⟨c, hc⟩ : ∃ c, H[_]? = some c := ⟨_, List.getElem?_eq_getElem (by rw [I.len]; exact hi.lt)⟩
          rcases I.cls _ _ _ (fun h => h) hx hc _ hj _ hb h hh hbb with h1 | h1
          · rw [ih c hc] at h1; cases h1
          · exact absurd h1 hf
    cases hb : a.testBit h with
    | false => exact (I.snd k a h ha hh hb).symm
    | true =>
      cases hc : holds f k h with
      | true => rfl
      | false =>
        obtain ⟨h1, h2⟩ := holds_not.1 hc
        rw [key k h2 h1 a ha] at hb
        cases hb
  · rw [List.getElem?_eq_none (by rw [I.len]; exact hk), List.getElem?_eq_none (by rw [heldL_len]; exact hk)]

/-- Where the search begins. -/
theorem HInv.begin_ (f : Fn) : HInv f (fun i => i = 0) ((List.replicate f.code.length 255).set 0 (low f.needs)) := by
  have hat : ∀ k a, ((List.replicate f.code.length 255).set 0 (low f.needs))[k]? = some a → k < f.code.length ∧ ((k = 0 ∧ a = low f.needs) ∨ (k ≠ 0 ∧ a = 255)) := by
    intro k a h
    rw [List.getElem?_set] at h
    split at h
    · rename_i h0
      subst h0
      split at h
      · rename_i hl
        rw [List.length_replicate] at hl
        simp at h
        exact ⟨hl, .inl ⟨rfl, h.symm⟩⟩
      · cases h
    · rename_i h0
      rw [List.getElem?_replicate] at h
      split at h
      · simp at h
        exact ⟨by assumption, .inr ⟨fun e => h0 e.symm, h.symm⟩⟩
      · cases h
  have all : ∀ h, h < 8 → (255 : Nat).testBit h = true := by decide
  refine ⟨by simp, fun k a h => ?_, fun a h ha hh hb => ?_, fun k a h ha hh hb => ?_, fun i x a hS hx ha j hj b hb h hh hbb => ?_⟩
  · rcases (hat k a h).2 with ⟨_, rfl⟩ | ⟨_, rfl⟩
    · exact low_lt _
    · omega
  · rcases (hat 0 a ha).2 with ⟨_, rfl⟩ | ⟨h0, _⟩
    · exact hb
    · exact absurd rfl h0
  · obtain ⟨hl, ⟨rfl, rfl⟩ | ⟨_, rfl⟩⟩ := hat k a ha
    · exact holds_not.2 ⟨hb, .start hl⟩
    · rw [all h hh] at hb; cases hb
  · rcases (hat i a ha).2 with ⟨rfl, _⟩ | ⟨_, rfl⟩
    · exact absurd rfl hS
    · exact .inl (all h hh)

theorem HInv.mono {f : Fn} {S T : Nat → Prop} {H : List Nat} (I : HInv f S H) (h : ∀ i, S i → T i) : HInv f T H :=
  ⟨I.len, I.lt, I.zero, I.snd, fun i x a hT => I.cls i x a (fun hS => hT (h i hS))⟩

/-- What the search knows while it looks at what comes behind the at_-th instruction; pre has been looked at. -/
structure HIn (f : Fn) (S : Nat → Prop) (at_ : Nat) (x : Ins) (a : Nat) (pre : List Nat) (H : List Nat) : Prop where
  inv : HInv f (fun i => S i ∨ i = at_) H
  ins : f.code[at_]? = some x
  cur : H[at_]? = some a
  part : ∀ j ∈ pre, ∀ b, H[j]? = some b → ∀ h, h < 8 → b.testBit h = true → a.testBit h = true ∨ forks x h

theorem HIn.begin_ {f : Fn} {S : Nat → Prop} {at_ : Nat} {x : Ins} {a : Nat} {H : List Nat} (I : HInv f (fun i => S i ∨ i = at_) H) (hx : f.code[at_]? = some x) (ha : H[at_]? = some a) : HIn f S at_ x a [] H :=
  ⟨I, hx, ha, fun j hj => by simp at hj⟩

theorem come_bit {a h : Nat} {x : Ins} (hh : h < 8) : (a ||| gv x).testBit h = true ↔ (a.testBit h = true ∨ forks x h) := by
  rw [Nat.testBit_or, Bool.or_eq_true, gv_bit hh]

theorem HIn.same {f : Fn} {S : Nat → Prop} {at_ : Nat} {x : Ins} {a : Nat} {pre H : List Nat} (I : HIn f S at_ x a pre H) {j b : Nat} (hb : H[j]? = some b) (he : b &&& (a ||| gv x) = b) : HIn f S at_ x a (pre ++ [j]) H := by
  refine ⟨I.inv, I.ins, I.cur, fun j' hj' b' hb' h hh hbb => ?_⟩
  rw [List.mem_append] at hj'
  rcases hj' with hj' | hj'
  · exact I.part j' hj' b' hb' h hh hbb
  · simp at hj'
    subst hj'
    rw [hb] at hb'
    cases hb'
    rw [← he, Nat.testBit_and, Bool.and_eq_true] at hbb
    exact (come_bit hh).1 hbb.2

theorem HIn.other {f : Fn} {S : Nat → Prop} {at_ : Nat} {x : Ins} {a : Nat} {pre H : List Nat} (I : HIn f S at_ x a pre H) {j b : Nat} (hb : H[j]? = some b) (he : b &&& (a ||| gv x) ≠ b) : j ≠ at_ := by
  rintro rfl
  rw [I.cur] at hb
  cases hb
  refine he (mask_ext (and_lt (I.inv.lt _ _ I.cur)) (I.inv.lt _ _ I.cur) fun h hh => ?_)
  rw [Nat.testBit_and, Bool.eq_iff_iff, Bool.and_eq_true, come_bit hh]
  exact ⟨fun h => h.1, fun h => ⟨h, .inl h⟩⟩

theorem HIn.set {f : Fn} {S : Nat → Prop} {at_ : Nat} {x : Ins} {a : Nat} {pre H : List Nat} (I : HIn f S at_ x a pre H) {j b : Nat} (hj : j ∈ bhd f.code at_) (hb : H[j]? = some b) (he : b &&& (a ||| gv x) ≠ b) :
    HIn f (fun i => S i ∨ i = j) at_ x a (pre ++ [j]) (H.set j (b &&& (a ||| gv x))) := by
  have hne := I.other hb he
  have hjl := (List.getElem?_eq_some_iff.1 hb).1
  have hat : ∀ k c, (H.set j (b &&& (a ||| gv x)))[k]? = some c → (k = j ∧ c = b &&& (a ||| gv x)) ∨ (k ≠ j ∧ H[k]? = some c) := by
    intro k c h
    rw [List.getElem?_set] at h
    split at h
    · rename_i h0
      subst h0
      simp at h
      exact .inl ⟨rfl, h.symm⟩
    · rename_i h0
      exact .inr ⟨fun e => h0 e.symm, h⟩
  have sub : ∀ h, (b &&& (a ||| gv x)).testBit h = true → b.testBit h = true := fun h hc => by
    rw [Nat.testBit_and, Bool.and_eq_true] at hc
    exact hc.1
  have sub2 : ∀ h, h < 8 → (b &&& (a ||| gv x)).testBit h = true → a.testBit h = true ∨ forks x h := fun h hh hc => by
    rw [Nat.testBit_and, Bool.and_eq_true] at hc
    exact (come_bit hh).1 hc.2
  refine ⟨⟨by rw [List.length_set]; exact I.inv.len, fun k c hc => ?_, fun c h hc hh hcb => ?_, fun k c h hc hh hcb => ?_, fun i y c hS hy hc j' hj' d hd h hh hdb => ?_⟩, I.ins, ?_, fun j' hj' d hd h hh hdb => ?_⟩
  · rcases hat k c hc with ⟨_, rfl⟩ | ⟨_, hc⟩
    · exact and_lt (I.inv.lt _ _ hb)
    · exact I.inv.lt _ _ hc
  · rcases hat 0 c hc with ⟨h0, rfl⟩ | ⟨_, hc⟩
    · subst h0
      exact I.inv.zero b h hb hh (sub h hcb)
    · exact I.inv.zero c h hc hh hcb
  · rcases hat k c hc with ⟨rfl, rfl⟩ | ⟨_, hc⟩
    · rw [Nat.testBit_and, Bool.and_eq_false_iff] at hcb
      rcases hcb with hcb | hcb
      · exact I.inv.snd _ b h hb hh hcb
      · have h1 : ¬ (a.testBit h = true ∨ forks x h) := fun e => by rw [(come_bit hh).2 e] at hcb; cases hcb
        have h2 : a.testBit h = false := by
          cases e : a.testBit h with
          | false => rfl
          | true => exact absurd (.inl e) h1
        obtain ⟨h3, h4⟩ := holds_not.1 (I.inv.snd at_ a h I.cur hh h2)
        exact holds_not.2 ⟨h3, .go h4 I.ins (fun e => h1 (.inr e)) hj⟩
    · exact I.inv.snd k c h hc hh hcb
  · have hij : i ≠ j := fun e => hS (.inl (.inr e))
    rcases hat i c hc with ⟨e, _⟩ | ⟨_, hc2⟩
    · exact absurd e hij
    · have hS' : ¬ (S i ∨ i = at_) := fun e => hS (e.elim (fun e => .inl (.inl e)) .inr)
      rcases hat j' d hd with ⟨rfl, rfl⟩ | ⟨_, hd⟩
      · exact I.inv.cls i y c hS' hy hc2 _ hj' b hb h hh (sub h hdb)
      · exact I.inv.cls i y c hS' hy hc2 _ hj' d hd h hh hdb
  · rw [List.getElem?_set, if_neg hne]
    exact I.cur
  · rcases hat j' d hd with ⟨rfl, rfl⟩ | ⟨h0, hd⟩
    · exact sub2 h hh hdb
    · rw [List.mem_append] at hj'
      rcases hj' with hj' | hj'
      · exact I.part j' hj' d hd h hh hdb
      · simp at hj'
        exact absurd hj' h0

theorem HIn.done {f : Fn} {S : Nat → Prop} {at_ : Nat} {x : Ins} {a : Nat} {H : List Nat} (I : HIn f S at_ x a (bhd f.code at_) H) : HInv f S H := by
  refine ⟨I.inv.len, I.inv.lt, I.inv.zero, I.inv.snd, fun i y c hS hy hc j hj d hd h hh hdb => ?_⟩
  by_cases e : i = at_
  · subst e
    rw [I.ins] at hy
    cases hy
    rw [I.cur] at hc
    cases hc
    exact I.part j hj d hd h hh hdb
  · exact I.inv.cls i y c (fun h => h.elim hS e) hy hc j hj d hd h hh hdb

theorem sum_set {l : List Nat} {k a b : Nat} (h : l[k]? = some a) : (l.set k b).sum + a = l.sum + b := by
  induction l generalizing k with
  | nil => simp at h
  | cons c r ih =>
    cases k with
    | zero =>
      simp at h
      subst h
      simp
      omega
    | succ k =>
      simp only [List.getElem?_cons_succ] at h
      have := ih h
      simp only [List.set_cons_succ, List.sum_cons]
      omega

theorem sum_le {l : List Nat} (h : ∀ (k a : Nat), l[k]? = some a → a < 256) : l.sum ≤ l.length * 255 := by
  induction l with
  | nil => simp
  | cons c r ih =>
    have h0 := h 0 c rfl
    have h1 := ih fun k a hk => h (k + 1) a (by simpa using hk)
    simp only [List.sum_cons, List.length_cons]
    omega

theorem and_le_ne {b c : Nat} (h : b &&& c ≠ b) : b &&& c < b := Nat.lt_of_le_of_ne Nat.and_le_left h

/-! ### Handle by handle -/

structure WInv (l : List Ins) (h : Nat) (S : Nat → Prop) (O : List Bool) : Prop where
  len : O.length = l.length
  start : 0 < l.length → O[0]? = some true
  snd : ∀ k : Nat, O[k]? = some true → Free l h k
  cls : ∀ (i : Nat) (x : Ins), ¬ S i → l[i]? = some x → O[i]? = some true → ¬ forks x h → ∀ j ∈ bhd l i, O[j]? = some true

open Classical in
noncomputable def freeL (l : List Ins) (h : Nat) : List Bool := (List.range l.length).map fun k => decide (Free l h k)

theorem freeL_len (l : List Ins) (h : Nat) : (freeL l h).length = l.length := by simp [freeL]
open Classical in
theorem freeL_at (l : List Ins) (h : Nat) {k : Nat} (hk : k < l.length) : (freeL l h)[k]? = some (decide (Free l h k)) := by simp [freeL, hk]

theorem WInv.fin {l : List Ins} {h : Nat} {O : List Bool} (I : WInv l h (fun _ => False) O) : O = freeL l h := by
  apply List.ext_getElem?
  intro k
  rcases Nat.lt_or_ge k l.length with hk | hk
  · obtain ⟨a, ha⟩ : ∃ a, O[k]? = some a := ⟨_, List.getElem?_eq_getElem (by rw [I.len]; exact hk)⟩
    rw [freeL_at l h hk, ha]
    congr 1
    have key : ∀ k, Free l h k → O[k]? = some true := by
      intro k hF
      induction hF with
      | start h0 => exact I.start h0
      | go hi hx hf hj ih => exact I.cls _ _ (fun h => h) hx ih hf _ hj
    cases a with
    | true => simp [I.snd k ha]
    | false =>
      symm
      rw [decide_eq_false_iff_not]
      intro hF
      rw [key k hF] at ha
      cases ha
  · rw [List.getElem?_eq_none (by rw [I.len]; exact hk), List.getElem?_eq_none (by rw [freeL_len]; exact hk)]

theorem WInv.begin_ (l : List Ins) (h : Nat) : WInv l h (fun i => i = 0) ((List.replicate l.length false).set 0 true) := by
  have hat : ∀ k : Nat, ((List.replicate l.length false).set 0 true)[k]? = some true → k = 0 ∧ 0 < l.length := by
    intro k hk
    rw [List.getElem?_set] at hk
    split at hk
    · rename_i h0
      split at hk
      · rename_i hl
        exact ⟨h0.symm, by simpa using hl⟩
      · cases hk
    · rw [List.getElem?_replicate] at hk
      split at hk <;> simp at hk
  refine ⟨by simp, fun h0 => by simp [h0], fun k hk => ?_, fun i x hS hx hi => absurd (hat i hi).1 hS⟩
  obtain ⟨rfl, hl⟩ := hat k hk
  exact .start hl

structure WIn (l : List Ins) (h : Nat) (S : Nat → Prop) (at_ : Nat) (pre : List Nat) (O : List Bool) : Prop where
  inv : WInv l h (fun i => S i ∨ i = at_) O
  free : Free l h at_
  part : ∀ j ∈ pre, O[j]? = some true

theorem WIn.same {l : List Ins} {h : Nat} {S : Nat → Prop} {at_ : Nat} {pre : List Nat} {O : List Bool} (I : WIn l h S at_ pre O) {j : Nat} (hj : O[j]? = some true) : WIn l h S at_ (pre ++ [j]) O :=
  ⟨I.inv, I.free, fun j' hj' => by
    rw [List.mem_append] at hj'
    rcases hj' with hj' | hj'
    · exact I.part j' hj'
    · simp at hj'; subst hj'; exact hj⟩

theorem WIn.set {l : List Ins} {h : Nat} {S : Nat → Prop} {at_ : Nat} {pre : List Nat} {O : List Bool} {x : Ins} (I : WIn l h S at_ pre O) (hx : l[at_]? = some x) (hf : ¬ forks x h) {j : Nat} (hj : j ∈ bhd l at_) :
    WIn l h (fun i => S i ∨ i = j) at_ (pre ++ [j]) (O.set j true) := by
  have hjl : j < O.length := by rw [I.inv.len]; exact bhd_lt hj
  have hup : ∀ k : Nat, O[k]? = some true → (O.set j true)[k]? = some true := fun k hk => by
    rw [List.getElem?_set]
    split
    · rfl
    · exact hk
  have hat : ∀ k : Nat, (O.set j true)[k]? = some true → k = j ∨ O[k]? = some true := fun k hk => by
    rw [List.getElem?_set] at hk
    split at hk
    · rename_i e; exact .inl e.symm
    · exact .inr hk
  have hself : (O.set j true)[j]? = some true := by rw [List.getElem?_set, if_pos rfl, if_pos hjl]
  refine ⟨⟨by rw [List.length_set]; exact I.inv.len, fun h0 => hup 0 (I.inv.start h0), fun k hk => ?_, fun i y hS hy hi hfi j' hj' => ?_⟩, I.free, fun j' hj' => ?_⟩
  · rcases hat k hk with rfl | hk
    · exact .go I.free hx hf hj
    · exact I.inv.snd k hk
  · rcases hat i hi with rfl | hi
    · exact absurd (.inl (.inr rfl)) hS
    · exact hup _ (I.inv.cls i y (fun e => hS (e.elim (fun e => .inl (.inl e)) .inr)) hy hi hfi j' hj')
  · rw [List.mem_append] at hj'
    rcases hj' with hj' | hj'
    · exact hup _ (I.part j' hj')
    · simp at hj'; subst hj'; exact hself

theorem WIn.done {l : List Ins} {h : Nat} {S : Nat → Prop} {at_ : Nat} {O : List Bool} (I : WIn l h S at_ (bhd l at_) O) : WInv l h S O :=
  ⟨I.inv.len, I.inv.start, I.inv.snd, fun i y hS hy hi hfi j hj => by
    by_cases e : i = at_
    · subst e
      exact I.part j hj
    · exact I.inv.cls i y (fun h => h.elim hS e) hy hi hfi j hj⟩

theorem WInv.skip {l : List Ins} {h : Nat} {S : Nat → Prop} {at_ : Nat} {O : List Bool} {x : Ins} (I : WInv l h (fun i => S i ∨ i = at_) O) (hx : l[at_]? = some x) (hf : forks x h) : WInv l h S O :=
  ⟨I.len, I.start, I.snd, fun i y hS hy hi hfi j hj => by
    by_cases e : i = at_
    · subst e
      rw [hx] at hy
      cases hy
      exact absurd hf hfi
    · exact I.cls i y (fun h => h.elim hS e) hy hi hfi j hj⟩

def offs (O : List Bool) : Nat := (O.filter fun b => !b).length

theorem offs_set {O : List Bool} {j : Nat} (h : O[j]? = some false) : offs (O.set j true) + 1 = offs O := by
  induction O generalizing j with
  | nil => simp at h
  | cons c r ih =>
    cases j with
    | zero =>
      simp at h
      subst h
      simp [offs]
    | succ j =>
      simp only [List.getElem?_cons_succ] at h
      have := ih h
      unfold offs at this ⊢
      simp only [List.set_cons_succ, List.filter_cons]
      split
      · simp only [List.length_cons]; omega
      · exact this

theorem offs_le (O : List Bool) : offs O ≤ O.length := List.length_filter_le _ _

/-- What the document's sums have come to when handles below n are done. -/
theorem sum_mask (p : Nat → Bool) (n : Nat) : maskOf p (n + 1) = maskOf p n + if p n then 2 ^ n else 0 := rfl

end Go.Proofs.YtpjcdjooiaefdaaDoor

/-
  Which programs may be, as plain data: what follows of it.
-/
namespace Go.Proofs.YtpjcdjooiaefdaaDoor
open Go.RowKit

/-- A program is accepted: what that comes to. -/
structure Acc (P : List Fn) : Prop where
  one : 1 ≤ P.length
  few : P.length ≤ 32
  fns : ∀ (k : Nat) f, P[k]? = some f → 0 ≤ f.needs ∧ f.needs ≤ 255 ∧ 1 ≤ f.code.length ∧ f.code.length ≤ 128 ∧ ∀ (j : Nat) i, f.code[j]? = some i → chk i = 0
  root : ∀ f, P[0]? = some f → f.needs = 0
  flow : ∀ (k : Nat) f, P[k]? = some f → ∀ (j : Nat) i, f.code[j]? = some i → wrongAt P f j i = 0

theorem shapeF_none {k : Nat} {f : Fn} : shapeF k f = Flt.none ↔ (0 ≤ f.needs ∧ f.needs ≤ 255 ∧ 1 ≤ f.code.length ∧ f.code.length ≤ 128 ∧ ∀ (j : Nat) i, f.code[j]? = some i → chk i = 0) := by
  unfold shapeF
  split
  · rename_i h
    constructor
    · intro e; injection e with _ _ e; exact absurd e (by decide)
    · intro e; omega
  · rename_i h
    split
    · rename_i h2
      constructor
      · intro e; injection e with _ _ e; exact absurd e (by decide)
      · intro e; omega
    · rename_i h2
      rw [firstW_none]
      simp only [flt_none]
      exact ⟨fun h3 => ⟨by omega, by omega, by omega, by omega, h3⟩, fun h3 => h3.2.2.2.2⟩

theorem sizeF_none {P : List Fn} : sizeF P = Flt.none ↔ (1 ≤ P.length ∧ P.length ≤ 32) := by
  unfold sizeF
  split
  · rename_i h
    constructor
    · intro e; injection e with _ _ e; exact absurd e (by decide)
    · intro e; omega
  · rename_i h
    exact ⟨fun _ => by omega, fun _ => rfl⟩

theorem rootF_none {P : List Fn} : rootF P = Flt.none ↔ ∀ f, P[0]? = some f → f.needs = 0 := by
  unfold rootF
  cases h : P[0]? with
  | none => simp
  | some f =>
    simp only [Option.some.injEq, forall_eq']
    split
    · rename_i h; simp [h]
    · rename_i h
      constructor
      · intro e; injection e with _ _ e; exact absurd e (by decide)
      · intro e; exact absurd e h

theorem prgF_none {P : List Fn} : prgF P = Flt.none ↔ Acc P := by
  unfold prgF
  have e1 := @sizeF_none P
  have e2 : partsF P = Flt.none ↔ ∀ (k : Nat) f, P[k]? = some f → _ := firstW_none.trans ⟨fun h k f hk => shapeF_none.1 (h k f hk), fun h k f hk => shapeF_none.2 (h k f hk)⟩
  have e3 := @rootF_none P
  have e4 : flowsF P = Flt.none ↔ ∀ (k : Nat) f, P[k]? = some f → ∀ (j : Nat) i, f.code[j]? = some i → wrongAt P f j i = 0 := by
    unfold flowsF
    rw [firstW_none]
    constructor
    · intro h k f hk j i hj
      have h2 := h k f hk
      unfold flowF at h2
      rw [firstW_none] at h2
      have h3 := h2 j i hj
      rw [flt_none] at h3
      rw [Nat.zero_add] at h3
      exact h3
    · intro h k f hk
      unfold flowF
      rw [firstW_none]
      intro j i hj
      rw [flt_none, Nat.zero_add]
      exact h k f hk j i hj
  constructor
  · intro h
    by_cases h1 : sizeF P = Flt.none
    · rw [if_neg (fun h => h h1)] at h
      by_cases h2 : partsF P = Flt.none
      · rw [if_neg (fun h => h h2)] at h
        by_cases h3 : rootF P = Flt.none
        · rw [if_neg (fun h => h h3)] at h
          exact ⟨(e1.1 h1).1, (e1.1 h1).2, e2.1 h2, e3.1 h3, e4.1 h⟩
        · rw [if_pos h3] at h; exact absurd h h3
      · rw [if_pos h2] at h; exact absurd h h2
    · rw [if_pos h1] at h; exact absurd h h1
  · intro A
    rw [if_neg (fun h => h (e1.2 ⟨A.one, A.few⟩)), if_neg (fun h => h (e2.2 A.fns)), if_neg (fun h => h (e3.2 A.root))]
    exact e4.2 A.flow

theorem wrongAt_zero {P : List Fn} {f : Fn} {k : Nat} {x : Ins} : wrongAt P f k x = 0 ↔ (goalW P f x = false ∧ endW f k x = false ∧ scopeW f k x = false ∧ handW P f k x = false) := by
  unfold wrongAt
  cases goalW P f x <;> cases endW f k x <;> cases scopeW f k x <;> cases handW P f k x <;> simp

open Classical in
/-- Whether a program may be. -/
noncomputable def accB (P : List Fn) : Bool := decide (prgF P = Flt.none)
theorem accB_true {P : List Fn} : accB P = true ↔ Acc P := by unfold accB; rw [decide_eq_true_iff, prgF_none]
theorem accB_code {P : List Fn} : (prgF P).code = 0 ↔ prgF P = Flt.none := by
  constructor
  · intro h
    -- a fault that is told has an error
    have key : ∀ {α : Type} (g : Nat → α → Flt) (l : List α) (k0 : Nat), (∀ k x, (g k x).code = 0 → g k x = Flt.none) → (firstW g k0 l).code = 0 → firstW g k0 l = Flt.none := by
      intro α g l k0 hg h
      by_cases hn : firstW g k0 l = Flt.none
      · exact hn
      · obtain ⟨k, x, _, e⟩ := firstW_is hn
        rw [e] at h ⊢
        exact hg _ _ h
    have hflt : ∀ k a e, (flt k a e).code = 0 → flt k a e = Flt.none := by
      intro k a e h
      unfold flt at h ⊢
      split
      · rfl
      · rename_i hh; rw [if_neg hh] at h; exact absurd h hh
    unfold prgF at h ⊢
    split
    · rename_i h1
      rw [if_pos h1] at h
      unfold sizeF at h ⊢
      split
      · rename_i h2; rw [if_pos h2] at h; exact absurd h (by decide)
      · rfl
    · rename_i h1
      rw [if_neg h1] at h
      split
      · rename_i h2
        rw [if_pos h2] at h
        exact key _ _ _ (fun k f hf => by
          unfold shapeF at hf ⊢
          split
          · rename_i h3; rw [if_pos h3] at hf; exact absurd hf (by simp)
          · rename_i h3
            rw [if_neg h3] at hf
            split
            · rename_i h4; rw [if_pos h4] at hf; exact absurd hf (by simp)
            · rename_i h4
              rw [if_neg h4] at hf
              exact key _ _ _ (fun j i hj => hflt _ _ _ hj) hf) h
      · rename_i h2
        rw [if_neg h2] at h
        split
        · rename_i h3
          rw [if_pos h3] at h
          unfold rootF at h ⊢
          split
          · rename_i f hf
            rw [hf] at h
            simp only at h
            split
            · rfl
            · rename_i h4; rw [if_neg h4] at h; exact absurd h (by decide)
          · rfl
        · rename_i h3
          rw [if_neg h3] at h
          exact key _ _ _ (fun k f hf => key _ _ _ (fun j i hj => hflt _ _ _ hj) hf) h
  · intro h; rw [h]; rfl

/-! ### What may be said of an instruction that may be -/

theorem chk_fld {i : Ins} (h : chk i = 0) : 0 ≤ i.op ∧ i.op ≤ 16 ∧ ∀ k, k < 4 → bad i.op.toNat k (i.fld k) = false := by
  unfold chk at h
  split at h
  · exact absurd h (by decide)
  · rename_i ho
    split at h
    · exact absurd h (by decide)
    · rename_i hw
      simp only [Ins.wrong, Bool.or_eq_true, not_or, Bool.not_eq_true] at hw
      refine ⟨by omega, by omega, fun k hk => ?_⟩
      have hm : k = 0 ∨ k = 1 ∨ k = 2 ∨ k = 3 := by omega
      rcases hm with rfl | rfl | rfl | rfl
      · exact hw.1.1.1
      · exact hw.1.1.2
      · exact hw.1.2
      · exact hw.2

theorem chk_rng {i : Ins} (h : chk i = 0) {o k : Nat} (ho : i.op = o) (hk : k < 4) : lo o k ≤ i.fld k ∧ i.fld k ≤ hi o k := by
  have hb := (chk_fld h).2.2 k hk
  rw [ho] at hb
  unfold bad at hb
  simp only [Bool.or_eq_false_iff, decide_eq_false_iff_not, Int.toNat_natCast] at hb
  omega

theorem chk_6 {i : Ins} (h : chk i = 0) (ho : i.op = 6) : 0 ≤ i.n ∧ i.n ≤ 127 := chk_rng h (o := 6) (k := 3) ho (by omega)
theorem chk_7 {i : Ins} (h : chk i = 0) (ho : i.op = 7) : 0 ≤ i.n ∧ i.n ≤ 127 := chk_rng h (o := 7) (k := 3) ho (by omega)
theorem chk_8 {i : Ins} (h : chk i = 0) (ho : i.op = 8) : 0 ≤ i.a ∧ i.a ≤ 7 ∧ 0 ≤ i.n ∧ i.n ≤ 31 :=
  ⟨(chk_rng h (o := 8) (k := 0) ho (by omega)).1, (chk_rng h (o := 8) (k := 0) ho (by omega)).2, (chk_rng h (o := 8) (k := 3) ho (by omega)).1, (chk_rng h (o := 8) (k := 3) ho (by omega)).2⟩
theorem chk_9 {i : Ins} (h : chk i = 0) (ho : i.op = 9) : 0 ≤ i.b ∧ i.b ≤ 7 := chk_rng h (o := 9) (k := 1) ho (by omega)
theorem chk_10 {i : Ins} (h : chk i = 0) (ho : i.op = 10) : 0 ≤ i.c ∧ i.c ≤ 7 := chk_rng h (o := 10) (k := 2) ho (by omega)
theorem isJ_op {i : Ins} (h : isJ i = true) : i.op = 6 ∨ i.op = 7 := by simpa [isJ] using h
theorem chk_J {i : Ins} (h : chk i = 0) (ho : isJ i = true) : 0 ≤ i.n ∧ i.n ≤ 127 := by
  rcases isJ_op ho with ho | ho
  · exact chk_6 h ho
  · exact chk_7 h ho

theorem takes_lt {P : List Fn} {x : Ins} (h : chk x = 0) : takes P x < 256 := by
  unfold takes
  have pw : ∀ b : Int, 0 ≤ b → b ≤ 7 → 2 ^ b.toNat < 256 := fun b h1 h2 => by
    have : 2 ^ b.toNat ≤ 2 ^ 7 := Nat.pow_le_pow_right (by omega) (by omega)
    omega
  split
  · rename_i h9
    exact pw _ (chk_9 h h9).1 (chk_9 h h9).2
  · split
    · rename_i h10
      exact pw _ (chk_10 h h10).1 (chk_10 h h10).2
    · split
      · split
        · exact low_lt _
        · omega
      · omega

theorem less_zero {a b : Nat} (ha : a < 256) : less a b = 0 ↔ ∀ h, h < 8 → a.testBit h = true → b.testBit h = true := by
  constructor
  · intro e h hh hb
    have := less_bit a b h hh
    rw [e, hb] at this
    simpa using this
  · intro e
    refine mask_ext (less_lt ha) (by omega) fun h hh => ?_
    rw [less_bit _ _ _ hh, Nat.zero_testBit]
    cases hb : a.testBit h with
    | false => rfl
    | true => rw [e h hh hb]; rfl

theorem less_all {a : Nat} (ha : a < 256) : less a 255 = 0 := (less_zero ha).2 fun h hh _ => (by decide : ∀ h, h < 8 → (255 : Nat).testBit h = true) h hh

end Go.Proofs.YtpjcdjooiaefdaaDoor

/-
  The laws of stage 4 as plain mathematics: ways, needs, a Check more, what no way leads to.
-/
namespace Go.Proofs.YtpjcdjooiaefdaaDoor
open Go.RowKit

/-! ### A way through a function -/

/-- Where a way stands: at an instruction, so many scopes open, these handles given. -/
structure Way (P : List Fn) (f : Fn) (k : Nat) (d : Int) (v : Nat) : Prop where
  lt : k < f.code.length
  dep : d = depN f.code k
  hv : v < 256
  held : ∀ h, h < 8 → (heldN f k).testBit h = true → v.testBit h = true

theorem Way.start {P : List Fn} {k0 : Nat} {f : Fn} (A : Acc P) (hf : P[k0]? = some f) : Way P f 0 0 (low f.needs) := by
  have h := A.fns k0 f hf
  exact ⟨by omega, rfl, low_lt _, fun h hh hb => by rw [heldN_zero f (by omega)] at hb; exact hb⟩

section
variable {P : List Fn} {k0 : Nat} {f : Fn} {k : Nat} {d : Int} {v : Nat} {x : Ins}

theorem Way.step {j : Nat} {d' : Int} {v' : Nat} (W : Way P f k d v) (hx : f.code[k]? = some x) (hj : j ∈ bhd f.code k) (hd : depN f.code j = d') (hv : v' < 256) (hs : ∀ h, h < 8 → v.testBit h = true → v'.testBit h = true) (hg : ∀ h, h < 8 → forks x h → v'.testBit h = true) : Way P f j d' v' :=
  ⟨bhd_lt hj, hd.symm, hv, fun h hh hb => by
    rcases heldN_step hx hj hh hb with h1 | h1
    · exact hs h hh (W.held h hh h1)
    · exact hg h hh h1⟩

theorem Way.next (A : Acc P) (hf : P[k0]? = some f) (W : Way P f k d v) (hx : f.code[k]? = some x) (hp : isP x = true) : k + 1 ∈ bhd f.code k := by
  have hw := (wrongAt_zero.1 (A.flow k0 f hf k x hx)).2.1
  unfold endW at hw
  rw [hp, Bool.and_true, decide_eq_false_iff_not] at hw
  rw [bhd_at hx]
  refine List.mem_append.2 (.inr ?_)
  unfold bhdP
  have := W.lt
  rw [if_pos ⟨hp, by omega⟩]
  simp

theorem Way.jump (A : Acc P) (hf : P[k0]? = some f) (hx : f.code[k]? = some x) (hp : isJ x = true) : 0 ≤ x.n ∧ x.n < f.code.length ∧ x.n.toNat ∈ bhd f.code k ∧ depN f.code x.n.toNat = depN f.code k := by
  obtain ⟨hg, _, hs, _⟩ := wrongAt_zero.1 (A.flow k0 f hf k x hx)
  unfold goalW at hg
  rw [hp, Bool.true_and, Bool.or_eq_false_iff] at hg
  have hn : 0 ≤ x.n ∧ x.n < f.code.length := by simpa using hg.1
  unfold scopeW at hs
  rw [hp, Bool.true_and, Bool.or_eq_false_iff] at hs
  refine ⟨hn.1, hn.2, ?_, by simpa using hs.2⟩
  rw [bhd_at hx]
  refine List.mem_append.2 (.inl ?_)
  unfold bhdJ
  rw [if_pos ⟨hp, hn⟩]
  simp

/-- Behind a jump. -/
theorem Way.jumped (A : Acc P) (hf : P[k0]? = some f) (W : Way P f k d v) (hx : f.code[k]? = some x) (hp : isJ x = true) : Way P f x.n.toNat d v := by
  obtain ⟨_, _, hj, hd⟩ := Way.jump A hf hx hp
  refine W.step hx hj (by rw [hd]; exact W.dep.symm) W.hv (fun _ _ h => h) (fun h _ hfk => ?_)
  have := isJ_op hp
  have := hfk.1
  omega

/-- Behind another one. -/
theorem Way.went (A : Acc P) (hf : P[k0]? = some f) (W : Way P f k d v) (hx : f.code[k]? = some x) (hp : isP x = true) {d' : Int} (hd : dstep x.op d = d') (h8 : x.op ≠ 8) : Way P f (k + 1) d' v :=
  W.step hx (Way.next A hf W hx hp) (by rw [depN_succ hx, ← W.dep]; exact hd) W.hv (fun _ _ h => h) (fun _ _ hfk => absurd hfk.1 h8)

/-- Behind a Fork. -/
theorem Way.forked (A : Acc P) (hf : P[k0]? = some f) (W : Way P f k d v) (hx : f.code[k]? = some x) (h8 : x.op = 8) : Way P f (k + 1) d (v ||| 2 ^ x.a.toNat) := by
  have hc := chk_8 ((A.fns k0 f hf).2.2.2.2 k x hx) h8
  have hp : isP x = true := by unfold isP; rw [h8]; decide
  have hlt : 2 ^ x.a.toNat < 256 := by
    have : 2 ^ x.a.toNat ≤ 2 ^ 7 := Nat.pow_le_pow_right (by omega) (by omega)
    omega
  refine W.step hx (Way.next A hf W hx hp) (by rw [depN_succ hx, ← W.dep, h8]; rfl) (or_lt W.hv hlt) (fun h _ hb => by rw [Nat.testBit_or, hb]; rfl) (fun h hh hfk => ?_)
  rw [Nat.testBit_or, Nat.testBit_two_pow]
  have := hfk.2
  have e : x.a.toNat = h := by omega
  rw [decide_eq_true e, Bool.or_true]

theorem Way.ret (A : Acc P) (hf : P[k0]? = some f) (W : Way P f k d v) (hx : f.code[k]? = some x) (h : x.op = 16) : d = 0 := by
  have hs := (wrongAt_zero.1 (A.flow k0 f hf k x hx)).2.2.1
  unfold scopeW at hs
  rw [h, Bool.or_eq_false_iff, Bool.or_eq_false_iff] at hs
  have := hs.1.2
  simp at this
  rw [W.dep]
  exact this

theorem Way.open_ (A : Acc P) (hf : P[k0]? = some f) (W : Way P f k d v) (hx : f.code[k]? = some x) (h : x.op = 12 ∨ x.op = 13) : 1 ≤ d := by
  have hs := (wrongAt_zero.1 (A.flow k0 f hf k x hx)).2.2.1
  unfold scopeW at hs
  have h2 : (x.op == 12 || x.op == 13) = true := by rcases h with h | h <;> simp [h]
  rw [h2, Bool.true_and, Bool.or_eq_false_iff, Bool.or_eq_false_iff, decide_eq_false_iff_not] at hs
  rw [W.dep]
  have := hs.1.1
  omega

theorem Way.hand (A : Acc P) (hf : P[k0]? = some f) (W : Way P f k d v) (hx : f.code[k]? = some x) {h : Nat} (hh : h < 8) (ht : (takes P x).testBit h = true) : v.testBit h = true := by
  have hs := (wrongAt_zero.1 (A.flow k0 f hf k x hx)).2.2.2
  unfold handW at hs
  have h2 : less (takes P x) (heldN f k) = 0 := by simpa using hs
  exact W.held h hh ((less_zero (takes_lt ((A.fns k0 f hf).2.2.2.2 k x hx))).1 h2 h hh ht)

theorem Way.join (A : Acc P) (hf : P[k0]? = some f) (W : Way P f k d v) (hx : f.code[k]? = some x) (h : x.op = 9) : 0 ≤ x.b ∧ x.b ≤ 7 ∧ v.testBit x.b.toNat = true := by
  have hc := chk_9 ((A.fns k0 f hf).2.2.2.2 k x hx) h
  refine ⟨hc.1, hc.2, W.hand A hf hx (by omega) ?_⟩
  unfold takes
  rw [if_pos h, Nat.testBit_two_pow]
  simp

theorem Way.try_ (A : Acc P) (hf : P[k0]? = some f) (W : Way P f k d v) (hx : f.code[k]? = some x) (h : x.op = 10) : 0 ≤ x.c ∧ x.c ≤ 7 ∧ v.testBit x.c.toNat = true := by
  have hc := chk_10 ((A.fns k0 f hf).2.2.2.2 k x hx) h
  refine ⟨hc.1, hc.2, W.hand A hf hx (by omega) ?_⟩
  unfold takes
  rw [if_neg (by omega), if_pos h, Nat.testBit_two_pow]
  simp

theorem Way.fork (A : Acc P) (hf : P[k0]? = some f) (W : Way P f k d v) (hx : f.code[k]? = some x) (h : x.op = 8) : 0 ≤ x.n ∧ x.n < P.length ∧ 0 ≤ x.a ∧ x.a ≤ 7 ∧ ∃ g, P[x.n.toNat]? = some g ∧ 0 ≤ g.needs ∧ g.needs ≤ 255 ∧ less (low g.needs) v = 0 := by
  have hc := chk_8 ((A.fns k0 f hf).2.2.2.2 k x hx) h
  have hg := (wrongAt_zero.1 (A.flow k0 f hf k x hx)).1
  unfold goalW at hg
  rw [Bool.or_eq_false_iff, show (x.op == 8) = true by simp [h], Bool.true_and] at hg
  have hn : 0 ≤ x.n ∧ x.n < P.length := by simpa using hg.2
  obtain ⟨g, hgg⟩ : ∃ g, P[x.n.toNat]? = some g := ⟨_, List.getElem?_eq_getElem (by omega)⟩
  refine ⟨hn.1, hn.2, hc.1, hc.2.1, g, hgg, (A.fns _ g hgg).1, (A.fns _ g hgg).2.1, (less_zero (low_lt _)).2 fun i hi hb => W.hand A hf hx hi ?_⟩
  unfold takes
  rw [if_neg (by omega), if_neg (by omega), if_pos h, hgg]
  exact hb
end

/-! ### Needs -/

theorem heldN_all {l : List Ins} {n : Int} (h : low n = 255) (k : Nat) : heldN ⟨n, l⟩ k = 255 := by
  refine mask_ext (heldN_lt _ _) (by omega) fun i hi => ?_
  rw [heldN_bit _ _ hi, (by decide : ∀ h, h < 8 → (255 : Nat).testBit h = true) i hi, holds_iff]
  exact .inl (by rw [show (Fn.mk n l).needs = n from rfl, h]; exact (by decide : ∀ h, h < 8 → (255 : Nat).testBit h = true) i hi)

theorem chk_ne (i : Ins) : chk i ≠ 16 := by
  unfold chk
  split
  · decide
  · split <;> decide

theorem needs_fault {P : List Fn} {k : Nat} {l : List Ins} (hk : 1 ≤ k) (hP : P[k]? = some ⟨255, l⟩) : (prgF P).fn ≠ k ∨ (prgF P).code ≠ 16 := by
  have hflt : ∀ k a e, flt k a e ≠ Flt.none → flt k a e = ⟨k, a, e⟩ := by
    intro k a e h
    unfold flt at h ⊢
    split
    · rename_i hh; rw [if_pos hh] at h; exact absurd rfl h
    · rfl
  unfold prgF
  split
  · rename_i h1
    unfold sizeF at h1 ⊢
    split
    · exact .inr (by simp)
    · rename_i h2; rw [if_neg h2] at h1; exact absurd rfl h1
  · split
    · rename_i h1
      obtain ⟨j, f, hj, e⟩ := firstW_is h1
      unfold partsF
      rw [e]
      refine .inr ?_
      unfold shapeF
      split
      · simp
      · split
        · simp
        · by_cases hn : firstW (fun j i => flt (0 + j : Nat) j (chk i)) 0 f.code = Flt.none
          · intro hh
            rw [show firstW (fun j_1 i => flt (↑(0 + j)) (↑j_1) (chk i)) 0 f.code = firstW (fun j_1 i => flt (↑(0 + j)) (↑j_1) (chk i)) 0 f.code from rfl] at hh
            obtain ⟨a, b, hc⟩ : ∃ a b, firstW (fun j_1 i => flt (↑(0 + j)) (↑j_1) (chk i)) 0 f.code = ⟨a, b, 16⟩ := ⟨_, _, by rw [← hh]⟩
            obtain ⟨q, y, hy, e2⟩ := firstW_is (l := f.code) (g := fun j_1 i => flt (↑(0 + j)) (↑j_1) (chk i)) (k0 := 0) (by rw [hc]; intro hq; injection hq with _ _ hq; exact absurd hq (by decide))
            rw [hc] at e2
            simp only [flt] at e2
            split at e2
            · injection e2 with _ _ e2; exact absurd e2 (by decide)
            · injection e2 with _ _ e2; exact chk_ne y e2.symm
          · intro hh
            obtain ⟨a, b, hc⟩ : ∃ a b, firstW (fun j_1 i => flt (↑(0 + j)) (↑j_1) (chk i)) 0 f.code = ⟨a, b, 16⟩ := ⟨_, _, by rw [← hh]⟩
            obtain ⟨q, y, hy, e2⟩ := firstW_is (l := f.code) (g := fun j_1 i => flt (↑(0 + j)) (↑j_1) (chk i)) (k0 := 0) (by rw [hc]; intro hq; injection hq with _ _ hq; exact absurd hq (by decide))
            rw [hc] at e2
            simp only [flt] at e2
            split at e2
            · injection e2 with _ _ e2; exact absurd e2 (by decide)
            · injection e2 with _ _ e2; exact chk_ne y e2.symm
    · split
      · rename_i h1
        refine .inl ?_
        unfold rootF at h1 ⊢
        split
        · rename_i f hf
          rw [hf] at h1
          simp only at h1
          split
          · rename_i h2; rw [if_pos h2] at h1; exact absurd rfl h1
          · show (0 : Int) ≠ k; omega
        · rename_i hf; rw [hf] at h1; exact absurd rfl h1
      · rename_i hs hp hr
        have hs' := Decidable.not_not.1 hs
        have hp' := Decidable.not_not.1 hp
        by_cases h1 : flowsF P = Flt.none
        · refine .inr ?_; rw [h1]; decide
        · obtain ⟨j, f, hj, e⟩ := firstW_is h1
          unfold flowsF
          have h1 : ¬ firstW (flowF P) 0 P = Flt.none := h1
          rw [e] at h1 ⊢
          unfold flowF at h1 ⊢
          obtain ⟨q, y, hy, e2⟩ := firstW_is h1
          rw [e2] at h1 ⊢
          simp only [Nat.zero_add] at h1 ⊢
          rw [hflt _ _ _ h1]
          by_cases hjk : j = k
          · subst hjk
            rw [hP] at hj
            cases hj
            refine .inr ?_
            have hch : chk y = 0 := by
              have h2 := firstW_none.1 hp' j _ hP
              exact (shapeF_none.1 h2).2.2.2.2 q y hy
            show wrongAt P ⟨255, l⟩ q y ≠ 16
            have hh : handW P ⟨255, l⟩ q y = false := by
              unfold handW
              rw [heldN_all (by decide), less_all (takes_lt hch)]
              rfl
            unfold wrongAt
            rw [hh]
            split
            · decide
            · split
              · decide
              · split <;> simp
          · refine .inl ?_
            show (j : Int) ≠ k
            omega

/-! ### What no way leads to -/

theorem dead_free {l : List Ins} {x : Ins} {h k : Nat} (hx : x.op = 16) (F : Free (x :: l) h k) : k = 0 := by
  induction F with
  | start _ => rfl
  | go _ hi _ hj ih =>
    subst ih
    simp at hi
    subst hi
    rw [bhd_at (i := x) rfl] at hj
    unfold bhdJ bhdP isJ isP at hj
    simp [hx] at hj

theorem dead_held {l : List Ins} {x : Ins} {n : Int} (hx : x.op = 16) {k : Nat} (hk : 1 ≤ k) : heldN ⟨n, x :: l⟩ k = 255 := by
  refine mask_ext (heldN_lt _ _) (by omega) fun i hi => ?_
  rw [heldN_bit _ _ hi, (by decide : ∀ h, h < 8 → (255 : Nat).testBit h = true) i hi, holds_iff]
  exact .inr fun F => by have := dead_free hx F; omega

/-! ### A Check more -/

def movI (i : Ins) : Ins := if isJ i = true then { i with n := i.n + 1 } else i
def chkI : Ins := ⟨14, 0, 0, 0, 0⟩
def movF (f : Fn) : Fn := ⟨f.needs, chkI :: f.code.map movI⟩

/-- Its jumps go from 0 to 126. -/
def Near (l : List Ins) : Prop := ∀ (j : Nat) i, l[j]? = some i → isJ i = true → 0 ≤ i.n ∧ i.n ≤ 126

theorem movI_op (i : Ins) : (movI i).op = i.op := by unfold movI; split <;> rfl
theorem movI_a (i : Ins) : (movI i).a = i.a := by unfold movI; split <;> rfl
theorem movI_b (i : Ins) : (movI i).b = i.b := by unfold movI; split <;> rfl
theorem movI_c (i : Ins) : (movI i).c = i.c := by unfold movI; split <;> rfl
theorem movI_isJ (i : Ins) : isJ (movI i) = isJ i := by unfold isJ; rw [movI_op]
theorem movI_isP (i : Ins) : isP (movI i) = isP i := by unfold isP; rw [movI_op]
theorem movI_nJ {i : Ins} (h : isJ i = true) : (movI i).n = i.n + 1 := by unfold movI; rw [if_pos h]
theorem movI_n {i : Ins} (h : ¬ isJ i = true) : movI i = i := by unfold movI; rw [if_neg h]

theorem movF_len (f : Fn) : (movF f).code.length = f.code.length + 1 := by simp [movF]
theorem movF_at {f : Fn} {j : Nat} {i : Ins} (h : f.code[j]? = some i) : (movF f).code[j + 1]? = some (movI i) := by simp [movF, h]
theorem movF_of {f : Fn} {j : Nat} {i : Ins} (h : (movF f).code[j + 1]? = some i) : ∃ x, f.code[j]? = some x ∧ i = movI x := by
  simp only [movF, List.getElem?_cons_succ, List.getElem?_map, Option.map_eq_some_iff] at h
  obtain ⟨x, h1, h2⟩ := h
  exact ⟨x, h1, h2.symm⟩

theorem dend_map (d : Int) (l : List Ins) : dend d (l.map movI) = dend d l := by
  induction l generalizing d with
  | nil => rfl
  | cons a r ih => simp only [List.map_cons, dend, movI_op, ih]

theorem movF_dep (f : Fn) (j : Nat) : depN (movF f).code (j + 1) = depN f.code j := by
  unfold depN movF
  simp only [List.take_succ_cons, dend, ← List.map_take, dend_map]
  rfl

theorem movF_bhd {f : Fn} {j : Nat} {x : Ins} (hx : f.code[j]? = some x) (hn : isJ x = true → 0 ≤ x.n) (m : Nat) : m + 1 ∈ bhd (movF f).code (j + 1) ↔ m ∈ bhd f.code j := by
  rw [bhd_at (movF_at hx), bhd_at hx, List.mem_append, List.mem_append]
  unfold bhdJ bhdP
  rw [movI_isJ, movI_isP, movF_len]
  by_cases hj : isJ x = true
  · have := hn hj
    rw [movI_nJ hj]
    have e1 : (m + 1 ∈ if isJ x = true ∧ 0 ≤ x.n + 1 ∧ x.n + 1 < ((f.code.length + 1 : Nat) : Int) then [(x.n + 1).toNat] else []) ↔ (m ∈ if isJ x = true ∧ 0 ≤ x.n ∧ x.n < (f.code.length : Int) then [x.n.toNat] else []) := by
      by_cases h1 : x.n < (f.code.length : Int)
      · rw [if_pos ⟨hj, by omega, by omega⟩, if_pos ⟨hj, by omega, h1⟩]
        simp only [List.mem_singleton]
        omega
      · rw [if_neg (by omega), if_neg (by omega)]
        simp
    rw [e1]
    refine or_congr Iff.rfl ?_
    by_cases h2 : isP x = true ∧ j + 1 < f.code.length
    · rw [if_pos ⟨h2.1, by omega⟩, if_pos h2]; simp
    · rw [if_neg (fun h => h2 ⟨h.1, by omega⟩), if_neg h2]; simp
  · rw [movI_n hj, if_neg (c := isJ x = true ∧ 0 ≤ x.n ∧ x.n < (↑(f.code.length + 1) : Int)) (fun h => hj h.1), if_neg (c := isJ x = true ∧ 0 ≤ x.n ∧ x.n < (↑f.code.length : Int)) (fun h => hj h.1)]
    refine or_congr (by simp) ?_
    by_cases h2 : isP x = true ∧ j + 1 < f.code.length
    · rw [if_pos ⟨h2.1, by omega⟩, if_pos h2]; simp
    · rw [if_neg (fun h => h2 ⟨h.1, by omega⟩), if_neg h2]; simp

theorem movF_free {f : Fn} (hN : Near f.code) (hl : 1 ≤ f.code.length) (h j : Nat) : Free (movF f).code h (j + 1) ↔ Free f.code h j := by
  constructor
  · intro F
    have key : ∀ m, Free (movF f).code h m → ∀ j, m = j + 1 → Free f.code h j := by
      intro m F
      induction F with
      | start _ => intro j e; omega
      | @go i m x hi hx hf hj ih =>
        intro j e
        subst e
        cases i with
        | zero =>
          have : x = chkI := by simpa [movF] using hx.symm
          subst this
          rw [bhd_at hx] at hj
          have e1 : bhdJ (movF f).code chkI = [] := by unfold bhdJ isJ chkI; simp
          have e2 : bhdP (movF f).code 0 chkI = [0 + 1] := by unfold bhdP isP chkI; rw [movF_len, if_pos ⟨by decide, by omega⟩]
          rw [e1, e2] at hj
          simp at hj
          subst hj
          exact .start (by omega)
        | succ i =>
          obtain ⟨y, hy, rfl⟩ := movF_of hx
          refine .go (ih i rfl) hy (fun hk => hf ⟨by rw [movI_op]; exact hk.1, by rw [movI_a]; exact hk.2⟩) ((movF_bhd hy (fun hJ => (hN _ _ hy hJ).1) j).1 hj)
    exact key _ F j rfl
  · intro F
    induction F with
    | start _ =>
      refine .go (i := 0) (x := chkI) (.start (by rw [movF_len]; omega)) rfl (fun hk => absurd hk.1 (by decide)) ?_
      rw [bhd_at (i := chkI) rfl]
      refine List.mem_append.2 (.inr ?_)
      unfold bhdP
      rw [movF_len, if_pos ⟨by decide, by omega⟩]
      simp
    | @go i m x hi hx hf hj ih =>
      exact .go ih (movF_at hx) (fun hk => hf ⟨by rw [← movI_op]; exact hk.1, by rw [← movI_a]; exact hk.2⟩) ((movF_bhd hx (fun hJ => (hN _ _ hx hJ).1) m).2 hj)

theorem movF_held {f : Fn} (hN : Near f.code) (hl : 1 ≤ f.code.length) (j : Nat) : heldN (movF f) (j + 1) = heldN f j := by
  refine mask_ext (heldN_lt _ _) (heldN_lt _ _) fun h hh => ?_
  rw [heldN_bit _ _ hh, heldN_bit _ _ hh, Bool.eq_iff_iff, holds_iff, holds_iff, movF_free hN hl]
  exact Iff.rfl

theorem movI_chk {i : Ins} (h : isJ i = true → 0 ≤ i.n ∧ i.n ≤ 126) : chk (movI i) = 0 ↔ chk i = 0 := by
  by_cases hj : isJ i = true
  · have hn := h hj
    obtain ⟨op, a, b, c, n⟩ := i
    have e : movI ⟨op, a, b, c, n⟩ = ⟨op, a, b, c, n + 1⟩ := by unfold movI; rw [if_pos hj]
    rw [e]
    simp only at hn
    rcases isJ_op hj with ho | ho
    · simp only at ho
      subst ho
      have b1 : bad 6 3 n = false := by unfold bad; rw [show lo 6 3 = 0 by decide, show hi 6 3 = 127 by decide]; simp; omega
      have b2 : bad 6 3 (n + 1) = false := by unfold bad; rw [show lo 6 3 = 0 by decide, show hi 6 3 = 127 by decide]; simp; omega
      unfold chk Ins.wrong
      simp only [show ((6 : Int).toNat) = 6 from rfl, b1, b2]
    · simp only at ho
      subst ho
      have b1 : bad 7 3 n = false := by unfold bad; rw [show lo 7 3 = 0 by decide, show hi 7 3 = 127 by decide]; simp; omega
      have b2 : bad 7 3 (n + 1) = false := by unfold bad; rw [show lo 7 3 = 0 by decide, show hi 7 3 = 127 by decide]; simp; omega
      unfold chk Ins.wrong
      simp only [show ((7 : Int).toNat) = 7 from rfl, b1, b2]
  · rw [movI_n hj]

theorem chkI_chk : chk chkI = 0 := by decide

section
variable {P : List Fn} {k : Nat} {f : Fn}

theorem set_at {Q : List Fn} {g : Fn} {j : Nat} {y : Fn} (hf : Q[k]? = some f) (h : (Q.set k g)[j]? = some y) : (j = k ∧ y = g) ∨ (j ≠ k ∧ Q[j]? = some y) := by
  rw [List.getElem?_set] at h
  have hk := (List.getElem?_eq_some_iff.1 hf).1
  split at h
  · rename_i e
    subst e
    first
      | exact .inl ⟨rfl, by simpa using h.symm⟩
      | (rw [if_pos hk] at h; exact .inl ⟨rfl, by simpa using h.symm⟩)
  · rename_i e
    exact .inr ⟨fun h => e h.symm, h⟩

theorem takes_set {g : Fn} (hf : P[k]? = some f) (hg : g.needs = f.needs) (x : Ins) : takes (P.set k g) x = takes P x := by
  unfold takes
  split
  · rfl
  · split
    · rfl
    · split
      · have hk := (List.getElem?_eq_some_iff.1 hf).1
        by_cases e : k = x.n.toNat
        · rw [← e, List.getElem?_set, if_pos rfl, if_pos hk, hf]
          simp only [hg]
        · rw [List.getElem?_set, if_neg e]
      · rfl

theorem takes_mov (x : Ins) : takes P (movI x) = takes P x := by
  by_cases h : isJ x = true
  · have ho := isJ_op h
    unfold takes
    rw [movI_op, if_neg (by omega), if_neg (by omega), if_neg (by omega), if_neg (by omega), if_neg (by omega), if_neg (by omega)]
  · rw [movI_n h]

theorem wrong_other {g : Fn} (hf : P[k]? = some f) (hg : g.needs = f.needs) (f' : Fn) (j : Nat) (x : Ins) : wrongAt (P.set k g) f' j x = wrongAt P f' j x := by
  unfold wrongAt goalW handW
  rw [takes_set hf hg, List.length_set]

theorem wrong_moved (hf : P[k]? = some f) (hN : Near f.code) (hl : 1 ≤ f.code.length) {j : Nat} {x : Ins} (hx : f.code[j]? = some x) : wrongAt (P.set k (movF f)) (movF f) (j + 1) (movI x) = wrongAt P f j x := by
  rw [wrong_other hf (g := movF f) rfl]
  have e1 : goalW P (movF f) (movI x) = goalW P f x := by
    unfold goalW
    rw [movI_isJ, movI_op, movF_len]
    by_cases hj : isJ x = true
    · have := hN _ _ hx hj
      have ho := isJ_op hj
      rw [movI_nJ hj, show (x.op == 8) = false by rw [beq_eq_false_iff_ne]; omega, hj]
      simp only [Bool.true_and, Bool.false_and, Bool.or_false]
      congr 1
      rw [decide_eq_decide]
      omega
    · rw [movI_n hj]
      have hj' : isJ x = false := by simpa using hj
      rw [hj']
      rfl
  have e2 : endW (movF f) (j + 1) (movI x) = endW f j x := by
    unfold endW
    rw [movI_isP, movF_len]
    congr 1
    rw [decide_eq_decide]
    omega
  have e3 : scopeW (movF f) (j + 1) (movI x) = scopeW f j x := by
    unfold scopeW
    rw [movI_op, movI_isJ, movF_dep]
    by_cases hj : isJ x = true
    · have := hN _ _ hx hj
      rw [movI_nJ hj, show (x.n + 1).toNat = x.n.toNat + 1 by omega, movF_dep]
    · have hj' : isJ x = false := by simpa using hj
      rw [hj']
      rfl
  have e4 : handW P (movF f) (j + 1) (movI x) = handW P f j x := by
    unfold handW
    rw [takes_mov, movF_held hN hl]
  unfold wrongAt
  rw [e1, e2, e3, e4]

theorem wrong_first (hl : 1 ≤ f.code.length) (Q : List Fn) : wrongAt Q (movF f) 0 chkI = 0 := by
  rw [wrongAt_zero]
  refine ⟨by unfold goalW isJ chkI; simp, ?_, by unfold scopeW isJ chkI; simp, ?_⟩
  · unfold endW
    rw [movF_len, decide_eq_false (by omega), Bool.false_and]
  · unfold handW takes chkI
    simp [less]

theorem acc_moved (hf : P[k]? = some f) (hN : Near f.code) (hl : 1 ≤ f.code.length) (hl2 : f.code.length ≤ 126) : Acc (P.set k (movF f)) ↔ Acc P := by
  have hk := (List.getElem?_eq_some_iff.1 hf).1
  have hat : ∀ j y, P[j]? = some y → j ≠ k → (P.set k (movF f))[j]? = some y := fun j y h hn => by rw [List.getElem?_set, if_neg (fun e => hn e.symm)]; exact h
  have hself : (P.set k (movF f))[k]? = some (movF f) := by rw [List.getElem?_set, if_pos rfl, if_pos hk]
  constructor
  · intro A
    refine ⟨by have := A.one; rwa [List.length_set] at this, by have := A.few; rwa [List.length_set] at this, fun j y hy => ?_, fun y hy => ?_, fun j y hy i x hx => ?_⟩
    · by_cases e : j = k
      · subst e
        rw [hf] at hy
        cases hy
        have h := A.fns _ _ hself
        rw [movF_len] at h
        exact ⟨h.1, h.2.1, hl, by omega, fun i x hx => (movI_chk (fun hJ => hN i x hx hJ)).1 (h.2.2.2.2 _ _ (movF_at hx))⟩
      · exact A.fns j y (hat j y hy e)
    · by_cases e : 0 = k
      · subst e
        rw [hf] at hy
        cases hy
        exact A.root (movF f) hself
      · exact A.root y (hat 0 y hy e)
    · by_cases e : j = k
      · subst e
        rw [hf] at hy
        cases hy
        rw [← wrong_moved hf hN hl hx]
        exact A.flow _ _ hself _ _ (movF_at hx)
      · rw [← wrong_other hf (g := movF f) rfl]
        exact A.flow j y (hat j y hy e) i x hx
  · intro A
    refine ⟨by rw [List.length_set]; exact A.one, by rw [List.length_set]; exact A.few, fun j y hy => ?_, fun y hy => ?_, fun j y hy i x hx => ?_⟩
    · rcases set_at hf hy with ⟨rfl, rfl⟩ | ⟨e, hy⟩
      · have h := A.fns _ _ hf
        rw [movF_len]
        refine ⟨h.1, h.2.1, by omega, by omega, fun i x hx => ?_⟩
        cases i with
        | zero =>
          have : x = chkI := by simpa [movF] using hx.symm
          rw [this]
          exact chkI_chk
        | succ i =>
          obtain ⟨y, hy, rfl⟩ := movF_of hx
          exact (movI_chk (fun hJ => hN i y hy hJ)).2 (h.2.2.2.2 i y hy)
      · exact A.fns j y hy
    · rcases set_at hf hy with ⟨rfl, rfl⟩ | ⟨e, hy⟩
      · exact A.root f hf
      · exact A.root y hy
    · rcases set_at hf hy with ⟨rfl, rfl⟩ | ⟨e, hy⟩
      · cases i with
        | zero =>
          have : x = chkI := by simpa [movF] using hx.symm
          rw [this]
          exact wrong_first hl _
        | succ i =>
          obtain ⟨y, hy, rfl⟩ := movF_of hx
          rw [wrong_moved hf hN hl hy]
          exact A.flow _ _ hf i y hy
      · rw [wrong_other hf (g := movF f) rfl]
        exact A.flow j y hy i x hx

theorem plainI_mov (x : Ins) : plainI (movI x) = plainI x := by
  by_cases h : isJ x = true
  · have ho := isJ_op h
    unfold plainI
    rw [movI_op, show (x.op == 13) = false by rw [beq_eq_false_iff_ne]; omega, show (x.op == 11) = false by rw [beq_eq_false_iff_ne]; omega]
    rfl
  · rw [movI_n h]

theorem all_set {α : Type} (p : α → Bool) {l : List α} {k : Nat} {x y : α} (hx : l[k]? = some x) (h : p y = p x) : (l.set k y).all p = l.all p := by
  induction l generalizing k with
  | nil => simp at hx
  | cons a r ih =>
    cases k with
    | zero => simp at hx; subst hx; simp [h]
    | succ k => simp only [List.set_cons_succ, List.all_cons]; rw [ih (by simpa using hx)]

theorem plain_moved (hf : P[k]? = some f) : plainP (P.set k (movF f)) = plainP P := by
  unfold plainP
  refine all_set _ hf ?_
  show (movF f).code.all plainI = f.code.all plainI
  unfold movF
  simp only [List.all_cons, List.all_map, Function.comp_def, plainI_mov]
  rfl
end

end Go.Proofs.YtpjcdjooiaefdaaDoor
