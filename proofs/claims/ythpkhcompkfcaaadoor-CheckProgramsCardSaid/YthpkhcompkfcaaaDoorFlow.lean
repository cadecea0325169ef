/-
  What comes behind an instruction, depths, handles that are held: as plain data.
-/
import Derived.Test.YthpkhcompkfcaaaDoorFns
import Derived.IntWalk
namespace Go.Proofs.YthpkhcompkfcaaaDoor
open Go.RowKit

/-! ### Bits -/

theorem bit_add_pow {m n : Nat} (hm : m < 2 ^ n) (h : Nat) : (m + 2 ^ n).testBit h = (decide (h = n) || m.testBit h) := by
  rw [Nat.add_comm]
  rcases Nat.lt_trichotomy h n with hl | rfl | hl
  · rw [Nat.testBit_two_pow_add_gt hl, decide_eq_false (by omega), Bool.false_or]
  · rw [Nat.testBit_two_pow_add_eq, Nat.testBit_lt_two_pow hm]
    simp
  · have h1 : 2 ^ n + m < 2 ^ h := by
      have : 2 ^ (n + 1) ≤ 2 ^ h := Nat.pow_le_pow_right (by omega) hl
      rw [Nat.pow_succ] at this
      omega
    rw [Nat.testBit_lt_two_pow h1, Nat.testBit_lt_two_pow (show m < 2 ^ h by omega), decide_eq_false (by omega), Bool.false_or]

/-- The number of which just those bits are set that p tells, of the first n. -/
def maskOf (p : Nat → Bool) : Nat → Nat
  | 0 => 0
  | n + 1 => maskOf p n + if p n then 2 ^ n else 0

theorem maskOf_lt (p : Nat → Bool) (n : Nat) : maskOf p n < 2 ^ n := by
  induction n with
  | zero => simp [maskOf]
  | succ n ih =>
    simp only [maskOf, Nat.pow_succ]
    split <;> omega

theorem maskOf_bit (p : Nat → Bool) (n h : Nat) : (maskOf p n).testBit h = (decide (h < n) && p h) := by
  induction n with
  | zero => simp [maskOf]
  | succ n ih =>
    simp only [maskOf]
    cases hp : p n with
    | false =>
      simp only [Bool.false_eq_true, if_false, Nat.add_zero, ih]
      rcases Nat.lt_trichotomy h n with hl | rfl | hl
      · rw [decide_eq_true hl, decide_eq_true (show h < n + 1 by omega)]
      · simp [hp]
      · rw [decide_eq_false (by omega), decide_eq_false (by omega)]
    | true =>
      simp only [if_true, bit_add_pow (maskOf_lt p n), ih]
      rcases Nat.lt_trichotomy h n with hl | rfl | hl
      · rw [decide_eq_true hl, decide_eq_true (show h < n + 1 by omega), decide_eq_false (show ¬ h = n by omega)]
        simp
      · simp [hp]
      · rw [decide_eq_false (show ¬ h < n by omega), decide_eq_false (show ¬ h < n + 1 by omega), decide_eq_false (show ¬ h = n by omega)]
        simp

theorem bit_high {a h : Nat} (ha : a < 256) (hh : 8 ≤ h) : a.testBit h = false :=
  Nat.testBit_lt_two_pow (Nat.lt_of_lt_of_le ha (by have : 2 ^ 8 ≤ 2 ^ h := Nat.pow_le_pow_right (by omega) hh; omega))

theorem mask_ext {a b : Nat} (ha : a < 256) (hb : b < 256) (h : ∀ i, i < 8 → a.testBit i = b.testBit i) : a = b :=
  Nat.eq_of_testBit_eq fun i => by
    rcases Nat.lt_or_ge i 8 with hi | hi
    · exact h i hi
    · rw [bit_high ha hi, bit_high hb hi]

theorem wrap_nat {a : Nat} (h : a < 256) : IntKind.i64.wrap (a : Int) = a := IntWalk.i64_in _ (by omega)

theorem and_nat {a b : Nat} (ha : a < 256) (hb : b < 256) : bits .and .i64 (a : Int) (b : Int) = ((a &&& b : Nat) : Int) := by
  unfold bits
  simp only [BitVec.ofInt_natCast, BitVec.toNat_and, BitVec.toNat_ofNat]
  have e : ∀ x : Nat, x < 256 → x % 2 ^ IntKind.i64.bits = x := fun x hx => Nat.mod_eq_of_lt (Nat.lt_trans hx (by decide))
  rw [e a ha, e b hb]
  exact wrap_nat (Nat.lt_of_le_of_lt Nat.and_le_left ha)

theorem or_lt {a b : Nat} (ha : a < 256) (hb : b < 256) : a ||| b < 256 := Nat.or_lt_two_pow (n := 8) ha hb
theorem and_lt {a b : Nat} (ha : a < 256) : a &&& b < 256 := Nat.lt_of_le_of_lt Nat.and_le_left ha

theorem or_nat {a b : Nat} (ha : a < 256) (hb : b < 256) : bits .or .i64 (a : Int) (b : Int) = ((a ||| b : Nat) : Int) := by
  unfold bits
  simp only [BitVec.ofInt_natCast, BitVec.toNat_or, BitVec.toNat_ofNat]
  have e : ∀ x : Nat, x < 256 → x % 2 ^ IntKind.i64.bits = x := fun x hx => Nat.mod_eq_of_lt (Nat.lt_trans hx (by decide))
  rw [e a ha, e b hb]
  exact wrap_nat (or_lt ha hb)

/-- The bits of a that b has not. -/
def less (a b : Nat) : Nat := a &&& (255 ^^^ b)

theorem less_bit (a b h : Nat) (hh : h < 8) : (less a b).testBit h = (a.testBit h && !b.testBit h) := by
  unfold less
  rw [Nat.testBit_and, Nat.testBit_xor, show (255 : Nat) = 2 ^ 8 - 1 from rfl, Nat.testBit_two_pow_sub_one, decide_eq_true hh]
  simp

theorem less_lt {a b : Nat} (ha : a < 256) : less a b < 256 := and_lt ha

theorem andNot_nat {a b : Nat} (ha : a < 256) : bits .andNot .i64 (a : Int) (b : Int) = ((less a b : Nat) : Int) := by
  unfold bits
  simp only [BitVec.ofInt_natCast, BitVec.toNat_and, BitVec.toNat_ofNat]
  have e : ∀ x : Nat, x < 256 → x % 2 ^ IntKind.i64.bits = x := fun x hx => Nat.mod_eq_of_lt (Nat.lt_trans hx (by decide))
  rw [e a ha]
  have e2 : a &&& (~~~ BitVec.ofNat IntKind.i64.bits b).toNat = less a b := by
    refine Nat.eq_of_testBit_eq fun i => ?_
    rcases Nat.lt_or_ge i 8 with hi | hi
    · rw [less_bit _ _ _ hi, Nat.testBit_and, BitVec.testBit_toNat]
      simp only [BitVec.getLsbD_not, BitVec.getLsbD_ofNat]
      rw [decide_eq_true (show i < IntKind.i64.bits by have : IntKind.i64.bits = 64 := rfl; omega)]
      simp
    · rw [bit_high (less_lt ha) hi, Nat.testBit_and, bit_high ha hi, Bool.false_and]
  rw [e2]
  exact wrap_nat (less_lt ha)

theorem and_all (x : Int) : bits .and .i64 x 255 = x % 256 := by
  unfold bits
  have e1 : (BitVec.ofInt IntKind.i64.bits 255).toNat = 2 ^ 8 - 1 := by decide
  have e2 : (BitVec.ofInt IntKind.i64.bits x).toNat = (x % 18446744073709551616).toNat := BitVec.toNat_ofInt ..
  simp only [BitVec.toNat_and]
  rw [e1, e2, Nat.and_two_pow_sub_one_eq_mod]
  rw [wrap_nat (by omega)]
  omega

theorem and_one (x : Int) : bits .and .i64 x 1 = x % 2 := by
  unfold bits
  have e1 : (BitVec.ofInt IntKind.i64.bits 1).toNat = 2 ^ 1 - 1 := by decide
  have e2 : (BitVec.ofInt IntKind.i64.bits x).toNat = (x % 18446744073709551616).toNat := BitVec.toNat_ofInt ..
  simp only [BitVec.toNat_and]
  rw [e1, e2, Nat.and_two_pow_sub_one_eq_mod]
  rw [wrap_nat (by omega)]
  omega

/-- The lowest eight bits of a number. -/
def low (x : Int) : Nat := (x % 256).toNat

theorem low_lt (x : Int) : low x < 256 := by unfold low; omega
theorem low_cast (x : Int) : ((low x : Nat) : Int) = x % 256 := by unfold low; omega
theorem low_nat {a : Nat} (h : a < 256) : low (a : Int) = a := by unfold low; omega
theorem low_of {x : Int} (h0 : 0 ≤ x) (h1 : x ≤ 255) : ((low x : Nat) : Int) = x := by unfold low; omega

theorem low_bit (x : Int) {h : Nat} (hh : h < 8) : ((x / 2 ^ h) % 2 = 1) = ((low x).testBit h = true) := by
  rw [Nat.testBit_eq_decide_div_mod_eq, decide_eq_true_eq]
  unfold low
  have hm : h = 0 ∨ h = 1 ∨ h = 2 ∨ h = 3 ∨ h = 4 ∨ h = 5 ∨ h = 6 ∨ h = 7 := by omega
  rcases hm with rfl | rfl | rfl | rfl | rfl | rfl | rfl | rfl <;> (refine propext ?_; simp only [Nat.reducePow, Int.reducePow]; omega)

theorem bit_is (x : Int) {h : Nat} (hh : h < 8) : (bits .and .i64 (x / 2 ^ h) 1 == 1) = (low x).testBit h := by
  rw [and_one, Bool.eq_iff_iff, beq_iff_eq, low_bit x hh]

/-! ### What comes behind -/

def isJ (i : Ins) : Bool := i.op == 6 || i.op == 7
def isP (i : Ins) : Bool := !(i.op == 6) && !(i.op == 16) && !(i.op == 15)

def bhdJ (l : List Ins) (i : Ins) : List Nat := if isJ i = true ∧ 0 ≤ i.n ∧ i.n < l.length then [i.n.toNat] else []
def bhdP (l : List Ins) (k : Nat) (i : Ins) : List Nat := if isP i = true ∧ k + 1 < l.length then [k + 1] else []

/-- What comes behind the k-th instruction. -/
def bhd (l : List Ins) (k : Nat) : List Nat := match l[k]? with
  | none => []
  | some i => bhdJ l i ++ bhdP l k i

theorem bhd_at {l : List Ins} {k : Nat} {i : Ins} (h : l[k]? = some i) : bhd l k = bhdJ l i ++ bhdP l k i := by
  unfold bhd
  rw [h]

theorem bhd_lt {l : List Ins} {k j : Nat} (h : j ∈ bhd l k) : j < l.length := by
  unfold bhd at h
  split at h
  · simp at h
  · rw [List.mem_append] at h
    rcases h with h | h
    · unfold bhdJ at h
      split at h
      · simp at h; omega
      · simp at h
    · unfold bhdP at h
      split at h
      · simp at h; omega
      · simp at h

theorem bhd_len (l : List Ins) (k : Nat) : (bhd l k).length ≤ 2 := by
  unfold bhd
  split
  · simp
  · rw [List.length_append]
    unfold bhdJ bhdP
    split <;> split <;> simp

/-- A Fork of handle h. -/
def forks (i : Ins) (h : Nat) : Prop := i.op = 8 ∧ i.a = h

/-- To the k-th instruction a way leads on which handle h is not forked ahead of it. -/
inductive Free (l : List Ins) (h : Nat) : Nat → Prop
  | start : 0 < l.length → Free l h 0
  | go {i j : Nat} {x : Ins} : Free l h i → l[i]? = some x → ¬ forks x h → j ∈ bhd l i → Free l h j

theorem Free.lt {l : List Ins} {h k : Nat} (H : Free l h k) : k < l.length := by
  cases H with
  | start h => exact h
  | go _ _ _ hj => exact bhd_lt hj

open Classical in
/-- Handle h is held at the k-th instruction. -/
noncomputable def holds (f : Fn) (k h : Nat) : Bool := (low f.needs).testBit h || !decide (Free f.code h k)

theorem holds_iff {f : Fn} {k h : Nat} : holds f k h = true ↔ ((low f.needs).testBit h = true ∨ ¬ Free f.code h k) := by
  unfold holds
  simp

theorem holds_not {f : Fn} {k h : Nat} : holds f k h = false ↔ ((low f.needs).testBit h = false ∧ Free f.code h k) := by
  unfold holds
  simp

/-- The handles that are held at the k-th instruction, as bits. -/
noncomputable def heldN (f : Fn) (k : Nat) : Nat := maskOf (holds f k) 8

theorem heldN_lt (f : Fn) (k : Nat) : heldN f k < 256 := maskOf_lt _ 8
theorem heldN_bit (f : Fn) (k : Nat) {h : Nat} (hh : h < 8) : (heldN f k).testBit h = holds f k h := by
  unfold heldN
  rw [maskOf_bit, decide_eq_true hh, Bool.true_and]

noncomputable def heldL (f : Fn) : List Nat := (List.range f.code.length).map (heldN f)

theorem heldL_len (f : Fn) : (heldL f).length = f.code.length := by simp [heldL]
theorem heldL_at (f : Fn) {k : Nat} (h : k < f.code.length) : (heldL f)[k]? = some (heldN f k) := by simp [heldL, h]

/-- What is held behind an instruction: what was, and what it forks. -/
theorem heldN_step {f : Fn} {i j h : Nat} {x : Ins} (hx : f.code[i]? = some x) (hj : j ∈ bhd f.code i) (hh : h < 8) (hb : (heldN f j).testBit h = true) : (heldN f i).testBit h = true ∨ forks x h := by
  by_cases hf : forks x h
  · exact .inr hf
  · refine .inl ?_
    rw [heldN_bit _ _ hh, holds_iff] at hb ⊢
    rcases hb with hb | hb
    · exact .inl hb
    · exact .inr fun hF => hb (.go hF hx hf hj)

theorem heldN_zero (f : Fn) (hl : 0 < f.code.length) : heldN f 0 = low f.needs := by
  refine mask_ext (heldN_lt _ _) (low_lt _) fun h hh => ?_
  rw [heldN_bit _ _ hh, Bool.eq_iff_iff, holds_iff]
  exact ⟨fun h => h.elim id (fun h => absurd (.start hl) h), .inl⟩

/-! ### Depths -/

def dstep (op d : Int) : Int := if op = 11 then d + 1 else if op = 12 then d - 1 else d

def dep (d : Int) : List Ins → List Int
  | [] => []
  | i :: r => d :: dep (dstep i.op d) r

def dend (d : Int) : List Ins → Int
  | [] => d
  | i :: r => dend (dstep i.op d) r

theorem dep_len (d : Int) (l : List Ins) : (dep d l).length = l.length := by
  induction l generalizing d with
  | nil => rfl
  | cons i r ih => simp [dep, ih]

theorem dend_snoc (d : Int) (l : List Ins) (i : Ins) : dend d (l ++ [i]) = dstep i.op (dend d l) := by
  induction l generalizing d with
  | nil => rfl
  | cons a r ih => simp [dend, ih]

theorem dep_snoc (d : Int) (l : List Ins) (i : Ins) : dep d (l ++ [i]) = dep d l ++ [dend d l] := by
  induction l generalizing d with
  | nil => rfl
  | cons a r ih => simp [dep, dend, ih]

theorem take_snoc' {α : Type} {l : List α} {k : Nat} {x : α} (h : l[k]? = some x) : l.take (k + 1) = l.take k ++ [x] := by
  obtain ⟨hl, hx⟩ := List.getElem?_eq_some_iff.1 h
  rw [List.take_succ_eq_append_getElem hl, hx]

theorem dep_at (d : Int) (l : List Ins) {k : Nat} (h : k < l.length) : (dep d l)[k]? = some (dend d (l.take k)) := by
  induction l generalizing d k with
  | nil => simp at h
  | cons a r ih =>
    cases k with
    | zero => simp [dep, dend]
    | succ k =>
      simp only [dep, List.getElem?_cons_succ, List.take_succ_cons, dend]
      exact ih _ (by simpa using h)

theorem dend_bound (d : Int) (l : List Ins) : d - l.length ≤ dend d l ∧ dend d l ≤ d + l.length := by
  induction l generalizing d with
  | nil => simp [dend]
  | cons a r ih =>
    have h := ih (dstep a.op d)
    have h2 : d - 1 ≤ dstep a.op d ∧ dstep a.op d ≤ d + 1 := by unfold dstep; split <;> (try split) <;> omega
    simp only [dend, List.length_cons]
    omega

/-- The depth of the k-th instruction. -/
def depN (l : List Ins) (k : Nat) : Int := dend 0 (l.take k)

theorem depN_zero (l : List Ins) : depN l 0 = 0 := rfl
theorem depN_succ {l : List Ins} {k : Nat} {x : Ins} (h : l[k]? = some x) : depN l (k + 1) = dstep x.op (depN l k) := by
  unfold depN
  rw [take_snoc' h, dend_snoc]
theorem depN_at {l : List Ins} {k : Nat} (h : k < l.length) : (dep 0 l)[k]? = some (depN l k) := dep_at 0 l h
theorem depN_bound (l : List Ins) (k : Nat) : -(l.length : Int) ≤ depN l k ∧ depN l k ≤ l.length := by
  have h := dend_bound 0 (l.take k)
  have : (l.take k).length ≤ l.length := by simp; omega
  unfold depN
  omega

/-! ### What is wrong with an instruction where it stands -/

def goalW (P : List Fn) (f : Fn) (x : Ins) : Bool := (isJ x && !decide (0 ≤ x.n ∧ x.n < f.code.length)) || (x.op == 8 && !decide (0 ≤ x.n ∧ x.n < P.length))
def endW (f : Fn) (k : Nat) (x : Ins) : Bool := decide (k + 1 = f.code.length) && isP x
def scopeW (f : Fn) (k : Nat) (x : Ins) : Bool :=
  ((x.op == 12 || x.op == 13) && decide (depN f.code k < 1)) || (x.op == 16 && !(depN f.code k == 0)) || (isJ x && !(depN f.code x.n.toNat == depN f.code k))

/-- The handles that an instruction takes. -/
def takes (P : List Fn) (x : Ins) : Nat :=
  if x.op = 9 then 2 ^ x.b.toNat else if x.op = 10 then 2 ^ x.c.toNat else if x.op = 8 then match P[x.n.toNat]? with
    | some g => low g.needs
    | none => 0
  else 0

noncomputable def handW (P : List Fn) (f : Fn) (k : Nat) (x : Ins) : Bool := !(less (takes P x) (heldN f k) == 0)

noncomputable def wrongAt (P : List Fn) (f : Fn) (k : Nat) (x : Ins) : Int :=
  if goalW P f x = true then 10 else if endW f k x = true then 11 else if scopeW f k x = true then 15 else if handW P f k x = true then 16 else 0

/-- A fault: the function, the instruction, how. -/
structure Flt where
  fn : Int
  at_ : Int
  code : Int
  deriving DecidableEq

def Flt.none : Flt := ⟨0, 0, 0⟩
def Flt.val (x : Flt) : Value := .agg #[.int .i64 x.fn, .int .i64 x.at_, .int .i64 x.code]

/-- The first of l at which something is wrong. -/
def firstW {α : Type} (g : Nat → α → Flt) (k : Nat) : List α → Flt
  | [] => Flt.none
  | x :: r => if g k x = Flt.none then firstW g (k + 1) r else g k x

theorem firstW_stop {α : Type} {g : Nat → α → Flt} {l : List α} {k0 k : Nat} {x : α} (h : firstW g k0 (l.take k) = Flt.none) (hk : l[k]? = some x) (hx : g (k0 + k) x ≠ Flt.none) : firstW g k0 l = g (k0 + k) x := by
  induction l generalizing k0 k with
  | nil => simp at hk
  | cons a r ih =>
    cases k with
    | zero =>
      simp at hk
      subst hk
      simp only [firstW]
      have hx : g k0 a ≠ Flt.none := hx
      rw [if_neg hx]
      rfl
    | succ k =>
      simp only [List.take_succ_cons, firstW] at h
      simp only [List.getElem?_cons_succ] at hk
      split at h
      · rename_i ha
        simp only [firstW, if_pos ha]
        rw [show k0 + (k + 1) = k0 + 1 + k by omega] at hx ⊢
        exact ih h hk hx
      · contradiction

theorem firstW_snoc {α : Type} {g : Nat → α → Flt} {l : List α} {k0 k : Nat} {x : α} (h : firstW g k0 (l.take k) = Flt.none) (hk : l[k]? = some x) (hx : g (k0 + k) x = Flt.none) : firstW g k0 (l.take (k + 1)) = Flt.none := by
  induction l generalizing k0 k with
  | nil => simp at hk
  | cons a r ih =>
    cases k with
    | zero =>
      simp at hk
      subst hk
      simp only [List.take_succ_cons, List.take_zero, firstW]
      rw [Nat.add_zero] at hx
      rw [if_pos hx]
    | succ k =>
      simp only [List.take_succ_cons, firstW] at h ⊢
      simp only [List.getElem?_cons_succ] at hk
      split at h
      · rename_i ha
        rw [if_pos ha]
        rw [show k0 + (k + 1) = k0 + 1 + k by omega] at hx
        exact ih h hk hx
      · contradiction

theorem firstW_none {α : Type} {g : Nat → α → Flt} {l : List α} {k0 : Nat} : firstW g k0 l = Flt.none ↔ ∀ k x, l[k]? = some x → g (k0 + k) x = Flt.none := by
  induction l generalizing k0 with
  | nil => simp [firstW]
  | cons a r ih =>
    simp only [firstW]
    constructor
    · intro h k x hk
      split at h
      · rename_i ha
        cases k with
        | zero => simp at hk; subst hk; exact ha
        | succ k => rw [show k0 + (k + 1) = k0 + 1 + k by omega]; exact ih.1 h k x (by simpa using hk)
      · contradiction
    · intro h
      have h0 := h 0 a rfl
      rw [Nat.add_zero] at h0
      rw [if_pos h0]
      exact ih.2 fun k x hk => by rw [show k0 + 1 + k = k0 + (k + 1) by omega]; exact h (k + 1) x (by simpa using hk)

theorem firstW_is {α : Type} {g : Nat → α → Flt} {l : List α} {k0 : Nat} (h : firstW g k0 l ≠ Flt.none) : ∃ k x, l[k]? = some x ∧ firstW g k0 l = g (k0 + k) x := by
  induction l generalizing k0 with
  | nil => exact absurd rfl h
  | cons a r ih =>
    simp only [firstW] at h ⊢
    split at h
    · rename_i ha
      rw [if_pos ha]
      obtain ⟨k, x, h1, h2⟩ := ih h
      exact ⟨k + 1, x, by simpa using h1, by rw [show k0 + (k + 1) = k0 + 1 + k by omega]; exact h2⟩
    · rename_i ha
      rw [if_neg ha]
      exact ⟨0, a, rfl, rfl⟩

/-- A fault of an error's number, or none. -/
def flt (k at_ : Int) (e : Int) : Flt := if e = 0 then Flt.none else ⟨k, at_, e⟩

theorem flt_none {k at_ e : Int} : flt k at_ e = Flt.none ↔ e = 0 := by
  unfold flt
  split
  · simp [*]
  · rename_i h
    simp only [Flt.none, Flt.mk.injEq]
    exact ⟨fun hh => absurd hh.2.2 h, fun hh => absurd hh h⟩

/-- A function by itself. -/
def shapeF (k : Nat) (f : Fn) : Flt :=
  if f.needs < 0 ∨ 255 < f.needs then ⟨k, -1, 10⟩ else if f.code.length < 1 ∨ 128 < f.code.length then ⟨k, -1, 12⟩ else firstW (fun j i => flt k j (chk i)) 0 f.code

noncomputable def flowF (P : List Fn) (k : Nat) (f : Fn) : Flt := firstW (fun j i => flt k j (wrongAt P f j i)) 0 f.code

def partsF (P : List Fn) : Flt := firstW shapeF 0 P
def rootF (P : List Fn) : Flt := match P[0]? with
  | some f => if f.needs = 0 then Flt.none else ⟨0, -1, 16⟩
  | none => Flt.none
noncomputable def flowsF (P : List Fn) : Flt := firstW (flowF P) 0 P
def sizeF (P : List Fn) : Flt := if P.length < 1 ∨ 32 < P.length then ⟨-1, -1, 12⟩ else Flt.none

/-- What is wrong first with a program. -/
noncomputable def prgF (P : List Fn) : Flt :=
  if sizeF P ≠ Flt.none then sizeF P else if partsF P ≠ Flt.none then partsF P else if rootF P ≠ Flt.none then rootF P else flowsF P

/-- Neither cancels nor opens a scope for a time. -/
def plainI (i : Ins) : Bool := !(i.op == 13) && !(i.op == 11 && !(i.n == 0))
def plainP (P : List Fn) : Bool := P.all fun f => f.code.all plainI

end Go.Proofs.YthpkhcompkfcaaaDoor
