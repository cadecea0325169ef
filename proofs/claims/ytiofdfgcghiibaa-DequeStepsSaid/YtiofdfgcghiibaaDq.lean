/-
  A deque's operations as the document's table has them, step by step, over plain cells: the deque lies at cell 0.
-/
import Derived.Test.YtiofdfgcghiibaaRg
namespace Go.Proofs.Ytiofdfgcghiibaa
open Go.RowKit
set_option linter.unusedVariables false

/-- An operation: its kind (0 a push, 1 a pop, 2 a steal), the step that is next, and what it holds. -/
structure DOp where
  kind : Nat
  nx : Nat
  x : Int
  b : Int
  t : Int
  rg : Rg
  to : Rg
  pl : Int
  cx : Int
  ld : Bool
  won : Bool
  how : Nat
  got : Int
  err : Int

def rd (M : Mach) (k : Int) : Int := M.all.getD k.toNat 0
def wrc (M : Mach) (k : Int) (x : Int) : Mach := M.put k.toNat x

def DOp.push1 (o : DOp) (M : Mach) : DOp × Mach := ({ o with b := rd M 1, nx := 2 }, M)
def DOp.push2 (o : DOp) (M : Mach) : DOp × Mach := ({ o with t := rd M 0, nx := 3 }, M)
def DOp.push3 (most : Int) (o : DOp) (M : Mach) : DOp × Mach :=
  let r := rgOf (rd M 2)
  if o.b - o.t < r.size then ({ o with rg := r, nx := 7 }, M)
  else if most ≤ r.l then ({ o with rg := r, nx := 4, how := 4 }, M)
  else ({ o with rg := r, nx := 4 }, M)
def DOp.push4 (o : DOp) (M : Mach) : DOp × Mach :=
  ({ o with to := ⟨M.used, o.rg.l + 1⟩, pl := o.t, cx := 0, ld := false, nx := 5 }, M.give (pow (o.rg.l + 1)).toNat)
def DOp.push5 (o : DOp) (M : Mach) : DOp × Mach :=
  if o.ld then ({ o with pl := o.pl + 1, ld := false, nx := if o.pl + 1 = o.b then 6 else 5 }, wrc M (o.to.place o.pl) o.cx)
  else ({ o with cx := rd M (o.rg.place o.pl), ld := true }, M)
def DOp.push6 (o : DOp) (M : Mach) : DOp × Mach := ({ o with rg := o.to, nx := 7 }, wrc M 2 o.to.word)
def DOp.push7 (o : DOp) (M : Mach) : DOp × Mach := ({ o with nx := 8 }, wrc M (o.rg.place o.b) o.x)
def DOp.push8 (o : DOp) (M : Mach) : DOp × Mach := ({ o with how := 1 }, wrc M 1 (o.b + 1))

def DOp.pop1 (o : DOp) (M : Mach) : DOp × Mach := ({ o with b := rd M 1, nx := 2 }, M)
def DOp.pop2 (o : DOp) (M : Mach) : DOp × Mach := ({ o with rg := rgOf (rd M 2), nx := 3 }, M)
def DOp.pop3 (o : DOp) (M : Mach) : DOp × Mach := ({ o with nx := 4 }, wrc M 1 (o.b - 1))
def DOp.pop4 (o : DOp) (M : Mach) : DOp × Mach := ({ o with t := rd M 0, nx := if o.b - 1 < rd M 0 then 5 else 6 }, M)
def DOp.pop5 (o : DOp) (M : Mach) : DOp × Mach := ({ o with how := 3 }, wrc M 1 o.b)
def DOp.pop6 (o : DOp) (M : Mach) : DOp × Mach :=
  let x := rd M (o.rg.place (o.b - 1))
  if o.t < o.b - 1 then ({ o with x := x, nx := 7, how := 1, got := x }, M) else ({ o with x := x, nx := 7 }, M)
def DOp.pop7 (o : DOp) (M : Mach) : DOp × Mach :=
  if rd M 0 = o.t then ({ o with won := true, nx := 8 }, wrc M 0 (o.t + 1)) else ({ o with nx := 8 }, M)
def DOp.pop8 (o : DOp) (M : Mach) : DOp × Mach :=
  if o.won then ({ o with how := 1, got := o.x }, wrc M 1 o.b) else ({ o with how := 3 }, wrc M 1 o.b)

def DOp.steal1 (o : DOp) (M : Mach) : DOp × Mach := ({ o with t := rd M 0, nx := 2 }, M)
def DOp.steal2 (o : DOp) (M : Mach) : DOp × Mach :=
  if o.t < rd M 1 then ({ o with b := rd M 1, nx := 3 }, M) else ({ o with b := rd M 1, nx := 3, how := 3 }, M)
def DOp.steal3 (o : DOp) (M : Mach) : DOp × Mach := ({ o with rg := rgOf (rd M 2), nx := 4 }, M)
def DOp.steal4 (o : DOp) (M : Mach) : DOp × Mach := ({ o with got := rd M (o.rg.place o.t), how := 2, nx := 5 }, M)
def DOp.steal5 (o : DOp) (M : Mach) : DOp × Mach :=
  if rd M 0 = o.t then ({ o with how := 1 }, wrc M 0 (o.t + 1)) else ({ o with how := 5, got := 0 }, M)

/-- The next step of an operation that is under way, as far as the machine refuses nothing. -/
def DOp.act (most : Int) (o : DOp) (M : Mach) : DOp × Mach :=
  match o.kind, o.nx with
  | 0, 1 => o.push1 M
  | 0, 2 => o.push2 M
  | 0, 3 => o.push3 most M
  | 0, 4 => o.push4 M
  | 0, 5 => o.push5 M
  | 0, 6 => o.push6 M
  | 0, 7 => o.push7 M
  | 0, 8 => o.push8 M
  | 1, 1 => o.pop1 M
  | 1, 2 => o.pop2 M
  | 1, 3 => o.pop3 M
  | 1, 4 => o.pop4 M
  | 1, 5 => o.pop5 M
  | 1, 6 => o.pop6 M
  | 1, 7 => o.pop7 M
  | 1, 8 => o.pop8 M
  | 2, 1 => o.steal1 M
  | 2, 2 => o.steal2 M
  | 2, 3 => o.steal3 M
  | 2, 4 => o.steal4 M
  | 2, 5 => o.steal5 M
  | _, _ => (o, M)

def beginOp (kind : Nat) (x : Int) : DOp := ⟨kind, 1, x, 0, 0, ⟨0, 0⟩, ⟨0, 0⟩, 0, 0, false, false, 0, 0, 0⟩

/-! ### Cells that are read and written -/

theorem rd_wr_same (M : Mach) (k x : Int) (h0 : 0 ≤ k) (hk : k < M.all.length) : rd (wrc M k x) k = x := by
  obtain ⟨n, rfl⟩ := Int.eq_ofNat_of_zero_le h0
  have hn : n < M.all.length := by omega
  simp [rd, wrc, Mach.put, hn]

theorem rd_wr_far (M : Mach) (k i x : Int) (h0 : 0 ≤ k) (hi : 0 ≤ i) (h : k ≠ i) : rd (wrc M k x) i = rd M i := by
  obtain ⟨n, rfl⟩ := Int.eq_ofNat_of_zero_le h0
  obtain ⟨m, rfl⟩ := Int.eq_ofNat_of_zero_le hi
  have hnm : n ≠ m := by omega
  simp only [rd, wrc, Mach.put, Int.toNat_natCast]
  rw [List.getD_eq_getElem?_getD, List.getElem?_set_ne hnm, ← List.getD_eq_getElem?_getD]

theorem wr_len (M : Mach) (k x : Int) : (wrc M k x).all.length = M.all.length := by simp [wrc, Mach.put]
theorem wr_used (M : Mach) (k x : Int) : (wrc M k x).used = M.used := rfl
theorem rd_give (M : Mach) (n : Nat) (k : Int) : rd (M.give n) k = rd M k := rfl

/-- The places of a ring lie in it. -/
theorem place_in {r : Rg} (h : r.Right) (i : Int) : r.a ≤ r.place i ∧ r.place i < r.a + pow r.l := by
  unfold Rg.place
  rw [if_pos h]
  have := pow_pos r.l
  have := Int.emod_nonneg i (show pow r.l ≠ 0 by omega)
  have := Int.emod_lt_of_pos i (show 0 < pow r.l by omega)
  omega

theorem place_eq {r : Rg} (h : r.Right) (i : Int) : r.place i = r.a + i % pow r.l := if_pos h

/-- Two places less than a size apart are two cells. -/
theorem place_ne {r : Rg} (h : r.Right) {i j : Int} (hij : i < j) (hd : j - i < pow r.l) : r.place i ≠ r.place j := by
  rw [place_eq h, place_eq h]
  intro e
  have e2 : i % pow r.l = j % pow r.l := by omega
  have e3 := Int.emod_eq_emod_iff_emod_sub_eq_zero.1 e2.symm
  rw [Int.emod_eq_of_lt (by omega) (by omega)] at e3
  omega

theorem size_eq {r : Rg} (h : r.Right) : r.size = pow r.l := if_pos h

theorem rgOf_word {r : Rg} (h : r.Right) : rgOf r.word = r := by
  have e : r.word = r.a * 16 + r.l := if_pos h
  have h0 := h.1
  have h8 := h.2.1
  rw [e]
  unfold rgOf
  cases r
  simp only at h0 h8 ⊢
  congr 1 <;> omega

theorem pow_succ (l : Int) (h : 0 ≤ l) : pow (l + 1) = 2 * pow l := by
  obtain ⟨n, rfl⟩ := Int.eq_ofNat_of_zero_le h
  have : ((n : Int) + 1).toNat = n + 1 := by omega
  unfold pow
  rw [this, Int.toNat_natCast, Nat.pow_succ]
  omega

theorem pow_mono {a b : Int} (ha : 0 ≤ a) (h : a ≤ b) : pow a ≤ pow b := by
  unfold pow
  have : 2 ^ a.toNat ≤ 2 ^ b.toNat := Nat.pow_le_pow_right (by omega) (by omega)
  omega
end Go.Proofs.Ytiofdfgcghiibaa
