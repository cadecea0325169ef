/-
  Numbers that are put into places of a row, one by one: plain.
-/
import Derived.Test.YthomjenkemepiaaRg
namespace Go.Proofs.Ythomjenkemepiaa
open Go.RowKit

/-- The first q numbers of f, put into the places p of a row. -/
def fill (base : List Int) (p : Nat → Nat) (f : Nat → Int) : Nat → List Int
  | 0 => base
  | q + 1 => (fill base p f q).set (p q) (f q)

theorem fill_len (base : List Int) (p : Nat → Nat) (f : Nat → Int) (q : Nat) : (fill base p f q).length = base.length := by
  induction q with
  | zero => rfl
  | succ q ih => simp [fill, ih]

theorem getD_set (l : List Int) (k i : Nat) (x : Int) (hk : k < l.length) : (l.set k x).getD i 0 = if k = i then x else l.getD i 0 := by
  by_cases h : k = i
  · subst h
    simp [hk]
  · rw [if_neg h, List.getD_eq_getElem?_getD, List.getElem?_set_ne h, ← List.getD_eq_getElem?_getD]

theorem fill_far (base : List Int) (p : Nat → Nat) (f : Nat → Int) (q k : Nat) (hp : ∀ i, i < q → p i < base.length) (h : ∀ i, i < q → p i ≠ k) : (fill base p f q).getD k 0 = base.getD k 0 := by
  induction q with
  | zero => rfl
  | succ q ih =>
    rw [fill, getD_set _ _ _ _ (by rw [fill_len]; exact hp q (by omega)), if_neg (h q (by omega))]
    exact ih (fun i hi => hp i (by omega)) (fun i hi => h i (by omega))

theorem fill_at (base : List Int) (p : Nat → Nat) (f : Nat → Int) (q n i : Nat) (hq : q ≤ n) (hp : ∀ i, i < n → p i < base.length) (hj : ∀ i j, i < n → j < n → p i = p j → i = j) (hi : i < q) : (fill base p f q).getD (p i) 0 = f i := by
  induction q with
  | zero => omega
  | succ q ih =>
    rw [fill, getD_set _ _ _ _ (by rw [fill_len]; exact hp q (by omega))]
    by_cases h : p q = p i
    · rw [if_pos h, hj q i (by omega) (by omega) h]
    · rw [if_neg h]
      exact ih (by omega) (by
        have : q ≠ i := fun hh => h (by rw [hh])
        omega)

def nz (x : Int) : Nat := if x = 0 then 0 else 1

/-- How many of the first n cells are not 0. -/
def cnt (l : List Int) : Nat → Nat
  | 0 => 0
  | n + 1 => cnt l n + nz (l.getD n 0)

/-- How many of the first n numbers are not 0. -/
def cntF (f : Nat → Int) : Nat → Nat
  | 0 => 0
  | n + 1 => cntF f n + nz (f n)

theorem cnt_set_far (l : List Int) (k n : Nat) (x : Int) (hk : k < l.length) (h : n ≤ k) : cnt (l.set k x) n = cnt l n := by
  induction n with
  | zero => rfl
  | succ n ih =>
    rw [cnt, cnt, ih (by omega), getD_set _ _ _ _ hk, if_neg (by omega)]

theorem cnt_set (l : List Int) (k n : Nat) (x : Int) (hk : k < l.length) (h0 : l.getD k 0 = 0) (h : k < n) : cnt (l.set k x) n = cnt l n + nz x := by
  induction n with
  | zero => omega
  | succ n ih =>
    rw [cnt, cnt, getD_set _ _ _ _ hk]
    by_cases hkn : k = n
    · subst hkn
      rw [if_pos rfl, cnt_set_far _ _ _ _ hk (Nat.le_refl _), h0]
      simp [nz]
    · rw [if_neg hkn, ih (by omega)]
      omega

theorem cnt_fill (base : List Int) (p : Nat → Nat) (f : Nat → Int) (q n N : Nat) (hq : q ≤ n) (hp : ∀ i, i < n → p i < base.length) (hN : ∀ i, i < n → p i < N) (hj : ∀ i j, i < n → j < n → p i = p j → i = j) (h0 : ∀ i, i < n → base.getD (p i) 0 = 0) :
    cnt (fill base p f q) N = cnt base N + cntF f q := by
  induction q with
  | zero => rfl
  | succ q ih =>
    rw [fill, cnt_set _ _ _ _ (by rw [fill_len]; exact hp q (by omega)) _ (hN q (by omega)), ih (by omega), cntF]
    · omega
    · rw [fill_far _ _ _ _ _ (fun i hi => hp i (by omega)) (fun i hi hh => by have := hj i q (by omega) (by omega) hh; omega)]
      exact h0 q (by omega)

theorem cnt_zero (m n : Nat) : cnt (List.replicate m 0) n = 0 := by
  induction n with
  | zero => rfl
  | succ n ih =>
    have : (List.replicate m (0 : Int)).getD n 0 = 0 := by
      rw [List.getD_eq_getElem?_getD, List.getElem?_replicate]
      split <;> rfl
    rw [cnt, ih, this]
    rfl

theorem cntF_le (f : Nat → Int) (n : Nat) : cntF f n ≤ n := by
  induction n with
  | zero => exact Nat.le_refl _
  | succ n ih =>
    rw [cntF]
    unfold nz
    split <;> omega

theorem cnt_le (l : List Int) (n : Nat) : cnt l n ≤ n := by
  induction n with
  | zero => exact Nat.le_refl _
  | succ n ih =>
    rw [cnt]
    unfold nz
    split <;> omega

/-- The cell of a place, as a number from 0 on. -/
def spot (at_ : Nat) (fr : Int) (P : Nat) (i : Nat) : Nat := at_ + ((fr + i) % (P : Int)).toNat

theorem spot_lt (at_ : Nat) (fr : Int) (P i : Nat) (hP : 1 ≤ P) : at_ ≤ spot at_ fr P i ∧ spot at_ fr P i < at_ + P := by
  have h0 := Int.emod_nonneg (fr + i) (show (P : Int) ≠ 0 by omega)
  have h1 := Int.emod_lt_of_pos (fr + i) (show (0 : Int) < P by omega)
  unfold spot
  omega

theorem spot_inj (at_ : Nat) (fr : Int) (P n : Nat) (hP : 1 ≤ P) (hn : n ≤ P) : ∀ i j, i < n → j < n → spot at_ fr P i = spot at_ fr P j → i = j := by
  have key : ∀ i j : Nat, i < n → j < n → j ≤ i → spot at_ fr P i = spot at_ fr P j → i = j := by
    intro i j hi hj hji h
    have a0 := Int.emod_nonneg (fr + i) (show (P : Int) ≠ 0 by omega)
    have b0 := Int.emod_nonneg (fr + j) (show (P : Int) ≠ 0 by omega)
    have e : (fr + i) % (P : Int) = (fr + j) % (P : Int) := by
      unfold spot at h
      omega
    have e2 := Int.emod_eq_emod_iff_emod_sub_eq_zero.1 e
    rw [show fr + (i : Int) - (fr + j) = (i : Int) - j by omega, Int.emod_eq_of_lt (by omega) (by omega)] at e2
    omega
  intro i j hi hj h
  by_cases hji : j ≤ i
  · exact key i j hi hj hji h
  · exact (key j i hj hi (by omega) h.symm).symm

theorem spot_int (at_ : Nat) (fr : Int) (P i : Nat) (hP : 1 ≤ P) : ((spot at_ fr P i : Nat) : Int) = (at_ : Int) + (fr + i) % (P : Int) := by
  have h0 := Int.emod_nonneg (fr + i) (show (P : Int) ≠ 0 by omega)
  unfold spot
  omega
end Go.Proofs.Ythomjenkemepiaa
