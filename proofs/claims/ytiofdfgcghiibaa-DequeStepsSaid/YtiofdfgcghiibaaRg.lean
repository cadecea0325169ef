/-
  Rings, as plain data: which are right, their sizes, places and words.
-/
import Derived.Test.YtiofdfgcghiibaaHeap
import Derived.Laws.Entries
namespace Go.Proofs.Ytiofdfgcghiibaa
open Go.RowKit
set_option linter.unusedVariables false

/-- A ring: its first cell, and its log. -/
structure Rg where
  a : Int
  l : Int

def pow (l : Int) : Int := ((2 ^ l.toNat : Nat) : Int)

def Rg.Right (r : Rg) : Prop := 0 ≤ r.l ∧ r.l ≤ 8 ∧ 0 ≤ r.a ∧ r.a ≤ 1048576 - pow r.l

instance (r : Rg) : Decidable r.Right := by unfold Rg.Right; infer_instance

def Rg.size (r : Rg) : Int := if r.Right then pow r.l else 0
def Rg.place (r : Rg) (i : Int) : Int := if r.Right then r.a + i % pow r.l else -1
def Rg.word (r : Rg) : Int := if r.Right then r.a * 16 + r.l else -1

/-- The ring of a number. -/
def rgOf (x : Int) : Rg := ⟨x / 16, x % 16⟩

def ofErr (x : Int) : Prop := 0 ≤ x ∧ (rgOf x).Right
instance (x : Int) : Decidable (ofErr x) := by unfold ofErr; infer_instance

theorem log_cases {P : Int → Prop} (h : ∀ k : Nat, k ≤ 8 → P k) (l : Int) (h0 : 0 ≤ l) (h8 : l ≤ 8) : P l := by
  obtain ⟨k, rfl⟩ := Int.eq_ofNat_of_zero_le h0
  exact h k (by omega)

theorem nine {P : Nat → Prop} (h0 : P 0) (h1 : P 1) (h2 : P 2) (h3 : P 3) (h4 : P 4) (h5 : P 5) (h6 : P 6) (h7 : P 7) (h8 : P 8) (k : Nat) (hk : k ≤ 8) : P k := by
  match k, hk with
  | 0, _ => exact h0
  | 1, _ => exact h1
  | 2, _ => exact h2
  | 3, _ => exact h3
  | 4, _ => exact h4
  | 5, _ => exact h5
  | 6, _ => exact h6
  | 7, _ => exact h7
  | 8, _ => exact h8

theorem pow_nat (k : Nat) : pow (k : Int) = ((2 ^ k : Nat) : Int) := by simp [pow]
theorem pow_pos (l : Int) : 1 ≤ pow l := by
  have : 0 < 2 ^ l.toNat := Nat.two_pow_pos _
  unfold pow
  omega
theorem pow_le (l : Int) (h : l ≤ 8) : pow l ≤ 256 := by
  have : 2 ^ l.toNat ≤ 2 ^ 8 := Nat.pow_le_pow_right (by omega) (by omega)
  unfold pow
  omega

theorem Rg.size_le (r : Rg) : 0 ≤ r.size ∧ r.size ≤ 256 := by
  unfold Rg.size
  split
  · rename_i h
    have := pow_pos r.l
    have := pow_le r.l h.2.1
    omega
  · omega

theorem wrap_small (y : Int) (h0 : 0 ≤ y) (h1 : y ≤ 256) : IntKind.i64.wrap y = y := by
  have e : IntKind.i64.wrap y = (y + 9223372036854775808) % 18446744073709551616 - 9223372036854775808 := by
    simp only [IntKind.wrap, IntKind.bits, IntKind.signed]
    simp
    split <;> omega
  omega

theorem mask_nat (i : Int) (k m : Nat) (hk : k ≤ 8) (hm : 2 ^ k = m) : bits .and .i64 i ((m : Int) - 1) = i % (m : Int) := by
  have h1 : m ≤ 256 := by
    have : 2 ^ k ≤ 2 ^ 8 := Nat.pow_le_pow_right (by omega) (by omega)
    omega
  have h0 : 1 ≤ m := by
    have : 0 < 2 ^ k := Nat.two_pow_pos _
    omega
  have hd : (m : Int) ∣ 18446744073709551616 := by
    have : (2 ^ k : Nat) ∣ 2 ^ 64 := Nat.pow_dvd_pow 2 (by omega)
    rw [hm] at this
    exact Int.natCast_dvd_natCast.2 this
  have e1 : (((m : Int) - 1) % 18446744073709551616).toNat = m - 1 := by omega
  have e2 : ((i % 18446744073709551616).toNat % m : Nat) = (i % (m : Int)).toNat := by
    have hp : 0 ≤ i % (m : Int) := Int.emod_nonneg _ (by omega)
    have h : (((i % 18446744073709551616).toNat % m : Nat) : Int) = i % (m : Int) := by
      rw [Int.natCast_emod, Int.toNat_of_nonneg (Int.emod_nonneg _ (by omega)), Int.emod_emod_of_dvd _ hd]
    omega
  have h2 : i % (m : Int) < m := Int.emod_lt_of_pos _ (by omega)
  have h3 : 0 ≤ i % (m : Int) := Int.emod_nonneg _ (by omega)
  have e3 : ((BitVec.ofInt 64 i &&& BitVec.ofInt 64 ((m : Int) - 1)).toNat : Int) = i % (m : Int) := by
    rw [BitVec.toNat_and, BitVec.toNat_ofInt, BitVec.toNat_ofInt]
    rw [show (((2 : Nat) ^ 64 : Nat) : Int) = 18446744073709551616 from rfl, e1, ← hm, Nat.and_two_pow_sub_one_eq_mod, hm, e2]
    exact Int.toNat_of_nonneg h3
  show IntKind.i64.wrap ((BitVec.ofInt 64 i &&& BitVec.ofInt 64 ((m : Int) - 1)).toNat : Int) = _
  rw [e3]
  exact wrap_small _ h3 (by omega)
/-- What is known of a right log. -/
theorem log_facts (l : Int) (h8 : l ≤ 8) : ∃ n : Int, pow l = n ∧ (2 : Int) ^ l.toNat = n ∧ 1 ≤ n ∧ n ≤ 256 ∧ ∀ i, bits .and .i64 i (n - 1) = i % n := by
  refine ⟨pow l, rfl, by simp [pow], pow_pos l, pow_le l h8, fun i => ?_⟩
  exact mask_nat i l.toNat (2 ^ l.toNat) (by omega) rfl
end Go.Proofs.Ytiofdfgcghiibaa
