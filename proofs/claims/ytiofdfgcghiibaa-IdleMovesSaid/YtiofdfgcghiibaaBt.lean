/-
  Bits of a number, plain: which are among them, how many, which is the least that is not.
-/
import Derived.Test.YtiofdfgcghiibaaHeap
namespace Go.Proofs.Ytiofdfgcghiibaa
open Go.RowKit
set_option linter.unusedVariables false

def bitB (x : Int) (k : Nat) : Bool := decide (x / 2 ^ k % 2 = 1)

def hasB (x v : Int) : Bool := decide (0 ≤ v) && (decide (v < 64) && bitB x v.toNat)

theorem has_nat (x : Int) (k : Nat) (h : k < 64) : hasB x k = bitB x k := by
  unfold hasB
  rw [decide_eq_true (by omega : (0 : Int) ≤ k), decide_eq_true (by omega : (k : Int) < 64)]
  rfl

theorem has_out (x v : Int) (h : v < 0 ∨ 64 ≤ v) : hasB x v = false := by
  unfold hasB
  rcases h with h | h
  · rw [decide_eq_false (by omega)]; rfl
  · rw [decide_eq_false (by omega : ¬ v < 64)]; simp

/-- Those among the first n. -/
def memN (x : Int) : Nat → List Nat
  | 0 => []
  | n + 1 => memN x n ++ if bitB x n then [n] else []

theorem memN_yes {x : Int} {n : Nat} (h : bitB x n = true) : memN x (n + 1) = memN x n ++ [n] := by rw [memN, h]; rfl
theorem memN_no {x : Int} {n : Nat} (h : bitB x n = false) : memN x (n + 1) = memN x n := by rw [memN, h]; simp

theorem memN_len (x : Int) (n : Nat) : (memN x n).length ≤ n := by
  induction n with
  | zero => simp [memN]
  | succ n ih =>
    rw [memN]
    split
    · simp; omega
    · simp; omega

theorem memN_mem {x : Int} {n k : Nat} (h : k ∈ memN x n) : k < n ∧ bitB x k = true := by
  induction n with
  | zero => simp [memN] at h
  | succ n ih =>
    rw [memN] at h
    rcases List.mem_append.1 h with h | h
    · have := ih h; exact ⟨by omega, this.2⟩
    · split at h
      · simp at h; subst h; exact ⟨by omega, by assumption⟩
      · simp at h

theorem memN_in {x : Int} {n k : Nat} (h : k < n) (hb : bitB x k = true) : k ∈ memN x n := by
  induction n with
  | zero => omega
  | succ n ih =>
    rw [memN]
    by_cases e : k = n
    · subst e; rw [hb]; simp
    · exact List.mem_append.2 (.inl (ih (by omega)))

theorem memN_sorted (x : Int) (n : Nat) : (memN x n).Pairwise (· < ·) := by
  induction n with
  | zero => simp [memN]
  | succ n ih =>
    rw [memN]
    split
    · refine List.pairwise_append.2 ⟨ih, by simp, fun a ha b hb => ?_⟩
      simp at hb
      have := memN_mem ha
      omega
    · simpa using ih

/-- The sum of the first n bits' numbers. -/
theorem memN_sum (x : Int) (n : Nat) : ((memN x n).map (fun k => (2 : Int) ^ k)).sum = x % 2 ^ n := by
  induction n with
  | zero => simp [memN]
  | succ n ih =>
    rw [memN, List.map_append, List.sum_append, ih]
    have h1 : x % 2 ^ (n + 1) = x % 2 ^ n + 2 ^ n * (x / 2 ^ n % 2) := by
      rw [Int.pow_succ]
      have h2 : (0 : Int) < 2 ^ n := Int.pow_pos (by decide)
      have a1 := Int.mul_ediv_add_emod x (2 ^ n)
      have a2 := Int.mul_ediv_add_emod (x / 2 ^ n) 2
      have a3 := Int.emod_nonneg x (Int.ne_of_gt h2)
      have a4 := Int.emod_lt_of_pos x h2
      have a5 := Int.emod_nonneg (x / 2 ^ n) (by decide : (2 : Int) ≠ 0)
      have a6 := Int.emod_lt_of_pos (x / 2 ^ n) (by decide : (0 : Int) < 2)
      generalize hp : (2 : Int) ^ n = p at *
      generalize hq : x / p = q at *
      generalize hr : x % p = r at *
      have a7 : x = (q / 2) * (p * 2) + (r + p * (q % 2)) := by
        rw [← a1]
        conv => lhs; rw [← a2]
        rw [Int.mul_add, Int.mul_comm (q / 2) (p * 2), Int.mul_assoc, Int.mul_comm 2 (q / 2), ← Int.mul_assoc]
        omega
      rw [a7, Int.add_comm, Int.add_mul_emod_self_right]
      refine Int.emod_eq_of_lt ?_ ?_
      · have : 0 ≤ p * (q % 2) := Int.mul_nonneg (by omega) a5
        omega
      · rcases (by omega : q % 2 = 0 ∨ q % 2 = 1) with e | e
        · rw [e]; omega
        · rw [e]; omega
    rw [h1]
    unfold bitB
    by_cases h : x / 2 ^ n % 2 = 1
    · rw [h]; simp
    · have h3 : x / 2 ^ n % 2 = 0 := by omega
      rw [h3]; simp

/-- The least of the first m that is not among them. -/
def FirstP (x : Int) (m : Nat) (r : Int) : Prop := (r = -1 ∧ ∀ k, k < m → bitB x k = true) ∨ ∃ k : Nat, k < m ∧ r = k ∧ bitB x k = false ∧ ∀ j, j < k → bitB x j = true

theorem FirstP.one {x : Int} {m : Nat} {r r' : Int} (h : FirstP x m r) (h' : FirstP x m r') : r = r' := by
  rcases h with ⟨h1, h2⟩ | ⟨k, h1, h2, h3, h4⟩ <;> rcases h' with ⟨g1, g2⟩ | ⟨j, g1, g2, g3, g4⟩
  · omega
  · rw [h2 j g1] at g3; cases g3
  · rw [g2 k h1] at h3; cases h3
  · rcases Nat.lt_trichotomy k j with e | e | e
    · rw [g4 k e] at h3; cases h3
    · omega
    · rw [h4 j e] at g3; cases g3

theorem FirstP.ex (x : Int) (m : Nat) : ∃ r, FirstP x m r := by
  induction m with
  | zero => exact ⟨-1, .inl ⟨rfl, fun k hk => by omega⟩⟩
  | succ m ih =>
    obtain ⟨r, h⟩ := ih
    rcases h with ⟨h1, h2⟩ | ⟨k, h1, h2, h3, h4⟩
    · rcases hb : bitB x m with _ | _
      · exact ⟨m, .inr ⟨m, by omega, rfl, hb, h2⟩⟩
      · exact ⟨-1, .inl ⟨rfl, fun k hk => by
          by_cases e : k = m
          · subst e; exact hb
          · exact h2 k (by omega)⟩⟩
    · exact ⟨r, .inr ⟨k, by omega, h2, h3, h4⟩⟩

/-- Bits from n on are no matter. -/
theorem FirstP.bits {x y : Int} {m : Nat} {r : Int} (h : FirstP x m r) (e : ∀ k, k < m → bitB y k = bitB x k) : FirstP y m r := by
  rcases h with ⟨h1, h2⟩ | ⟨k, h1, h2, h3, h4⟩
  · exact .inl ⟨h1, fun k hk => by rw [e k hk]; exact h2 k hk⟩
  · exact .inr ⟨k, h1, h2, by rw [e k h1]; exact h3, fun j hj => by rw [e j (by omega)]; exact h4 j hj⟩
/-! ### The machine's words for bits -/

theorem bit_bv (x : Int) (k : Nat) (hk : k < 64) : (BitVec.ofInt 64 x).getLsbD k = bitB x k := by
  rw [← BitVec.testBit_toNat, Nat.testBit_eq_decide_div_mod_eq, BitVec.toNat_ofInt]
  unfold bitB
  have e : (x % ((2 ^ 64 : Nat) : Int)).toNat / 2 ^ k % 2 = 1 ↔ x / 2 ^ k % 2 = 1 := by
    obtain ⟨m, hm⟩ : ∃ m : Nat, (x % ((2 ^ 64 : Nat) : Int)) = m := ⟨_, (Int.toNat_of_nonneg (Int.emod_nonneg _ (by decide))).symm⟩
    obtain ⟨d, hd⟩ : ∃ d, 64 = k + (d + 1) := ⟨63 - k, by omega⟩
    have h1 := Int.mul_ediv_add_emod x ((2 ^ 64 : Nat) : Int)
    rw [hm] at h1 ⊢
    have h2 : ((2 ^ 64 : Nat) : Int) = 2 ^ k * (2 ^ d * 2) := by
      rw [hd, Nat.pow_add, Nat.pow_succ]; simp
    have hp : (0 : Int) < 2 ^ k := Int.pow_pos (by decide)
    have h3 : x / 2 ^ k = (2 ^ d * 2) * (x / ((2 ^ 64 : Nat) : Int)) + (m : Int) / 2 ^ k := by
      conv => lhs; rw [← h1, h2, Int.mul_assoc]
      rw [Int.add_comm, Int.add_mul_ediv_left _ _ (Int.ne_of_gt hp), Int.add_comm, ← h2]
    rw [h3, Int.toNat_natCast]
    have h4 : ((m / 2 ^ k : Nat) : Int) = (m : Int) / 2 ^ k := by simp
    rw [← h4]
    generalize m / 2 ^ k = q
    generalize x / ((2 ^ 64 : Nat) : Int) = z
    have h5 : (2 : Int) ^ d * 2 * z = 2 * (2 ^ d * z) := by rw [Int.mul_comm (2 ^ d) 2, Int.mul_assoc]
    rw [h5]
    generalize (2 : Int) ^ d * z = y
    omega
  exact decide_eq_decide.2 e

theorem wrap_bit (n : Nat) (h : n < 2) : IntKind.i64.wrap n = n := by
  unfold IntKind.wrap
  simp [IntKind.bits, IntKind.signed]
  omega

theorem and_one (y : Int) : bits BinOp.and IntKind.i64 y 1 = y % 2 := by
  show IntKind.i64.wrap ((BitVec.ofInt 64 y &&& BitVec.ofInt 64 1).toNat : Int) = _
  have h : (BitVec.ofInt 64 y &&& BitVec.ofInt 64 1).toNat = (y % 2).toNat := by
    rw [BitVec.toNat_and, BitVec.toNat_ofInt, BitVec.toNat_ofInt]
    have : ((1 : Int) % ((2 ^ 64 : Nat) : Int)).toNat = 1 := by decide
    rw [this, Nat.and_one_is_mod]
    omega
  rw [h, wrap_bit _ (by omega)]
  omega

theorem bit_wrap (y : Int) (k : Nat) (hk : k < 64) : bitB (IntKind.i64.wrap y) k = bitB y k := by
  rw [← bit_bv _ _ hk, ← bit_bv _ _ hk]
  congr 1
  apply BitVec.eq_of_toNat_eq
  rw [BitVec.toNat_ofInt, BitVec.toNat_ofInt]
  congr 1
  rw [IntKind.wrap_i64]
  omega

theorem bit_or (x y : Int) (k : Nat) (hk : k < 64) : bitB (bits BinOp.or IntKind.i64 x y) k = (bitB x k || bitB y k) := by
  show bitB (IntKind.i64.wrap ((BitVec.ofInt 64 x ||| BitVec.ofInt 64 y).toNat : Int)) k = _
  rw [bit_wrap _ _ hk, ← bit_bv _ _ hk, ← bit_bv _ _ hk, ← bit_bv _ _ hk, ← BitVec.getLsbD_or]
  congr 1
  apply BitVec.eq_of_toNat_eq
  rw [BitVec.toNat_ofInt]
  have := (BitVec.ofInt 64 x ||| BitVec.ofInt 64 y).isLt
  omega
end Go.Proofs.Ytiofdfgcghiibaa
