/-
  Numbers that go round, and what FrameRing's and FrameLess's instructions make of a task.
-/
import Derived.Test.YtedpgfldkjimpaaDoorLawBits
namespace Go.Proofs.YtedpgfldkjimpaaDoor
open Go.RowKit

theorem wrap_add (x q : Int) : wrap64 (x + q * 18446744073709551616) = wrap64 x := by
  unfold wrap64
  rw [show x + q * 18446744073709551616 + 9223372036854775808 = (x + 9223372036854775808) + q * 18446744073709551616 by omega, Int.add_mul_emod_self_right]
theorem wrap_is (x : Int) : ∃ q, wrap64 x = x + q * 18446744073709551616 := by
  refine ⟨-((x + 9223372036854775808) / 18446744073709551616), ?_⟩
  unfold wrap64
  have := Int.emod_add_mul_ediv (x + 9223372036854775808) 18446744073709551616
  omega
theorem wrap_mul (x c : Int) : wrap64 (wrap64 x * c) = wrap64 (x * c) := by
  obtain ⟨q, hq⟩ := wrap_is x
  rw [hq, Int.add_mul, show q * 18446744073709551616 * c = q * c * 18446744073709551616 by rw [Int.mul_assoc, Int.mul_comm 18446744073709551616 c, ← Int.mul_assoc], wrap_add]
theorem wrap_sum (x y : Int) : wrap64 (wrap64 x + wrap64 y) = wrap64 (x + y) := by
  obtain ⟨q, hq⟩ := wrap_is x
  obtain ⟨p, hp⟩ := wrap_is y
  rw [hq, hp, show x + q * 18446744073709551616 + (y + p * 18446744073709551616) = x + y + (q + p) * 18446744073709551616 by rw [Int.add_mul]; omega, wrap_add]
theorem wrap_back (x y : Int) : wrap64 (wrap64 (x + y) - y) = wrap64 x := by
  obtain ⟨q, hq⟩ := wrap_is (x + y)
  rw [hq, show x + y + q * 18446744073709551616 - y = x + q * 18446744073709551616 by omega, wrap_add]

/-- A task with three registers. -/
def regs3 (a b c : Int) : Frm := ((Frm.root.put 0 a).put 1 b).put 2 c

theorem plain_of {F : Frm} {i : Ins} (h : chk i = 0) : F.plain i = F.did i.op.toNat i.a.toNat i.b.toNat i.c.toNat i.n := by
  unfold Frm.plain
  rw [if_pos h]

/-- The instructions, one after the other. -/
def runs (F : Frm) (L : List Ins) : Nat → Frm
  | 0 => F
  | k + 1 => (runs F L k).plain (L.getD k ⟨0, 0, 0, 0, 0⟩)

def ringL : List Ins := [⟨2, 3, 0, 1, 0⟩, ⟨2, 4, 1, 0, 0⟩, ⟨3, 5, 3, 1, 0⟩, ⟨4, 6, 3, 2, 0⟩]
def ringM : List Ins := [⟨4, 3, 0, 2, 0⟩, ⟨4, 4, 2, 1, 0⟩, ⟨2, 3, 3, 4, 0⟩]

theorem ringL_ok (k : Nat) (h : k < 4) : plainB (ringL.getD k ⟨0, 0, 0, 0, 0⟩) = true := by
  have : ∀ k, k < 4 → plainB (ringL.getD k ⟨0, 0, 0, 0, 0⟩) = true := by decide
  exact this k h
theorem ringM_ok (k : Nat) (h : k < 3) : plainB (ringM.getD k ⟨0, 0, 0, 0, 0⟩) = true := by
  have : ∀ k, k < 3 → plainB (ringM.getD k ⟨0, 0, 0, 0, 0⟩) = true := by decide
  exact this k h

theorem chkL1 : chk ⟨2, 3, 0, 1, 0⟩ = 0 := by decide
theorem chkL2 : chk ⟨2, 4, 1, 0, 0⟩ = 0 := by decide
theorem chkL3 : chk ⟨3, 5, 3, 1, 0⟩ = 0 := by decide
theorem chkL4 : chk ⟨4, 6, 3, 2, 0⟩ = 0 := by decide
theorem chkM1 : chk ⟨4, 3, 0, 2, 0⟩ = 0 := by decide
theorem chkM2 : chk ⟨4, 4, 2, 1, 0⟩ = 0 := by decide
theorem chkM3 : chk ⟨2, 3, 3, 4, 0⟩ = 0 := by decide

theorem ring1 (a b c : Int) : runs (regs3 a b c) ringL 4 = ((((((((regs3 a b c).put 3 (wrap64 (a + b))).on).put 4 (wrap64 (b + a))).on).put 5 (wrap64 (wrap64 (a + b) - b))).on).put 6 (wrap64 (wrap64 (a + b) * c))).on := by
  show ((((regs3 a b c).plain ⟨2, 3, 0, 1, 0⟩).plain ⟨2, 4, 1, 0, 0⟩).plain ⟨3, 5, 3, 1, 0⟩).plain ⟨4, 6, 3, 2, 0⟩ = _
  rw [plain_of chkL1, plain_of chkL2, plain_of chkL3, plain_of chkL4]
  rfl
theorem ring2 (F : Frm) (a b c : Int) (h0 : F.r 0 = a) (h1 : F.r 1 = b) (h2 : F.r 2 = c) : runs F ringM 3 = ((((((F.put 3 (wrap64 (a * c))).on).put 4 (wrap64 (c * b))).on).put 3 (wrap64 (wrap64 (a * c) + wrap64 (c * b))))).on := by
  show (((F.plain ⟨4, 3, 0, 2, 0⟩).plain ⟨4, 4, 2, 1, 0⟩).plain ⟨2, 3, 3, 4, 0⟩) = _
  rw [plain_of chkM1, plain_of chkM2, plain_of chkM3, ← h0, ← h1, ← h2]
  rfl

theorem ring_34 (a b c : Int) : (runs (regs3 a b c) ringL 4).r 3 = wrap64 (a + b) ∧ (runs (regs3 a b c) ringL 4).r 4 = wrap64 (a + b) ∧ (runs (regs3 a b c) ringL 4).r 5 = wrap64 a := by
  rw [ring1]
  refine ⟨rfl, ?_, ?_⟩
  · show wrap64 (b + a) = _
    rw [Int.add_comm]
  · show wrap64 (wrap64 (a + b) - b) = _
    exact wrap_back a b
theorem ring_end (a b c : Int) : (runs (runs (regs3 a b c) ringL 4) ringM 3).r 3 = wrap64 ((a + b) * c) ∧ (runs (runs (regs3 a b c) ringL 4) ringM 3).r 6 = wrap64 ((a + b) * c) ∧ (runs (runs (regs3 a b c) ringL 4) ringM 3).st = 7 ∧ (runs (runs (regs3 a b c) ringL 4) ringM 3).pc = 7 := by
  rw [ring2 (runs (regs3 a b c) ringL 4) a b c (by rw [ring1]; rfl) (by rw [ring1]; rfl) (by rw [ring1]; rfl), ring1]
  refine ⟨?_, ?_, ?_, ?_⟩
  · show wrap64 (wrap64 (a * c) + wrap64 (c * b)) = _
    rw [wrap_sum, Int.add_mul, Int.mul_comm c b]
  · show wrap64 (wrap64 (a + b) * c) = _
    rw [wrap_mul]
  · show wrap64 (wrap64 (wrap64 (wrap64 (wrap64 (wrap64 (wrap64 (0 + 1) + 1) + 1) + 1) + 1) + 1) + 1) = 7
    decide +kernel
  · show wrap64 (wrap64 (wrap64 (wrap64 (wrap64 (wrap64 (wrap64 (0 + 1) + 1) + 1) + 1) + 1) + 1) + 1) = 7
    decide +kernel

theorem less_r (a b c : Int) : ((regs3 a b c).plain ⟨5, 3, 0, 1, 0⟩).r 3 = (if a < b then 1 else 0) ∧ ((regs3 a b c).plain ⟨5, 3, 1, 0, 0⟩).r 3 = (if b < a then 1 else 0) ∧ ((regs3 a b c).plain ⟨5, 3, 1, 2, 0⟩).r 3 = (if b < c then 1 else 0) ∧ ((regs3 a b c).plain ⟨5, 3, 0, 2, 0⟩).r 3 = (if a < c then 1 else 0) := by
  rw [plain_of (by decide), plain_of (by decide), plain_of (by decide), plain_of (by decide)]
  exact ⟨rfl, rfl, rfl, rfl⟩
theorem less_b : plainB ⟨5, 3, 0, 1, 0⟩ = true ∧ plainB ⟨5, 3, 1, 0, 0⟩ = true ∧ plainB ⟨5, 3, 1, 2, 0⟩ = true ∧ plainB ⟨5, 3, 0, 2, 0⟩ = true := by decide

end Go.Proofs.YtedpgfldkjimpaaDoor
