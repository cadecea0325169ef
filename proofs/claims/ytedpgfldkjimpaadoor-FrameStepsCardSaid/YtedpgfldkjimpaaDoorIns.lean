/-
  Instructions that may be, in letters; what an instruction makes of a task.
-/
import Derived.Test.YtedpgfldkjimpaaDoorSame
namespace Go.Proofs.YtedpgfldkjimpaaDoor
open Go.RowKit

theorem ok_reg {o k : Nat} {x : Int} (h : bad o k x = false) (hk : k < 3) : 0 ≤ x ∧ x < 8 := by
  obtain ⟨h1, h2⟩ := not_bad h
  have hlo : ∀ o, o < 17 → ∀ k, k < 3 → lo o k = 0 ∧ hi o k ≤ 7 := by decide
  rcases Nat.lt_or_ge o 17 with ho | ho
  · obtain ⟨e1, e2⟩ := hlo o ho k hk
    omega
  · have e : kd o k = 0 := by
      unfold kd
      rw [List.getD_eq_getElem?_getD, List.getElem?_eq_none (by simp [kinds]; omega)]
      rfl
    simp only [lo, hi, e] at h1 h2
    have e1 : ends.getD (0 * 2) 0 = 0 := rfl
    have e2 : ends.getD (0 * 2 + 1) 0 = 0 := rfl
    omega

theorem chk_letters {i : Ins} (h : chk i = 0) : ∃ (o a b c : Nat) (n : Int), o ≤ 16 ∧ a < 8 ∧ b < 8 ∧ c < 8 ∧ i = ⟨o, a, b, c, n⟩ := by
  obtain ⟨op, a, b, c, n⟩ := i
  unfold chk at h
  split at h
  · omega
  · rename_i ho
    simp only at ho
    split at h
    · omega
    · rename_i hw
      simp only [Ins.wrong, Bool.or_eq_true, not_or, Bool.not_eq_true] at hw
      obtain ⟨⟨⟨h0, h1⟩, h2⟩, _⟩ := hw
      have r0 := ok_reg h0 (by omega)
      have r1 := ok_reg h1 (by omega)
      have r2 := ok_reg h2 (by omega)
      refine ⟨op.toNat, a.toNat, b.toNat, c.toNat, n, by omega, by omega, by omega, by omega, ?_⟩
      congr 1 <;> omega

/-- What a plain instruction makes of a task. -/
def Frm.did (F : Frm) (o a b c : Nat) (n : Int) : Frm :=
  match o with
  | 0 => (F.put a n).on
  | 1 => (F.put a (F.r b)).on
  | 2 => (F.put a (wrap64 (F.r b + F.r c))).on
  | 3 => (F.put a (wrap64 (F.r b - F.r c))).on
  | 4 => (F.put a (wrap64 (F.r b * F.r c))).on
  | 5 => (F.put a (if F.r b < F.r c then 1 else 0)).on
  | 6 => F.to n
  | 7 => if F.r a = 0 then F.on else F.to n
  | _ => F

theorem Frm.did_high (F : Frm) (o a b c : Nat) (n : Int) (h : 7 < o) : F.did o a b c n = F := by
  unfold Frm.did
  split
  all_goals first | omega | rfl

end Go.Proofs.YtedpgfldkjimpaaDoor
