/-
  Stage 7, plain: what ParseInt makes of a number's word; the words of SplitN.
-/
import Derived.Test.YtnlbellbeepkaaaGreatDoorPrs
import Derived.Lib.ParseIntBCases
import Derived.Lib.Strings
namespace Go.Proofs.YtnlbellbeepkaaaGreatDoor
open Go.RowKit

theorem uint_all (l : Bs) : ∀ acc : Nat, l.all isDig = true → acc < 18446744073709551616 → Lib.parseUint10 acc l = if valFrom acc l < 18446744073709551616 then .ok (valFrom acc l) else .range := by
  induction l with
  | nil =>
    intro acc _ ha
    rw [valFrom_nil, if_pos ha]
    rfl
  | cons b r ih =>
    intro acc hl ha
    simp only [List.all_cons, Bool.and_eq_true] at hl
    obtain ⟨h1, h2⟩ := dig_of hl.1
    unfold Lib.parseUint10 valFrom
    rw [if_pos ⟨h1, h2⟩]
    have hge := valFrom_ge r (acc * 10 + (b.toNat - 48))
    by_cases g1 : 1844674407370955162 ≤ acc
    · rw [if_pos g1, if_neg (by omega)]
    · rw [if_neg g1]
      by_cases g2 : 18446744073709551616 ≤ acc * 10 + (b.toNat - 48)
      · rw [if_pos g2, if_neg (by omega)]
      · rw [if_neg g2, ih _ hl.2 (by omega)]

theorem mag_all {l : Bs} (hne : l ≠ []) (h : l.all isDig = true) : Lib.parseUintB 64 l = if val l < 18446744073709551616 then .ok (val l) else .range := by
  rw [Lib.parseUintB_64]
  unfold Lib.parseMag
  rw [if_neg hne, uint_all l 0 h (by omega)]
  rfl

theorem parse_wrtn {w : Bs} (h : wrtn w = true) : Lib.parseIntB 64 w = if inI (numX w) then .ok (numX w) else .range := by
  have h0 := h
  unfold wrtn at h
  simp only [Bool.and_eq_true, Bool.not_eq_true', Bool.or_eq_false_iff] at h
  obtain ⟨⟨h1, h2⟩, h3⟩ := h
  cases w with
  | nil => simp [digs] at h1
  | cons a r =>
    by_cases h45 : a = 45
    · subst h45
      have hd : digs (45 :: r) = r := rfl
      have hx : numX (45 :: r) = -(val r : Int) := rfl
      rw [hd] at h1 h3
      have hne : r ≠ [] := by rintro rfl; simp at h1
      rw [Lib.parseIntB_minus, mag_all hne h3, hx]
      by_cases hv : val r < 18446744073709551616
      · rw [if_pos hv]
        unfold Lib.signedC
        simp only [Nat.reduceSub, Nat.reducePow]
        by_cases hv2 : 9223372036854775808 < val r
        · rw [if_pos hv2, if_neg (by unfold inI; omega)]
        · rw [if_neg hv2, if_pos (by unfold inI; omega)]
      · rw [if_neg hv, if_neg (by unfold inI; omega)]
        rfl
    · have hd : digs (a :: r) = a :: r := by unfold digs; rw [if_neg (show ¬ (a :: r : Bs).headD 0 = 45 from h45)]
      have hx : numX (a :: r) = (val (a :: r) : Int) := by unfold numX; rw [if_neg (show ¬ (a :: r : Bs).headD 0 = 45 from h45), hd]
      rw [hd] at h3
      have h4 := h3
      simp only [List.all_cons, Bool.and_eq_true] at h4
      obtain ⟨g1, g2⟩ := dig_of h4.1
      rw [Lib.parseIntB_plain 64 a r (by omega) (by omega), mag_all (by simp) h3, hx]
      by_cases hv : val (a :: r) < 18446744073709551616
      · rw [if_pos hv]
        unfold Lib.signlessC
        simp only [Nat.reduceSub, Nat.reducePow]
        by_cases hv2 : 9223372036854775808 ≤ val (a :: r)
        · rw [if_pos hv2, if_neg (by unfold inI; omega)]
        · rw [if_neg hv2, if_pos (by unfold inI; omega)]
      · rw [if_neg hv, if_neg (by unfold inI; omega)]
        rfl

theorem trim_digs (w : Bs) : Lib.trimPrefix w [45] = digs w := by
  unfold Lib.trimPrefix digs Lib.hasPrefix
  cases w with
  | nil => rfl
  | cons a r =>
    by_cases h : a = 45
    · subst h
      simp
    · simp [h, Ne.symm h]

theorem cut_len_le' (c : UInt8) (l : Bs) : (cut c l).length ≤ l.length + 1 := by
  induction l with
  | nil => simp [cut]
  | cons x r ih =>
    have := cut_pos c r
    unfold cut
    split
    · rw [List.length_cons, List.length_cons]; omega
    · rw [List.length_cons, List.length_tail, List.length_cons]; omega

theorem wrds_min (t : Bs) : cutN 32 (min 8 (t.length + 1) - 1) t = wrds t := by
  unfold wrds
  by_cases h : 7 ≤ t.length
  · rw [show min 8 (t.length + 1) - 1 = 7 by omega]
  · have := cut_len_le' 32 t
    rw [cutN_eq 32 _ t (by omega), cutN_eq 32 7 t (by omega)]

end Go.Proofs.YtnlbellbeepkaaaGreatDoor
