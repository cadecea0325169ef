/-
  Stage 7: the document's numbers, words and kinds.
-/
import Derived.Test.YticlnopklpaikaaDoorText
namespace Go.Proofs.YticlnopklpaikaaDoor
open Go.RowKit
set_option linter.unusedVariables false

theorem dec_small {u : Nat} (h : u < 10) : Lib.decDigits u = [UInt8.ofNat (48 + u)] := by rw [Lib.decDigits, dif_pos h]
theorem dec_big {u : Nat} (h : ¬ u < 10) : Lib.decDigits u = Lib.decDigits (u / 10) ++ [UInt8.ofNat (48 + u % 10)] := by rw [Lib.decDigits, dif_neg h]
theorem dig_at : ∀ d, d < 10 → (⟨#[48, 49, 50, 51, 52, 53, 54, 55, 56, 57]⟩ : ByteArray).extract d (d + 1) = bs [UInt8.ofNat (48 + d)] := by decide
theorem bs_add (a b : Bs) : bs a ++ bs b = bs (a ++ b) := by
  unfold bs
  apply ByteArray.ext
  simp
theorem ret_str {a b : ByteArray} (h : a = b) : Ending.returned (.string a) = .returned (.string b) := by rw [h]
theorem add_bs (a b : Bs) (ha : a.length ≤ 1000000) (hb : b.length ≤ 1000000) : ∀ W, (Op.stringOp .add (bs a) (bs b)).run Tryd.prog W = .ok (.string (bs (a ++ b))) W := fun W => by
  rw [← bs_add]
  exact run_string_add_sum W _ _ (by rw [bs_size, bs_size]; omega)

def NumPost (w : World) (l : Bs) (e : Ending) (w' : World) : Prop := e = .returned (.string (bs l)) ∧ Fr (fun _ => False) w w'

set_option maxRecDepth 100000 in
set_option maxHeartbeats 1000000 in
theorem num_small (n : Nat) (h : n < 10) (w : World) : Calls Tryd.prog 56 #[.int .i64 (n : Int)] w (NumPost w [UInt8.ofNat (48 + n)]) := by
  have HD := hid (dig_at n h)
  have z0 : (0 : Int) ≤ (n : Int) := by omega
  have z1 : (n : Int) < 10 := by omega
  have z2 : wrap64 ((n : Int) + 1) = ((n + 1 : Nat) : Int) := by unfold wrap64; omega
  have z3 : ((n + 1 : Nat) : Int) ≤ 10 := by omega
  have z4 : (n : Int) ≤ ((n + 1 : Nat) : Int) := by omega
  go_enter Tryd.func56, Tryd.ntmps56
  go_wp2_with fail
  go_ret
  exact ⟨ret_str HD.out, Fr.refl _ _⟩

/-- What is left of a number. -/
def sg (x : Int) (m : Nat) : Int := if x < 0 then -(m : Int) else m
def pre10 (m : Nat) : Bs := if m = 0 then [] else Lib.decDigits m

theorem pre10_step {m : Nat} (h : m ≠ 0) : pre10 m = pre10 (m / 10) ++ [UInt8.ofNat (48 + m % 10)] := by
  unfold pre10
  rw [if_neg h]
  by_cases h10 : m < 10
  · rw [if_pos (by omega), dec_small h10, show m % 10 = m by omega]
    rfl
  · rw [if_neg (by omega), dec_big h10]

theorem itoa_sg (x : Int) : Lib.itoa x = if x < 0 then 45 :: Lib.decDigits x.natAbs else Lib.decDigits x.natAbs := by
  unfold Lib.itoa
  split
  · rfl
  · rw [show x.toNat = x.natAbs by omega]

theorem sg_tmod (x : Int) (m : Nat) : ∃ dd : Int, (sg x m).tmod 10 = dd ∧ ((dd < 0 ∧ -dd = ((m % 10 : Nat) : Int)) ∨ (¬ dd < 0 ∧ dd = ((m % 10 : Nat) : Int))) := by
  refine ⟨_, rfl, ?_⟩
  unfold sg
  split
  · rw [Int.neg_tmod, Int.tmod_eq_emod_of_nonneg (by omega)]
    omega
  · rw [Int.tmod_eq_emod_of_nonneg (by omega)]
    omega
theorem sg_tdiv (x : Int) (m : Nat) : (sg x m).tdiv 10 = sg x (m / 10) := by
  unfold sg
  split
  · rw [Int.neg_tdiv, Int.tdiv_eq_ediv_of_nonneg (by omega)]
    omega
  · rw [Int.tdiv_eq_ediv_of_nonneg (by omega)]
    omega

/-- Where the loop stands. -/
def NbRel (x : Int) (w : World) (d : Nat) (nv ov : Value) (wr : World) : Prop :=
  ∃ (m : Nat) (out : Bs), d = m + 1 ∧ m ≤ x.natAbs ∧ nv = .int .i64 (sg x m) ∧ ov = .string (bs out) ∧ pre10 m ++ out = Lib.decDigits x.natAbs ∧ Fr (fun _ => False) w wr

set_option maxRecDepth 100000 in
set_option maxHeartbeats 2000000 in
theorem number_any (x : Int) (h0 : -9223372036854775808 ≤ x) (h1 : x ≤ 9223372036854775807) (w : World) : Calls Tryd.prog 34 #[.int .i64 x] w (NumPost w (Lib.itoa x)) := by
  have hlen := Lib.itoa_length_le x h0 h1
  have HLN := hid (show (Lib.decDigits x.natAbs).length ≤ 21 by
    rw [itoa_sg] at hlen
    split at hlen
    · simp at hlen; omega
    · exact hlen)
  have HX := hid (itoa_sg x)
  have HB := hid (And.intro h0 h1)
  clear hlen
  by_cases hx : x = 0
  · have t1 : (x == 0) = true := beq_iff_eq.2 hx
    have HE := hid (show Lib.itoa x = [48] by rw [hx]; kernel_rfl)
    clear hx
    go_enter Tryd.func34, Tryd.ntmps34
    go_wp2_with fail
    go_ret
    exact ⟨by rw [HE.out]; rfl, Fr.refl _ _⟩
  · have t1 : (x == 0) = false := beq_eq_false_iff_ne.2 hx
    have HN := hid hx
    clear hx
    obtain ⟨bl, hbl⟩ : ∃ b, decide (x < 0) = b := ⟨_, rfl⟩
    go_enter Tryd.func34, Tryd.ntmps34
    go_wp2_with fail
    have HBL := hid hbl
    clear hbl
    go_loopg [0, 3] (x.natAbs + 1) (fun d nv ov wr => NbRel x w d nv ov wr)
    case atStart => exact ⟨x.natAbs, [], rfl, Nat.le_refl _, by
      congr 1
      unfold sg
      split <;> omega, rfl, by
      unfold pre10
      rw [if_neg (by have := HN.out; omega), List.append_nil], Fr.refl _ _⟩
    case round =>
      obtain ⟨m, out, hd, hm, rfl, rfl, hpo, hF⟩ := hrel
      have HPO := hid hpo
      have HD := hid hd
      have HM := hid hm
      have HF := hid hF
      clear hpo hd hm hF
      by_cases hm0 : m = 0
      · have tq : (sg x m != 0) = false := by
          rw [hm0]; unfold sg; simp
        have HO := hid (show out = Lib.decDigits x.natAbs by
          have := HPO.out
          rw [hm0] at this
          simpa [pre10] using this)
        clear hm0
        have HLO := hid (show out.length ≤ 21 by rw [HO.out]; exact HLN.out)
        cases bl with
        | false =>
          go_wp2_with fail
          go_ret
          exact ⟨ret_str (by rw [HX.out, if_neg (of_decide_eq_false HBL.out), HO.out]), HF.out⟩
        | true =>
          have q5 : ∀ W, (Op.stringOp .add ⟨#[45]⟩ (bs out)).run Tryd.prog W = .ok (.string (bs ([45] ++ out))) W := add_bs [45] out (by simp) (by have := HLO.out; omega)
          go_wp2_with fail
          go_ret
          exact ⟨ret_str (by rw [HX.out, if_pos (of_decide_eq_true HBL.out), HO.out]), HF.out⟩
      · have HST := hid (pre10_step hm0)
        have tq : (sg x m != 0) = true := by
          rw [bne_iff_ne]
          unfold sg
          split <;> omega
        obtain ⟨dd, hdd, hds⟩ := sg_tmod x m
        have hdv := sg_tdiv x m
        have HB1 := hid (show -9223372036854775808 ≤ sg x (m / 10) ∧ sg x (m / 10) ≤ 9223372036854775807 from by
          have := HB.out
          have := HM.out
          unfold sg
          split <;> omega)
        have HM0 := hid hm0
        obtain ⟨q, hq⟩ : ∃ q, sg x m = q := ⟨_, rfl⟩
        obtain ⟨q', hq'⟩ : ∃ q, sg x (m / 10) = q := ⟨_, rfl⟩
        obtain ⟨D, hD⟩ : ∃ D, m % 10 = D := ⟨_, rfl⟩
        have hD10 : D < 10 := by omega
        rw [hq] at hdd hdv tq ⊢
        rw [hq'] at hdv HB1
        rw [hD] at hds HST
        have f3 : IntKind.i64.wrap q' = q' := by have := HB1.out; rw [IntKind.wrap_i64]; omega
        have f4 : wrap64 q' = q' := by have := HB1.out; unfold wrap64; omega
        have HQ' := hid hq'
        have HOL := hid (show out.length ≤ 21 by
          have h2 := congrArg List.length HPO.out
          rw [List.length_append] at h2
          have := HLN.out
          omega)
        have HNM := hid (fun W => num_small D hD10 W)
        have HAD := hid (show pre10 (m / 10) ++ ([UInt8.ofNat (48 + D)] ++ out) = Lib.decDigits x.natAbs by rw [← List.append_assoc, ← HST.out]; exact HPO.out)
        have q5 := add_bs [UInt8.ofNat (48 + D)] out (by simp) (by have := HOL.out; omega)
        clear hq hq' hD hm0
        obtain ⟨s1, hs1⟩ : ∃ s, bs [UInt8.ofNat (48 + D)] = s := ⟨_, rfl⟩
        obtain ⟨s2, hs2⟩ : ∃ s, bs out = s := ⟨_, rfl⟩
        obtain ⟨s3, hs3⟩ : ∃ s, bs ([UInt8.ofNat (48 + D)] ++ out) = s := ⟨_, rfl⟩
        unfold NumPost at HNM
        rw [hs1, hs2, hs3] at q5
        rw [hs1] at HNM
        rw [hs2]
        have HS3 := hid hs3
        clear hs1 hs2 hs3
        rcases hds with ⟨hlt, hneg⟩ | ⟨hlt, heq⟩
        · have f5 : IntKind.i64.wrap (-dd) = (D : Int) := by rw [hneg, IntKind.wrap_i64]; omega
          have f6 : wrap64 (-dd) = (D : Int) := by rw [hneg]; unfold wrap64; omega
          clear hneg
          go_wp2_with fail
          refine (HNM.out _).mono ?_
          rintro e w2 ⟨rfl, hF2⟩
          go_wp2_with fail
          go_roundg (m / 10 + 1)
          case rel => exact ⟨m / 10, _, rfl, by have := HM.out; omega, by rw [HQ'.out], by rw [HS3.out], HAD.out, HF.out.trans hF2⟩
          case measure => have := HD.out; have := HM0.out; omega
        · subst heq
          go_wp2_with fail
          refine (HNM.out _).mono ?_
          rintro e w2 ⟨rfl, hF2⟩
          go_wp2_with fail
          go_roundg (m / 10 + 1)
          case rel => exact ⟨m / 10, _, rfl, by have := HM.out; omega, by rw [HQ'.out], by rw [HS3.out], HAD.out, HF.out.trans hF2⟩
          case measure => have := HD.out; have := HM0.out; omega

set_option maxRecDepth 100000 in
set_option maxHeartbeats 1000000 in
theorem or_any (s : ByteArray) (w : World) : Calls Tryd.prog 36 #[.string s] w (NumPost w (if s.size = 0 then [45] else s.data.toList)) := by
  by_cases h : s.size = 0
  · rw [if_pos h]
    obtain rfl := empty_of h
    go_enter Tryd.func36, Tryd.ntmps36
    go_wp2_with fail
    go_ret
    exact ⟨rfl, Fr.refl _ _⟩
  · rw [if_neg h]
    have e0 := not_empty (cl := s) (by omega)
    have e1 : s.toList.isEmpty = false := by cases hh : s.toList with | nil => exact absurd hh e0 | cons a b => rfl
    have e2 : (s.toList == []) = false := by rw [beq_eq_false_iff_ne]; exact e0
    have HE := hid (bs_of s)
    clear h e0
    go_enter Tryd.func36, Tryd.ntmps36
    go_wp2_with fail
    go_ret
    exact ⟨ret_str HE.out.symm, Fr.refl _ _⟩

set_option maxRecDepth 100000 in
set_option maxHeartbeats 1000000 in
theorem kind_any (k : Int) (h0 : 0 ≤ k) (h1 : k ≤ 4) (w : World) : Calls Tryd.prog 35 #[.int .i64 k] w (NumPost w (kindW k)) := by
  have hk : k = 0 ∨ k = 1 ∨ k = 2 ∨ k = 3 ∨ k = 4 := by omega
  clear h0 h1
  rcases hk with rfl | rfl | rfl | rfl | rfl
  all_goals
    go_enter Tryd.func35, Tryd.ntmps35
    go_wp2_with fail
    go_ret
    exact ⟨rfl, Fr.alloc _ _ _⟩

end Go.Proofs.YticlnopklpaikaaDoor
