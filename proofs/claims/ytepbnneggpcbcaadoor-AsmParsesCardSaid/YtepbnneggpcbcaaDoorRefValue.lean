/-
  The reference's Value and operand.
-/
import Derived.Test.YtepbnneggpcbcaaDoorRefCut
namespace Go.Proofs.YtepbnneggpcbcaaDoor
open Go.RowKit

/-- What Value answers. -/
def cvV (l : Bs) : Value := if isNum l then .tuple #[.int .i64 (cap (val l) : Nat), .bool true] else .tuple #[.int .i64 0, .bool false]

theorem cvV_yes {l : Bs} (h : isNum l = true) : cvV l = .tuple #[.int .i64 (cap (val l) : Nat), .bool true] := by unfold cvV; rw [if_pos h]
theorem cvV_no {l : Bs} (h : isNum l = false) : cvV l = .tuple #[.int .i64 0, .bool false] := by unfold cvV; rw [h]; rfl

def CvPost (w : World) (l : Bs) (e : Ending) (w' : World) : Prop := e = .returned (cvV l) ∧ w = w'

def VaRel (l : Bs) (n i : Value) : Prop := ∃ k m : Nat, k ≤ l.length ∧ i = .int .i64 k ∧ n = .int .i64 m ∧ m = val (l.take (min k 12)) ∧ ∀ j b, j < k → l[j]? = some b → isDig b = true

theorem digs_take {l : Bs} {k : Nat} (h : ∀ j b, j < k → l[j]? = some b → isDig b = true) : (l.take k).all isDig = true := by
  rw [List.all_eq_true]
  intro b hb
  obtain ⟨j, hj⟩ := List.getElem?_of_mem hb
  rw [List.getElem?_take] at hj
  split at hj
  · exact h j b (by assumption) hj
  · cases hj

theorem take_small {l : Bs} {k : Nat} (h : ∀ j b, j < k → l[j]? = some b → isDig b = true) (hk : k < 12) : val (l.take k) < 100000000000 := by
  have h1 := valFrom_lt (l.take k) (digs_take h) 0
  rw [Nat.zero_add, Nat.one_mul] at h1
  have h2 : (10 : Nat) ^ (l.take k).length ≤ 10 ^ 11 := Nat.pow_le_pow_right (by omega) (by rw [List.length_take]; omega)
  have e2 : (10 : Nat) ^ 11 = 100000000000 := by decide
  unfold val
  omega

set_option maxHeartbeats 1000000 in
theorem value_lead (l : Bs) (h : lead l = true) (hl : l.length ≤ 1000000) (w : World) : Calls Tryd.prog 48 #[.string (bs l)] w (CvPost w l) := by
  have HV := hid (cvV_no (isNum_lead h))
  cases l with
  | nil =>
    have e0 : (bs []).size = 0 := rfl
    generalize bs [] = S at e0
    go_enter Tryd.func48, Tryd.ntmps48
    go_wp2_with fail
    go_ret2
    exact ⟨by rw [HV.out]; rfl, rfl⟩
  | cons b r =>
    simp only [lead, List.isEmpty_cons, Bool.false_or, List.headD_cons, Bool.and_eq_true, beq_iff_eq, decide_eq_true_eq] at h
    obtain ⟨rfl, h1⟩ := h
    obtain ⟨s, hs⟩ : ∃ s, bs (48 :: r) = s := ⟨_, rfl⟩
    have s1 : 1 < s.size := by rw [← hs]; exact h1
    have s3 : ((s.size : Int) == 0) = false := beq_eq_false_iff_ne.2 (by omega)
    have s2 : s.size ≤ 1000000 := by rw [← hs]; exact hl
    have c0 : ((s[0].toNat : Int) == 48) = true := by subst hs; rfl
    rw [hs]
    clear hs h1 hl
    go_enter Tryd.func48, Tryd.ntmps48
    go_wp2_with fail
    go_ret2
    exact ⟨by rw [HV.out]; rfl, rfl⟩

set_option maxRecDepth 100000 in
set_option maxHeartbeats 2000000 in
theorem value_main (l : Bs) (h : lead l = false) (hl : l.length ≤ 1000000) (w : World) : Calls Tryd.prog 48 #[.string (bs l)] w (CvPost w l) := by
  obtain ⟨b, r, hbr, h48⟩ := lead_no h
  obtain ⟨s, hs⟩ : ∃ s, bs l = s := ⟨_, rfl⟩
  have s0 : 0 < s.size := by rw [← hs, bs_size, hbr]; simp
  have s3 : ((s.size : Int) == 0) = false := beq_eq_false_iff_ne.2 (by omega)
  have s2 : s.size ≤ 1000000 := by rw [← hs]; exact hl
  have HG := hid (show ∀ k (hk : k < s.size), l[k]? = some s[k] from fun k hk => by
    subst hs
    exact List.getElem?_eq_getElem hk)
  have HL := hid (show l.length = s.size by rw [← hs]; rfl)
  have hb : s[0] = b := by
    have := HG.out 0 s0
    rw [hbr] at this
    simpa using this.symm
  rw [hs]
  have HLD := hid h
  have hc : (((s[0].toNat : Int) == 48) = true ∧ ¬ 1 < s.size) ∨ ((s[0].toNat : Int) == 48) = false := by
    by_cases hb48 : b = 48
    · exact .inl ⟨by rw [hb, hb48]; rfl, by rw [← HL.out, hbr, h48 hb48]; simp⟩
    · refine .inr ?_
      have : b.toNat ≠ 48 := fun e => hb48 (UInt8.toNat_inj.1 e)
      rw [hb]
      simp
      omega
  clear hs hl hb h48 hbr h
  rcases hc with ⟨c0, c1⟩ | c0
  all_goals
    go_enter Tryd.func48, Tryd.ntmps48
    go_wp2_with fail
    go_loop [4, 5] (fun n i => VaRel l n i) (fun _ i => s.size - (intOf i).toNat)
    case atStart => exact ⟨0, 0, by omega, rfl, rfl, rfl, fun j b hj => by omega⟩
    case round =>
      obtain ⟨k, m, hk, rfl, rfl, hm, hg⟩ := hrel
      rw [HL.out] at hk
      have HGG := hid hg
      have HM := hid hm
      clear hg hm c0 s3
      by_cases hlt : k < s.size
      · have hgk := HG.out k hlt
        by_cases hd : isDig s[k] = true
        · obtain ⟨d1, d2⟩ := dig_of hd
          have HN := hid (show ∀ j b, j < k + 1 → l[j]? = some b → isDig b = true from fun j b hj hb => by
            rcases Nat.lt_or_ge j k with hj' | hj'
            · exact HGG.out j b hj' hb
            · obtain rfl : j = k := by omega
              rw [hgk] at hb
              injection hb with hb
              rw [← hb]
              exact hd)
          by_cases h12 : k < 12
          · have hm11 : m < 100000000000 := by
              rw [HM.out, show min k 12 = k by omega]
              exact take_small HGG.out h12
            have HT := hid (show val (l.take (min (k + 1) 12)) = m * 10 + (s[k].toNat - 48) by
              rw [show min (k + 1) 12 = k + 1 by omega, val_take l k s[k] hgk, HM.out, show min k 12 = k by omega])
            clear hgk hd
            go_wp2_with fail
            go_round
            case rel => exact ⟨k + 1, m * 10 + (s[k].toNat - 48), by rw [HL.out]; omega, by go_num, by congr 1; omega, HT.out.symm, HN.out⟩
            case measure => simp [intOf]; omega
          · have HT := hid (show m = val (l.take (min (k + 1) 12)) by rw [HM.out, show min (k + 1) 12 = min k 12 by omega])
            clear hgk hd
            go_wp2_with fail
            all_goals
              go_round
              case rel => exact ⟨k + 1, m, by rw [HL.out]; omega, by go_num, rfl, HT.out, HN.out⟩
              case measure => simp [intOf]; omega
        · have HV := hid (cvV_no (isNum_not hgk (by simpa using hd)))
          have hd2 : s[k].toNat < 48 ∨ 57 < s[k].toNat := by
            rcases Nat.lt_or_ge s[k].toNat 48 with h1 | h1
            · exact .inl h1
            · rcases Nat.lt_or_ge 57 s[k].toNat with h2 | h2
              · exact .inr h2
              · exact absurd (by unfold isDig; simp; omega) hd
          clear hgk hd
          rcases hd2 with d | d
          · go_wp2_with fail
            go_ret2
            exact ⟨by rw [HV.out]; rfl, rfl⟩
          · have d0 : 48 ≤ s[k].toNat := by omega
            go_wp2_with fail
            go_ret2
            exact ⟨by rw [HV.out]; rfl, rfl⟩
      · have hkl : k = l.length := by rw [HL.out]; omega
        have hn : isNum l = true := isNum_all HLD.out (fun j b hj hb => HGG.out j b (by omega) hb)
        have HV := hid (cvV_yes hn)
        by_cases h12 : 12 < s.size
        · have HC := hid (show cap (val l) = 1099511627776 from if_neg (val_long hn (by rw [HL.out]; exact h12)))
          clear hkl hn
          go_wp2_with fail
          all_goals
            go_ret2
            exact ⟨by rw [HV.out, HC.out]; rfl, rfl⟩
        · have HC := hid (show cap (val l) = m by
            rw [cap_small (val_short hn (by rw [HL.out]; omega)), HM.out, show min k 12 = l.length by rw [hkl, HL.out]; omega, List.take_length])
          clear hkl hn
          go_wp2_with fail
          go_ret2
          exact ⟨by rw [HV.out, HC.out]; rfl, rfl⟩

theorem value_any (l : Bs) (hl : l.length ≤ 1000000) (w : World) : Calls Tryd.prog 48 #[.string (bs l)] w (CvPost w l) := by
  cases h : lead l with
  | true => exact value_lead l h hl w
  | false => exact value_main l h hl w

/-- What operand answers; the number counts where it is one. -/
def OrPost (w : World) (o : Option Int) (e : Ending) (w' : World) : Prop := ∃ (x : Int) (b : Bool), e = .returned (.tuple #[.int .i64 x, .bool b]) ∧ b = o.isSome ∧ (∀ y, o = some y → x = capI y) ∧ w = w'

theorem cap_le (n : Nat) : cap n ≤ 1099511627776 := by
  unfold cap
  split <;> omega

theorem cap_pos (n : Nat) : cap n = 0 ↔ n = 0 := by
  unfold cap
  split <;> omega

set_option maxHeartbeats 1000000 in
theorem operand_mark (kind : Nat) (h1 : 1 ≤ kind) (h3 : kind ≤ 3) (ch : Int) (hch : ch = ((lt kind).toNat : Int)) (l : Bs) (hl : l.length ≤ 1000000) (w : World) :
    Calls Tryd.prog 33 #[.string (bs l), .int .u8 ch] w (OrPost w (opd kind l)) := by
  obtain ⟨m1, m2, m3⟩ := lt_mk kind h1 h3
  have ho := opd_mark (kind := kind) (by omega) l
  rw [m1] at ho
  have t110 : (ch != 110) = true := by
    rw [hch]
    have : (lt kind).toNat ≠ 110 := fun h => m3 (UInt8.toNat_inj.1 h)
    simp
    omega
  cases l with
  | nil =>
    have HO := hid (show opd kind [] = none by rw [ho]; rfl)
    have e0 : (bs []).size = 0 := rfl
    clear ho hch m1 m2 m3
    generalize bs [] = S at e0
    go_enter Tryd.func33, Tryd.ntmps33
    go_wp2_with fail
    go_ret2
    exact ⟨_, _, rfl, by rw [HO.out]; rfl, (fun y hy => by rw [HO.out] at hy; cases hy), rfl⟩
  | cons b r =>
    obtain ⟨S, hS⟩ : ∃ S, bs (b :: r) = S := ⟨_, rfl⟩
    have s0 : 0 < S.size := by rw [← hS, bs_size]; simp
    have s3 : ((S.size : Int) == 0) = false := beq_eq_false_iff_ne.2 (by omega)
    have s2 : S.size ≤ 1000000 := by rw [← hS]; exact hl
    have hb : S[0] = b := by subst hS; rfl
    by_cases hbc : b = lt kind
    · have HO := hid (show opd kind (b :: r) = numOf r by rw [ho, hbc]; simp)
      have t : ((S[0].toNat : Int) != ch) = false := by rw [hb, hbc, hch]; simp
      have HE := hid (show S.extract 1 S.size = bs r by rw [← hS]; exact bs_tail b r)
      have HVA := hid (value_any r (by rw [List.length_cons] at hl; omega))
      rw [← HE.out] at HVA
      have z1 : 1 ≤ S.size := s0
      rw [hS]
      clear ho hch m1 m2 m3 hb hbc hS
      go_enter Tryd.func33, Tryd.ntmps33
      go_wp2_with fail
      refine (HVA.out _).mono ?_
      rintro e w1 ⟨rfl, rfl⟩
      cases hn : isNum r with
      | true =>
        rw [cvV_yes hn]
        have HX := hid (numOf_yes hn)
        clear hn
        go_wp2_with fail
        go_ret2
        exact ⟨_, _, rfl, by rw [HO.out, HX.out]; rfl, (fun y hy => by rw [HO.out, HX.out] at hy; injection hy with hy; rw [← hy, capI_nat]), rfl⟩
      | false =>
        rw [cvV_no hn]
        have HX := hid (numOf_no hn)
        clear hn
        go_wp2_with fail
        go_ret2
        exact ⟨_, _, rfl, by rw [HO.out, HX.out]; rfl, (fun y hy => by rw [HO.out, HX.out] at hy; cases hy), rfl⟩
    · have HO := hid (show opd kind (b :: r) = none by rw [ho]; simp [List.isPrefixOf, Ne.symm hbc])
      have t : ((S[0].toNat : Int) != ch) = true := by
        rw [hb, hch]
        have : b.toNat ≠ (lt kind).toNat := fun h => hbc (UInt8.toNat_inj.1 h)
        simp
        omega
      rw [hS]
      clear ho hch m1 m2 m3 hb hbc hS
      go_enter Tryd.func33, Tryd.ntmps33
      go_wp2_with fail
      go_ret2
      exact ⟨_, _, rfl, by rw [HO.out]; rfl, (fun y hy => by rw [HO.out] at hy; cases hy), rfl⟩

set_option maxHeartbeats 1000000 in
theorem operand_num (l : Bs) (hl : l.length ≤ 1000000) (w : World) :
    Calls Tryd.prog 33 #[.string (bs l), .int .u8 110] w (OrPost w (opd 4 l)) := by
  have ho := opd_four l
  by_cases hpre : l.headD 0 = 45
  · rw [if_pos hpre] at ho
    have HO := hid ho
    obtain ⟨S, hS⟩ : ∃ S, bs l = S := ⟨_, rfl⟩
    have hne : ∃ r, l = 45 :: r := by
      cases l with
      | nil => simp at hpre
      | cons b r => exact ⟨r, by rw [show b = 45 from hpre]⟩
    obtain ⟨r, rfl⟩ := hne
    have s0 : 0 < S.size := by rw [← hS, bs_size]; simp
    have s2 : S.size ≤ 1000000 := by rw [← hS]; exact hl
    have t : ((S[0].toNat : Int) == 45) = true := by subst hS; rfl
    have HE := hid (show S.extract 1 S.size = bs r by rw [← hS]; exact bs_tail 45 r)
    have HVA := hid (value_any r (by rw [List.length_cons] at hl; omega))
    rw [← HE.out] at HVA
    rw [List.tail_cons] at HO
    rw [hS]
    have z1 : 1 ≤ S.size := s0
    clear ho hpre hS
    go_enter Tryd.func33, Tryd.ntmps33
    go_wp2_with fail
    refine (HVA.out _).mono ?_
    rintro e w1 ⟨rfl, rfl⟩
    cases hn : isNum r with
    | true =>
      rw [cvV_yes hn]
      have HX := hid (numOf_yes hn)
      have HC := hid (capI_neg (val r))
      have HZ := hid (cap_pos (val r))
      have c1 := cap_le (val r)
      clear hn
      generalize cap (val r) = z at HC HZ c1
      by_cases h0 : z = 0
      · subst h0
        have HV0 := hid (HZ.out.1 rfl)
        rw [show ((0 : Nat) : Int) = 0 from rfl]
        go_wp2_with fail
        go_ret2
        exact ⟨_, _, rfl, by rw [HO.out, HX.out, HV0.out]; rfl, (fun y hy => by rw [HO.out, HX.out, HV0.out] at hy; cases hy), rfl⟩
      · have HV0 := hid (show ¬ (val r : Int) = 0 from fun h => h0 (HZ.out.2 (by omega)))
        have z2 : 0 < z := by omega
        clear h0
        go_wp2_with fail
        go_ret2
        exact ⟨_, _, rfl, by rw [HO.out, HX.out, Option.bind_some, if_neg HV0.out]; rfl, (fun y hy => by
          rw [HO.out, HX.out] at hy
          simp only [Option.bind_some, if_neg HV0.out] at hy
          injection hy with hy
          rw [← hy]
          exact HC.out.symm), rfl⟩
    | false =>
      rw [cvV_no hn]
      have HX := hid (numOf_no hn)
      clear hn
      go_wp2_with fail
      go_ret2
      exact ⟨_, _, rfl, by rw [HO.out, HX.out]; rfl, (fun y hy => by rw [HO.out, HX.out] at hy; cases hy), rfl⟩
  · rw [if_neg hpre] at ho
    have HO := hid ho
    have HVA := hid (value_any l hl)
    obtain ⟨S, hS⟩ : ∃ S, bs l = S := ⟨_, rfl⟩
    have hc : S.size = 0 ∨ ∃ h : 0 < S.size, ((S[0].toNat : Int) == 45) = false := by
      subst hS
      cases l with
      | nil => exact .inl rfl
      | cons b r =>
        refine .inr ⟨by rw [bs_size]; simp, ?_⟩
        have hb : b ≠ 45 := hpre
        have h2 : b.toNat ≠ 45 := fun h => hb (UInt8.toNat_inj.1 h)
        have e : (bs (b :: r))[0]'(by rw [bs_size]; simp) = b := rfl
        rw [e]
        simp
        omega
    have s2 : S.size ≤ 1000000 := by rw [← hS]; exact hl
    rw [hS] at HVA ⊢
    clear ho hpre hS
    rcases hc with e0 | ⟨s0, t⟩
    all_goals
      go_enter Tryd.func33, Tryd.ntmps33
      go_wp2_with fail
      refine (HVA.out _).mono ?_
      rintro e w1 ⟨rfl, rfl⟩
      cases hn : isNum l with
      | true =>
        rw [cvV_yes hn]
        have HX := hid (numOf_yes hn)
        clear hn
        go_wp2_with fail
        go_ret2
        exact ⟨_, _, rfl, by rw [HO.out, HX.out]; rfl, (fun y hy => by rw [HO.out, HX.out] at hy; injection hy with hy; rw [← hy, capI_nat]), rfl⟩
      | false =>
        rw [cvV_no hn]
        have HX := hid (numOf_no hn)
        clear hn
        go_wp2_with fail
        go_ret2
        exact ⟨_, _, rfl, by rw [HO.out, HX.out]; rfl, (fun y hy => by rw [HO.out, HX.out] at hy; cases hy), rfl⟩

end Go.Proofs.YtepbnneggpcbcaaDoor
