/-
  asm's words: numerals, marked operands, numbers; split and join.
-/
import Derived.Test.YtepbnneggpcbcaaGreatDoorFields
import Derived.Test.YtepbnneggpcbcaaGreatDoorShelf
namespace Go.Proofs.YtepbnneggpcbcaaGreatDoor
open Go.RowKit

theorem Fr.ofBelow {w w' : World} (h : Below w.heap.size w w') : Fr (fun _ => False) w w' :=
  ⟨h.os, h.tape, h.output, h.size, fun k hk _ => h.block k hk⟩

theorem Fr.ofSome {w w' : World} {T : TypeId} (h : w' = w ∨ ∃ t, w' = Lib.bytesWorld w T t) : Fr (fun _ => False) w w' := by
  rcases h with rfl | ⟨t, rfl⟩
  · exact Fr.refl _ _
  · exact Fr.ofBelow (Lib.bytesWorld_below _ _ _)

theorem prefix_take (p l : Bs) : Lib.trimPrefix l p = if p.isPrefixOf l then l.drop p.length else l := rfl

theorem cutPrefix_ok (l p : Bs) (w : World) :
    Calls Tryz.prog 55 #[.string (bs l), .string (bs p)] w fun e w' => e = .returned (.tuple #[.string (bs (if p.isPrefixOf l then l.drop p.length else l)), .bool (p.isPrefixOf l)]) ∧ w = w' :=
  (Tryz.strings_CutPrefix (bs l) (bs p) w).mono fun _ _ ⟨he, hw⟩ => ⟨he, hw.symm⟩

/-- What stands behind the call of Atoi. -/
def AtPost (w : World) (n : Nat) (e : Ending) (w' : World) : Prop := ∃ v : Value, e = .returned (.tuple #[.int .i64 (sat n : Nat), v]) ∧ Fr (fun _ => False) w w'

theorem Tabs.rngVar {w : World} (h : Tabs w) : ∃ tp p, w.var? Tryz.prog "strconv.ErrRange" = some #[.iface tp p] := by
  obtain ⟨t, fz, tp, p, hb⟩ := h.rng
  refine ⟨tp, p, ?_⟩
  unfold World.var?
  rw [show Tryz.prog.globalNamed "strconv.ErrRange" = some 11 by kernel_rfl]
  simp [hb]

theorem Tabs.powTab {w : World} (h : Tabs w) : Lib.TabIs Tryz.prog w "internal/strconv.uint64pow10" .u64 Lib.pow10Tab := by
  obtain ⟨t, fz, hb⟩ := h.pow
  unfold Lib.TabIs World.var?
  rw [show Tryz.prog.globalNamed "internal/strconv.uint64pow10" = some 4 by kernel_rfl]
  simp [hb]

theorem sat_lt {n : Nat} (h : n < 9223372036854775808) : sat n = n := by unfold sat; omega
theorem sat_ge {n : Nat} (h : ¬ n < 9223372036854775808) : sat n = 9223372036854775807 := by unfold sat; omega

theorem atoi_ok (l : Bs) (h : isNum l = true) (hl : l.length ≤ 1000000) (w : World) (ht : Tabs w) : Calls Tryz.prog 68 #[.string (bs l)] w (AtPost w (val l)) := by
  have ha := atoi_num l h
  by_cases hv : val l < 9223372036854775808
  · rw [if_pos hv] at ha
    refine (Tryz.strconv_Atoi_ok (bs l) (by rw [bs_size]; omega) (val l) (by rw [bs_data]; exact ha) w).mono fun e w' ⟨he, hw⟩ => ?_
    exact ⟨_, by rw [he, sat_lt hv], Fr.ofSome hw⟩
  · rw [if_neg hv] at ha
    obtain ⟨tp, p, hvar⟩ := ht.rngVar
    refine (Tryz.strconv_Atoi_range_var (bs l) (by rw [bs_size]; omega) (by rw [bs_data]; exact ha) tp p w hvar).mono fun e w' ⟨N, he, _, _, hb⟩ => ?_
    refine ⟨.iface 131 (.pointer (some ⟨N, 0, none⟩)), ?_, Fr.ofBelow hb⟩
    rw [he, bs_data, atoiSat_num l h, sat_ge hv]
    rfl

theorem itoa_ok (x : Int) (h0 : -9223372036854775808 ≤ x) (h1 : x ≤ 9223372036854775807) (w : World) (ht : Tabs w) :
    Calls Tryz.prog 14 #[.int .i64 x] w fun e w' => e = .returned (.string (bs (Lib.itoa x))) ∧ Fr (fun _ => False) w w' := by
  refine (Tryz.strconv_Itoa x h0 h1 w ht.powTab).mono fun e w' ⟨he, k, os, hw⟩ => ⟨he, ?_⟩
  subst hw
  exact ⟨rfl, rfl, rfl, by simp [Go.Sort.grow], fun j hj _ => by
    show ((w.drewN k).heap ++ os)[j]? = _
    rw [Array.getElem?_append_left (by simpa using hj)]
    rfl⟩

/-! ### A numeral -/

/-- What numeral answers. -/
def nuV (l : Bs) : Value := if isNum l then .tuple #[.int .i64 (sat (val l) : Nat), .bool true] else .tuple #[.int .i64 0, .bool false]

theorem nuV_yes {l : Bs} (h : isNum l = true) : nuV l = .tuple #[.int .i64 (sat (val l) : Nat), .bool true] := by unfold nuV; rw [if_pos h]
theorem nuV_no {l : Bs} (h : isNum l = false) : nuV l = .tuple #[.int .i64 0, .bool false] := by unfold nuV; rw [h]; rfl

def NuRel (l : Bs) (s : Value) : Prop := ∃ k : Nat, k ≤ l.length ∧ s = .int .i64 k ∧ ∀ j b, j < k → l[j]? = some b → isDig b = true

theorem isNum_all {l : Bs} (h : lead l = false) (ha : ∀ j b, j < l.length → l[j]? = some b → isDig b = true) : isNum l = true := by
  unfold isNum
  rw [h]
  simp only [Bool.not_false, Bool.true_and, List.all_eq_true]
  intro b hb
  obtain ⟨j, hj⟩ := List.getElem?_of_mem hb
  exact ha j b (List.getElem?_eq_some_iff.1 hj).1 hj

theorem isNum_not {l : Bs} {j : Nat} {b : UInt8} (h : l[j]? = some b) (hb : isDig b = false) : isNum l = false := by
  cases hn : isNum l with
  | false => rfl
  | true =>
    unfold isNum at hn
    simp only [Bool.and_eq_true, List.all_eq_true] at hn
    have := hn.2 b (List.mem_of_getElem? h)
    rw [hb] at this
    cases this

theorem isNum_lead {l : Bs} (h : lead l = true) : isNum l = false := by unfold isNum; rw [h]; rfl

def NuPost (w : World) (l : Bs) (e : Ending) (w' : World) : Prop := e = .returned (nuV l) ∧ Fr (fun _ => False) w w'

set_option maxHeartbeats 400000 in
theorem numeral_lead (l : Bs) (h : lead l = true) (hl : l.length ≤ 1000000) (w : World) : Calls Tryz.prog 56 #[.string (bs l)] w (NuPost w l) := by
  have HV := hid (nuV_no (isNum_lead h))
  cases l with
  | nil =>
    have e0 : (bs []).toList.isEmpty = true := by rw [bs_toList]; rfl
    go_enter Tryz.func56, Tryz.ntmps56
    go_wp2
    go_ret2
    exact ⟨by rw [HV.out]; rfl, Fr.refl _ _⟩
  | cons b r =>
    simp only [lead, List.isEmpty_cons, Bool.false_or, List.headD_cons, Bool.and_eq_true, beq_iff_eq, decide_eq_true_eq] at h
    obtain ⟨rfl, h1⟩ := h
    obtain ⟨s, hs⟩ : ∃ s, bs (48 :: r) = s := ⟨_, rfl⟩
    have e0 : s.toList.isEmpty = false := by rw [← hs, bs_toList]; rfl
    have s1 : 1 < s.size := by rw [← hs]; exact h1
    have s2 : s.size ≤ 1000000 := by rw [← hs]; exact hl
    have c0 : ((s[0].toNat : Int) == 48) = true := by subst hs; rfl
    rw [hs]
    clear hs h1 hl
    go_enter Tryz.func56, Tryz.ntmps56
    go_wp2
    go_ret2
    exact ⟨by rw [HV.out]; rfl, Fr.refl _ _⟩

theorem lead_no {l : Bs} (h : lead l = false) : ∃ b r, l = b :: r ∧ (b = 48 → r = []) := by
  cases l with
  | nil => simp [lead] at h
  | cons b r =>
    refine ⟨b, r, rfl, fun e => ?_⟩
    subst e
    simp only [lead, List.isEmpty_cons, Bool.false_or, List.headD_cons, beq_self_eq_true, Bool.true_and, decide_eq_false_iff_not, List.length_cons] at h
    exact List.eq_nil_of_length_eq_zero (by omega)

set_option maxHeartbeats 1000000 in
theorem numeral_main (l : Bs) (h : lead l = false) (hl : l.length ≤ 1000000) (w : World) (ht : Tabs w) : Calls Tryz.prog 56 #[.string (bs l)] w (NuPost w l) := by
  obtain ⟨b, r, hbr, h48⟩ := lead_no h
  obtain ⟨s, hs⟩ : ∃ s, bs l = s := ⟨_, rfl⟩
  have e0 : s.toList.isEmpty = false := by rw [← hs, bs_toList, hbr]; rfl
  have s0 : 0 < s.size := by rw [← hs, bs_size, hbr]; simp
  have s2 : s.size ≤ 1000000 := by rw [← hs]; exact hl
  have HG := hid (show ∀ k (hk : k < s.size), l[k]? = some s[k] from fun k hk => by
    subst hs
    exact List.getElem?_eq_getElem hk)
  have HS := hid hs
  have HL := hid (show l.length = s.size by rw [← hs]; rfl)
  have hb : s[0] = b := by
    have := HG.out 0 s0
    rw [hbr] at this
    simpa using this.symm
  have HA := hid (fun (hn : isNum l = true) => atoi_ok l hn hl w ht)
  rw [hs] at HA ⊢
  have HLD := hid h
  have hc : (((s[0].toNat : Int) == 48) = true ∧ ¬ 1 < s.size) ∨ ((s[0].toNat : Int) == 48) = false := by
    by_cases hb48 : b = 48
    · exact .inl ⟨by rw [hb, hb48]; rfl, by rw [← HL.out, hbr, h48 hb48]; simp⟩
    · refine .inr ?_
      have : b.toNat ≠ 48 := fun e => hb48 (UInt8.toNat_inj.1 e)
      rw [hb]
      simp
      omega
  clear hs hl hb h48 hbr h
  rcases hc with ⟨c0, c1⟩ | c0
  all_goals
    go_enter Tryz.func56, Tryz.ntmps56
    go_wp2_with fail
    go_loop [21] (fun q => NuRel l q) (fun q => s.size - (intOf q).toNat)
    case atStart => exact ⟨0, by omega, rfl, fun j b hj => by omega⟩
    case round =>
      obtain ⟨k, hk, rfl, hg⟩ := hrel
      rw [HL.out] at hk
      have HGG := hid hg
      clear hg c0
      by_cases hlt : k < s.size
      · have hgk := HG.out k hlt
        by_cases hd : isDig s[k] = true
        · obtain ⟨d1, d2⟩ := dig_of hd
          have HN := hid (show ∀ j b, j < k + 1 → l[j]? = some b → isDig b = true from fun j b hj hb => by
            rcases Nat.lt_or_ge j k with hj' | hj'
            · exact HGG.out j b hj' hb
            · obtain rfl : j = k := by omega
              rw [hgk] at hb
              injection hb with hb
              rw [← hb]
              exact hd)
          clear hgk hd
          go_wp2_with fail
          go_round
          case rel => exact ⟨k + 1, by rw [HL.out]; omega, by go_num, HN.out⟩
          case measure => simp [intOf]; omega
        · have HV := hid (nuV_no (isNum_not hgk (by simpa using hd)))
          have hd2 : s[k].toNat < 48 ∨ 57 < s[k].toNat := by
            rcases Nat.lt_or_ge s[k].toNat 48 with h1 | h1
            · exact .inl h1
            · rcases Nat.lt_or_ge 57 s[k].toNat with h2 | h2
              · exact .inr h2
              · exact absurd (by unfold isDig; simp; omega) hd
          clear hgk hd
          rcases hd2 with d | d
          · go_wp2_with fail
            go_ret2
            exact ⟨by rw [HV.out]; rfl, Fr.refl _ _⟩
          · have d0 : 48 ≤ s[k].toNat := by omega
            go_wp2_with fail
            go_ret2
            exact ⟨by rw [HV.out]; rfl, Fr.refl _ _⟩
      · have hn : isNum l = true := isNum_all HLD.out (fun j b hj hb => HGG.out j b (by rw [HL.out] at hj; omega) hb)
        have HV := hid (nuV_yes hn)
        have HA2 := hid (HA hn)
        clear HA hn
        go_wp2_with fail
        refine HA2.out.mono ?_
        rintro e w1 ⟨v, rfl, hF⟩
        go_wp2_with fail
        go_ret2
        exact ⟨by rw [HV.out]; rfl, hF⟩

theorem numeral_any (l : Bs) (hl : l.length ≤ 1000000) (w : World) (ht : Tabs w) : Calls Tryz.prog 56 #[.string (bs l)] w (NuPost w l) := by
  cases h : lead l with
  | true => exact numeral_lead l h hl w
  | false => exact numeral_main l h hl w ht

/-! ### Operands -/

/-- What an operand's word tells: its number as far as an int holds it. -/
def satI (x : Int) : Int := if x < -9223372036854775807 then -9223372036854775807 else if 9223372036854775807 < x then 9223372036854775807 else x

theorem satI_nat (n : Nat) : satI (n : Int) = (sat n : Nat) := by
  unfold satI sat
  rw [if_neg (by omega)]
  split <;> omega
theorem satI_neg (n : Nat) : satI (-(n : Int)) = -(sat n : Nat) := by
  unfold satI sat
  split
  · omega
  · split <;> omega

/-- What an operand's reader answers; the number counts where it is one. -/
def OpPost (w : World) (o : Option Int) (e : Ending) (w' : World) : Prop := ∃ (x : Int) (b : Bool), e = .returned (.tuple #[.int .i64 x, .bool b]) ∧ b = o.isSome ∧ (∀ y, o = some y → x = satI y) ∧ Fr (fun _ => False) w w'

theorem mk_get (kind : Nat) (hk : kind < 4) : ∀ w : World, Tabs w → w.cell? ⟨1, kind, none⟩ = some (.string (bs (mk kind))) := fun _ ht => ht.mks kind (by omega)

theorem opd_mark {kind : Nat} (hk : kind ≠ 4) (l : Bs) : opd kind l = if (mk kind).isPrefixOf l then numOf (l.drop (mk kind).length) else none := by
  unfold opd
  rw [if_neg hk]

theorem numOf_yes {l : Bs} (h : isNum l = true) : numOf l = some (val l : Int) := by unfold numOf; rw [if_pos h]
theorem numOf_no {l : Bs} (h : isNum l = false) : numOf l = none := by unfold numOf; rw [h]; rfl

set_option maxHeartbeats 400000 in
theorem marked_any (kind : Nat) (h1 : 1 ≤ kind) (hk : kind < 4) (l : Bs) (hl : l.length ≤ 1000000) (w : World) (ht : Tabs w) :
    Calls Tryz.prog 54 #[.string (bs l), .int .i64 (kind : Int)] w (OpPost w (opd kind l)) := by
  have H0 := ht.two
  have q := ht.mks kind (by omega)
  have HO := hid (opd_mark (kind := kind) (by omega) l)
  obtain ⟨p, hp⟩ : ∃ p, mk kind = p := ⟨_, rfl⟩
  rw [hp] at q HO
  clear hp
  have HC := hid (cutPrefix_ok l p)
  by_cases hpre : p.isPrefixOf l = true
  · rw [hpre] at HC HO
    simp only [if_true] at HC HO
    have HN := hid (numeral_any (l.drop p.length) (by rw [List.length_drop]; omega) w ht)
    clear hpre
    go_enter Tryz.func54, Tryz.ntmps54
    go_wp2_with fail
    refine (HC.out _).mono ?_
    rintro e w' ⟨rfl, rfl⟩
    go_wp2_with fail
    refine HN.out.mono ?_
    rintro e w1 ⟨rfl, hF⟩
    by_cases hn : isNum (l.drop p.length) = true
    · rw [nuV_yes hn]
      have HX := hid (numOf_yes hn)
      clear hn
      go_wp2_with fail
      go_ret2
      exact ⟨_, _, rfl, by rw [HO.out, HX.out]; rfl, fun y hy => by rw [HO.out, HX.out] at hy; injection hy with hy; rw [← hy, satI_nat], hF⟩
    · have hn : isNum (l.drop p.length) = false := by simpa using hn
      rw [nuV_no hn]
      have HX := hid (numOf_no hn)
      clear hn
      go_wp2_with fail
      go_ret2
      exact ⟨_, _, rfl, by rw [HO.out, HX.out]; rfl, (fun y hy => by rw [HO.out, HX.out] at hy; cases hy), hF⟩
  · have hpre : p.isPrefixOf l = false := by cases hh : p.isPrefixOf l with | false => rfl | true => exact absurd hh hpre
    rw [hpre] at HC HO
    simp only [Bool.false_eq_true, if_false] at HC HO
    clear hpre
    go_enter Tryz.func54, Tryz.ntmps54
    go_wp2_with fail
    refine (HC.out _).mono ?_
    rintro e w' ⟨rfl, rfl⟩
    go_wp2_with fail
    go_ret2
    exact ⟨_, _, rfl, by rw [HO.out]; rfl, (fun y hy => by rw [HO.out] at hy; cases hy), Fr.refl _ _⟩

theorem opd_four (l : Bs) : opd 4 l = if l.headD 0 = 45 then (numOf l.tail).bind fun n => if n = 0 then none else some (-n) else numOf l := rfl

theorem pre45 (l : Bs) : ([45] : Bs).isPrefixOf l = decide (l.headD 0 = 45) := by
  cases l with
  | nil => rfl
  | cons b r =>
    by_cases h : b = 45
    · subst h; simp
    · simp [List.isPrefixOf, Ne.symm h, h]

theorem drop1 (l : Bs) : l.drop ([45] : Bs).length = l.tail := by simp

set_option maxHeartbeats 400000 in
theorem number_any (l : Bs) (hl : l.length ≤ 1000000) (w : World) (ht : Tabs w) :
    Calls Tryz.prog 43 #[.string (bs l)] w (OpPost w (opd 4 l)) := by
  have HO := hid (opd_four l)
  have hc := fun W => cutPrefix_ok l [45] W
  by_cases hpre : l.headD 0 = 45
  · have hx : ([45] : Bs).isPrefixOf l = true := by rw [pre45]; exact decide_eq_true hpre
    rw [hx] at hc
    simp only [if_true, drop1] at hc
    rw [if_pos hpre] at HO
    have HC := hid hc
    have HN := hid (numeral_any l.tail (by rw [List.length_tail]; omega) w ht)
    clear hpre hx hc
    unfold bs at HC
    go_enter Tryz.func43, Tryz.ntmps43
    go_wp2_with fail
    refine (HC.out _).mono ?_
    rintro e w' ⟨rfl, rfl⟩
    go_wp2_with fail
    refine HN.out.mono ?_
    rintro e w1 ⟨rfl, hF⟩
    by_cases hn : isNum l.tail = true
    · rw [nuV_yes hn]
      have HX := hid (numOf_yes hn)
      clear hn
      obtain ⟨v, hv⟩ : ∃ v, val l.tail = v := ⟨_, rfl⟩
      rw [hv] at HX ⊢
      clear hv
      have hsat : sat v ≤ 9223372036854775807 := by unfold sat; omega
      by_cases h0 : v = 0
      · subst h0
        have e0 : sat 0 = 0 := rfl
        rw [e0, show ((0 : Nat) : Int) = 0 from rfl]
        clear e0 hsat
        go_wp2_with fail
        go_ret2
        exact ⟨_, _, rfl, by rw [HO.out, HX.out]; rfl, (fun y hy => by rw [HO.out, HX.out] at hy; cases hy), hF⟩
      · have h1 : 1 ≤ sat v := by unfold sat; omega
        have HV := hid (show ((sat v : Nat) : Int) = satI v from (satI_nat v).symm)
        have HV2 := hid (satI_neg v)
        have HZ := hid (show (v : Int) ≠ 0 by omega)
        generalize sat v = z at hsat h1 HV2
        clear h0
        have t : ((z : Int) != 0) = true := by simp; omega
        go_wp2_with fail
        go_ret2
        exact ⟨_, _, rfl, by rw [HO.out, HX.out, Option.bind_some, if_neg HZ.out]; rfl, (fun y hy => by
          rw [HO.out, HX.out] at hy
          simp only [Option.bind_some, if_neg HZ.out] at hy
          injection hy with hy
          rw [← hy]
          exact HV2.out.symm), hF⟩
    · have hn : isNum l.tail = false := by simpa using hn
      rw [nuV_no hn]
      have HX := hid (numOf_no hn)
      clear hn
      go_wp2_with fail
      go_ret2
      exact ⟨_, _, rfl, by rw [HO.out, HX.out]; rfl, (fun y hy => by rw [HO.out, HX.out] at hy; cases hy), hF⟩
  · have hx : ([45] : Bs).isPrefixOf l = false := by rw [pre45]; exact decide_eq_false hpre
    rw [hx] at hc
    simp only [Bool.false_eq_true, if_false] at hc
    rw [if_neg hpre] at HO
    have HC := hid hc
    have HN := hid (numeral_any l hl w ht)
    clear hpre hx hc
    go_enter Tryz.func43, Tryz.ntmps43
    go_wp2_with fail
    refine (HC.out _).mono ?_
    rintro e w' ⟨rfl, rfl⟩
    go_wp2_with fail
    refine HN.out.mono ?_
    rintro e w1 ⟨rfl, hF⟩
    by_cases hn : isNum l = true
    · rw [nuV_yes hn]
      have HX := hid (numOf_yes hn)
      clear hn
      go_wp2_with fail
      go_ret2
      exact ⟨_, _, rfl, by rw [HO.out, HX.out]; rfl, (fun y hy => by rw [HO.out, HX.out] at hy; injection hy with hy; rw [← hy, satI_nat]), hF⟩
    · have hn : isNum l = false := by simpa using hn
      rw [nuV_no hn]
      have HX := hid (numOf_no hn)
      clear hn
      go_wp2_with fail
      go_ret2
      exact ⟨_, _, rfl, by rw [HO.out, HX.out]; rfl, (fun y hy => by rw [HO.out, HX.out] at hy; cases hy), hF⟩

end Go.Proofs.YtepbnneggpcbcaaGreatDoor
