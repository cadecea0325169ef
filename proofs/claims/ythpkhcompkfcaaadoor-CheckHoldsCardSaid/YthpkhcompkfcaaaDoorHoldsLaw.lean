/-
  CheckHolds.
-/
import Derived.Test.YthpkhcompkfcaaaDoorFew
import Derived.Test.YthpkhcompkfcaaaDoorAwake
import Derived.Test.YthpkhcompkfcaaaDoorRefDepths
import Derived.Test.YthpkhcompkfcaaaDoorBools
namespace Go.Proofs.YthpkhcompkfcaaaDoor
open Go.RowKit
set_option linter.unusedVariables false

theorem bit_off {v h : Nat} (hv : v < 256) (hh : h < 8) (hb : v.testBit h = true) : (bits .and .i64 ((v : Int) / 2 ^ h) 1 == 0) = false := by
  rw [and_one, (low_bit (v : Int) hh).mpr (by rw [low_nat hv]; exact hb)]
  rfl

def HoRel (P : List Fn) (f : Fn) (n : Nat) (w : World) (d : Nat) (hv op at_ i : Value) (wr : World) : Prop :=
  ∃ (j k v : Nat) (dd : Int), j ≤ n ∧ d = n - j ∧ i = .int .i64 j ∧ at_ = .int .i64 k ∧ op = .int .i64 dd ∧ hv = .int .i64 v ∧ Way P f k dd v ∧ Fr (fun _ => False) w wr

set_option maxRecDepth 100000 in
set_option maxHeartbeats 4000000 in
theorem holdsLaw (A : Option Addr) (c : Nat) (P : List Fn) (k0 : Int) (A2 : Option Addr) (n2 c2 : Nat) (bl : List Bool) (W : World) (ht : Tabs W) (hp : Prg W W.heap.size A P) (hn2 : bl.length = n2) (hb : Boos W W.heap.size A2 bl) :
    Calls Tryd.prog 6 #[.agg #[.slice A P.length c], .int .i64 k0, .slice A2 n2 c2] W (LawPost W) := by
  have HN2 := hid hn2
  have HB := hid hb
  have HP := hid hp
  clear hn2 hb hp
  obtain ⟨n, hn⟩ : ∃ n, P.length = n := ⟨_, rfl⟩
  rw [hn]
  have HN := hid hn
  clear hn
  have hA := Fr.alloc (fun _ => False) W (.cells #[.slice A n c] 34)
  have hBx := Blk.new W #[.slice A n c] 34
  obtain ⟨w1, hw1⟩ : ∃ w1, w1 = W.alloc (.cells #[.slice A n c] 34) := ⟨_, rfl⟩
  rw [← hw1] at hA hBx
  have HA := hid hA
  have HBX := hid hBx
  have q0 : w1.cell? ⟨W.heap.size, 0, none⟩ = some (.slice A n c) := hBx.cell rfl
  have ql := hBx.lt
  clear hA hBx
  go_enter Tryd.func6, Tryd.ntmps6
  go_upto_region 1 with fail
  rw [← hw1]
  clear hw1
  go_wp2_with fail
  refine (few_any A n c P w1 ((HP.out.same HA.out (Nat.le_refl _)).more HA.out.size) HN.out).mono ?_
  rintro e w2 ⟨fb, rfl, hfb, hF2⟩
  have HFB := hid hfb
  have HF2 := hid (HA.out.trans hF2)
  have hB2 := HBX.out.keep hF2 (fun h => h)
  have HB2 := hid hB2
  have q0 : w2.cell? ⟨W.heap.size, 0, none⟩ = some (.slice A n c) := hB2.cell rfl
  have ql := hB2.lt
  clear hfb hF2 hB2
  cases fb with
  | false =>
    go_wp2_with fail
    refine (awake_any w2 (ht.same HF2.out)).mono ?_
    rintro e w3 ⟨rfl, hF3⟩
    have HF3 := hid (HF2.out.trans hF3)
    clear hF3
    go_wp2_with fail
    go_ret
    exact ⟨rfl, HF3.out⟩
  | true =>
    have hFEW := HFB.out rfl
    have hn40 : n ≤ 40 := by rw [← HN.out]; exact hFEW.1
    have HFL := hid hFEW.2
    clear hFEW
    by_cases h300 : 300 < n2
    · go_wp2_with fail
      refine (awake_any w2 (ht.same HF2.out)).mono ?_
      rintro e w3 ⟨rfl, hF3⟩
      have HF3 := hid (HF2.out.trans hF3)
      clear hF3
      go_wp2_with fail
      go_ret
      exact ⟨rfl, HF3.out⟩
    · go_wp2_with fail
      refine (accepts_any A n c P w2 (ht.same HF2.out) ((HP.out.same HF2.out (Nat.le_refl _)).more HF2.out.size) HN.out (by omega)).mono ?_
      rintro e w3 ⟨rfl, hF3⟩
      have HF3 := hid (HF2.out.trans hF3)
      have hB3 := HB2.out.keep hF3 (fun h => h)
      have HB3 := hid hB3
      have q0 : w3.cell? ⟨W.heap.size, 0, none⟩ = some (.slice A n c) := hB3.cell rfl
      have ql := hB3.lt
      clear hF3 hB3
      obtain ⟨ab, hab⟩ : ∃ ab, accB P = ab := ⟨_, rfl⟩
      rw [hab]
      have HAB := hid hab
      clear hab
      have hm : ab = false ∨ (ab = true ∧ k0 < 0) ∨ (ab = true ∧ ¬ k0 < 0 ∧ (n : Int) ≤ k0) ∨ (ab = true ∧ ¬ k0 < 0 ∧ ¬ (n : Int) ≤ k0) := by
        cases ab <;> simp <;> omega
      rcases hm with rfl | ⟨rfl, h0⟩ | ⟨rfl, h0, h1⟩ | ⟨rfl, h0, h1⟩
      · go_wp2_with fail
        refine (awake_any w3 (ht.same HF3.out)).mono ?_
        rintro e w4 ⟨rfl, hF4⟩
        have HF4 := hid (HF3.out.trans hF4)
        clear hF4
        go_wp2_with fail
        go_ret
        exact ⟨rfl, HF4.out⟩
      · go_wp2_with fail
        refine (awake_any w3 (ht.same HF3.out)).mono ?_
        rintro e w4 ⟨rfl, hF4⟩
        have HF4 := hid (HF3.out.trans hF4)
        clear hF4
        go_wp2_with fail
        go_ret
        exact ⟨rfl, HF4.out⟩
      · go_wp2_with fail
        refine (awake_any w3 (ht.same HF3.out)).mono ?_
        rintro e w4 ⟨rfl, hF4⟩
        have HF4 := hid (HF3.out.trans hF4)
        clear hF4
        go_wp2_with fail
        go_ret
        exact ⟨rfl, HF4.out⟩
      · obtain ⟨kk, rfl⟩ : ∃ kk : Nat, k0 = kk := ⟨k0.toNat, by omega⟩
        have hkn : kk < n := by omega
        have HACC := hid (accB_true.1 HAB.out)
        obtain ⟨⟨needs, l⟩, hf⟩ : ∃ f, P[kk]? = some f := ⟨_, List.getElem?_eq_getElem (by rw [HN.out]; exact hkn)⟩
        obtain ⟨g, o, rfl, hg, hcell⟩ := (HP.out.same HF3.out (Nat.le_refl _)) (by rw [HN.out]; omega)
        obtain ⟨A', c', p0, p1, hcod⟩ := hcell kk _ hf
        simp only at p0 p1 hcod
        have hgl : g < w3.heap.size := Nat.lt_of_lt_of_le hg HF3.out.size
        have hle := HFL.out kk _ hf
        simp only at hle
        have HFK := hid hf
        have HCOD := hid hcod
        obtain ⟨ln, hln⟩ : ∃ ln, l.length = ln := ⟨_, rfl⟩
        rw [hln] at p1 hle
        have HLN := hid hln
        have hacc := HACC.out.fns kk _ hf
        simp only at hacc
        obtain ⟨nd, rfl⟩ : ∃ nd : Nat, needs = nd := ⟨needs.toNat, by omega⟩
        have hnd : nd < 256 := by omega
        have HW0 := hid (show Way P ⟨nd, l⟩ 0 0 nd from by
          have h := Way.start HACC.out hf
          rw [show low (Fn.mk (nd : Int) l).needs = nd from low_nat hnd] at h
          exact h)
        clear hcell hf hcod hln hacc h0 h1
        go_upto_region 3 with fail
        go_cut [7] from 13 to 42 (fun u wx => u = .pointer (some ⟨w3.heap.size, 0, none⟩) ∧ wx = w3.alloc (.cells #[.int .i64 (nd : Nat), .slice A' ln c'] 29))
        case first =>
          go_wp2_with fail
          go_meet
          exact ⟨rfl, rfl⟩
        case rest =>
        obtain ⟨rfl, hwc⟩ := hcut
        obtain ⟨w4, hw4⟩ : ∃ w4, w4 = wc := ⟨_, rfl⟩
        have HF4 := hid (show Fr (fun _ => False) w3 w4 by rw [hw4, hwc]; exact Fr.alloc _ _ _)
        have HBF := hid (show Blk w4 w3.heap.size #[.int .i64 (nd : Nat), .slice A' ln c'] by rw [hw4, hwc]; exact Blk.new _ _ _)
        have HB4 := hid (HB3.out.keep HF4.out (fun h => h))
        have f0 := HBF.out.cell (i := 0) rfl
        have fl := HBF.out.lt
        simp only [List.getElem_toArray, List.getElem_cons_zero] at f0
        rw [← hw4]
        clear hwc hw4 p0 p1 q0 hkn
        go_wp2_with fail
        go_loopg [8, 9, 10, 11] n2 (fun d hv op at_ i wr => HoRel P ⟨nd, l⟩ n2 w4 d hv op at_ i wr)
        case atStart => exact ⟨0, 0, nd, 0, by omega, by omega, rfl, rfl, rfl, rfl, HW0.out, Fr.refl _ _⟩
        case round =>
          obtain ⟨wo, rfl⟩ : ∃ wo, wo = wr := ⟨_, rfl⟩
          obtain ⟨j, k, v, dd, hj, hd, rfl, rfl, rfl, rfl, hWay, hF⟩ := hrel
          have HD := hid hd
          have HF := hid hF
          have HFW := hid (HF3.out.trans (HF4.out.trans hF))
          have HWY := hid hWay
          have hkl : k < ln := by have := hWay.lt; rw [← HLN.out]; exact this
          have hv256 := hWay.hv
          have hdb := depN_bound l k
          have hdd : dd = depN l k := hWay.dep
          rw [← hdd, HLN.out] at hdb
          have HDB := hid hdb
          have d1 : -1000 ≤ dd := by omega
          have d2 : dd ≤ 1000 := by omega
          have hbf := HBF.out.keep hF (fun h => h)
          have f1 := hbf.cell (i := 1) rfl
          have fl := hbf.lt
          have hbp := HB4.out.keep hF (fun h => h)
          have g0 : wo.cell? ⟨W.heap.size, 0, none⟩ = some (.slice (some ⟨g, o, none⟩) n c) := hbp.cell rfl
          have gl := hbp.lt
          simp only [List.getElem_toArray, List.getElem_cons_zero, List.getElem_cons_succ] at f1
          clear hd hWay hdb hdd hbf hbp f0
          by_cases hlt : j < n2
          · obtain ⟨⟨op, a, b, ci, m⟩, hik⟩ : ∃ i, l[k]? = some i := ⟨_, List.getElem?_eq_getElem (by rw [HLN.out]; exact hkl)⟩
            obtain ⟨g2, o2, rfl, hg2, hcell2⟩ := (HCOD.out.same (HF4.out.trans hF) HF3.out.size) (by rw [HLN.out]; omega)
            obtain ⟨s0, s1, s2, s3, s4⟩ := hcell2 k _ hik
            simp only at s0 s1 s2 s3 s4
            have hgl2 : g2 < wo.heap.size := Nat.lt_of_lt_of_le hg2 HFW.out.size
            have HX := hid hik
            clear hcell2 hik hF
            by_cases h16 : op = 16
            · subst h16
              obtain rfl := Way.ret HACC.out HFK.out HWY.out HX.out rfl
              go_wp2_with fail
              refine (awake_any _ (ht.same (HFW.out.trans (Fr.alloc _ _ _)))).mono ?_
              rintro e w5 ⟨rfl, hF5⟩
              have HF5 := hid ((HFW.out.trans (Fr.alloc _ _ _)).trans hF5)
              clear hF5
              go_wp2_with fail
              go_ret
              exact ⟨rfl, HF5.out⟩
            by_cases h15 : op = 15
            · subst h15
              go_wp2_with fail
              refine (awake_any _ (ht.same (HFW.out.trans (Fr.alloc _ _ _)))).mono ?_
              rintro e w5 ⟨rfl, hF5⟩
              have HF5 := hid ((HFW.out.trans (Fr.alloc _ _ _)).trans hF5)
              clear hF5
              go_wp2_with fail
              go_ret
              exact ⟨rfl, HF5.out⟩
            by_cases h6 : op = 6
            · subst h6
              have hJ := Way.jump HACC.out HFK.out HX.out rfl
              simp only at hJ
              obtain ⟨m', rfl⟩ : ∃ m' : Nat, m = m' := ⟨m.toNat, by omega⟩
              have HWY2 := hid (Way.jumped HACC.out HFK.out HWY.out HX.out rfl)
              clear hJ
              go_wp2_with fail
              go_roundg (n2 - (j + 1))
              case rel => exact ⟨j + 1, m', v, dd, by omega, rfl, by go_num, rfl, rfl, rfl, HWY2.out, HF.out.trans (Fr.alloc _ _ _)⟩
              case measure => have := HD.out; omega
            by_cases h7 : op = 7
            · subst h7
              obtain ⟨y, hy⟩ : ∃ y, bl[j]? = some y := ⟨_, List.getElem?_eq_getElem (by rw [HN2.out]; exact hlt)⟩
              obtain ⟨gb, ob, rfl, hgb, hcb⟩ := (HB.out.same HFW.out (Nat.le_refl _)) (by rw [HN2.out]; omega)
              have b0 := hcb j y hy
              have hgbl : gb < wo.heap.size := Nat.lt_of_lt_of_le hgb HFW.out.size
              have hJ := Way.jump HACC.out HFK.out HX.out rfl
              simp only at hJ
              obtain ⟨m', rfl⟩ : ∃ m' : Nat, m = m' := ⟨m.toNat, by omega⟩
              have HWY2 := hid (Way.jumped HACC.out HFK.out HWY.out HX.out rfl)
              have HWY3 := hid (Way.went HACC.out HFK.out HWY.out HX.out rfl (d' := dd) (by simp [dstep]) (by simp))
              clear hJ hy hcb
              cases y with
              | true =>
                go_wp2_with fail
                go_roundg (n2 - (j + 1))
                case rel => exact ⟨j + 1, m', v, dd, by omega, rfl, by go_num, rfl, rfl, rfl, HWY2.out, HF.out.trans (Fr.alloc _ _ _)⟩
                case measure => have := HD.out; omega
              | false =>
                go_wp2_with fail
                go_roundg (n2 - (j + 1))
                case rel => exact ⟨j + 1, k + 1, v, dd, by omega, rfl, by go_num, by go_num, rfl, rfl, HWY3.out, HF.out.trans (Fr.alloc _ _ _)⟩
                case measure => have := HD.out; omega
            by_cases h11 : op = 11
            · subst h11
              have HWY2 := hid (Way.went HACC.out HFK.out HWY.out HX.out rfl (d' := dd + 1) (by simp [dstep]) (by simp))
              go_wp2_with fail
              go_roundg (n2 - (j + 1))
              case rel => exact ⟨j + 1, k + 1, v, dd + 1, by omega, rfl, by go_num, by go_num, rfl, rfl, HWY2.out, HF.out.trans (Fr.alloc _ _ _)⟩
              case measure => have := HD.out; omega
            by_cases h12 : op = 12
            · subst h12
              have ho := Way.open_ HACC.out HFK.out HWY.out HX.out (.inl rfl)
              have HWY2 := hid (Way.went HACC.out HFK.out HWY.out HX.out rfl (d' := dd - 1) (by simp [dstep]) (by simp))
              go_wp2_with fail
              go_roundg (n2 - (j + 1))
              case rel => exact ⟨j + 1, k + 1, v, dd - 1, by omega, rfl, by go_num, by go_num, rfl, rfl, HWY2.out, HF.out.trans (Fr.alloc _ _ _)⟩
              case measure => have := HD.out; omega
            by_cases h13 : op = 13
            · subst h13
              have ho := Way.open_ HACC.out HFK.out HWY.out HX.out (.inr rfl)
              have HWY2 := hid (Way.went HACC.out HFK.out HWY.out HX.out rfl (d' := dd) (by simp [dstep]) (by simp))
              go_wp2_with fail
              go_roundg (n2 - (j + 1))
              case rel => exact ⟨j + 1, k + 1, v, dd, by omega, rfl, by go_num, by go_num, rfl, rfl, HWY2.out, HF.out.trans (Fr.alloc _ _ _)⟩
              case measure => have := HD.out; omega
            by_cases h8 : op = 8
            · subst h8
              obtain ⟨hm0, hm1, ha0, ha1, ⟨gn, gcode⟩, hgk, hgn0, hgn1, hless⟩ := Way.fork HACC.out HFK.out HWY.out HX.out rfl
              simp only at hm0 hm1 ha0 ha1 hgn0 hgn1 hless
              obtain ⟨m', rfl⟩ : ∃ m' : Nat, m = m' := ⟨m.toNat, by omega⟩
              obtain ⟨a', rfl⟩ : ∃ a' : Nat, a = a' := ⟨a.toNat, by omega⟩
              obtain ⟨ng, rfl⟩ : ∃ ng : Nat, gn = ng := ⟨gn.toNat, by omega⟩
              have HWY2 := hid (Way.forked HACC.out HFK.out HWY.out HX.out rfl)
              simp only [Int.toNat_natCast] at HWY2 hgk
              rw [low_nat (by omega)] at hless
              have e1 : bits .andNot .i64 (ng : Int) (v : Int) = 0 := by rw [andNot_nat (by omega), hless]; rfl
              have n1 : (ng : Int) < 256 := by omega
              obtain ⟨g', o', eg, _, hcellp⟩ := (HP.out.same HFW.out (Nat.le_refl _)) (by rw [HN.out]; omega)
              cases eg
              obtain ⟨A3, c3, t0, _, _⟩ := hcellp m' _ hgk
              simp only at t0
              rw [HN.out] at hm1
              have hgo : g < wo.heap.size := Nat.lt_of_lt_of_le hg HFW.out.size
              clear hcellp hgk hless
              go_wp2_with fail
              go_roundg (n2 - (j + 1))
              case rel => exact ⟨j + 1, k + 1, v ||| 2 ^ a', dd, by omega, rfl, by go_num, by go_num, rfl, by rw [wrap_pow (by omega), or_nat hv256 (pow_lt (by omega))], HWY2.out, HF.out.trans (Fr.alloc _ _ _)⟩
              case measure => have := HD.out; omega
            by_cases h9 : op = 9
            · subst h9
              obtain ⟨hb0, hb1, hbit⟩ := Way.join HACC.out HFK.out HWY.out HX.out rfl
              simp only at hb0 hb1 hbit
              obtain ⟨b', rfl⟩ : ∃ b' : Nat, b = b' := ⟨b.toNat, by omega⟩
              simp only [Int.toNat_natCast] at hbit
              have e1 : (bits .and .i64 ((v : Int) / 2 ^ b') 1 == 0) = false := bit_off hv256 (by omega) hbit
              have HWY2 := hid (Way.went HACC.out HFK.out HWY.out HX.out rfl (d' := dd) (by simp [dstep]) (by simp))
              clear hbit
              go_wp2_with fail
              go_roundg (n2 - (j + 1))
              case rel => exact ⟨j + 1, k + 1, v, dd, by omega, rfl, by go_num, by go_num, rfl, rfl, HWY2.out, HF.out.trans (Fr.alloc _ _ _)⟩
              case measure => have := HD.out; omega
            by_cases h10 : op = 10
            · subst h10
              obtain ⟨hb0, hb1, hbit⟩ := Way.try_ HACC.out HFK.out HWY.out HX.out rfl
              simp only at hb0 hb1 hbit
              obtain ⟨b', rfl⟩ : ∃ b' : Nat, ci = b' := ⟨ci.toNat, by omega⟩
              simp only [Int.toNat_natCast] at hbit
              have e1 : (bits .and .i64 ((v : Int) / 2 ^ b') 1 == 0) = false := bit_off hv256 (by omega) hbit
              have HWY2 := hid (Way.went HACC.out HFK.out HWY.out HX.out rfl (d' := dd) (by simp [dstep]) (by simp))
              clear hbit
              go_wp2_with fail
              go_roundg (n2 - (j + 1))
              case rel => exact ⟨j + 1, k + 1, v, dd, by omega, rfl, by go_num, by go_num, rfl, rfl, HWY2.out, HF.out.trans (Fr.alloc _ _ _)⟩
              case measure => have := HD.out; omega
            · have HWY2 := hid (show Way P ⟨nd, l⟩ (k + 1) dd v from Way.went HACC.out HFK.out HWY.out HX.out (by unfold isP; simp [h6, h16, h15]) (by simp [dstep, h11, h12]) h8)
              have t16 := beq_of_not h16
              have t15 := beq_of_not h15
              have t6 := beq_of_not h6
              have t7 := beq_of_not h7
              have t11 := beq_of_not h11
              have t12 := beq_of_not h12
              have t13 := beq_of_not h13
              have t8 := beq_of_not h8
              have t9 := beq_of_not h9
              have t10 := beq_of_not h10
              go_wp2_with fail
              go_roundg (n2 - (j + 1))
              case rel => exact ⟨j + 1, k + 1, v, dd, by omega, rfl, by go_num, by go_num, rfl, rfl, HWY2.out, HF.out.trans (Fr.alloc _ _ _)⟩
              case measure => have := HD.out; omega
          · clear hF
            go_wp2_with fail
            refine (awake_any wo (ht.same HFW.out)).mono ?_
            rintro e w5 ⟨rfl, hF5⟩
            have HF5 := hid (HFW.out.trans hF5)
            clear hF5
            go_wp2_with fail
            go_ret
            exact ⟨rfl, HF5.out⟩

end Go.Proofs.YthpkhcompkfcaaaDoor
