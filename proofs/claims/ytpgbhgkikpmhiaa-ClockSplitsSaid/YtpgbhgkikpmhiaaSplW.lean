/-
  ClockSplits: the walk.
-/
import Derived.Test.YtpgbhgkikpmhiaaSpP
import Derived.Deep.CutBlock
namespace Go.Proofs.Ytpgbhgkikpmhiaa
open Go.RowKit
set_option linter.unusedVariables false

def SpRel (len : Nat) (w : World) (c : Nat) (d : Nat) (x : Value) (wr : World) : Prop :=
  ∃ (k : Nat) (O : Nat → Prop) (now : Int) (T : List Due), k ≤ len ∧ d = len + 1 - k ∧ x = .int .i64 k ∧ OwnC w wr O c now T ∧ T.length ≤ k ∧ 0 ≤ now ∧ now ≤ 1099511627776

set_option maxRecDepth 100000 in
set_option maxHeartbeats 3200000 in
theorem splits_any (al : Option Addr) (len cap : Nat) (f : Nat → Nat → Int) (a b : Int) (w : World) (hrow : Row w al len 3 f) :
    Calls Try.prog 4 #[.slice al len cap, .int .i64 a, .int .i64 b] w fun e w' => e = .returned (.bool true) ∧ Below w.heap.size w w' := by
  have HROW := hid hrow
  clear hrow
  go_enter Try.func4, Try.ntmps4
  go_wp2_with fail
  refine (ck_new w).mono ?_
  rintro e w1 hp
  obtain ⟨O1, c, rfl, h⟩ := OwnC.made hp
  have H1 := hid h
  clear hp h
  by_cases hlen : 200 < len
  · have hlen2 : (200 : Int) < len := by omega
    go_wp2_with fail
    refine (awake_ok w1).mono ?_
    rintro e w2 ⟨rfl, hF⟩
    have HF := hid (H1.out.fr.trans hF)
    clear hF
    go_wp2_with fail
    go_ret
    exact ⟨rfl, HF.out.below (Nat.le_refl _) (fun _ h => h.elim)⟩
  have hlen2 : ¬ (200 : Int) < len := by omega
  have HLEN := hid hlen
  go_wp2_with fail
  clear hlen hlen2
  go_loopg [8] (len + 1) (fun d x wr => SpRel len w c d x wr)
  case atStart => exact ⟨0, O1, 0, [], by omega, by omega, rfl, H1.out, by simp, by omega, by omega⟩
  case round =>
    obtain ⟨k, O, now, T, hk, rfl, rfl, hO, hT, hn0, hn1⟩ := hrel
    have HO := hid hO
    have HT := hid hT
    have HK := hid hk
    clear hO hT hk
    by_cases hlt : k < len
    · obtain ⟨rb, off, rfl, hrb, hc⟩ := HROW.out.at_three hlt
      obtain ⟨c0, c1, c2⟩ := hc wr HO.out.fr
      have hlt2 : (k : Int) < len := by omega
      obtain ⟨x0, hx0⟩ : ∃ x, f k 0 = x := ⟨_, rfl⟩
      obtain ⟨x1, hx1⟩ : ∃ x, f k 1 = x := ⟨_, rfl⟩
      obtain ⟨x2, hx2⟩ : ∃ x, f k 2 = x := ⟨_, rfl⟩
      rw [hx0] at c0
      rw [hx1] at c1
      rw [hx2] at c2
      clear hc hrb hx0 hx1 hx2
      go_wp2_with fail
      refine (do_ok wr x0 x1 x2 HO.out.ck hn0 hn1 (by have := HT.out; have := HLEN.out; omega)).mono ?_
      rintro e w3 hp
      obtain ⟨A3, cap3, O3, rfl, -, h, -, -⟩ := HO.out.act hp
      have H3 := hid h
      have HN := hid (actN_in x0 x2 now hn0 hn1)
      have HL := hid (actT_len x0 x1 x2 now T)
      clear hp h c0 c1 c2
      go_wp2_with fail
      go_roundg (len + 1 - (k + 1))
      case rel => exact ⟨k + 1, O3, _, _, by omega, rfl, by go_num, H3.out, by have := HL.out; have := HT.out; omega, HN.out.1, HN.out.2.1⟩
      case measure => omega
    · obtain rfl : k = len := by have := HK.out; omega
      have hq := HLEN.out
      go_upto_region 10 with fail
      obtain ⟨bad, hbad⟩ : ∃ v, (decide (a < 0) || decide (b < 0) || decide (1099511627776 < a) || decide (1099511627776 < b)) = v := ⟨_, rfl⟩
      have HBAD := hid hbad
      clear hbad
      go_cut [51] from 38 to 51 (fun u wx => u = .bool bad ∧ wr = wx)
      case first =>
        rcases v1 : decide (a < 0) with _ | _
        · rcases v2 : decide (b < 0) with _ | _
          · rcases v3 : decide (1099511627776 < a) with _ | _
            · rcases v4 : decide (1099511627776 < b) with _ | _
              · go_wp2_with fail
                go_meet
                exact ⟨by rw [← HBAD.out, v1, v2, v3, v4]; rfl, rfl⟩
              · go_wp2_with fail
                go_meet
                exact ⟨by rw [← HBAD.out, v1, v2, v3, v4]; rfl, rfl⟩
            · go_wp2_with fail
              go_meet
              exact ⟨by rw [← HBAD.out, v1, v2, v3]; rfl, rfl⟩
          · go_wp2_with fail
            go_meet
            exact ⟨by rw [← HBAD.out, v1, v2]; rfl, rfl⟩
        · go_wp2_with fail
          go_meet
          exact ⟨by rw [← HBAD.out, v1]; rfl, rfl⟩
      case rest =>
      obtain ⟨rfl, hwc⟩ := hcut
      subst hwc
      cases bad with
      | true =>
        go_wp2_with fail
        refine (awake_ok wr).mono ?_
        rintro e w2 ⟨rfl, hF⟩
        have HF := hid (HO.out.fr.trans hF)
        clear hF
        go_wp2_with fail
        go_ret
        exact ⟨rfl, HF.out.below (Nat.le_refl _) (fun _ h => h.elim)⟩
      | false =>
        obtain ⟨ha0, hb0, ha1, hb1⟩ : 0 ≤ a ∧ 0 ≤ b ∧ a ≤ 1099511627776 ∧ b ≤ 1099511627776 := by
          have := HBAD.out
          simp only [Bool.or_eq_false_iff, decide_eq_false_iff_not] at this
          omega
        clear HBAD
        have HTL := hid (show T.length < 60000 from by have := HT.out; have := HLEN.out; omega)
        go_wp2_with fail
        refine (ck_clone wr HO.out.ck (by have := HTL.out; omega)).mono ?_
        rintro e w2 ⟨Od, cd, rfl, hCd, hF2, hOd⟩
        have HC2 := hid (HO.out.ck.same hF2)
        have HD2 := hid hCd
        have HOC := hid HO.out.ck.lt
        have HOD := hid hOd
        have HLO := hid HO.out.lo
        have HF2 := hid (HO.out.fr.trans hF2)
        have HSZ := hid hF2.size
        have HSW := hid HO.out.fr.size
        clear hCd hF2 hOd
        go_wp2_with fail
        refine (ck_now w2 HC2.out).mono ?_
        rintro e w3 ⟨rfl, rfl⟩
        go_wp2_with fail
        refine (ck_len w2 HC2.out).mono ?_
        rintro e w3 ⟨rfl, rfl⟩
        go_wp2_with fail
        refine (ck_adv w2 (a + b) HC2.out hn0 hn1 HTL.out).mono ?_
        rintro e w3 ⟨A1, cap1, rfl, hO1, hC3, hF3⟩
        have HO1 := hid hO1
        have HC3 := hid hC3
        have HD3 := hid (HD2.out.keep hF3 (fun k hk hk2 => by have := HOD.out k hk; have := HOC.out k hk2; omega))
        have HF3 := hid (HF2.out.since hF3 (fun k hk hl => by have := HLO.out k hk; omega))
        have HS3 := hid hF3.size
        clear hO1 hC3 hF3
        by_cases hbig : 1099511627776 < now + a + b
        · have e1 : advNo (a + b) now = true := advNo_yes (by omega)
          have e2 : advE (a + b) now = 10 := by unfold advE; rw [e1]; rfl
          have e3 : advN (a + b) now = now := by unfold advN; rw [e1]; rfl
          have e4 : advT (a + b) now T = T := by unfold advT; rw [e1]; rfl
          rw [e3, e4] at HC3
          rw [e2]
          clear e1 e2 e3 e4 HD3 HD2 HO1
          obtain ⟨l1, hl1⟩ : ∃ l, (advL (a + b) now T).length = l := ⟨_, rfl⟩
          rw [hl1]
          clear hl1
          go_wp2_with fail
          refine (ck_now w3 HC3.out).mono ?_
          rintro e w4 ⟨rfl, rfl⟩
          go_wp2_with fail
          refine (ck_len w3 HC3.out).mono ?_
          rintro e w4 ⟨rfl, rfl⟩
          go_wp2_with fail
          refine (awake_ok w3).mono ?_
          rintro e w4 ⟨rfl, hF⟩
          have HF := hid (HF3.out.trans hF)
          clear hF
          go_wp2_with fail
          go_ret
          exact ⟨rfl, HF.out.below (Nat.le_refl _) (fun _ h => h.elim)⟩
        · obtain ⟨e1, e2, e3, e4, e5⟩ := adv_two (T := T) ha0 hb0 (show now + a + b ≤ 1099511627776 by omega)
          have f1 : advE (a + b) now = 0 := by unfold advE; rw [e1]; rfl
          have f2 : advN (a + b) now = now + a + b := by unfold advN; rw [e1, cond_false]; omega
          have f3 : advE a now = 0 := by unfold advE; rw [e2]; rfl
          have f4 : advN a now = now + a := by unfold advN; rw [e2]; rfl
          have f5 : advE b (now + a) = 0 := by unfold advE; rw [e3]; rfl
          have f6 : advN b (now + a) = now + a + b := by unfold advN; rw [e3]; rfl
          have HLL := hid (advL_adv (a + b) now T)
          have HL1 := hid (advL_len (a + b) now T)
          rw [f2, e5] at HC3
          rw [f1]
          rw [e5] at HLL
          have HE4 := hid e4
          have F3 := hid f3
          have F4 := hid f4
          have F5 := hid f5
          have F6 := hid f6
          clear e1 e2 e3 f1 f2 f3 f4 f5 f6 e4 e5
          obtain ⟨L1, hL1⟩ : ∃ L1, advL (a + b) now T = L1 := ⟨_, rfl⟩
          rw [hL1] at HLL HL1 HE4 HO1 ⊢
          clear hL1
          go_wp2_with fail
          refine (ck_adv w3 a HD3.out hn0 hn1 HTL.out).mono ?_
          rintro e w4 ⟨A2, cap2, rfl, hO2, hD4, hF4⟩
          rw [F4.out] at hD4
          rw [F3.out]
          have HO2 := hid hO2
          have HD4 := hid hD4
          have HC4 := hid (HC3.out.keep hF4 (fun k hk hk2 => by have := HOD.out k hk2; have := HOC.out k hk; omega))
          have HO14 := hid (OwnR.keep HO1.out hF4 (fun j hj hk => by have := (OwnR.lt HO1.out j hj).1; have := HD2.out.lt j hk; omega))
          have HF4 := hid (HF3.out.since hF4 (fun k hk hl => by have := HOD.out k hk; have := HSW.out; omega))
          have HS4 := hid hF4.size
          clear hO2 hD4 hF4
          have HL2 := hid (advL_len a now T)
          have HTT := hid (Nat.lt_of_le_of_lt (advT_len a now T) HTL.out)
          obtain ⟨L2, hL2⟩ : ∃ L2, advL a now T = L2 := ⟨_, rfl⟩
          obtain ⟨T2, hT2⟩ : ∃ T2, advT a now T = T2 := ⟨_, rfl⟩
          rw [hL2] at HO2 HE4 HL2 ⊢
          rw [hT2] at HD4 HTT HLL HE4 HC4
          clear hL2 hT2
          go_wp2_with fail
          refine (ck_now w4 HD4.out).mono ?_
          rintro e w5 ⟨rfl, rfl⟩
          go_wp2_with fail
          refine (ck_adv w4 b HD4.out (by omega) (by omega) HTT.out).mono ?_
          rintro e w5 ⟨A3, cap3, rfl, hO3, hD5, hF5⟩
          rw [F6.out] at hD5
          rw [F5.out]
          have HO3 := hid hO3
          have HD5 := hid hD5
          have HC5 := hid (HC4.out.keep hF5 (fun k hk hk2 => by have := HOD.out k hk2; have := HOC.out k hk; omega))
          have HO15 := hid (OwnR.keep HO14.out hF5 (fun j hj hk => by have := (OwnR.lt HO14.out j hj).1; have := HD2.out.lt j hk; omega))
          have HO25 := hid (OwnR.keep HO2.out hF5 (fun j hj hk => by have := (OwnR.lt HO2.out j hj).1; have := HD2.out.lt j hk; have := HS3.out; omega))
          have HF5 := hid (HF4.out.since hF5 (fun k hk hl => by have := HOD.out k hk; have := HSW.out; omega))
          have HS5 := hid hF5.size
          clear hO3 hD5 hF5
          obtain ⟨L3, hL3⟩ : ∃ L3, advL b (now + a) T2 = L3 := ⟨_, rfl⟩
          obtain ⟨T3, hT3⟩ : ∃ T3, advT b (now + a) T2 = T3 := ⟨_, rfl⟩
          rw [hL3] at HO3 HE4 ⊢
          rw [hT3] at HD5 HC5 HLL
          clear hL3 hT3
          have HOW := hid (show OwnR (w5.alloc (.cells #[] 3)) w5.heap.size 3 1 (some ⟨w5.heap.size, 0, none⟩) 0 0 (intsV []) from ⟨by simp [intsV], .inr ⟨w5.heap.size, 0, #[], rfl, Nat.le_refl _, TBlk.new _ _ _, Nat.le_refl _, by unfold maxLen; omega, by simp, by simp [intsV]⟩⟩)
          have HO26 := hid (OwnR.same HO25.out (Fr.alloc (fun _ => False) w5 (.cells #[] 3)))
          have HRUN := hid (run_app 32 HOW.out HO26.out (by have := HL2.out; have := HTL.out; omega) (by simp))
          have HX5 := hid (show ∀ (v' : Value) (w' : World), (∃ A' cap', v' = Value.slice A' (0 + L2.length) cap' ∧ OwnR w' w5.heap.size 3 1 A' (0 + L2.length) cap' (intsV ([] ++ L2)) ∧ Fr (ownB (some ⟨w5.heap.size, 0, none⟩)) (w5.alloc (.cells #[] 3)) w') → ∃ A' cap', v' = Value.slice A' L2.length cap' ∧ OwnR w' w5.heap.size 3 1 A' L2.length cap' (intsV L2) ∧ OwnR w' w4.heap.size 3 1 A3 L3.length cap3 (intsV L3) ∧ w5.heap.size ≤ w'.heap.size ∧ Fr (fun _ => False) w5 w' from by
            rintro v' w' ⟨A', cap', rfl, h1, h2⟩
            rw [Nat.zero_add, List.nil_append] at h1
            have hF : Fr (fun _ => False) w5 w' := (Fr.alloc (fun _ => False) w5 (.cells #[] 3)).since h2 (fun j hj hl => by
              obtain ⟨q, hq, rfl⟩ := hj
              injection hq with hq
              subst hq
              simp only at hl
              omega)
            exact ⟨A', cap', by rw [Nat.zero_add], h1, OwnR.same HO3.out hF, hF.size, hF⟩)
          have HY6 := hid (show ∀ (A' : Option Addr) (cap' : Nat) (w' : World), OwnR w' w5.heap.size 3 1 A' L2.length cap' (intsV L2) → OwnR w' w4.heap.size 3 1 A3 L3.length cap3 (intsV L3) → w5.heap.size ≤ w'.heap.size → _ from fun A' cap' w' h1 h2 h3 => run_app 32 h1 h2 (by have := HL2.out; have := HTL.out; have := HLL.out; have h7 := congrArg List.length HE4.out; simp at h7; omega) h3)
          go_wp2_with (at_builtin; (first
            | (refine wpList_app (by rfl) _ _ 32 rfl _ _ rfl rfl _ HR6.out ?_; rintro v7 w7 ⟨A7, cap7, rfl, hO7, hF7⟩; have HO7 := hid hO7; have HF7 := hid (HF6.out.since hF7 (fun j hj hl => by have := (OwnR.lt HO6.out j hj).1; omega)); clear hO7 hF7)
            | (refine wpList_app (by rfl) _ _ 32 rfl _ _ rfl rfl _ HRUN.out ?_; rintro v6 w6 hZ; obtain ⟨A6, cap6, rfl, hO6, hO36, hs6, hF6⟩ := HX5.out v6 w6 hZ; have HO6 := hid hO6; have HF6 := hid hF6; have HR6 := hid (HY6.out A6 cap6 w6 hO6 hO36 hs6); clear hZ hO6 hO36 hs6 hF6)))
          have hlen : L1.length = L2.length + L3.length := by rw [HE4.out, List.length_append]
          have hF57 := HF7.out
          have hO17 := OwnR.same HO15.out hF57
          have HSM := hid (show Calls Try.prog 16 #[.slice A1 L1.length cap1, .slice A7 (L2.length + L3.length) cap7] w7 fun e w' => e = .returned (.bool true) ∧ Fr (fun _ => False) w7 w' from by
            rw [← hlen]
            exact same_yes A1 A7 L1 L1.length cap1 cap7 w7 (OwnR.intR hO17 rfl) (by rw [HE4.out]; exact OwnR.intR HO7.out (by rw [List.length_append])) rfl (by have := HL1.out; have := HT.out; have := HLEN.out; omega))
          have HC7 := hid (HC5.out.same hF57)
          have HD7 := hid (HD5.out.same hF57)
          have HF7w := hid (HF5.out.trans hF57)
          have HTT3 := hid (show L1.length + T3.length = T.length from HLL.out)
          clear hlen hF57 hO17
          have HLC := hid (ck_len w7 HC7.out)
          have HLD := hid (ck_len w7 HD7.out)
          obtain ⟨n1, hq1⟩ : ∃ n, L1.length = n := ⟨_, rfl⟩
          obtain ⟨n2, hq2⟩ : ∃ n, L2.length = n := ⟨_, rfl⟩
          obtain ⟨n3, hq3⟩ : ∃ n, L3.length = n := ⟨_, rfl⟩
          obtain ⟨tl, htl⟩ : ∃ n, T.length = n := ⟨_, rfl⟩
          obtain ⟨t3, ht3⟩ : ∃ n, T3.length = n := ⟨_, rfl⟩
          rw [hq1, hq2, hq3] at HSM
          rw [hq1, htl, ht3] at HTT3
          rw [ht3] at HLC HLD
          rw [hq1, hq2, hq3, htl]
          have q8 : wrap64 ((tl : Int) - (n1 : Int)) = (t3 : Int) := by have := HTT3.out; have := HTL.out; rw [htl] at this; unfold wrap64; omega
          have HT3 := hid ht3
          clear hq1 hq2 hq3 htl ht3
          go_wp2_with fail
          refine HSM.out.mono ?_
          rintro e w8 ⟨rfl, hF⟩
          have HF8 := hid (HF7w.out.trans hF)
          have HC8 := hid (HC7.out.same hF)
          have HD8 := hid (HD7.out.same hF)
          have HLC8 := hid (ck_len w8 HC8.out)
          have HLD8 := hid (ck_len w8 HD8.out)
          rw [HT3.out] at HLC8 HLD8
          clear hF
          go_wp2_with fail
          refine (ck_now w8 HC8.out).mono ?_
          rintro e w9 ⟨rfl, rfl⟩
          go_wp2_with fail
          refine (ck_now w8 HD8.out).mono ?_
          rintro e w9 ⟨rfl, rfl⟩
          go_wp2_with fail
          refine (ck_now w8 HC8.out).mono ?_
          rintro e w9 ⟨rfl, rfl⟩
          go_wp2_with fail
          refine HLC8.out.mono ?_
          rintro e w9 ⟨rfl, rfl⟩
          go_wp2_with fail
          refine HLD8.out.mono ?_
          rintro e w9 ⟨rfl, rfl⟩
          go_wp2_with fail
          refine HLC8.out.mono ?_
          rintro e w9 ⟨rfl, rfl⟩
          go_wp2_with fail
          refine (awake_ok w8).mono ?_
          rintro e w9 ⟨rfl, hF⟩
          have HF9 := hid (HF8.out.trans hF)
          clear hF
          go_wp2_with fail
          go_ret
          exact ⟨rfl, HF9.out.below (Nat.le_refl _) (fun _ h => h.elim)⟩
end Go.Proofs.Ytpgbhgkikpmhiaa
