/-
  ClockActs: the walk.
-/
import Derived.Test.YtpgbhgkikpmhiaaAp
import Derived.Deep.CutBlock
namespace Go.Proofs.Ytpgbhgkikpmhiaa
open Go.RowKit
set_option linter.unusedVariables false

def AcRel (len : Nat) (ai : Int) (w : World) (c r : Nat) (d : Nat) (x7 x8 y : Value) (wr : World) : Prop :=
  ∃ (k : Nat) (now : Int) (T : List Due) (y7 y8 : Value), y7 = x7 ∧ y8 = x8 ∧ k ≤ len ∧ d = len + 1 - k ∧ y = .int .i64 k ∧ 0 ≤ now ∧ now ≤ 1099511627776 ∧ T.length ≤ k ∧ Lte now T ∧ AcI w (K1 w ai k y7 y8) c now T r now T wr

def AcRel2 (w : World) (c r : Nat) (now : Int) (T : List Due) (c2 r2 : Nat) (d : Nat) (y : Value) (wr : World) : Prop :=
  ∃ (i : Nat) (now2 : Int) (T2 : List Due), i ≤ 300 ∧ d = 301 - i ∧ y = .int .i64 i ∧ 0 ≤ now2 ∧ now2 ≤ 1099511627776 ∧ T2.length + i ≤ 300 ∧ Lte now2 T2 ∧ AcI w (fun R w' => Pair w w' R c now T r now T) c2 now2 T2 r2 now2 T2 wr

set_option maxRecDepth 100000 in
set_option maxHeartbeats 3200000 in
theorem acts_any (al : Option Addr) (len capl : Nat) (f : Nat → Nat → Int) (ai : Int) (w : World) (hrow : Row w al len 3 f) :
    Calls Try.prog 3 #[.slice al len capl, .int .i64 ai] w fun e w' => e = .returned (.bool true) ∧ Below w.heap.size w w' := by
  have HROW := hid hrow
  clear hrow
  go_enter Try.func3, Try.ntmps3
  go_wp2_with fail
  refine (ck_new w).mono ?_
  rintro e w1 ⟨O1, c, rfl, hC, hF, hlo⟩
  have HC := hid hC
  have HF := hid hF
  have HLO := hid hlo
  clear hC hF hlo
  go_upto_region 3 with fail
  have hFA := Fr.alloc (fun _ => False) w1 (.cells #[.int .i64 0, .slice none 0 0] 28)
  have H1 := hid (show AcI w (K1 w ai 0 (.pointer none) (.pointer none)) c 0 [] w1.heap.size 0 [] (w1.alloc (.cells #[.int .i64 0, .slice none 0 0] 28)) from
    AcI.start (pair_made (Fr.refl _ _) HC.out HF.out HLO.out (r_new w1) hFA (fun k hk => by have : k = w1.heap.size := hk; omega)))
  obtain ⟨r, hr⟩ : ∃ r, w1.heap.size = r := ⟨_, rfl⟩
  obtain ⟨w2, hw2⟩ : ∃ w2, w1.alloc (.cells #[.int .i64 0, .slice none 0 0] 28) = w2 := ⟨_, rfl⟩
  rw [hw2, hr] at H1
  rw [hw2, hr]
  clear hFA hw2 hr HC HF HLO
  go_wp2_with fail
  refine (ac_is H1.out (by simp)).mono ?_
  rintro e w3 ⟨rfl, hF⟩
  have H3 := hid (H1.out.same hF)
  clear hF H1
  by_cases hlen : 300 < len
  · have hlen2 : (300 : Int) < len := by omega
    go_wp2_with fail
    refine (awake_ok w3).mono ?_
    rintro e w4 ⟨rfl, hF⟩
    have HF := hid (H3.out.fr.trans hF)
    clear hF
    go_wp2_with fail
    go_ret
    exact ⟨rfl, HF.out.below (Nat.le_refl _) (fun _ h => h.elim)⟩
  have hlen2 : ¬ (300 : Int) < len := by omega
  have HLEN := hid hlen
  go_wp2_with fail
  clear hlen hlen2
  refine (ac_copy H3.out (by simp)).mono ?_
  rintro e w4 ⟨Q4, r4, rfl, -, hF, -⟩
  have H4 := hid (H3.out.same hF)
  clear hF H3
  go_wp2_with fail
  go_loopg [7, 8, 9] (len + 1) (fun d x7 x8 y wr => AcRel len ai w c r d x7 x8 y wr)
  case atStart =>
    exact ⟨0, 0, [], _, _, rfl, rfl, by omega, by omega, rfl, by omega, by omega, by simp, fun x hx => by simp at hx, by
      obtain ⟨⟨P, R, hP, _⟩, _⟩ := H4.out
      exact AcI.start hP⟩
  case round =>
    obtain ⟨k, now, T, x7, x8, rfl, rfl, hk, rfl, rfl, hn0, hn1, hT, hLt, hI⟩ := hrel
    have HK := hid hk
    have HT := hid hT
    have HLT := hid hLt
    have HI := hid hI
    clear hk hT hLt hI
    by_cases hlt : k < len
    · obtain ⟨rb, off, rfl, hrb, hc⟩ := HROW.out.at_three hlt
      have hlt2 : (k : Int) < len := by omega
      obtain ⟨x0, hx0⟩ : ∃ x, f k 0 = x := ⟨_, rfl⟩
      obtain ⟨x1, hx1⟩ : ∃ x, f k 1 = x := ⟨_, rfl⟩
      obtain ⟨x2, hx2⟩ : ∃ x, f k 2 = x := ⟨_, rfl⟩
      rw [hx0, hx1, hx2] at hc
      have HCL := hid hc
      have HC1 := hid (show ∀ W, Fr (fun _ => False) w W → W.cell? ⟨rb, off + k * 3 + 1, none⟩ = some (.int .i64 x1) ∧ W.cell? ⟨rb, off + k * 3 + 2, none⟩ = some (.int .i64 x2) from fun W F => (hc W F).2)
      have HTL := hid (show T.length < 300 from by have := HT.out; have := HLEN.out; omega)
      obtain ⟨c0, c1, c2⟩ := hc wr HI.out.fr
      clear hc hrb hx0 hx1 hx2
      go_wp2_with fail
      refine (ac_do HI.out x0 x1 x2 hn0 hn1 (by have := HTL.out; omega)).mono ?_
      rintro e w3 ⟨A3, cap3, rfl, hA3, h3, hadv⟩
      have HA3 := hid hA3
      have H3 := hid h3
      have HAD := hid (hadv : ThenAdv w _ c _ _ r now T A3 _ w3)
      have HNB := hid (actN_in x0 x2 now hn0 hn1)
      have HTN := hid (actT_len x0 x1 x2 now T)
      have HLA := hid (lte_act (d := x0) (i := x1) (n := x2) HLT.out HI.out.srt)
      have HIDS := hid HI.out.ids
      clear hA3 h3 hadv c0 c1 c2
      obtain ⟨n2, hn2⟩ : ∃ x, actN x0 x2 now = x := ⟨_, rfl⟩
      obtain ⟨T2, hT2⟩ : ∃ x, actT x0 x1 x2 now T = x := ⟨_, rfl⟩
      obtain ⟨L, hL⟩ : ∃ x, actL x0 x2 now T = x := ⟨_, rfl⟩
      obtain ⟨hb, hhb⟩ : ∃ x, actB x0 x1 T = x := ⟨_, rfl⟩
      obtain ⟨er, her⟩ : ∃ x, actE x0 x1 x2 now T = x := ⟨_, rfl⟩
      rw [hL] at HA3 HAD ⊢
      rw [hhb, her]
      rw [hn2] at H3 HAD HNB HLA
      rw [hT2] at H3 HAD HTN HLA
      have HN2 := hid hn2
      have HT2 := hid hT2
      have HL := hid hL
      have HHB := hid hhb
      have HER := hid her
      obtain ⟨ll, hll⟩ : ∃ x, L.length = x := ⟨_, rfl⟩
      have HLL := hid hll
      rw [hll]
      have tq : (er != er) = false := by simp
      have tb : (hb != hb) = false := by simp
      obtain ⟨c0, c1, c2⟩ := HCL.out w3 H3.out.fr
      clear hn2 hT2 hL hhb her hll
      have HLB := hid (show ll ≤ 300 from by rw [← HLL.out, ← HL.out]; have := actL_len x0 x2 now T; have := HTL.out; omega)
      go_upto_block 2 with fail
      go_cut [13, 14] from 61 to 108 (fun u v wx => AcI w (K1 w ai k x7 x8) c n2 T2 r n2 T2 wx)
      case first =>
        rcases t0 : (x0 == 0) with _ | _
        · rcases t1 : (x0 == 1) with _ | _
          · rcases t2 : (x0 == 2) with _ | _
            · have e1 : n2 = now := by rw [← HN2.out]; unfold actN; rw [t2]; rfl
              have e2 : T2 = T := by rw [← HT2.out]; unfold actT; rw [t0, t1, t2]; rfl
              have HE := hid (show AcI w (K1 w ai k x7 x8) c n2 T2 r n2 T2 w3 from by have h := H3.out; rw [← e2, ← e1] at h; exact h)
              clear e1 e2
              go_wp2_with fail
              go_meet
              exact HE.out
            · have e0 : er = advE x2 now := by rw [← HER.out]; unfold actE; rw [t0, t2]; rfl
              have e1 : n2 = advN x2 now := by rw [← HN2.out]; unfold actN; rw [t2]; rfl
              have e2 : T2 = advT x2 now T := by rw [← HT2.out]; unfold actT; rw [t0, t1, t2]; rfl
              have e3 : L = advL x2 now T := by rw [← HL.out]; unfold actL; rw [t2]; rfl
              have HE := hid (show Calls Try.prog 15 #[.pointer (some ⟨r, 0, none⟩), .int .i64 x2] w3 fun e W' => (∃ A2 cap2, e = .returned (.tuple #[.slice A2 ll cap2, .int .i64 er]) ∧ IntR W' A2 L) ∧ IntR W' A3 L ∧ AcI w (K1 w ai k x7 x8) c n2 T2 r n2 T2 W' from by
                have h := HAD.out w3 (Fr.refl _ _) x2
                rw [← e0, ← e1, ← e2, ← e3, HLL.out] at h
                exact h)
              clear e0 e1 e2 e3
              go_wp2_with fail
              refine HE.out.mono ?_
              rintro e w5 ⟨⟨A5, cap5, rfl, hA5⟩, hA35, h5⟩
              have H5 := hid h5
              have HSM := hid (same_yes A3 A5 L ll cap3 cap5 w5 hA35 hA5 HLL.out (by have := HLB.out; omega))
              clear hA5 hA35 h5
              go_wp2_with fail
              refine HSM.out.mono ?_
              rintro e w6 ⟨rfl, hF⟩
              have H6 := hid (H5.out.same hF)
              clear hF
              go_wp2_with fail
              go_meet
              exact H6.out
          · have t2 : (x0 == 2) = false := by simp at t1 ⊢; omega
            have e0 : hb = hasId x1 T := by rw [← HHB.out]; unfold actB; rw [t1]; rfl
            have e1 : n2 = now := by rw [← HN2.out]; unfold actN; rw [t2]; rfl
            have e2 : T2 = dropT x1 T := by rw [← HT2.out]; unfold actT; rw [t0, t1]; rfl
            have HE := hid (show Calls Try.prog 14 #[.pointer (some ⟨r, 0, none⟩), .int .i64 x1] w3 fun e W' => e = .returned (.bool hb) ∧ AcI w (K1 w ai k x7 x8) c n2 T2 r n2 T2 W' from by
              have h := ac_rdrop H3.out x1 HIDS.out (by have := HTL.out; omega)
              rw [← e0, ← e2, ← e1] at h
              exact h)
            clear e0 e1 e2 t2
            go_wp2_with fail
            refine HE.out.mono ?_
            rintro e w5 ⟨rfl, h5⟩
            have H5 := hid h5
            clear h5
            go_wp2_with fail
            go_meet
            exact H5.out
        · have t2 : (x0 == 2) = false := by simp at t0 ⊢; omega
          have e0 : er = setE x1 x2 now T := by rw [← HER.out]; unfold actE; rw [t0]; rfl
          have e1 : n2 = now := by rw [← HN2.out]; unfold actN; rw [t2]; rfl
          have e2 : T2 = setT x1 x2 now T := by rw [← HT2.out]; unfold actT; rw [t0]; rfl
          have HST := hid (show ∀ W, Fr (fun _ => False) w3 W → Calls Try.prog 13 #[.pointer (some ⟨r, 0, none⟩), .int .i64 x1, .int .i64 x2] W fun e W' => e = .returned (.int .i64 er) ∧ AcI w (K1 w ai k x7 x8) c n2 T2 r n2 T2 W' from fun W F => by
            have h := ac_rset (H3.out.same F) x1 x2 hn0 hn1 (by have := HTL.out; omega)
            rw [← e0, ← e2, ← e1] at h
            exact h)
          have HFD := hid H3.out.fr
          clear e0 e1 e2 t2
          go_upto_region 15 with fail
          go_region_held3 (fun W => W.cell? ⟨rb, off + k * 3 + 1, none⟩ = some (.int .i64 x1) ∧ W.cell? ⟨rb, off + k * 3 + 2, none⟩ = some (.int .i64 x2))
            (first | exact HC1.out _ HFD.out | exact HC1.out _ (HFD.out.trans (Fr.drew _ _)))
            (first
              | (go_at_call 13; (with_reducible refine (HST.out _ (by first | exact Fr.drew _ _ | exact Fr.refl _ _)).mono ?_); rintro e w6 ⟨rfl, hI6⟩; have HI6 := hid hI6; have HFD := hid hI6.fr; clear hI6))
          all_goals
            go_wp2_with fail
            go_meet
            exact HI6.out
      case rest =>
        have H5 := hid (hcut : AcI w (K1 w ai k x7 x8) c n2 T2 r n2 T2 wc)
        have HT2L := hid (show T2.length ≤ k + 1 ∧ T2.length ≤ 300 from by have := HTN.out; have := HT.out; have := HTL.out; omega)
        have hcut := ()
        clear c0 c1 c2 tq tb
        go_wp2_with fail
        refine (ac_is H5.out (by have := HT2L.out; omega)).mono ?_
        rintro e w6 ⟨rfl, hF⟩
        have H6 := hid (H5.out.same hF)
        clear hF
        rcases ta : ((k : Int) == ai) with _ | _
        · have hne : ai ≠ (k : Int) := by simp at ta; omega
          have H7 := hid (H6.out.later hne)
          clear hne
          go_wp2_with fail
          go_roundg (len + 1 - (k + 1))
          case rel => exact ⟨k + 1, n2, T2, _, _, rfl, rfl, by omega, rfl, by go_num, HNB.out.1, HNB.out.2.1, HT2L.out.1, HLA.out, H7.out⟩
          case measure => omega
        · go_wp2_with fail
          refine (ac_clone H6.out (by have := HT2L.out; omega)).mono ?_
          rintro e w7 ⟨O7, c7, rfl, hC7, hF7, l7⟩
          have HC7 := hid hC7
          have HF7 := hid hF7
          have HL7 := hid l7
          clear hC7 hF7 l7
          go_wp2_with fail
          refine (ac_copy (H6.out.same HF7.out) (by have := HT2L.out; omega)).mono ?_
          rintro e w8 ⟨Q8, r8, rfl, hR8, hF8, l8⟩
          have H8 := hid (H6.out.fresh HNB.out.1 HNB.out.2.1 HT2L.out.2 HLA.out HC7.out HF7.out HL7.out hR8 hF8 l8)
          clear hR8 hF8 l8
          go_wp2_with fail
          go_roundg (len + 1 - (k + 1))
          case rel => exact ⟨k + 1, n2, T2, _, _, rfl, rfl, by omega, rfl, by go_num, HNB.out.1, HNB.out.2.1, HT2L.out.1, HLA.out, H8.out⟩
          case measure => omega
    · obtain rfl : k = len := by have := HK.out; omega
      by_cases ho : ai < 0 ∨ (k : Int) ≤ ai
      · have HAW := hid (awake_ok wr)
        by_cases g1 : ai < 0
        · have g1b : decide (ai < 0) = true := decide_eq_true g1
          go_wp2_with fail
          refine HAW.out.mono ?_
          rintro e w4 ⟨rfl, hF⟩
          have HF := hid (HI.out.fr.trans hF)
          clear hF
          go_wp2_with fail
          go_ret
          exact ⟨rfl, HF.out.below (Nat.le_refl _) (fun _ h => h.elim)⟩
        · have g1b : decide (ai < 0) = false := decide_eq_false g1
          have g2 : (k : Int) ≤ ai := by omega
          have g2b : decide ((k : Int) ≤ ai) = true := decide_eq_true g2
          go_wp2_with fail
          refine HAW.out.mono ?_
          rintro e w4 ⟨rfl, hF⟩
          have HF := hid (HI.out.fr.trans hF)
          clear hF
          go_wp2_with fail
          go_ret
          exact ⟨rfl, HF.out.below (Nat.le_refl _) (fun _ h => h.elim)⟩
      · have g1 : ¬ ai < 0 := fun h => ho (.inl h)
        have g2 : ¬ (k : Int) ≤ ai := fun h => ho (.inr h)
        have g1b : decide (ai < 0) = false := decide_eq_false g1
        have g2b : decide ((k : Int) ≤ ai) = false := decide_eq_false g2
        obtain ⟨c2, r2, now2, T2, rfl, rfl, h2, b0, b1, hT2, hLt2⟩ := HI.out.swap (by omega) (by omega)
        have H2 := hid h2
        have HB := hid (And.intro b0 b1)
        have HT2 := hid hT2
        have HL2 := hid hLt2
        have HTL := hid (show T.length < 50000 from by have := HT.out; have := HLEN.out; omega)
        clear h2 b0 b1 hT2 hLt2 ho
        go_wp2_with fail
        clear g1b g2b
        go_loopg [15] 301 (fun d y wz => AcRel2 w c r now T c2 r2 d y wz)
        case atStart => exact ⟨0, now2, T2, by omega, rfl, rfl, HB.out.1, HB.out.2, by have := HT2.out; omega, HL2.out, H2.out⟩
        case round =>
          obtain ⟨i, now3, T3, hi, rfl, rfl, m0, m1, hT3, hL3, hI3⟩ := hrel
          have HI3 := hid hi
          have HT3 := hid hT3
          have HL3 := hid hL3
          have H3 := hid hI3
          clear hi hT3 hL3 hI3 HI H2 HT2 HL2 HB
          by_cases hlt3 : i < 300
          · have hlt4 : (i : Int) < 300 := by omega
            go_wp2_with fail
            refine (ac_is H3.out (by have := HT3.out; omega)).mono ?_
            rintro e w4 ⟨rfl, hF⟩
            have H4 := hid (H3.out.same hF)
            clear hF
            cases T3 with
            | nil =>
              have HNX := hid (show Calls Try.prog 18 #[.pointer (some ⟨c2, 0, none⟩)] w4 fun e w' => e = .returned (.tuple #[.int .i64 0, .int .i64 0, .bool false]) ∧ Fr (fun _ => False) w4 w' from ac_next H4.out)
              go_wp2_with fail
              refine HNX.out.mono ?_
              rintro e w5 ⟨rfl, hF⟩
              have HX := hid (H4.out.same hF)
              clear hF
              go_wp2_with fail
              refine (ac_len0 HX.out).mono ?_
              rintro e w7 ⟨rfl, rfl⟩
              go_wp2_with fail
              refine (ac_is2 HX.out HTL.out).mono ?_
              rintro e w8 ⟨rfl, hF8⟩
              have HF8 := hid (HX.out.fr.trans hF8)
              clear hF8
              go_wp2_with fail
              refine (awake_ok w8).mono ?_
              rintro e w9 ⟨rfl, hF9⟩
              have HF9 := hid (HF8.out.trans hF9)
              clear hF9
              go_wp2_with fail
              go_ret
              exact ⟨rfl, HF9.out.below (Nat.le_refl _) (fun _ h => h.elim)⟩
            | cons x rest =>
              have HNX := hid (show Calls Try.prog 18 #[.pointer (some ⟨c2, 0, none⟩)] w4 fun e w' => e = .returned (.tuple #[.int .i64 x.1, .int .i64 x.2, .bool true]) ∧ Fr (fun _ => False) w4 w' from ac_next H4.out)
              have HX1 := hid (HL3.out x (by simp))
              have HDH := hid (drp_head H4.out.ids)
              have HLR := hid (show rest.length + 1 + i ≤ 300 from HT3.out)
              obtain ⟨xa, hxa⟩ : ∃ v, x.1 = v := ⟨_, rfl⟩
              obtain ⟨xi, hxi⟩ : ∃ v, x.2 = v := ⟨_, rfl⟩
              rw [hxa, hxi] at HNX
              rw [hxa] at HX1
              rw [hxi] at HDH
              have HXA := hid hxa
              have HXI := hid hxi
              clear hxa hxi
              go_wp2_with fail
              refine HNX.out.mono ?_
              rintro e w5 ⟨rfl, hF⟩
              have H5 := hid (H4.out.same hF)
              clear hF
              have HDC := hid (fun W (h : AcI w (fun R w' => Pair w w' R c now T r now T) c2 now3 (x :: rest) r2 now3 (x :: rest) W) => (show Calls Try.prog 19 #[.pointer (some ⟨c2, 0, none⟩), .int .i64 xi] W fun e w' => e = .returned (.bool true) ∧ AcI w (fun R w' => Pair w w' R c now T r now T) c2 now3 rest r2 now3 (x :: rest) w' from by
                have h1 := ac_drop h xi (by have := HT3.out; omega)
                rw [HDH.out, show hasId xi (x :: rest) = true by simp [hasId, HXI.out]] at h1
                exact h1))
              have HDR := hid (fun W (h : AcI w (fun R w' => Pair w w' R c now T r now T) c2 now3 rest r2 now3 (x :: rest) W) => (show Calls Try.prog 14 #[.pointer (some ⟨r2, 0, none⟩), .int .i64 xi] W fun e w' => e = .returned (.bool true) ∧ AcI w (fun R w' => Pair w w' R c now T r now T) c2 now3 rest r2 now3 rest w' from by
                have h1 := ac_rdrop h xi H4.out.ids (by have := HT3.out; omega)
                rw [HDH.out, show hasId xi (x :: rest) = true by simp [hasId, HXI.out]] at h1
                exact h1))
              have HLD := hid (show Lte now3 rest from fun y hy => HL3.out y (by simp [hy]))
              by_cases htm : (i : Int) % 2 = 0
              · go_wp2_with fail
                refine (HDC.out _ H5.out).mono ?_
                rintro e w6 ⟨rfl, h6⟩
                have H6 := hid h6
                clear h6
                go_wp2_with fail
                refine (HDR.out _ H6.out).mono ?_
                rintro e w7 ⟨rfl, h7⟩
                have H7 := hid h7
                clear h7
                go_wp2_with fail
                go_roundg (301 - (i + 1))
                case rel => exact ⟨i + 1, now3, rest, by omega, rfl, by go_num, m0, m1, by have := HLR.out; omega, HLD.out, H7.out⟩
                case measure => omega
              · by_cases hbig : 1099511627776 < xa
                · go_wp2_with fail
                  refine (HDC.out _ H5.out).mono ?_
                  rintro e w6 ⟨rfl, h6⟩
                  have H6 := hid h6
                  clear h6
                  go_wp2_with fail
                  refine (HDR.out _ H6.out).mono ?_
                  rintro e w7 ⟨rfl, h7⟩
                  have H7 := hid h7
                  clear h7
                  go_wp2_with fail
                  go_roundg (301 - (i + 1))
                  case rel => exact ⟨i + 1, now3, rest, by omega, rfl, by go_num, m0, m1, by have := HLR.out; omega, HLD.out, H7.out⟩
                  case measure => omega
                · have hbb : decide (1099511627776 < xa) = false := decide_eq_false hbig
                  have htb : decide ((i : Int) % 2 = 0) = false := decide_eq_false htm
                  have hxl := HX1.out
                  have hno : advNo (xa - now3) now3 = false := advNo_no (by omega) (by omega)
                  have e0 : advE (xa - now3) now3 = 0 := by unfold advE; rw [hno]; rfl
                  have hsub : wrap64 (xa - now3) = xa - now3 := by unfold wrap64; omega
                  have HLS := hid (show (advT (xa - now3) now3 (x :: rest)).length < (x :: rest).length from by
                    have := adv_less (x := x) (rest := rest) (now := now3) (by rw [HXA.out]; exact hno)
                    rw [HXA.out] at this
                    exact this)
                  have HNI := hid (advN_in (xa - now3) now3 m0 m1)
                  have HLA := hid (lte_adv (n := xa - now3) HL3.out H4.out.srt)
                  have HLL := hid (advL_len (xa - now3) now3 (x :: rest))
                  have HAV := hid (ac_adv H5.out (xa - now3) m0 m1 (by have := HT3.out; omega))
                  rw [e0] at HAV
                  have HE0 := hid e0
                  clear hno e0 hxl
                  obtain ⟨T4, hT4⟩ : ∃ v, advT (xa - now3) now3 (x :: rest) = v := ⟨_, rfl⟩
                  obtain ⟨n4, hn4⟩ : ∃ v, advN (xa - now3) now3 = v := ⟨_, rfl⟩
                  obtain ⟨L4, hL4⟩ : ∃ v, advL (xa - now3) now3 (x :: rest) = v := ⟨_, rfl⟩
                  rw [hT4] at HLS HLA HAV
                  rw [hn4] at HNI HLA HAV
                  rw [hL4] at HLL HAV
                  obtain ⟨l4, hl4⟩ : ∃ v, L4.length = v := ⟨_, rfl⟩
                  rw [hl4] at HAV HLL
                  have HT4 := hid hT4
                  have HN4 := hid hn4
                  have HL4 := hid hL4
                  have HK4 := hid hl4
                  clear hT4 hn4 hL4 hl4
                  have HNW := hid (ac_now H5.out)
                  go_wp2_with fail
                  refine HNW.out.mono ?_
                  rintro e w6 ⟨rfl, rfl⟩
                  go_wp2_with fail
                  refine HAV.out.mono ?_
                  rintro e w6 ⟨A6, cap6, rfl, hA6, h6, had⟩
                  have H6 := hid h6
                  have hrn := h6.rnow
                  have HRA := hid (show Calls Try.prog 15 #[.pointer (some ⟨r2, 0, none⟩), .int .i64 (xa - now3)] w6 fun e W' => (∃ A2 cap2, e = .returned (.tuple #[.slice A2 l4 cap2, .int .i64 0]) ∧ IntR W' A2 L4) ∧ IntR W' A6 L4 ∧ AcI w (fun R w' => Pair w w' R c now T r now T) c2 n4 T4 r2 n4 T4 W' from by
                    have h := had w6 (Fr.refl _ _) (xa - now3)
                    rw [HE0.out, HN4.out, HT4.out, HL4.out, HK4.out] at h
                    exact h)
                  clear h6 had hA6
                  go_wp2_with fail
                  refine HRA.out.mono ?_
                  rintro e w7 ⟨⟨A7, cap7, rfl, hA7⟩, hA67, h7⟩
                  have H7 := hid h7
                  have HSM := hid (same_yes A6 A7 L4 l4 cap6 cap7 w7 hA67 hA7 HK4.out (by have h1 : l4 ≤ rest.length + 1 := HLL.out; have := HLR.out; omega))
                  clear hA7 hA67 h7 hrn
                  go_wp2_with fail
                  refine HSM.out.mono ?_
                  rintro e w8 ⟨rfl, hF⟩
                  have H8 := hid (H7.out.same hF)
                  clear hF
                  go_wp2_with fail
                  go_roundg (301 - (i + 1))
                  case rel => exact ⟨i + 1, n4, T4, by omega, rfl, by go_num, HNI.out.1, HNI.out.2.1, by have h1 : T4.length < rest.length + 1 := HLS.out; have := HLR.out; omega, HLA.out, H8.out⟩
                  case measure => omega
          · obtain rfl : i = 300 := by have := HI3.out; omega
            obtain rfl : T3 = [] := List.length_eq_zero_iff.1 (by have := HT3.out; omega)
            have HX := H3
            go_wp2_with fail
            refine (ac_len0 HX.out).mono ?_
            rintro e w7 ⟨rfl, rfl⟩
            go_wp2_with fail
            refine (ac_is2 HX.out HTL.out).mono ?_
            rintro e w8 ⟨rfl, hF8⟩
            have HF8 := hid (HX.out.fr.trans hF8)
            clear hF8
            go_wp2_with fail
            refine (awake_ok w8).mono ?_
            rintro e w9 ⟨rfl, hF9⟩
            have HF9 := hid (HF8.out.trans hF9)
            clear hF9
            go_wp2_with fail
            go_ret
            exact ⟨rfl, HF9.out.below (Nat.le_refl _) (fun _ h => h.elim)⟩
end Go.Proofs.Ytpgbhgkikpmhiaa
