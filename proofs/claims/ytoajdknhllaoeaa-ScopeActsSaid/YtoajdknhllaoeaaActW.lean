/-
  ScopeActs answers true at every input.
-/
import Derived.Test.YtoajdknhllaoeaaAcm
import Derived.Deep.CutBlock
namespace Go.Proofs.Ytoajdknhllaoeaa
open Go.RowKit
set_option linter.unusedVariables false
set_option linter.unusedSimpArgs false

theorem Row.at_3 {w : World} {a : Option Addr} {len i : Nat} {f : Nat → Nat → Int} (h : Row w a len 3 f) (hi : i < len) :
    ∃ b off, a = some ⟨b, off, none⟩ ∧ b < w.heap.size ∧ (∀ v, Fr (fun _ => False) w v → v.cell? ⟨b, off + i * 3, none⟩ = some (.int .i64 (f i 0)) ∧ v.cell? ⟨b, off + i * 3 + 1, none⟩ = some (.int .i64 (f i 1)) ∧ v.cell? ⟨b, off + i * 3 + 2, none⟩ = some (.int .i64 (f i 2))) := by
  obtain ⟨b, off, ha, hb, hc⟩ := h (by omega)
  have key : ∀ v, Fr (fun _ => False) w v → ∀ j, j < 3 → v.cell? ⟨b, off + i * 3 + j, none⟩ = some (.int .i64 (f i j)) := by
    intro v hf j hj
    have := (hc i j hi hj).1
    rw [← Nat.add_assoc] at this
    rw [← this]
    exact World.cell?_of_block (w := w) (hf.block b hb id)
  exact ⟨b, off, ha, hb, fun v hf => ⟨key v hf 0 (by omega), key v hf 1 (by omega), key v hf 2 (by omega)⟩⟩

def AcRel (w0 : World) (b : MB) (tb rb la sz : Nat) (d : Nat) (x z : Value) (w : World) : Prop :=
  ∃ (i : Nat) (T : Sc) (K : Nat), i ≤ la ∧ d = la + 1 - i ∧ x = .int .i64 K ∧ z = .int .i64 i ∧ AcM w0 b tb rb T T w ∧ AcP T i K sz

def AcCut (w0 : World) (b : MB) (tb rb i K sz : Nat) (u : Value) (w : World) : Prop :=
  ∃ (T : Sc) (K' : Nat) (v : Int), u = .int .i64 v ∧ AcM w0 b tb rb T T w ∧ AcP T (i + 1) K' sz ∧ (v = 0 → K' = K + 1) ∧ (v ≠ 0 → K' = K)

def AjRel (w0 : World) (b : MB) (tb rb : Nat) (T : Sc) (d : Nat) (z : Value) (w : World) : Prop :=
  ∃ j : Nat, j ≤ T.n ∧ d = T.n + 1 - j ∧ z = .int .i64 j ∧ AcM w0 b tb rb T T w

theorem AcM.start {w0 w w' : World} {b : MB} {tb rb : Nat} {T : Sc} {P : Nat → Prop} {s : List Int} {z : Nat} (h : OwnT w0 w b tb (scT z s)) (hR : RfM w' P rb (scT 0 [])) (hF : Fr (fun _ => False) w w') (hlo : ∀ k, P k → w.heap.size ≤ k) : AcM w0 b tb rb (scT z s) (scT z s) w' := by
  obtain ⟨O, h1, h2, h3⟩ := h
  have hs := h3.size
  refine AcM.to (R := scT 0 []) ⟨⟨O, P, h1.same hF, hR, h2, fun k hk => by have := hlo k hk; omega, fun k hk hp => by have := h1.lt k hk; have := hlo k hp; omega⟩, h3.trans hF⟩ rfl rfl (fun _ _ => rfl) (fun _ _ => rfl)

theorem openE_ok {T : Sc} {x lf p : Int} (h : openE T x lf p = 0) : ∃ k j : Nat, p = k ∧ k < T.n ∧ x = j ∧ j < 3 ∧ T.nst k < 32 ∧ 2 ≤ lf := by
  unfold openE at h
  cases hb : isB T.n p with
  | false => rw [hb] at h; cases h
  | true =>
    obtain ⟨k, rfl, hk⟩ := isB_of hb
    rw [hb, nestV_in T hk] at h
    simp only [cond_true] at h
    by_cases h5 : (32 : Int) ≤ (T.nst k : Nat)
    · rw [decide_eq_true h5] at h; cases h
    · rw [decide_eq_false h5] at h
      simp only [cond_false] at h
      by_cases h7 : x < 0 ∨ 2 < x
      · rw [show (decide (x < 0) || decide (2 < x)) = true by simpa using h7] at h; cases h
      · rw [show (decide (x < 0) || decide (2 < x)) = false by simp; omega] at h
        simp only [cond_false] at h
        by_cases h8 : lf < 2
        · rw [decide_eq_true h8] at h; cases h
        · obtain ⟨j, rfl⟩ := Int.eq_ofNat_of_zero_le (show 0 ≤ x by omega)
          exact ⟨k, j, rfl, hk, rfl, by omega, by omega, by omega⟩

theorem bneq (v : Int) : (v != v) = false := by simp

set_option maxRecDepth 100000 in
set_option maxHeartbeats 60000000 in
theorem acts_in (sz : Nat) (h1 : 2 ≤ sz) (h2 : sz ≤ 200) (A2 : Option Addr) (la c2 : Nat) (g : Nat → Nat → Int) (w0 : World) (hl : ¬ 200 < la) (hg : Row w0 A2 la 3 g) :
    Calls Try.prog 3 #[.int .i64 sz, .slice A2 la c2] w0 fun e w' => e = .returned (.bool true) ∧ Below w0.heap.size w0 w' := by
  have HGW := hid hg
  have HLA := hid hl
  have HSZ := hid (And.intro h1 h2)
  have t1 : decide ((sz : Int) < 1) = false := decide_eq_false (by omega)
  have t2 : decide ((200 : Int) < (sz : Int)) = false := decide_eq_false (by omega)
  have t2b : decide (200 < sz) = false := decide_eq_false (by omega)
  have t3 : decide ((200 : Int) < (la : Int)) = false := decide_eq_false (by omega)
  have t3b : decide (200 < la) = false := decide_eq_false hl
  have t4 : decide ((sz : Int) < 2) = false := decide_eq_false (by omega)
  clear hg hl h1 h2
  go_enter Try.func3, Try.ntmps3
  go_wp2_with fail
  refine (new_mk sz 2 sz 2 rfl rfl _ (by have := HSZ.out; omega) (by have := HSZ.out; omega) (by omega) (by omega)).mono ?_
  rintro e w1 ⟨b, rfl, hM, hF, hown⟩
  have HM := hid hM
  have HF := hid hF
  have HO := hid hown
  clear hM hF hown
  go_wp2_with fail
  refine (ow_new w0 b sz 3 2 2 _ rfl (by omega) HSZ.out.1 HM.out HF.out HO.out).mono ?_
  rintro e w2 ⟨tb, rfl, h⟩
  have HT := hid h
  clear h HM HF HO
  go_wp2_with fail
  refine (r_new w2 0 []).mono ?_
  rintro e w3 ⟨rb, P, rfl, hR, hF, hlo⟩
  have HREL := hid (show AcRel w0 b tb rb la sz (la + 1) (.int .i64 1) (.int .i64 0) w3 from ⟨0, _, 1, by omega, by omega, rfl, rfl, AcM.start (T := scT 0 []) HT.out hR hF hlo, ⟨(Did.start 3).stp (by omega) (by omega), by omega, rfl, fun k hk => by show 0 ≤ 32; omega, fun k hk => (by show -((0 : Nat) : Int) ≤ 0 ∧ (0 : Int) ≤ ((0 : Nat) : Int); omega), by show 1 ≤ 0 + 1; omega, by show 2 * 1 ≤ sz; have := HSZ.out; omega⟩⟩)
  clear HT hR hF hlo t1 t2 t2b t3 t3b t4
  go_wp2_with fail
  go_loopg [10, 11] (la + 1) (fun d x z wr => AcRel w0 b tb rb la sz d x z wr)
  case atStart => exact HREL.out
  case round =>
    clear HREL
    obtain ⟨i, T, K, hi, rfl, rfl, rfl, hM, hP⟩ := hrel
    have HI := hid hi
    have HM := hid hM
    have HP := hid hP
    clear hi hM hP
    by_cases hlt : i < la
    · have hlt2 : (i : Int) < la := by omega
      obtain ⟨gk, ok, rfl, -, hck⟩ := HGW.out.at_3 hlt
      obtain ⟨x0, hx0⟩ : ∃ x, g i 0 = x := ⟨_, rfl⟩
      obtain ⟨x1, hx1⟩ : ∃ x, g i 1 = x := ⟨_, rfl⟩
      obtain ⟨x2, hx2⟩ : ∃ x, g i 2 = x := ⟨_, rfl⟩
      rw [hx0, hx1, hx2] at hck
      obtain ⟨d0, d1, d2⟩ := hck _ HM.out.fr
      clear hck hx0 hx1 hx2
      have hi2 : i < 200 := by have := HLA.out; omega
      have HI2 := hid hi2
      have HS3 := hid HP.out.did.len
      have HZ := hid (show T.z ≤ 4000000 from by rw [HP.out.z]; have := HSZ.out; omega)
      obtain ⟨e0, he0⟩ : ∃ e, mayE T.n 2 x2 x1 = e := ⟨_, rfl⟩
      have HE0 := hid he0
      have HMAY := hid (ac_may wr x2 x1 e0 he0 HM.out)
      have q0 : (e0 != e0) = false := bneq e0
      clear he0
      go_wp2_with fail
      refine HMAY.out.mono ?_
      rintro e w4 ⟨rfl, hw⟩
      subst hw
      clear HMAY
      by_cases hx6 : x0 < 0 ∨ 5 < x0
      · have y0 : (x0 == 0) = false := by simp; omega
        have y1 : (x0 == 1) = false := by simp; omega
        have y2 : (x0 == 2) = false := by simp; omega
        have y3 : (x0 == 3) = false := by simp; omega
        have y4 : (x0 == 4) = false := by simp; omega
        have y5 : (x0 == 5) = false := by simp; omega
        clear hx6
        go_wp2_with fail
        go_roundg (la + 1 - (i + 1))
        case rel => exact ⟨i + 1, T, K, hlt, by omega, rfl, by go_num, HM.out, HP.out.on⟩
        case measure => omega
      · go_upto_block 2 with fail
        go_cut [14, 15, 16, 17, 18, 19, 20, 21, 22, 23, 24, 25, 26] from 93 to 287 (fun u _ _ _ _ _ _ _ _ _ _ _ _ wx => AcCut w0 b tb rb i K sz u wx)
        case first =>
          obtain rfl | rfl | rfl | rfl | rfl | rfl : x0 = 0 ∨ x0 = 1 ∨ x0 = 2 ∨ x0 = 3 ∨ x0 = 4 ∨ x0 = 5 := by omega
          all_goals clear hx6
          · as_aux_lemma =>
              have hn201 : T.n ≤ 201 := by have := HP.out.n; omega
              have HTZ := hid (show ((sz : Int) - 2 * (T.n : Int)) = (T.z : Int) - 2 * T.n from by rw [HP.out.z])
              obtain ⟨er, her⟩ : ∃ e, openE T x2 ((sz : Int) - 2 * (T.n : Int)) x1 = e := ⟨_, rfl⟩
              have HER := hid her
              have hs200 : sz ≤ 200 := HSZ.out.2
              have q5 : (er != er) = false := bneq er
              clear her q0
              by_cases hok : er = 0
              · subst hok
                obtain ⟨k, j, rfl, hk, rfl, hj, hd, hlf⟩ := openE_ok HER.out
                have HK := hid hk
                have HJ := hid hj
                have HD := hid hd
                have HLF := hid hlf
                have HN2 := hid (show T.n < 1000000 by omega)
                have HC := hid (ac_open_ok wr j k j rfl hj hk (by omega) (by have := HP.out.z; omega) HS3.out HM.out)
                have q6 : ((T.n : Int) != (T.n : Int)) = false := by simp
                clear hk hj hd hlf HER
                go_wp2_with fail
                refine HC.out.mono ?_
                rintro e w5 ⟨rfl, h5⟩
                have H5 := hid h5
                obtain ⟨gp, cp, a1, a2, a3⟩ := h5.rpar
                have HRO := hid (ac_ropen_ok (T := (T.step j).opn k) w5 j ((sz : Int) - 2 * (T.n : Int)) k k rfl HK.out HD.out (by omega) (by have := HJ.out; omega) HLF.out HN2.out h5)
                clear h5 HC
                go_wp2_with fail
                refine HRO.out.mono ?_
                rintro e w6 ⟨rfl, h6⟩
                have H6 := hid h6
                clear h6 HRO a1 a2 a3
                go_wp2_with fail
                go_meet
                exact ⟨(T.step j).opn k, K + 1, 0, rfl, AcM.to H6.out rfl rfl (fun _ _ => rfl) (fun _ _ => rfl), HP.out.opn HJ.out (by have := HI2.out; omega) HK.out HD.out (by have := HLF.out; have := HP.out.z; omega), fun _ => rfl, fun h => absurd rfl h⟩
              · have HNZ := hid hok
                have HC := hid (ac_open_no wr x2 x1 er (by rw [← HTZ.out]; exact HER.out) hok HP.out.d HS3.out HM.out)
                have HN2 := hid (show T.n < 1000000 by omega)
                clear hok
                go_wp2_with fail
                refine HC.out.mono ?_
                rintro e w5 ⟨rfl, h5⟩
                have H5 := hid h5
                obtain ⟨gp, cp, a1, a2, a3⟩ := h5.rpar
                have HRO := hid (ac_ropen_no w5 x2 ((sz : Int) - 2 * (T.n : Int)) x1 er HER.out HNZ.out HN2.out h5)
                clear h5 HC
                go_wp2_with fail
                refine HRO.out.mono ?_
                rintro e w6 ⟨rfl, hw⟩
                subst hw
                clear HRO a1 a2 a3
                go_wp2_with fail
                go_meet
                exact ⟨T, K, er, rfl, H5.out, HP.out.on, fun h => absurd h HNZ.out, fun _ => rfl⟩
          · as_aux_lemma =>
              by_cases hok : e0 = 0
              · subst hok
                obtain ⟨k, j, rfl, hk, rfl, hj⟩ := mayE_ok HE0.out
                have HK := hid hk
                have HJ := hid hj
                have hk2 : (k : Int) < T.n := by omega
                clear hk hj HE0
                have HC := hid (ac_enter wr j k j rfl HJ.out HK.out HZ.out HS3.out HM.out)
                go_wp2_with fail
                refine HC.out.mono ?_
                rintro e w5 ⟨rfl, h5⟩
                have H5 := hid h5
                clear h5 HC
                obtain ⟨gl, cl, a1, a2, a3, a4, a5, a6, a7⟩ := H5.out.live_ (k := k) HK.out
                have hlv := HP.out.lv k HK.out
                obtain ⟨lv, hlv2⟩ : ∃ v, T.live k = v := ⟨_, rfl⟩
                rw [hlv2] at a5 hlv
                have HLV := hid hlv
                have HL2 := hid hlv2
                have hb1 : -200 ≤ lv := by have := HI2.out; omega
                have hb2 : lv ≤ 200 := by have := HI2.out; omega
                have HA7 := hid a7
                clear hlv hlv2 a7
                go_wp2_with fail
                go_meet
                refine ⟨(T.step j).add k 1, K + 1, 0, rfl, AcM.to (HA7.out (lv + 1)) rfl rfl (fun _ _ => rfl) (fun q hq => ?_), HP.out.add HJ.out (by have := HI2.out; omega) HK.out (.inl rfl), fun _ => rfl, fun h => absurd rfl h⟩
                show (if q = k then wrap64 (T.live k + 1) else T.live q) = if q = k then (lv + 1) else T.live q
                by_cases e : q = k
                · rw [if_pos e, if_pos e, HL2.out]; unfold wrap64; omega
                · rw [if_neg e, if_neg e]
              · have he : (e0 == 0) = false := by simpa using hok
                have HNZ := hid hok
                have HZE := hid he
                clear hok
                have HC := hid (ac_enter_no wr x2 x1 e0 HE0.out HNZ.out HZ.out HS3.out HM.out)
                go_wp2_with fail
                refine HC.out.mono ?_
                rintro e w5 ⟨rfl, h5⟩
                have H5 := hid h5
                clear h5 HC
                go_wp2_with fail
                go_meet
                exact ⟨T, K, e0, rfl, H5.out, HP.out.on, fun h => absurd h HNZ.out, fun _ => rfl⟩
          · as_aux_lemma =>
              by_cases hok : e0 = 0
              · subst hok
                obtain ⟨k, j, rfl, hk, rfl, hj⟩ := mayE_ok HE0.out
                have HK := hid hk
                have HJ := hid hj
                have hk2 : (k : Int) < T.n := by omega
                clear hk hj HE0
                obtain ⟨r, hr⟩ : ∃ r, (T.live k == 1) = r := ⟨_, rfl⟩
                have HR := hid hr
                have HC := hid (ac_leave wr j k j rfl r hr HJ.out HK.out HZ.out HS3.out HM.out)
                have q5 : (r != r) = false := by simp
                clear hr
                go_wp2_with fail
                refine HC.out.mono ?_
                rintro e w5 ⟨rfl, h5⟩
                have H5 := hid h5
                clear h5 HC
                obtain ⟨gl, cl, a1, a2, a3, a4, a5, a6, a7⟩ := H5.out.live_ (k := k) HK.out
                have hlv := HP.out.lv k HK.out
                obtain ⟨lv, hlv2⟩ : ∃ v, T.live k = v := ⟨_, rfl⟩
                rw [hlv2] at a5 hlv
                have HLV := hid hlv
                have HL2 := hid hlv2
                have hb1 : -200 ≤ lv := by have := HI2.out; omega
                have hb2 : lv ≤ 200 := by have := HI2.out; omega
                have HA7 := hid a7
                have q6 : (lv == 1) = r := by rw [← HR.out, hlv2]
                clear hlv hlv2 a7
                go_wp2_with fail
                go_meet
                refine ⟨(T.step j).add k (-1), K + 1, 0, rfl, AcM.to (HA7.out (lv - 1)) rfl rfl (fun _ _ => rfl) (fun q hq => ?_), HP.out.add HJ.out (by have := HI2.out; omega) HK.out (.inr rfl), fun _ => rfl, fun h => absurd rfl h⟩
                show (if q = k then wrap64 (T.live k + -1) else T.live q) = if q = k then (lv - 1) else T.live q
                by_cases e : q = k
                · rw [if_pos e, if_pos e, HL2.out]; unfold wrap64; omega
                · rw [if_neg e, if_neg e]
              · have he : (e0 == 0) = false := by simpa using hok
                have HNZ := hid hok
                have HZE := hid he
                clear hok
                have HC := hid (ac_leave_no wr x2 x1 e0 HE0.out HNZ.out HZ.out HS3.out HM.out)
                go_wp2_with fail
                refine HC.out.mono ?_
                rintro e w5 ⟨rfl, h5⟩
                have H5 := hid h5
                clear h5 HC
                go_wp2_with fail
                go_meet
                exact ⟨T, K, e0, rfl, H5.out, HP.out.on, fun h => absurd h HNZ.out, fun _ => rfl⟩
          · as_aux_lemma =>
              by_cases hok : e0 = 0
              · subst hok
                obtain ⟨k, j, rfl, hk, rfl, hj⟩ := mayE_ok HE0.out
                have HK := hid hk
                have HJ := hid hj
                have hk2 : (k : Int) < T.n := by omega
                clear hk hj HE0
                obtain ⟨lv, hlv2⟩ : ∃ v, T.live k = v := ⟨_, rfl⟩
                have HL2 := hid hlv2
                have HC := hid (ac_live wr j k j rfl HJ.out HK.out HZ.out HS3.out HM.out)
                rw [hlv2] at HC
                have q5 : (lv != lv) = false := bneq lv
                clear hlv2
                go_wp2_with fail
                refine HC.out.mono ?_
                rintro e w5 ⟨rfl, h5⟩
                have H5 := hid h5
                clear h5 HC
                obtain ⟨gl, cl, a1, a2, a3, a4, a5, a6, a7⟩ := H5.out.live_ (k := k) HK.out
                rw [HL2.out] at a5
                clear a7
                go_wp2_with fail
                go_meet
                exact ⟨T.step j, K + 1, 0, rfl, AcM.to H5.out rfl rfl (fun _ _ => rfl) (fun _ _ => rfl), HP.out.step HJ.out (by have := HI2.out; omega), fun _ => rfl, fun h => absurd rfl h⟩
              · have he : (e0 == 0) = false := by simpa using hok
                have HNZ := hid hok
                have HZE := hid he
                clear hok
                have HC := hid (ac_live_no wr x2 x1 e0 HE0.out HNZ.out HZ.out HS3.out HM.out)
                go_wp2_with fail
                refine HC.out.mono ?_
                rintro e w5 ⟨rfl, h5⟩
                have H5 := hid h5
                clear h5 HC
                go_wp2_with fail
                go_meet
                exact ⟨T, K, e0, rfl, H5.out, HP.out.on, fun h => absurd h HNZ.out, fun _ => rfl⟩
          · as_aux_lemma =>
              by_cases hok : e0 = 0
              · subst hok
                obtain ⟨k, j, rfl, hk, rfl, hj⟩ := mayE_ok HE0.out
                have HK := hid hk
                have HJ := hid hj
                have hk2 : (k : Int) < T.n := by omega
                clear hk hj HE0
                obtain ⟨a, ha⟩ : ∃ v, T.asked k = v := ⟨_, rfl⟩
                have HAK := hid ha
                have HC := hid (ac_ask wr j k j rfl (!a) (by rw [ha]) HJ.out HK.out HZ.out HS3.out HM.out)
                have q5 : ((!a) != (!a)) = false := by simp
                clear ha
                go_wp2_with fail
                refine HC.out.mono ?_
                rintro e w5 ⟨rfl, h5⟩
                have H5 := hid h5
                clear h5 HC
                obtain ⟨gl, cl, a1, a2, a3, a4, a5, a6, a7⟩ := H5.out.ask_ (k := k) HK.out
                rw [HAK.out] at a5
                have HA7 := hid a7
                clear a7
                go_wp2_with fail
                go_meet
                exact ⟨(T.step j).ask k, K + 1, 0, rfl, AcM.to (HA7.out true) rfl rfl (fun _ _ => rfl) (fun _ _ => rfl), HP.out.ask HJ.out (by have := HI2.out; omega), fun _ => rfl, fun h => absurd rfl h⟩
              · have he : (e0 == 0) = false := by simpa using hok
                have HNZ := hid hok
                have HZE := hid he
                clear hok
                have HC := hid (ac_ask_no wr x2 x1 e0 HE0.out HNZ.out HZ.out HS3.out HM.out)
                go_wp2_with fail
                refine HC.out.mono ?_
                rintro e w5 ⟨rfl, h5⟩
                have H5 := hid h5
                clear h5 HC
                go_wp2_with fail
                go_meet
                exact ⟨T, K, e0, rfl, H5.out, HP.out.on, fun h => absurd h HNZ.out, fun _ => rfl⟩
          · as_aux_lemma =>
              by_cases hok : e0 = 0
              · subst hok
                obtain ⟨k, j, rfl, hk, rfl, hj⟩ := mayE_ok HE0.out
                have HK := hid hk
                have HJ := hid hj
                have hk2 : (k : Int) < T.n := by omega
                clear hk hj HE0
                obtain ⟨a, ha⟩ : ∃ v, T.asked k = v := ⟨_, rfl⟩
                have HAK := hid ha
                have HC := hid (ac_asked wr j k j rfl a ha HJ.out HK.out HZ.out HS3.out HM.out)
                have q5 : (a != a) = false := by simp
                clear ha
                go_wp2_with fail
                refine HC.out.mono ?_
                rintro e w5 ⟨rfl, h5⟩
                have H5 := hid h5
                clear h5 HC
                obtain ⟨gl, cl, a1, a2, a3, a4, a5, a6, a7⟩ := H5.out.ask_ (k := k) HK.out
                rw [HAK.out] at a5
                clear a7
                go_wp2_with fail
                go_meet
                exact ⟨T.step j, K + 1, 0, rfl, AcM.to H5.out rfl rfl (fun _ _ => rfl) (fun _ _ => rfl), HP.out.step HJ.out (by have := HI2.out; omega), fun _ => rfl, fun h => absurd rfl h⟩
              · have he : (e0 == 0) = false := by simpa using hok
                have HNZ := hid hok
                have HZE := hid he
                clear hok
                have HC := hid (ac_asked_no wr x2 x1 e0 HE0.out HNZ.out HZ.out HS3.out HM.out)
                go_wp2_with fail
                refine HC.out.mono ?_
                rintro e w5 ⟨rfl, h5⟩
                have H5 := hid h5
                clear h5 HC
                go_wp2_with fail
                go_meet
                exact ⟨T, K, e0, rfl, H5.out, HP.out.on, fun h => absurd h HNZ.out, fun _ => rfl⟩
        case rest =>
          as_aux_lemma =>
            obtain ⟨T', K', v, hv, hM', hP', hk1, hk2⟩ := hcut
            have HM' := hid hM'
            have HP' := hid hP'
            clear hM' hP'
            obtain ⟨g0, c0, r1, r2, r3⟩ := HM'.out.rpar
            have hn201 : T'.n ≤ 202 := by have := HP'.out.n; have := HI2.out; omega
            have hKb : K' ≤ 202 := by have := HP'.out.le; have := HI2.out; omega
            have hKK : K ≤ 202 := by have := HP.out.le; have := HI2.out; omega
            obtain ⟨s0, hs0⟩ : ∃ x, T'.s.getD 0 0 = x := ⟨_, rfl⟩
            obtain ⟨s1, hs1⟩ : ∃ x, T'.s.getD 1 0 = x := ⟨_, rfl⟩
            obtain ⟨s2, hs2⟩ : ∃ x, T'.s.getD 2 0 = x := ⟨_, rfl⟩
            have p0 := HP'.out.did.pos 0 (by omega)
            have p1 := HP'.out.did.pos 1 (by omega)
            have p2 := HP'.out.did.pos 2 (by omega)
            have hsum := HP'.out.did.sum
            simp only [sumN, Int.zero_add] at hsum
            rw [hs0] at p0 hsum
            rw [hs1] at p1 hsum
            rw [hs2] at p2 hsum
            have hT3 := HP'.out.did.len
            have HC0 := hid (fun W (h : AcM w0 b tb rb T' T' W) => ac_steps W 0 0 s0 rfl (by rw [hT3]; omega) hs0 h)
            have HC1 := hid (fun W (h : AcM w0 b tb rb T' T' W) => ac_steps W 1 1 s1 rfl (by rw [hT3]; omega) hs1 h)
            have HC2 := hid (fun W (h : AcM w0 b tb rb T' T' W) => ac_steps W 2 2 s2 rfl (by rw [hT3]; omega) hs2 h)
            have HCL := hid (fun W (h : AcM w0 b tb rb T' T' W) => ac_len W h)
            obtain ⟨n2, hn2⟩ : ∃ x : Int, ((2 * T'.n : Nat) : Int) = x := ⟨_, rfl⟩
            have HCU := hid (fun W (h : AcM w0 b tb rb T' T' W) => ac_used W n2 hn2.symm h)
            have hw1 : IntKind.i64.wrap (s0 + s1) = s0 + s1 := by rw [IntKind.wrap_i64]; omega
            have hw2 : IntKind.i64.wrap (s0 + s1 + s2) = s0 + s1 + s2 := by rw [IntKind.wrap_i64]; omega
            have hw3 : IntKind.i64.wrap (2 * (T'.n : Int)) = 2 * (T'.n : Int) := by rw [IntKind.wrap_i64]; omega
            have t5 : (s0 + s1 + s2 != (K' : Int)) = false := by simp; omega
            have t6 : ((T'.n : Int) != (T'.n : Int)) = false := by simp
            have t7 : (n2 != 2 * (T'.n : Int)) = false := by simp; omega
            clear hs0 hs1 hs2 p0 p1 p2 hsum hT3 hn2 q0 d0 d1 d2
            subst hv
            go_upto_if 289 with fail
            go_cut [10] from 288 to 291 (fun u wx => u = .int .i64 (K' : Nat) ∧ wc = wx)
            case first =>
              by_cases hv0 : v = 0
              · have hKe : K' = K + 1 := hk1 hv0
                subst hv0 hKe
                clear hk1 hk2
                go_wp2_with fail
                go_meet
                exact ⟨by go_num, rfl⟩
              · have hKe : K' = K := hk2 hv0
                have tv : (v == 0) = false := by simpa using hv0
                subst hKe
                clear hk1 hk2 hv0
                go_wp2_with fail
                go_meet
                exact ⟨rfl, rfl⟩
            case rest =>
              obtain ⟨hu, hwx⟩ := hcut
              subst hu hwx
              clear hk1 hk2
              go_upto_region 55 with fail
              go_quiet ((first
                | (go_at_call 22; exact ((HCL.out _ (HM'.out.same (Fr.drewN _ _ _))).mono fun _ _ ⟨he, hm⟩ => ⟨he, _, hm.symm⟩))
                | (go_at_call 23; exact ((HCU.out _ (HM'.out.same (Fr.drewN _ _ _))).mono fun _ _ ⟨he, hm⟩ => ⟨he, _, hm.symm⟩))
                | (go_at_call 21; first
                  | ((with_reducible refine (HC0.out _ (HM'.out.same (Fr.drewN _ _ _))).mono ?_); exact fun _ _ ⟨he, hm⟩ => ⟨he, _, hm.symm⟩)
                  | ((with_reducible refine (HC1.out _ (HM'.out.same (Fr.drewN _ _ _))).mono ?_); exact fun _ _ ⟨he, hm⟩ => ⟨he, _, hm.symm⟩)
                  | ((with_reducible refine (HC2.out _ (HM'.out.same (Fr.drewN _ _ _))).mono ?_); exact fun _ _ ⟨he, hm⟩ => ⟨he, _, hm.symm⟩))))
              have HM7 := hid (HM'.out.same (Fr.drewN (fun _ => False) wc nq))
              obtain ⟨w7, hw7⟩ : ∃ w7, wc.drewN nq = w7 := ⟨_, rfl⟩
              rw [hw7] at HM7 ⊢
              clear hw7 r1 r2 r3 hw1 hw2 hw3 t5 t6 t7 HC0 HC1 HC2 HCL HCU HM'
              go_wp2_with fail
              have HREL2 := hid (show AjRel w0 b tb rb T' (T'.n + 1) (.int .i64 0) w7 from ⟨0, by omega, by omega, rfl, HM7.out⟩)
              clear HM7
              go_loopg [27] (T'.n + 1) (fun d z wz => AjRel w0 b tb rb T' d z wz)
              case atStart => exact HREL2.out
              case round =>
                clear HREL2
                obtain ⟨j, hj, rfl, rfl, hMj⟩ := hrel
                have HJ := hid hj
                have HMj := hid hMj
                clear hj hMj
                obtain ⟨gp, cp, r1, r2, r3⟩ := HMj.out.rpar
                by_cases hjl : j < T'.n
                · have hj2 : (j : Int) < T'.n := by omega
                  obtain ⟨av, hav⟩ : ∃ x, T'.asked j = x := ⟨_, rfl⟩
                  obtain ⟨lv, hlv⟩ : ∃ x, T'.live j = x := ⟨_, rfl⟩
                  have HAV := hid hav
                  have HLV := hid hlv
                  have HJL := hid hjl
                  have HPK := hid (ac_peek _ j hjl (by rw [HP'.out.z]; have := HSZ.out; omega) av lv hav hlv HMj.out)
                  have q5 : (av != av) = false := by simp
                  have q6 : (lv != lv) = false := bneq lv
                  clear hav hlv
                  go_wp2_with fail
                  refine HPK.out.mono ?_
                  rintro e w8 ⟨rfl, hF8⟩
                  have HM8 := hid (HMj.out.same hF8)
                  clear hF8 HPK r1 r2 r3
                  obtain ⟨ga, ca, a1, a2, a3, a4, a5, -⟩ := HM8.out.ask_ (k := j) HJL.out
                  obtain ⟨gl, cl, b1, b2, b3, b4, b5, -⟩ := HM8.out.live_ (k := j) HJL.out
                  rw [HAV.out] at a5
                  rw [HLV.out] at b5
                  go_wp2_with fail
                  go_roundg (T'.n + 1 - (j + 1))
                  case rel => exact ⟨j + 1, by omega, by omega, by go_num, HM8.out⟩
                  case measure => omega
                · obtain rfl : j = T'.n := by have := HJ.out; omega
                  have hi4 := HI2.out
                  go_wp2_with fail
                  go_roundg (la + 1 - (i + 1))
                  case rel => exact ⟨i + 1, T', _, by omega, by omega, rfl, by go_num, HMj.out, HP'.out⟩
                  case measure => omega
    · have t5 : decide ((i : Int) < (la : Int)) = false := by simp; omega
      go_wp2_with fail
      refine (awake_ok _).mono ?_
      rintro e w9 ⟨rfl, hF9⟩
      have HF9 := hid (HM.out.fr.trans hF9)
      clear hF9
      go_wp2_with fail
      go_ret
      exact ⟨rfl, HF9.out.below (Nat.le_refl _) (fun _ hh => hh.elim)⟩
end Go.Proofs.Ytoajdknhllaoeaa
