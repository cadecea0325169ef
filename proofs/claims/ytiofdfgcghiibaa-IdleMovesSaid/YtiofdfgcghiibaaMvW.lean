/-
  IdleMoves answers true at every input.
-/
import Derived.Test.YtiofdfgcghiibaaMvP
import Derived.Test.YtiofdfgcghiibaaOpen
import Derived.Deep.DeepCutAuto
import Derived.Deep.DeepMust
import Derived.Deep.RegionHeld3
import Derived.Deep.QuietTactic
import Derived.BigQuiet
namespace Go.Proofs.Ytiofdfgcghiibaa
open Go.RowKit
set_option linter.unusedVariables false

theorem row1_at {w : World} {a : Option Addr} {len i : Nat} {f : Nat → Nat → Int} (h : Row w a len 1 f) (hi : i < len) :
    ∃ b off, a = some ⟨b, off, none⟩ ∧ (∀ v, Fr (fun _ => False) w v → v.cell? ⟨b, off + i, none⟩ = some (.int .i64 (f i 0))) := by
  obtain ⟨b, off, ha, hb, hc⟩ := h (by omega)
  refine ⟨b, off, ha, fun v hf => ?_⟩
  have := (hc i 0 hi (by omega)).1
  rw [show off + (i * 1 + 0) = off + i by omega] at this
  rw [← this]
  exact World.cell?_of_block (w := w) (hf.block b hb id)

def MvRel (w0 : World) (b : MB) (be bt bi : Nat) (n : Nat) (d : Nat) (z : Value) (wr : World) : Prop :=
  ∃ (i : Nat) (B : Nat → Bool) (s : List Int), i ≤ n ∧ d = n + 1 - i ∧ z = .int .i64 i ∧ MvM w0 b be bt bi (10 + i) B s wr

def MjRel (w0 : World) (b : MB) (be bt bi : Nat) (K : Int) (B : Nat → Bool) (s : List Int) (d : Nat) (c z : Value) (wr : World) : Prop :=
  ∃ j : Nat, j ≤ 17 ∧ d = 18 - j ∧ c = .int .i64 (ct B j) ∧ z = .int .i64 j ∧ MvM w0 b be bt bi K B s wr

theorem msteps_mk (b : MB) (l : List Int) (u : Nat) (s : List Int) (k : Nat) (x v : Int) (w : World) (h : IsM w b (mk l u s)) (hx : x = k) (hk : k < s.length) (hv : s.getD k 0 = v) :
    Calls Try.prog 24 #[.pointer (some ⟨b.m, 0, none⟩), .int .i64 x] w fun e w' => e = .returned (.int .i64 v) ∧ w = w' := by
  subst hx hv
  exact steps_in b (mk l u s) k w h hk

theorem mv_who (y : Int) : ∃ u : Nat, u < 17 ∧ (Int.tmod (wrap64 (Int.tmod y 17 + 17)) 17) = u := by
  have h1 : -17 < Int.tmod y 17 ∧ Int.tmod y 17 < 17 := by
    have h2 := Int.tmod_lt_of_pos y (show (0 : Int) < 17 by decide)
    have h3 := Int.tmod_lt_of_pos (-y) (show (0 : Int) < 17 by decide)
    rw [Int.neg_tmod] at h3
    omega
  obtain ⟨u, h, e⟩ := wrapped_17 y
  refine ⟨u, h, ?_⟩
  rw [show wrap64 (Int.tmod y 17 + 17) = Int.tmod y 17 + 17 by unfold wrap64; omega]
  exact e

set_option maxRecDepth 100000 in
set_option maxHeartbeats 4000000 in
theorem movesLaw (A : Option Addr) (n c : Nat) (f : Nat → Nat → Int) (w0 : World) (hr : Row w0 A n 1 f) :
    Calls Try.prog 8 #[.slice A n c] w0 fun e w' => e = .returned (.bool true) ∧ Below w0.heap.size w0 w' := by
  have HRW := hid hr
  clear hr
  have HG0 := hid (Fr.refl (fun _ => False) w0)
  go_enter Try.func8, Try.ntmps8
  go_wp2_with fail
  refine (new_mk 2 16 2 16 rfl rfl _ (by omega) (by omega) (by omega) (by omega)).mono ?_
  rintro e w1 ⟨b, rfl, hM, hF, hown⟩
  have HG1 := hid (HG0.out.trans hF)
  have HM1 := hid hM
  have HOWN := hid (show ∀ i, b.own i → w0.heap.size ≤ i from fun i hi => by have := hown i hi; have := HG0.out.size; omega)
  clear hF hM hown HG0
  go_wp2_with fail
  refine (inew_mk b _ _ _ 16 16 0 _ HM1.out rfl rfl (by simp) (by simp)).mono ?_
  rintro e w2 ⟨rfl, hM, hF⟩
  have HG2 := hid (HG1.out.since hF (fun i hi hlt => by have := HOWN.out i hi; omega))
  have HM2 := hid hM
  clear hF hM HG1 HM1
  obtain ⟨s0, hs0⟩ : ∃ t, stp (List.replicate (16 + 1) 0) 16 = t := ⟨_, rfl⟩
  have HTs0 := hid hs0
  rw [hs0] at HM2
  clear hs0
  have HM2 := hid (show IsM w2 b (mk [0, 0] 1 s0) from HM2.out)
  have HSs0 := hid (show s0.length = 17 from by rw [← HTs0.out]; decide +kernel)
  go_wp2_with fail
  obtain ⟨be, hbe⟩ : ∃ be, w2.heap.size = be := ⟨_, rfl⟩
  obtain ⟨w3, hw3⟩ : ∃ w3, w2.alloc (.cells #[.int .i64 0] 82) = w3 := ⟨_, rfl⟩
  have HBbe3 := hid (show Blk w3 be #[.int .i64 0] from by rw [← hw3]; exact (Blk.new _ _ _).at hbe)
  have hF : Fr (fun _ => False) w2 w3 := by rw [← hw3]; exact Fr.alloc _ _ _
  have HM3 := hid (HM2.out.same hF)
  have HG3 := hid (HG2.out.trans hF)
  have HLbe := hid (show w0.heap.size ≤ be from by have := HG2.out.size; omega)
  have nObe := hid (show ¬ b.own be from fun hh => by have := HM2.out.own_lt _ hh; omega)
  have HOE := hid (show ∀ i, b.own i → i < be from fun i hi => by have := HM2.out.own_lt _ hi; omega)
  rw [hw3, hbe]
  clear hw3 hF HG2 HM2 hbe
  have pbe := HBbe3.out.cell (i := 0) rfl
  go_wp2_with fail
  refine (inew_mk b _ _ _ 16 16 1 _ HM3.out rfl rfl (by have := HSs0.out; omega) (by simp)).mono ?_
  rintro e w4 ⟨rfl, hM, hF⟩
  have HG4 := hid (HG3.out.since hF (fun i hi hlt => by have := HOWN.out i hi; omega))
  have HM4 := hid hM
  have HBbe4 := hid (HBbe3.out.keep hF nObe.out)
  clear hF hM HG3 HM3 HBbe3 pbe
  have pbe := HBbe4.out.cell (i := 0) rfl
  obtain ⟨s1, hs1⟩ : ∃ t, stp s0 16 = t := ⟨_, rfl⟩
  have HTs1 := hid hs1
  rw [hs1] at HM4
  clear hs1
  have HM4 := hid (show IsM w4 b (mk [0, 0] 2 s1) from HM4.out)
  have HSs1 := hid (show s1.length = 17 from by rw [← HTs1.out, stp_len]; exact HSs0.out)
  go_upto_region 4 with fail
  obtain ⟨bt, hbt⟩ : ∃ be, w4.heap.size = be := ⟨_, rfl⟩
  obtain ⟨w5, hw5⟩ : ∃ w3, w4.alloc (.cells #[.int .i64 1] 82) = w3 := ⟨_, rfl⟩
  have HBbt5 := hid (show Blk w5 bt #[.int .i64 1] from by rw [← hw5]; exact (Blk.new _ _ _).at hbt)
  have hF : Fr (fun _ => False) w4 w5 := by rw [← hw5]; exact Fr.alloc _ _ _
  have HM5 := hid (HM4.out.same hF)
  have HG5 := hid (HG4.out.trans hF)
  have HLbt := hid (show w0.heap.size ≤ bt from by have := HG4.out.size; omega)
  have nObt := hid (show ¬ b.own bt from fun hh => by have := HM4.out.own_lt _ hh; omega)
  have HBbe5 := hid (HBbe4.out.keep hF (fun h => h))
  have Lbt := hid (show be < bt from by have := HBbe4.out.lt; omega)
  rw [hw5, hbt]
  clear hw5 hF HG4 HM4 hbt HBbe4 pbe
  have pbe := HBbe5.out.cell (i := 0) rfl
  have pbt := HBbt5.out.cell (i := 0) rfl
  go_wp2_with fail
  refine (ienter_mk b _ _ _ 1 5 5 1 32 32 _ HM5.out rfl rfl (by have := HSs1.out; omega) (by omega) (by omega) (by decide +kernel) (by decide +kernel)).mono ?_
  rintro e w6 ⟨rfl, hM, hF⟩
  have HG6 := hid (HG5.out.since hF (fun i hi hlt => by have := HOWN.out i hi; omega))
  have HM6 := hid hM
  have HBbe6 := hid (HBbe5.out.keep hF nObe.out)
  have HBbt6 := hid (HBbt5.out.keep hF nObt.out)
  clear hF hM HG5 HM5 HBbe5 pbe HBbt5 pbt
  have pbe := HBbe6.out.cell (i := 0) rfl
  have pbt := HBbt6.out.cell (i := 0) rfl
  obtain ⟨s2, hs2⟩ : ∃ t, stp s1 5 = t := ⟨_, rfl⟩
  have HTs2 := hid hs2
  rw [hs2] at HM6
  clear hs2
  have HM6 := hid (show IsM w6 b (mk [0, 32] 2 s2) from HM6.out)
  have HSs2 := hid (show s2.length = 17 from by rw [← HTs2.out, stp_len]; exact HSs1.out)
  have HSB := hid (show ∀ j, j < 17 → 0 ≤ s2.getD j 0 ∧ s2.getD j 0 ≤ 10 from by rw [← HTs2.out, ← HTs1.out, ← HTs0.out]; decide +kernel)
  clear HTs0 HTs1 HTs2 HSs0 HSs1
  by_cases hn : 300 < n
  · have t0 : decide ((300 : Int) < n) = true := by simp; omega
    go_wp2_with fail
    refine (awake_ok _).mono ?_
    rintro e w9 ⟨rfl, hF9⟩
    go_wp2_with fail
    go_ret
    exact ⟨rfl, (HG6.out.trans hF9).below (Nat.le_refl _) (fun _ hh => hh.elim)⟩
  have t0 : decide ((300 : Int) < n) = false := by simp; omega
  have hn3 := hid (show n ≤ 300 by omega)
  clear hn
  go_wp2_with fail
  clear t0
  obtain ⟨BF, hBF⟩ : ∃ BF : Array Value, BF = #[.bool false, .bool false, .bool false, .bool false, .bool false, .bool false, .bool false, .bool false, .bool false, .bool false, .bool false, .bool false, .bool false, .bool false, .bool false, .bool false, .bool false] := ⟨_, rfl⟩
  obtain ⟨bi, hbi⟩ : ∃ be, w6.heap.size = be := ⟨_, rfl⟩
  obtain ⟨w7, hw7⟩ : ∃ w3, w6.alloc (.cells #[.bool false, .bool false, .bool false, .bool false, .bool false, .bool false, .bool false, .bool false, .bool false, .bool false, .bool false, .bool false, .bool false, .bool false, .bool false, .bool false, .bool false] 86) = w3 := ⟨_, rfl⟩
  have HBI := hid (show Blk w7 bi (blF (fun _ => false) 17) from by rw [← hw7]; exact (Blk.new _ _ _).at hbi)
  have hF : Fr (fun _ => False) w6 w7 := by rw [← hw7]; exact Fr.alloc _ _ _
  have HE := hid (show MvE w0 b be bt bi from ⟨fun k hk => ⟨HOWN.out k hk, HOE.out k hk⟩, HLbe.out, Lbt.out, by have := HBbt6.out.lt; omega⟩)
  have HMM := hid (show MvM w0 b be bt bi 10 (fun _ => false) s2 w7 from ⟨HM6.out.same hF, HSs2.out, HSB.out, HBbe6.out.keep hF (fun h => h), HBbt6.out.keep hF (fun h => h), HBI.out, HG6.out.trans hF⟩)
  rw [hw7, hbi]
  clear hw7 hF hbi hBF BF HBI HM6 HSs2 HSB HBbe6 HBbt6 HG6 pbe pbt HLbe Lbt HLbt nObe nObt HOE HOWN
  have HREL := hid (show MvRel w0 b be bt bi n (n + 1) (.int .i64 0) w7 from ⟨0, _, s2, by omega, by omega, rfl, HMM.out⟩)
  clear HMM

  go_loopg [10] (n + 1) (fun d z wr => MvRel w0 b be bt bi n d z wr)
  case atStart => exact HREL.out
  case round =>
    clear HREL
    obtain ⟨i, B, s, hi, rfl, rfl, hM⟩ := hrel
    have HI := hid hi
    have HM := hid hM
    have pe := hM.hs.cell (i := 0) rfl
    have pt := hM.ht.cell (i := 0) rfl
    clear hi hM
    by_cases hlt : i < n
    · have HLT := hid hlt
      obtain ⟨gk, ok, rfl, hck⟩ := row1_at HRW.out hlt
      have ck := hck _ HM.out.fr
      clear hck
      obtain ⟨y, hy⟩ : ∃ y, f i 0 = y := ⟨_, rfl⟩
      rw [hy] at ck
      clear hy
      have hlt2 : (i : Int) < n := by omega
      go_wp2_with fail
      obtain ⟨u, hu, hue⟩ := mv_who y
      rw [hue]
      clear hue
      obtain ⟨D, hD⟩ : ∃ D, s.getD u 0 = D := ⟨_, rfl⟩
      have hsb := HM.out.sb u hu
      rw [hD] at hsb
      refine (msteps_mk b _ _ _ u u D _ HM.out.hM rfl (by rw [HM.out.sl]; exact hu) hD).mono ?_
      rintro e w' ⟨rfl, rfl⟩
      have HD := hid hD
      clear hD
      have hu2 : (u : Int) < 17 := by omega
      have hD0 : 0 ≤ D := hsb.1
      have hD9 : D ≤ 400 := by have := hn3.out; omega
      have cu := HM.out.hi.cell (blF_at B 17 u hu)
      rcases hb : B u with _ | _
      · rw [hb] at cu
        have HB := hid hb
        clear hb
        go_wp2_with fail
        refine (ienter_mk b [sm B 17, 32] 2 s 0 u u 0 _ _ _ HM.out.hM rfl rfl (by rw [HM.out.sl]; exact hu) (by omega) (by omega) (pow_17 u hu).1 (enter_z hu HB.out)).mono ?_
        rintro e w4 ⟨rfl, hM4, hF4⟩
        obtain ⟨hcs, hfz, hMM, hst⟩ := HM.out.turn HE.out u hu true _ rfl (by have := hn3.out; omega) hM4 hF4
        have cu4 := hcs u hu
        rw [HB.out] at cu4
        have lbi : bi < w4.heap.size := Nat.lt_of_lt_of_le HM.out.hi.lt hF4.size
        have HMM := hid hMM
        have HST := hid hst
        clear hM4 hF4 hcs hMM hst cu pe pt ck
        go_upto_region 19 with fail
        obtain ⟨w5, hw5⟩ : ∃ w5, w4.setCell ⟨bi, u, none⟩ (.bool true) = w5 := ⟨_, rfl⟩
        rw [hw5] at HMM ⊢
        clear hw5 cu4 hfz lbi
        obtain ⟨B2, hB2⟩ : ∃ B2, upB B u true = B2 := ⟨_, rfl⟩
        obtain ⟨s2, hs2⟩ : ∃ s2, stp s u = s2 := ⟨_, rfl⟩
        rw [hB2, hs2] at HMM
        rw [hs2] at HST
        clear hB2 hs2 HB
        have HMM := hid (HMM.out.up (K' := 10 + ((i + 1 : Nat) : Int)) (by omega))
        have qe := HMM.out.hs.cell (i := 0) rfl
        have qt := HMM.out.ht.cell (i := 0) rfl
        have tD : (D + 1 != D + 1) = false := by simp
        go_wp2_with fail
        refine (msteps_mk b _ _ _ u u (D + 1) _ HMM.out.hM rfl (by rw [HMM.out.sl]; exact hu) (by rw [HST.out, HD.out])).mono ?_
        rintro e w' ⟨rfl, rfl⟩
        go_wp2_with fail
        refine (ipeek_mk b _ _ _ 0 0 (sm B2 17) _ HMM.out.hM rfl (by omega) rfl).mono ?_
        rintro e w6 ⟨rfl, hF6⟩
        have HM6 := hid (HMM.out.same hF6)
        obtain ⟨X, hX⟩ : ∃ X, sm B2 17 = X := ⟨_, rfl⟩
        rw [hX]
        have HX := hid hX
        clear hX hF6 qe qt tD
        go_wp2_with fail
        have HREL2 := hid (show MjRel w0 b be bt bi (10 + ((i + 1 : Nat) : Int)) B2 s2 18 (.int .i64 0) (.int .i64 0) w6 from ⟨0, by omega, rfl, rfl, rfl, HM6.out⟩)
        clear HM6 HMM
        go_loopg [15, 16] 18 (fun d c z wr => MjRel w0 b be bt bi (10 + ((i + 1 : Nat) : Int)) B2 s2 d c z wr)
        case atStart => exact HREL2.out
        case round =>
          clear HREL2
          obtain ⟨j, hj, rfl, rfl, rfl, hMj⟩ := hrel
          have HJ := hid hj
          have HMj := hid hMj
          clear hj hMj
          by_cases hjl : j < 17
          · have hjl2 : (j : Int) < 17 := by omega
            have cj := HMj.out.hi.cell (blF_at B2 17 j hjl)
            have HH := hid (fun w => has_any X j w)
            rw [has_nat X j (by omega), ← HX.out, bit_sm, decide_eq_true hjl, Bool.true_and, HX.out] at HH
            have hct := ct_le B2 j
            obtain ⟨q, hq⟩ : ∃ q, ct B2 j = q := ⟨_, rfl⟩
            have HC := hid (show ct B2 (j + 1) = q + if B2 j then 1 else 0 from by rw [ct, hq])
            rw [hq] at hct ⊢
            clear hq
            rcases hbj : B2 j with _ | _
            · rw [hbj] at HH cj HC
              clear hbj
              go_wp2_with fail
              go_quiet ((go_at_call 30; exact (HH.out _).mono fun _ _ ⟨he, hm⟩ => ⟨he, _, hm.symm⟩))
              go_wp2_with fail
              go_roundg (18 - (j + 1))
              case rel => exact ⟨j + 1, by omega, rfl, by rw [HC.out]; simp, by go_num, HMj.out.same (Fr.drewN _ _ _)⟩
              case measure => omega
            · rw [hbj] at HH cj HC
              clear hbj
              go_wp2_with fail
              go_quiet ((go_at_call 30; exact (HH.out _).mono fun _ _ ⟨he, hm⟩ => ⟨he, _, hm.symm⟩))
              go_wp2_with fail
              go_roundg (18 - (j + 1))
              case rel => exact ⟨j + 1, by omega, rfl, by rw [HC.out]; go_num, by go_num, HMj.out.same (Fr.drewN _ _ _)⟩
              case measure => omega
          · obtain rfl : j = 17 := by have := HJ.out; omega
            have pe := HMj.out.hs.cell (i := 0) rfl
            have pt := HMj.out.ht.cell (i := 0) rfl
            have HCT := hid (show ∀ w, Calls Try.prog 32 #[.int .i64 X] w fun e w' => e = .returned (.int .i64 (ct B2 17)) ∧ Fr (fun _ => False) w w' from fun w => by have := count_any X w; rw [← HX.out, count_sm B2 17 (by omega), HX.out] at this; exact this)
            obtain ⟨q, hq⟩ : ∃ q, ct B2 17 = q := ⟨_, rfl⟩
            rw [hq] at HCT ⊢
            clear hq
            have tq : ((q : Int) != (q : Int)) = false := by simp
            go_wp2_with fail
            refine (HCT.out _).mono ?_
            rintro e w7 ⟨rfl, hF7⟩
            have HM7 := hid (HMj.out.same hF7)
            have pt7 := HM7.out.ht.cell (i := 0) rfl
            clear hF7 pe pt
            go_wp2_with fail
            refine (ipeek_mk b _ _ _ 1 1 32 _ HM7.out.hM rfl (by omega) rfl).mono ?_
            rintro e w8 ⟨rfl, hF8⟩
            have HM8 := hid (HM7.out.same hF8)
            clear hF8
            have hi3 : i ≤ 300 := by have := hn3.out; have := HLT.out; omega
            go_wp2_with fail
            go_roundg (n + 1 - (i + 1))
            case rel => exact ⟨i + 1, B2, s2, by have := HLT.out; omega, rfl, by go_num, HM8.out⟩
            case measure => have := HLT.out; omega
      · rw [hb] at cu
        have HB := hid hb
        clear hb
        go_wp2_with fail
        refine (ileave_mk b [sm B 17, 32] 2 s 0 u u 0 _ _ _ HM.out.hM rfl rfl (by rw [HM.out.sl]; exact hu) (by omega) (by omega) (pow_17 u hu).2 (leave_z hu HB.out)).mono ?_
        rintro e w4 ⟨rfl, hM4, hF4⟩
        obtain ⟨hcs, hfz, hMM, hst⟩ := HM.out.turn HE.out u hu false _ rfl (by have := hn3.out; omega) hM4 hF4
        have cu4 := hcs u hu
        rw [HB.out] at cu4
        have lbi : bi < w4.heap.size := Nat.lt_of_lt_of_le HM.out.hi.lt hF4.size
        have HMM := hid hMM
        have HST := hid hst
        clear hM4 hF4 hcs hMM hst cu pe pt ck
        go_upto_region 19 with fail
        obtain ⟨w5, hw5⟩ : ∃ w5, w4.setCell ⟨bi, u, none⟩ (.bool false) = w5 := ⟨_, rfl⟩
        rw [hw5] at HMM ⊢
        clear hw5 cu4 hfz lbi
        obtain ⟨B2, hB2⟩ : ∃ B2, upB B u false = B2 := ⟨_, rfl⟩
        obtain ⟨s2, hs2⟩ : ∃ s2, stp s u = s2 := ⟨_, rfl⟩
        rw [hB2, hs2] at HMM
        rw [hs2] at HST
        clear hB2 hs2 HB
        have HMM := hid (HMM.out.up (K' := 10 + ((i + 1 : Nat) : Int)) (by omega))
        have qe := HMM.out.hs.cell (i := 0) rfl
        have qt := HMM.out.ht.cell (i := 0) rfl
        have tD : (D + 1 != D + 1) = false := by simp
        go_wp2_with fail
        refine (msteps_mk b _ _ _ u u (D + 1) _ HMM.out.hM rfl (by rw [HMM.out.sl]; exact hu) (by rw [HST.out, HD.out])).mono ?_
        rintro e w' ⟨rfl, rfl⟩
        go_wp2_with fail
        refine (ipeek_mk b _ _ _ 0 0 (sm B2 17) _ HMM.out.hM rfl (by omega) rfl).mono ?_
        rintro e w6 ⟨rfl, hF6⟩
        have HM6 := hid (HMM.out.same hF6)
        obtain ⟨X, hX⟩ : ∃ X, sm B2 17 = X := ⟨_, rfl⟩
        rw [hX]
        have HX := hid hX
        clear hX hF6 qe qt tD
        go_wp2_with fail
        have HREL2 := hid (show MjRel w0 b be bt bi (10 + ((i + 1 : Nat) : Int)) B2 s2 18 (.int .i64 0) (.int .i64 0) w6 from ⟨0, by omega, rfl, rfl, rfl, HM6.out⟩)
        clear HM6 HMM
        go_loopg [15, 16] 18 (fun d c z wr => MjRel w0 b be bt bi (10 + ((i + 1 : Nat) : Int)) B2 s2 d c z wr)
        case atStart => exact HREL2.out
        case round =>
          clear HREL2
          obtain ⟨j, hj, rfl, rfl, rfl, hMj⟩ := hrel
          have HJ := hid hj
          have HMj := hid hMj
          clear hj hMj
          by_cases hjl : j < 17
          · have hjl2 : (j : Int) < 17 := by omega
            have cj := HMj.out.hi.cell (blF_at B2 17 j hjl)
            have HH := hid (fun w => has_any X j w)
            rw [has_nat X j (by omega), ← HX.out, bit_sm, decide_eq_true hjl, Bool.true_and, HX.out] at HH
            have hct := ct_le B2 j
            obtain ⟨q, hq⟩ : ∃ q, ct B2 j = q := ⟨_, rfl⟩
            have HC := hid (show ct B2 (j + 1) = q + if B2 j then 1 else 0 from by rw [ct, hq])
            rw [hq] at hct ⊢
            clear hq
            rcases hbj : B2 j with _ | _
            · rw [hbj] at HH cj HC
              clear hbj
              go_wp2_with fail
              go_quiet ((go_at_call 30; exact (HH.out _).mono fun _ _ ⟨he, hm⟩ => ⟨he, _, hm.symm⟩))
              go_wp2_with fail
              go_roundg (18 - (j + 1))
              case rel => exact ⟨j + 1, by omega, rfl, by rw [HC.out]; simp, by go_num, HMj.out.same (Fr.drewN _ _ _)⟩
              case measure => omega
            · rw [hbj] at HH cj HC
              clear hbj
              go_wp2_with fail
              go_quiet ((go_at_call 30; exact (HH.out _).mono fun _ _ ⟨he, hm⟩ => ⟨he, _, hm.symm⟩))
              go_wp2_with fail
              go_roundg (18 - (j + 1))
              case rel => exact ⟨j + 1, by omega, rfl, by rw [HC.out]; go_num, by go_num, HMj.out.same (Fr.drewN _ _ _)⟩
              case measure => omega
          · obtain rfl : j = 17 := by have := HJ.out; omega
            have pe := HMj.out.hs.cell (i := 0) rfl
            have pt := HMj.out.ht.cell (i := 0) rfl
            have HCT := hid (show ∀ w, Calls Try.prog 32 #[.int .i64 X] w fun e w' => e = .returned (.int .i64 (ct B2 17)) ∧ Fr (fun _ => False) w w' from fun w => by have := count_any X w; rw [← HX.out, count_sm B2 17 (by omega), HX.out] at this; exact this)
            obtain ⟨q, hq⟩ : ∃ q, ct B2 17 = q := ⟨_, rfl⟩
            rw [hq] at HCT ⊢
            clear hq
            have tq : ((q : Int) != (q : Int)) = false := by simp
            go_wp2_with fail
            refine (HCT.out _).mono ?_
            rintro e w7 ⟨rfl, hF7⟩
            have HM7 := hid (HMj.out.same hF7)
            have pt7 := HM7.out.ht.cell (i := 0) rfl
            clear hF7 pe pt
            go_wp2_with fail
            refine (ipeek_mk b _ _ _ 1 1 32 _ HM7.out.hM rfl (by omega) rfl).mono ?_
            rintro e w8 ⟨rfl, hF8⟩
            have HM8 := hid (HM7.out.same hF8)
            clear hF8
            have hi3 : i ≤ 300 := by have := hn3.out; have := HLT.out; omega
            go_wp2_with fail
            go_roundg (n + 1 - (i + 1))
            case rel => exact ⟨i + 1, B2, s2, by have := HLT.out; omega, rfl, by go_num, HM8.out⟩
            case measure => have := HLT.out; omega
    · obtain rfl : i = n := by have := HI.out; omega
      obtain ⟨X, hX⟩ : ∃ X, sm B 17 = X := ⟨_, rfl⟩
      have tX : (X == X) = true := by simp
      have pe9 := hid HM.out.hs
      go_wp2_with fail
      refine (iread_mk b _ _ _ 0 0 0 0 X _ HM.out.hM rfl rfl (by rw [HM.out.sl]; omega) (by omega) hX).mono ?_
      rintro e w4 ⟨rfl, hM4, hF4⟩
      have HG4 := hid (HM.out.fr.since hF4 (fun i hi hl => by have := HE.out.ob _ hi; omega))
      have pe4 := (HM.out.hs.keep hF4 (fun hh => by have := HE.out.ob _ hh; omega)).cell (i := 0) rfl
      have HM4 := hid hM4
      have HX := hid hX
      clear hM4 hF4 hX pe pt
      go_wp2_with fail
      refine (ipeek_mk b _ _ _ 0 0 X _ HM4.out rfl (by omega) HX.out).mono ?_
      rintro e w5 ⟨rfl, hF5⟩
      have HG5 := hid (HG4.out.trans hF5)
      clear hF5
      go_wp2_with fail
      refine (awake_ok _).mono ?_
      rintro e w6 ⟨rfl, hF6⟩
      go_wp2_with fail
      go_ret
      exact ⟨rfl, (HG5.out.trans hF6).below (Nat.le_refl _) (fun _ hh => hh.elim)⟩
end Go.Proofs.Ytiofdfgcghiibaa
