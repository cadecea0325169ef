/-
  EventRests answers true at every input.
-/
import Derived.Test.YtlhpngoplmccjaaEAwake
import Derived.Deep.DeepCutAuto
import Derived.Deep.DeepMust
import Derived.Deep.LoopGhost
namespace Go.Proofs.Ytlhpngoplmccjaa
open Go.RowKit
set_option linter.unusedVariables false

/-- A round of Tells: behind k of N, from v0. -/
def RsRel (w0 : World) (b : MB) (be x y N : Nat) (v0 xa xs ya ys : Int) (d : Nat) (z : Value) (wr : World) : Prop :=
  ∃ (k : Nat) (s : List Int), k ≤ N ∧ d = N + 1 - k ∧ z = .int .i64 k ∧ s.length = 2 ∧ IsM wr b (mk [v0 + k] 1 s) ∧ WT wr x 0 xa xs ∧ WT wr y 0 ya ys ∧ Blk wr be #[.int .i64 0] ∧ Fr (fun _ => False) w0 wr

/-- A round of Reads. -/
def RdRel (w0 : World) (b : MB) (be x y N : Nat) (v0 xa xs ya ys : Int) (d : Nat) (z : Value) (wr : World) : Prop :=
  ∃ (k : Nat) (s : List Int), k ≤ N ∧ d = N + 1 - k ∧ z = .int .i64 k ∧ s.length = 2 ∧ IsM wr b (mk [v0] 1 s) ∧ WT wr x 0 xa xs ∧ WT wr y 0 ya ys ∧ Blk wr be #[.int .i64 0] ∧ Fr (fun _ => False) w0 wr

theorem wrap_up (v : Int) (k : Nat) (h0 : 0 ≤ v) (h1 : v ≤ 1000) (hk : k ≤ 1000) : wrap64 ([v + (k : Int)].getD 0 0 + 1) = v + ((k + 1 : Nat) : Int) := by
  show wrap64 (v + (k : Int) + 1) = _
  unfold wrap64
  omega

theorem told_one (v k s : Int) (h : k = 0) : told [v] 1 k s = (v == s) := by
  subst h
  exact told_in [v] 1 0 s v (by omega) rfl

set_option maxRecDepth 100000 in
set_option maxHeartbeats 4000000 in
theorem restsLaw (a r h : Int) (w0 : World) :
    Calls Try.prog 7 #[.int .i64 a, .int .i64 r, .int .i64 h] w0 fun e w' => e = .returned (.bool true) ∧ Below w0.heap.size w0 w' := by
  have HG0 := hid (Fr.refl (fun _ => False) w0)
  go_enter Try.func7, Try.ntmps7
  go_wp2_with fail
  refine (new_mk 1 1 1 1 rfl rfl _ (by omega) (by omega) (by omega) (by omega)).mono ?_
  rintro e w1 ⟨b, rfl, hM, hF, hown⟩
  have HG1 := hid (HG0.out.trans hF)
  have HM1 := hid hM
  have HOWN := hid (show ∀ i, b.own i → w0.heap.size ≤ i from fun i hi => by have := hown i hi; have := HG0.out.size; omega)
  clear hF hM hown HG0
  go_wp2_with fail
  refine (enew_mk b _ _ _ 0 0 0 _ HM1.out rfl rfl (by simp) (by simp)).mono ?_
  rintro e w2 ⟨rfl, hM, hF⟩
  have HG2 := hid (HG1.out.since hF (fun i hi hlt => by have := HOWN.out i hi; omega))
  have HM2 := hid hM
  clear hF hM HG1 HM1
  obtain ⟨s0, hs0⟩ : ∃ s0, stp (List.replicate (1 + 1) 0) 0 = s0 := ⟨_, rfl⟩
  have HSs0 := hid (show s0.length = 2 from by rw [← hs0]; decide +kernel)
  rw [hs0] at HM2
  have HM2 := hid (show IsM w2 b (mk [0] 1 s0) from HM2.out)
  clear hs0
  rcases t0 : decide (a < 0) with _ | _
  rotate_left 1
  · go_wp2_with fail
    refine (awake_ok _).mono ?_
    rintro e w9 ⟨rfl, hF9⟩
    go_wp2_with fail
    go_ret
    exact ⟨rfl, (HG2.out.trans ((Fr.alloc _ _ _).trans hF9)).below (Nat.le_refl _) (fun _ hh => hh.elim)⟩
  rcases t1 : decide (100 < a) with _ | _
  rotate_left 1
  · go_wp2_with fail
    refine (awake_ok _).mono ?_
    rintro e w9 ⟨rfl, hF9⟩
    go_wp2_with fail
    go_ret
    exact ⟨rfl, (HG2.out.trans ((Fr.alloc _ _ _).trans hF9)).below (Nat.le_refl _) (fun _ hh => hh.elim)⟩
  rcases t2 : decide (r < 0) with _ | _
  rotate_left 1
  · go_wp2_with fail
    refine (awake_ok _).mono ?_
    rintro e w9 ⟨rfl, hF9⟩
    go_wp2_with fail
    go_ret
    exact ⟨rfl, (HG2.out.trans ((Fr.alloc _ _ _).trans hF9)).below (Nat.le_refl _) (fun _ hh => hh.elim)⟩
  rcases t3 : decide (100 < r) with _ | _
  rotate_left 1
  · go_wp2_with fail
    refine (awake_ok _).mono ?_
    rintro e w9 ⟨rfl, hF9⟩
    go_wp2_with fail
    go_ret
    exact ⟨rfl, (HG2.out.trans ((Fr.alloc _ _ _).trans hF9)).below (Nat.le_refl _) (fun _ hh => hh.elim)⟩
  rcases t4 : decide (h < 0) with _ | _
  rotate_left 1
  · go_wp2_with fail
    refine (awake_ok _).mono ?_
    rintro e w9 ⟨rfl, hF9⟩
    go_wp2_with fail
    go_ret
    exact ⟨rfl, (HG2.out.trans ((Fr.alloc _ _ _).trans hF9)).below (Nat.le_refl _) (fun _ hh => hh.elim)⟩
  rcases t5 : decide (100 < h) with _ | _
  rotate_left 1
  · go_wp2_with fail
    refine (awake_ok _).mono ?_
    rintro e w9 ⟨rfl, hF9⟩
    go_wp2_with fail
    go_ret
    exact ⟨rfl, (HG2.out.trans ((Fr.alloc _ _ _).trans hF9)).below (Nat.le_refl _) (fun _ hh => hh.elim)⟩
  obtain ⟨A, rfl⟩ := Int.eq_ofNat_of_zero_le (show 0 ≤ a by simp at t0; omega)
  obtain ⟨R, rfl⟩ := Int.eq_ofNat_of_zero_le (show 0 ≤ r by simp at t2; omega)
  obtain ⟨B, rfl⟩ := Int.eq_ofNat_of_zero_le (show 0 ≤ h by simp at t4; omega)
  have hA : A ≤ 100 := by simp at t1; omega
  have hR : R ≤ 100 := by simp at t3; omega
  have hB : B ≤ 100 := by simp at t5; omega
  go_wp2_with fail
  clear t0 t1 t2 t3 t4 t5
  obtain ⟨be, hbe⟩ : ∃ be, w2.heap.size = be := ⟨_, rfl⟩
  obtain ⟨w3, hw3⟩ : ∃ w3, w2.alloc (.cells #[.int .i64 0] 76) = w3 := ⟨_, rfl⟩
  have HBbe3 := hid (show Blk w3 be #[.int .i64 0] from by rw [← hw3]; exact (Blk.new _ _ _).at hbe)
  have hF : Fr (fun _ => False) w2 w3 := by rw [← hw3]; exact Fr.alloc _ _ _
  have HM3 := hid (HM2.out.same hF)
  have HG3 := hid (HG2.out.trans hF)
  have HLbe := hid (show w0.heap.size ≤ be from by have := HG2.out.size; omega)
  have nObe := hid (show ¬ b.own be from fun hh => by have := HM2.out.own_lt _ hh; omega)
  rw [hw3, hbe]
  clear hw3 hF HG2 HM2 hbe
  have pbe := HBbe3.out.cell (i := 0) rfl
  refine (ewait_mk 0 _).mono ?_
  rintro e w4 ⟨x, rfl, hX, hF, hlx⟩
  have HG4 := hid (HG3.out.trans hF)
  have HM4 := hid (HM3.out.same hF)
  have HBbe4 := hid (HBbe3.out.same hF)
  have HXx4 := hid hX
  have HLx := hid (show w0.heap.size ≤ x from by have := HG3.out.size; omega)
  have nOx := hid (show ¬ b.own x from fun hh => by have := HM3.out.own_lt _ hh; omega)
  have nbe_x := hid (show be ≠ x from by have := HBbe3.out.lt; omega)
  clear hX hlx
  clear hF HG3 HM3 HBbe3 pbe
  have pbe := HBbe4.out.cell (i := 0) rfl
  go_wp2_with fail
  refine (ewait_mk 0 _).mono ?_
  rintro e w5 ⟨y, rfl, hX, hF, hlx⟩
  have HG5 := hid (HG4.out.trans hF)
  have HM5 := hid (HM4.out.same hF)
  have HXx5 := hid (HXx4.out.same hF)
  have HBbe5 := hid (HBbe4.out.same hF)
  have HXy5 := hid hX
  have HLy := hid (show w0.heap.size ≤ y from by have := HG4.out.size; omega)
  have nOy := hid (show ¬ b.own y from fun hh => by have := HM4.out.own_lt _ hh; omega)
  have nbe_y := hid (show be ≠ y from by have := HBbe4.out.lt; omega)
  have nx_y := hid (show x ≠ y from by have := Blk.lt HXx4.out; omega)
  have ny_x := hid (show y ≠ x from fun hh => nx_y.out hh.symm)
  clear hX hlx
  clear hF HG4 HM4 HXx4 HBbe4 pbe
  have pbe := HBbe5.out.cell (i := 0) rfl
  go_wp2_with fail
  refine (wready_mk b _ _ _ 1 0 1 0 y 0 0 0 _ HM5.out HXy5.out nOy.out rfl rfl (by have := HSs0.out; omega) (by omega) rfl).mono ?_
  rintro e w6 ⟨rfl, hM, hX, hF⟩
  have HG6 := hid (HG5.out.since hF (fun i hi hlt => hi.elim (fun h => by have := HOWN.out i h; omega) (fun h => by have := HLy.out; have h2 : i = y := h; omega)))
  have HM6 := hid hM
  have HXx6 := hid (HXx5.out.keep hF (fun hh => hh.elim nOx.out nx_y.out))
  have HXy6 := hid hX
  have HBbe6 := hid (HBbe5.out.keep hF (fun hh => hh.elim nObe.out nbe_y.out))
  clear hF hM hX HG5 HM5 HXx5 HXy5 HBbe5 pbe
  have pbe := HBbe6.out.cell (i := 0) rfl
  obtain ⟨s1, hs1⟩ : ∃ t, stp s0 1 = t := ⟨_, rfl⟩
  have HSs1 := hid (show s1.length = 2 from by rw [← hs1, stp_len]; exact HSs0.out)
  rw [hs1] at HM6
  clear hs1
  go_wp2_with fail
  refine (wpark_ok y 0 0 _ HXy6.out).mono ?_
  rintro e w7 ⟨rfl, hX, hF⟩
  have HG7 := hid (HG6.out.since hF (fun i hi hlt => by have := HLy.out; have h2 : i = y := hi; omega))
  have HM7 := hid (HM6.out.keep hF (fun k hk hh => nOy.out (hh ▸ hk)))
  have HXx7 := hid (HXx6.out.keep hF nx_y.out)
  have HXy7 := hid hX
  have HBbe7 := hid (HBbe6.out.keep hF nbe_y.out)
  clear hF hX HG6 HM6 HXx6 HXy6 HBbe6 pbe
  have pbe := HBbe7.out.cell (i := 0) rfl
  go_wp2_with fail
  have HREL := hid (show RsRel w0 b be x y A 0 0 0 2 0 (A + 1) (.int .i64 0) w7 from ⟨0, s1, by omega, by omega, rfl, HSs1.out, HM7.out, HXx7.out, HXy7.out, HBbe7.out, HG7.out⟩)
  clear HSs1 HM7 HXx7 HXy7 HBbe7 HG7 pbe HSs0
  go_loopg [13] (A + 1) (fun d z wr => RsRel w0 b be x y A 0 0 0 2 0 d z wr)
  case atStart => exact HREL.out
  case round =>
    clear HREL
    obtain ⟨k, s2, hk, rfl, rfl, hs, hM, hX, hY, hB, hG⟩ := hrel
    have HSs2 := hid hs
    have HM20 := hid hM
    have HXx20 := hid hX
    have HXy20 := hid hY
    have HBbe20 := hid hB
    have HG20 := hid hG
    have HK := hid hk
    clear hs hM hX hY hB hG hk
    have pbe := HBbe20.out.cell (i := 0) rfl
    by_cases hlt : k < A
    · have hlt2 : (k : Int) < A := by omega
      go_wp2_with fail
      refine (etell_mk b _ _ _ 0 0 0 0 _ _ HM20.out rfl rfl (by have := HSs2.out; omega) (by omega) (wrap_up 0 k (by omega) (by omega) (by omega))).mono ?_
      rintro e w21 ⟨rfl, hM, hF⟩
      have HG21 := hid (HG20.out.since hF (fun i hi hlt => by have := HOWN.out i hi; omega))
      have HM21 := hid hM
      have HXx21 := hid (HXx20.out.keep hF nOx.out)
      have HXy21 := hid (HXy20.out.keep hF nOy.out)
      have HBbe21 := hid (HBbe20.out.keep hF nObe.out)
      clear hF hM HG20 HM20 HXx20 HXy20 HBbe20 pbe
      have pbe := HBbe21.out.cell (i := 0) rfl
      go_wp2_with fail
      go_roundg (A + 1 - (k + 1))
      case rel => exact ⟨k + 1, _, by omega, rfl, by go_num, by rw [stp_len]; exact HSs2.out, HM21.out, HXx21.out, HXy21.out, HBbe21.out, HG21.out⟩
      case measure => omega
    · obtain rfl : A = k := by have := HK.out; omega
      have HM20 := hid (show IsM wr b (mk [(A : Int)] 1 s2) from by have := HM20.out; rwa [Int.zero_add] at this)
      clear HK hlt
      go_wp2_with fail
      refine (wready_mk b _ _ _ 0 0 0 (A : Int) x 0 0 0 _ HM20.out HXx20.out nOx.out rfl rfl (by have := HSs2.out; omega) (by omega) rfl).mono ?_
      rintro e w21 ⟨rfl, hM, hX, hF⟩
      have HG21 := hid (HG20.out.since hF (fun i hi hlt => hi.elim (fun h => by have := HOWN.out i h; omega) (fun h => by have := HLx.out; have h2 : i = x := h; omega)))
      have HM21 := hid hM
      have HXx21 := hid hX
      have HXy21 := hid (HXy20.out.keep hF (fun hh => hh.elim nOy.out ny_x.out))
      have HBbe21 := hid (HBbe20.out.keep hF (fun hh => hh.elim nObe.out nbe_x.out))
      clear hF hM hX HG20 HM20 HXx20 HXy20 HBbe20 pbe
      have pbe := HBbe21.out.cell (i := 0) rfl
      obtain ⟨s3, hs3⟩ : ∃ t, stp s2 0 = t := ⟨_, rfl⟩
      have HSs3 := hid (show s3.length = 2 from by rw [← hs3, stp_len]; exact HSs2.out)
      rw [hs3] at HM21
      clear hs3
      go_wp2_with fail
      refine (wparked_mk b _ _ _ x 0 1 (A : Int) false _ HM21.out HXx21.out (rest_up _ _ _ _ _ (by decide))).mono ?_
      rintro e w22 ⟨rfl, hF⟩
      have HG22 := hid (HG21.out.trans hF)
      have HM22 := hid (HM21.out.same hF)
      have HXx22 := hid (HXx21.out.same hF)
      have HXy22 := hid (HXy21.out.same hF)
      have HBbe22 := hid (HBbe21.out.same hF)
      clear hF HG21 HM21 HXx21 HXy21 HBbe21 pbe
      have pbe := HBbe22.out.cell (i := 0) rfl
      go_wp2_with fail
      refine (wpark_ok x 0 (A : Int) _ HXx22.out).mono ?_
      rintro e w23 ⟨rfl, hX, hF⟩
      have HG23 := hid (HG22.out.since hF (fun i hi hlt => by have := HLx.out; have h2 : i = x := hi; omega))
      have HM23 := hid (HM22.out.keep hF (fun k hk hh => nOx.out (hh ▸ hk)))
      have HXx23 := hid hX
      have HXy23 := hid (HXy22.out.keep hF ny_x.out)
      have HBbe23 := hid (HBbe22.out.keep hF nbe_x.out)
      clear hF hX HG22 HM22 HXx22 HXy22 HBbe22 pbe
      have pbe := HBbe23.out.cell (i := 0) rfl
      go_wp2_with fail
      refine (wpark_no x 0 2 (A : Int) _ HXx23.out (by decide)).mono ?_
      rintro e w' ⟨rfl, rfl⟩
      go_wp2_with fail
      have HREL := hid (show RdRel w0 b be x y R (A : Int) 2 (A : Int) 2 0 (R + 1) (.int .i64 0) w23 from ⟨0, s3, by omega, by omega, rfl, HSs3.out, HM23.out, HXx23.out, HXy23.out, HBbe23.out, HG23.out⟩)
      clear HSs3 HM23 HXx23 HXy23 HBbe23 HG23 pbe HSs2
      go_loopg [14] (R + 1) (fun d z wr => RdRel w0 b be x y R (A : Int) 2 (A : Int) 2 0 d z wr)
      case atStart => exact HREL.out
      case round =>
        clear HREL
        obtain ⟨k, s4, hk, rfl, rfl, hs, hM, hX, hY, hB, hG⟩ := hrel
        have HSs4 := hid hs
        have HM30 := hid hM
        have HXx30 := hid hX
        have HXy30 := hid hY
        have HBbe30 := hid hB
        have HG30 := hid hG
        have HK := hid hk
        clear hs hM hX hY hB hG hk
        have pbe := HBbe30.out.cell (i := 0) rfl
        by_cases hlt : k < R
        · have hlt2 : (k : Int) < R := by omega
          go_wp2_with fail
          refine (eread_mk b _ _ _ 1 0 1 0 (A : Int) _ HM30.out rfl rfl (by have := HSs4.out; omega) (by omega) rfl).mono ?_
          rintro e w31 ⟨rfl, hM, hF⟩
          have HG31 := hid (HG30.out.since hF (fun i hi hlt => by have := HOWN.out i hi; omega))
          have HM31 := hid hM
          have HXx31 := hid (HXx30.out.keep hF nOx.out)
          have HXy31 := hid (HXy30.out.keep hF nOy.out)
          have HBbe31 := hid (HBbe30.out.keep hF nObe.out)
          clear hF hM HG30 HM30 HXx30 HXy30 HBbe30 pbe
          have pbe := HBbe31.out.cell (i := 0) rfl
          have tA : ((A : Int) != (A : Int)) = false := by simp
          go_wp2_with fail
          refine (wparked_mk b _ _ _ x 0 2 (A : Int) true _ HM31.out HXx31.out (rest_yes _ _ 0 _ (by omega) rfl)).mono ?_
          rintro e w32 ⟨rfl, hF⟩
          have HG32 := hid (HG31.out.trans hF)
          have HM32 := hid (HM31.out.same hF)
          have HXx32 := hid (HXx31.out.same hF)
          have HXy32 := hid (HXy31.out.same hF)
          have HBbe32 := hid (HBbe31.out.same hF)
          clear hF HG31 HM31 HXx31 HXy31 HBbe31 pbe
          have pbe := HBbe32.out.cell (i := 0) rfl
          go_wp2_with fail
          go_roundg (R + 1 - (k + 1))
          case rel => exact ⟨k + 1, _, by omega, rfl, by go_num, by rw [stp_len]; exact HSs4.out, HM32.out, HXx32.out, HXy32.out, HBbe32.out, HG32.out⟩
          case measure => omega
        · obtain rfl : R = k := by have := HK.out; omega
          clear HK hlt
          go_wp2_with fail
          refine (wparked_mk b _ _ _ x 0 2 (A : Int) true _ HM30.out HXx30.out (rest_yes _ _ 0 _ (by omega) rfl)).mono ?_
          rintro e w31 ⟨rfl, hF⟩
          have HG31 := hid (HG30.out.trans hF)
          have HM31 := hid (HM30.out.same hF)
          have HXx31 := hid (HXx30.out.same hF)
          have HXy31 := hid (HXy30.out.same hF)
          have HBbe31 := hid (HBbe30.out.same hF)
          clear hF HG30 HM30 HXx30 HXy30 HBbe30 pbe
          have pbe := HBbe31.out.cell (i := 0) rfl
          obtain ⟨v, hv⟩ : ∃ v, ((A : Int) == 0) = v := ⟨_, rfl⟩
          have HV := hid hv
          go_wp2_with fail
          refine (wparked_mk b _ _ _ y 0 2 0 v _ HM31.out HXy31.out (by rw [told_one _ _ _ rfl, HV.out]; rfl)).mono ?_
          rintro e w32 ⟨rfl, hF⟩
          have HG32 := hid (HG31.out.trans hF)
          have HM32 := hid (HM31.out.same hF)
          have HXx32 := hid (HXx31.out.same hF)
          have HXy32 := hid (HXy31.out.same hF)
          have HBbe32 := hid (HBbe31.out.same hF)
          clear hF HG31 HM31 HXx31 HXy31 HBbe31 pbe
          have pbe := HBbe32.out.cell (i := 0) rfl
          have tv : (v != v) = false := by simp
          go_wp2_with fail
          clear hv tv
          have HREL := hid (show RsRel w0 b be x y B (A : Int) 2 (A : Int) 2 0 (B + 1) (.int .i64 0) w32 from ⟨0, s4, by omega, by omega, rfl, HSs4.out, by have := HM32.out; simpa using this, HXx32.out, HXy32.out, HBbe32.out, HG32.out⟩)
          clear HSs4 HM32 HXx32 HXy32 HBbe32 HG32 pbe
          go_loopg [17] (B + 1) (fun d z wr => RsRel w0 b be x y B (A : Int) 2 (A : Int) 2 0 d z wr)
          case atStart => exact HREL.out
          case round =>
            clear HREL
            obtain ⟨k, s5, hk, rfl, rfl, hs, hM, hX, hY, hB, hG⟩ := hrel
            have HSs5 := hid hs
            have HM40 := hid hM
            have HXx40 := hid hX
            have HXy40 := hid hY
            have HBbe40 := hid hB
            have HG40 := hid hG
            have HK := hid hk
            clear hs hM hX hY hB hG hk
            have pbe := HBbe40.out.cell (i := 0) rfl
            by_cases hlt : k < B
            · have hlt2 : (k : Int) < B := by omega
              go_wp2_with fail
              refine (etell_mk b _ _ _ 1 0 1 0 _ _ HM40.out rfl rfl (by have := HSs5.out; omega) (by omega) (wrap_up (A : Int) k (by omega) (by omega) (by omega))).mono ?_
              rintro e w41 ⟨rfl, hM, hF⟩
              have HG41 := hid (HG40.out.since hF (fun i hi hlt => by have := HOWN.out i hi; omega))
              have HM41 := hid hM
              have HXx41 := hid (HXx40.out.keep hF nOx.out)
              have HXy41 := hid (HXy40.out.keep hF nOy.out)
              have HBbe41 := hid (HBbe40.out.keep hF nObe.out)
              clear hF hM HG40 HM40 HXx40 HXy40 HBbe40 pbe
              have pbe := HBbe41.out.cell (i := 0) rfl
              go_wp2_with fail
              refine (wparked_mk b _ _ _ x 0 2 (A : Int) false _ HM41.out HXx41.out (rest_no _ _ 0 _ _ (by omega) rfl (by show (A : Int) + ((k + 1 : Nat) : Int) ≠ A; omega))).mono ?_
              rintro e w42 ⟨rfl, hF⟩
              have HG42 := hid (HG41.out.trans hF)
              have HM42 := hid (HM41.out.same hF)
              have HXx42 := hid (HXx41.out.same hF)
              have HXy42 := hid (HXy41.out.same hF)
              have HBbe42 := hid (HBbe41.out.same hF)
              clear hF HG41 HM41 HXx41 HXy41 HBbe41 pbe
              have pbe := HBbe42.out.cell (i := 0) rfl
              go_wp2_with fail
              refine (wparked_mk b _ _ _ y 0 2 0 false _ HM42.out HXy42.out (rest_no _ _ 0 _ _ (by omega) rfl (by show (A : Int) + ((k + 1 : Nat) : Int) ≠ 0; omega))).mono ?_
              rintro e w43 ⟨rfl, hF⟩
              have HG43 := hid (HG42.out.trans hF)
              have HM43 := hid (HM42.out.same hF)
              have HXx43 := hid (HXx42.out.same hF)
              have HXy43 := hid (HXy42.out.same hF)
              have HBbe43 := hid (HBbe42.out.same hF)
              clear hF HG42 HM42 HXx42 HXy42 HBbe42 pbe
              have pbe := HBbe43.out.cell (i := 0) rfl
              go_wp2_with fail
              go_roundg (B + 1 - (k + 1))
              case rel => exact ⟨k + 1, _, by omega, rfl, by go_num, by rw [stp_len]; exact HSs5.out, HM43.out, HXx43.out, HXy43.out, HBbe43.out, HG43.out⟩
              case measure => omega
            · obtain rfl : B = k := by have := HK.out; omega
              clear HK hlt
              obtain ⟨v2, hv2⟩ : ∃ v, ((B : Int) == 0) = v := ⟨_, rfl⟩
              have HV2 := hid (show (((A : Int) + (B : Int)) == (A : Int)) = v2 from by rw [← hv2, Bool.eq_iff_iff]; simp; omega)
              obtain ⟨z, hz⟩ : ∃ z, (A : Int) + (B : Int) = z := ⟨_, rfl⟩
              rw [hz] at HM40 HV2
              clear hz
              go_wp2_with fail
              refine (wparked_mk b _ _ _ x 0 2 (A : Int) v2 _ HM40.out HXx40.out (by rw [told_one _ _ _ rfl, HV2.out]; rfl)).mono ?_
              rintro e w41 ⟨rfl, hF⟩
              have HG41 := hid (HG40.out.trans hF)
              have HM41 := hid (HM40.out.same hF)
              have HXx41 := hid (HXx40.out.same hF)
              have HXy41 := hid (HXy40.out.same hF)
              have HBbe41 := hid (HBbe40.out.same hF)
              clear hF HG40 HM40 HXx40 HXy40 HBbe40 pbe
              have pbe := HBbe41.out.cell (i := 0) rfl
              have tv : (v2 != v2) = false := by simp
              go_wp2_with fail
              clear hv2 tv
              refine (wready_mk b _ _ _ 1 0 1 z y 0 2 0 _ HM41.out HXy41.out nOy.out rfl rfl (by have := HSs5.out; omega) (by omega) rfl).mono ?_
              rintro e w42 ⟨rfl, hM, hX, hF⟩
              have HG42 := hid (HG41.out.since hF (fun i hi hlt => hi.elim (fun h => by have := HOWN.out i h; omega) (fun h => by have := HLy.out; have h2 : i = y := h; omega)))
              have HM42 := hid hM
              have HXx42 := hid (HXx41.out.keep hF (fun hh => hh.elim nOx.out nx_y.out))
              have HXy42 := hid hX
              have HBbe42 := hid (HBbe41.out.keep hF (fun hh => hh.elim nObe.out nbe_y.out))
              clear hF hM hX HG41 HM41 HXx41 HXy41 HBbe41 pbe
              have pbe := HBbe42.out.cell (i := 0) rfl
              go_wp2_with fail
              refine (wparked_mk b _ _ _ y 0 1 z false _ HM42.out HXy42.out (rest_up _ _ _ _ _ (by decide))).mono ?_
              rintro e w43 ⟨rfl, hF⟩
              have HG43 := hid (HG42.out.trans hF)
              have HM43 := hid (HM42.out.same hF)
              have HXx43 := hid (HXx42.out.same hF)
              have HXy43 := hid (HXy42.out.same hF)
              have HBbe43 := hid (HBbe42.out.same hF)
              clear hF HG42 HM42 HXx42 HXy42 HBbe42 pbe
              have pbe := HBbe43.out.cell (i := 0) rfl
              go_wp2_with fail
              refine (wpark_ok y 0 z _ HXy43.out).mono ?_
              rintro e w44 ⟨rfl, hX, hF⟩
              have HG44 := hid (HG43.out.since hF (fun i hi hlt => by have := HLy.out; have h2 : i = y := hi; omega))
              have HM44 := hid (HM43.out.keep hF (fun k hk hh => nOy.out (hh ▸ hk)))
              have HXx44 := hid (HXx43.out.keep hF nx_y.out)
              have HXy44 := hid hX
              have HBbe44 := hid (HBbe43.out.keep hF nbe_y.out)
              clear hF hX HG43 HM43 HXx43 HXy43 HBbe43 pbe
              have pbe := HBbe44.out.cell (i := 0) rfl
              go_wp2_with fail
              refine (wparked_mk b _ _ _ y 0 2 z true _ HM44.out HXy44.out (rest_yes _ _ 0 _ (by omega) rfl)).mono ?_
              rintro e w45 ⟨rfl, hF⟩
              have HG45 := hid (HG44.out.trans hF)
              have HM45 := hid (HM44.out.same hF)
              have HXx45 := hid (HXx44.out.same hF)
              have HXy45 := hid (HXy44.out.same hF)
              have HBbe45 := hid (HBbe44.out.same hF)
              clear hF HG44 HM44 HXx44 HXy44 HBbe44 pbe
              have pbe := HBbe45.out.cell (i := 0) rfl
              go_wp2_with fail
              refine (wleave_ok y 0 2 z _ HXy45.out).mono ?_
              rintro e w46 ⟨rfl, hX, hF⟩
              have HG46 := hid (HG45.out.since hF (fun i hi hlt => by have := HLy.out; have h2 : i = y := hi; omega))
              have HM46 := hid (HM45.out.keep hF (fun k hk hh => nOy.out (hh ▸ hk)))
              have HXx46 := hid (HXx45.out.keep hF nx_y.out)
              have HXy46 := hid hX
              have HBbe46 := hid (HBbe45.out.keep hF nbe_y.out)
              clear hF hX HG45 HM45 HXx45 HXy45 HBbe45 pbe
              have pbe := HBbe46.out.cell (i := 0) rfl
              go_wp2_with fail
              refine (wparked_mk b _ _ _ y 0 0 z false _ HM46.out HXy46.out (rest_up _ _ _ _ _ (by decide))).mono ?_
              rintro e w47 ⟨rfl, hF⟩
              have HG47 := hid (HG46.out.trans hF)
              have HM47 := hid (HM46.out.same hF)
              have HXx47 := hid (HXx46.out.same hF)
              have HXy47 := hid (HXy46.out.same hF)
              have HBbe47 := hid (HBbe46.out.same hF)
              clear hF HG46 HM46 HXx46 HXy46 HBbe46 pbe
              have pbe := HBbe47.out.cell (i := 0) rfl
              go_wp2_with fail
              refine (wpark_no y 0 0 z _ HXy47.out (by decide)).mono ?_
              rintro e w' ⟨rfl, rfl⟩
              go_wp2_with fail
              refine (awake_ok _).mono ?_
              rintro e w9 ⟨rfl, hF9⟩
              go_wp2_with fail
              go_ret
              exact ⟨rfl, (HG47.out.trans hF9).below (Nat.le_refl _) (fun _ hh => hh.elim)⟩
end Go.Proofs.Ytlhpngoplmccjaa
