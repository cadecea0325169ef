/-
  RingMoves answers true at any sizes, any first place, any numbers.
-/
import Derived.Test.YthomjenkemepiaaAwake
import Derived.Test.YthomjenkemepiaaOpen
import Derived.Test.YthomjenkemepiaaMv
import Derived.Deep.RegionHeld3
import Derived.Deep.DeepCutAuto
import Derived.Deep.LoopGhost
namespace Go.Proofs.Ythomjenkemepiaa
open Go.RowKit
set_option linter.unusedVariables false

set_option maxRecDepth 100000 in
set_option maxHeartbeats 400000 in
theorem moves_a (a b fr : Int) (A : Option Addr) (len cap : Nat) (w : World) (h : a < 0) :
    Calls Try.prog 8 #[.agg #[.int .i64 a, .int .i64 b], .int .i64 fr, .slice A len cap] w fun e w' => e = .returned (.bool true) ∧ Below w.heap.size w w' := by
  go_enter Try.func8, Try.ntmps8
  go_wp2_with fail
  refine (awake_ok _).mono ?_
  rintro e w9 ⟨rfl, hF9⟩
  go_wp2_with fail
  go_ret
  exact ⟨rfl, ((Fr.alloc _ _ _).trans hF9).below (Nat.le_refl _) (fun _ hh => hh.elim)⟩

set_option maxRecDepth 100000 in
set_option maxHeartbeats 400000 in
theorem moves_b (a b fr : Int) (A : Option Addr) (len cap : Nat) (w : World) (h : 8 < a) :
    Calls Try.prog 8 #[.agg #[.int .i64 a, .int .i64 b], .int .i64 fr, .slice A len cap] w fun e w' => e = .returned (.bool true) ∧ Below w.heap.size w w' := by
  have t1 : decide (a < 0) = false := by simp; omega
  go_enter Try.func8, Try.ntmps8
  go_wp2_with fail
  refine (awake_ok _).mono ?_
  rintro e w9 ⟨rfl, hF9⟩
  go_wp2_with fail
  go_ret
  exact ⟨rfl, ((Fr.alloc _ _ _).trans hF9).below (Nat.le_refl _) (fun _ hh => hh.elim)⟩

set_option maxRecDepth 100000 in
set_option maxHeartbeats 400000 in
theorem moves_c (a b fr : Int) (A : Option Addr) (len cap : Nat) (w : World) (h0 : 0 ≤ a) (h1 : a ≤ 8) (h : b < 0) :
    Calls Try.prog 8 #[.agg #[.int .i64 a, .int .i64 b], .int .i64 fr, .slice A len cap] w fun e w' => e = .returned (.bool true) ∧ Below w.heap.size w w' := by
  have t1 : decide (a < 0) = false := by simp; omega
  have t2 : decide (8 < a) = false := by simp; omega
  go_enter Try.func8, Try.ntmps8
  go_wp2_with fail
  refine (awake_ok _).mono ?_
  rintro e w9 ⟨rfl, hF9⟩
  go_wp2_with fail
  go_ret
  exact ⟨rfl, ((Fr.alloc _ _ _).trans hF9).below (Nat.le_refl _) (fun _ hh => hh.elim)⟩

set_option maxRecDepth 100000 in
set_option maxHeartbeats 400000 in
theorem moves_d (a b fr : Int) (A : Option Addr) (len cap : Nat) (w : World) (h0 : 0 ≤ a) (h1 : a ≤ 8) (h : 8 < b) :
    Calls Try.prog 8 #[.agg #[.int .i64 a, .int .i64 b], .int .i64 fr, .slice A len cap] w fun e w' => e = .returned (.bool true) ∧ Below w.heap.size w w' := by
  have t1 : decide (a < 0) = false := by simp; omega
  have t2 : decide (8 < a) = false := by simp; omega
  have t3 : decide (b < 0) = false := by simp; omega
  go_enter Try.func8, Try.ntmps8
  go_wp2_with fail
  refine (awake_ok _).mono ?_
  rintro e w9 ⟨rfl, hF9⟩
  go_wp2_with fail
  go_ret
  exact ⟨rfl, ((Fr.alloc _ _ _).trans hF9).below (Nat.le_refl _) (fun _ hh => hh.elim)⟩

set_option maxRecDepth 100000 in
set_option maxHeartbeats 400000 in
theorem moves_e (a b fr : Int) (A : Option Addr) (len cap : Nat) (w : World) (h0 : 0 ≤ a) (h1 : a ≤ 8) (h2 : 0 ≤ b) (h3 : b ≤ 8) (h : 256 < len) :
    Calls Try.prog 8 #[.agg #[.int .i64 a, .int .i64 b], .int .i64 fr, .slice A len cap] w fun e w' => e = .returned (.bool true) ∧ Below w.heap.size w w' := by
  have t1 : decide (a < 0) = false := by simp; omega
  have t2 : decide (8 < a) = false := by simp; omega
  have t3 : decide (b < 0) = false := by simp; omega
  have t4 : decide (8 < b) = false := by simp; omega
  have t5 : (256 : Int) < len := by omega
  go_enter Try.func8, Try.ntmps8
  go_wp2_with fail
  refine (awake_ok _).mono ?_
  rintro e w9 ⟨rfl, hF9⟩
  go_wp2_with fail
  go_ret
  exact ⟨rfl, ((Fr.alloc _ _ _).trans hF9).below (Nat.le_refl _) (fun _ hh => hh.elim)⟩

set_option maxRecDepth 100000 in
set_option maxHeartbeats 400000 in
theorem moves_f (a b fr : Int) (A : Option Addr) (len cap : Nat) (w : World) (h0 : 0 ≤ a) (h1 : a ≤ 8) (h2 : 0 ≤ b) (h3 : b ≤ 8) (h4 : len ≤ 256) (h : 9223372036854775807 - (len : Int) < fr) :
    Calls Try.prog 8 #[.agg #[.int .i64 a, .int .i64 b], .int .i64 fr, .slice A len cap] w fun e w' => e = .returned (.bool true) ∧ Below w.heap.size w w' := by
  have t1 : decide (a < 0) = false := by simp; omega
  have t2 : decide (8 < a) = false := by simp; omega
  have t3 : decide (b < 0) = false := by simp; omega
  have t4 : decide (8 < b) = false := by simp; omega
  have t5 : decide ((256 : Int) < len) = false := by simp; omega
  go_enter Try.func8, Try.ntmps8
  go_wp2_with fail
  refine (awake_ok _).mono ?_
  rintro e w9 ⟨rfl, hF9⟩
  go_wp2_with fail
  go_ret
  exact ⟨rfl, ((Fr.alloc _ _ _).trans hF9).below (Nat.le_refl _) (fun _ hh => hh.elim)⟩

set_option maxRecDepth 100000 in
set_option maxHeartbeats 2000000 in
theorem moves_g (a b fr : Int) (A : Option Addr) (len cap : Nat) (w : World) (hfr : Fits fr) (h0 : 0 ≤ a) (h1 : a ≤ 8) (h2 : 0 ≤ b) (h3 : b ≤ 8) (h4 : len ≤ 256) (h5 : fr ≤ 9223372036854775807 - (len : Int)) (hlen : pow a < (len : Int)) :
    Calls Try.prog 8 #[.agg #[.int .i64 a, .int .i64 b], .int .i64 fr, .slice A len cap] w fun e w' => e = .returned (.bool true) ∧ Below w.heap.size w w' := by
  have t1 : decide (a < 0) = false := by simp; omega
  have t2 : decide (8 < a) = false := by simp; omega
  have t3 : decide (b < 0) = false := by simp; omega
  have t4 : decide (8 < b) = false := by simp; omega
  have t5 : decide ((256 : Int) < len) = false := by simp; omega
  have t6 : decide (9223372036854775807 - (len : Int) < fr) = false := by simp; omega
  have p1 := pow_pos a
  have p2 := pow_le a h1
  have q1 := pow_pos b
  have q2 := pow_le b h3
  obtain ⟨P, hP⟩ : ∃ P : Nat, pow a = P := Int.eq_ofNat_of_zero_le (by omega)
  obtain ⟨Q, hQ⟩ : ∃ Q : Nat, pow b = Q := Int.eq_ofNat_of_zero_le (by omega)
  rw [hP] at p1 p2
  rw [hQ] at q1 q2
  have HP := hid hP
  have HQ := hid hQ
  have hRA : Rg.Right ⟨0, a⟩ := ⟨h0, h1, by simp only; omega, by simp only; rw [hP]; omega⟩
  have hRB : Rg.Right ⟨(P : Int), b⟩ := ⟨h2, h3, by simp only; omega, by simp only; rw [hQ]; omega⟩
  have HRA := hid hRA
  have HRB := hid hRB
  have HZA := hid (fun v => size_yes 0 a v hRA)
  have HZB := hid (fun v => size_yes (P : Int) b v hRB)
  rw [hP] at HZA
  rw [hQ] at HZB
  have HH := hid (show 0 ≤ a ∧ a ≤ 8 ∧ 0 ≤ b ∧ b ≤ 8 from ⟨h0, h1, h2, h3⟩)
  have HB0 := hid (Blk.new w #[.int .i64 a, .int .i64 b] 71)
  have HT0 := hid (Fr.alloc (fun _ => False) w (.cells #[.int .i64 a, .int .i64 b] 71))
  clear h0 h1 h2 h3 hP hQ hRA hRB
  go_enter Try.func8, Try.ntmps8
  go_wp2_with fail
  refine (new_ok 520 1 _ (by omega) (by omega) (by omega) (by omega)).mono ?_
  rintro e w1 ⟨m, rfl, hM, hF, hN⟩
  have HM1 := hid (show IsM w1 m ⟨List.replicate 520 0, 0, [0, 0]⟩ from hM)
  have HO := hid (show ∀ i, m.own i → w.heap.size + 1 ≤ i from fun i hi => by have := hN i hi; simpa using this)
  have HT1 := hid (HT0.out.trans hF)
  have HB1 := hid (HB0.out.keep hF id)
  clear hM hF hN HB0 HT0
  have HOW := hid (show ∀ i, m.own i → i < w.heap.size → False from fun i hi hh => by have := HO.out i hi; omega)
  have HOB := hid (show ¬ m.own w.heap.size from fun hh => by have := HO.out _ hh; omega)
  have b0 := HB1.out.cell (i := 0) rfl
  have b1 := HB1.out.cell (i := 1) rfl
  go_wp2_with fail
  refine (rnew_ok m _ 0 0 a _ HM1.out rfl (by simp) HH.out.1 HH.out.2.1 (by rw [HP.out]; simp; omega)).mono ?_
  rintro e w2 ⟨rfl, hM, hF⟩
  have e1 : (Mach.give (Mach.step ⟨List.replicate 520 0, 0, [0, 0]⟩ 0) (pow a).toNat) = ⟨List.replicate 520 0, P, [1, 0]⟩ := by rw [HP.out]; simp [Mach.give, Mach.step, wrap64]
  rw [e1] at hM
  have HM2 := hid (hM.same (Fr.alloc _ w2 (.cells #[.int .i64 0, .int .i64 a] 24)))
  have HT2 := hid ((HT1.out.since hF HOW.out).trans (Fr.alloc _ w2 (.cells #[.int .i64 0, .int .i64 a] 24)))
  have HB2 := hid ((HB1.out.keep hF HOB.out).alloc (.cells #[.int .i64 0, .int .i64 a] 24))
  have HWA := hid (show w.heap.size < w2.heap.size from (HB1.out.keep hF HOB.out).lt)
  have HA2 := hid (Blk.new w2 #[.int .i64 0, .int .i64 a] 24)
  have HOA := hid (show ¬ m.own w2.heap.size from fun hh => Nat.lt_irrefl _ (hM.own_lt _ hh))
  clear hM hF HM1 HT1 HB1 b0 b1 e1
  have b0 := HB2.out.cell (i := 0) rfl
  have b1 := HB2.out.cell (i := 1) rfl
  go_wp2_with fail
  refine (rnew_ok m _ 0 0 b _ HM2.out rfl (by simp) HH.out.2.2.1 HH.out.2.2.2 (by rw [HQ.out]; simp; omega)).mono ?_
  rintro e w3 ⟨rfl, hM, hF⟩
  have e1 : (Mach.give (Mach.step ⟨List.replicate 520 0, P, [1, 0]⟩ 0) (pow b).toNat) = ⟨List.replicate 520 0, P + Q, [2, 0]⟩ := by rw [HQ.out]; simp [Mach.give, Mach.step, wrap64]
  rw [e1] at hM
  obtain ⟨w4, hw4⟩ : ∃ w4, w4 = w3.alloc (.cells #[.int .i64 (P : Int), .int .i64 b] 24) := ⟨_, rfl⟩
  have HM4 := hid (show IsM w4 m _ from hw4 ▸ hM.same (Fr.alloc _ w3 _))
  have HT4 := hid (show Fr (fun _ => False) w w4 from hw4 ▸ (HT2.out.since hF HOW.out).trans (Fr.alloc _ w3 _))
  have HA4 := hid (show Blk w4 w2.heap.size #[.int .i64 0, .int .i64 a] from hw4 ▸ (HA2.out.keep hF HOA.out).alloc _)
  have HB4 := hid (show Blk w4 w3.heap.size #[.int .i64 (P : Int), .int .i64 b] from hw4 ▸ Blk.new w3 _ _)
  have HOB4 := hid (show ¬ m.own w3.heap.size from fun hh => Nat.lt_irrefl _ (hM.own_lt _ hh))
  clear hM hF HM2 HT2 HB2 HA2 b0 b1 e1
  have a0 := HA4.out.cell (i := 0) rfl
  have a1 := HA4.out.cell (i := 1) rfl
  have b0 := HB4.out.cell (i := 0) rfl
  have b1 := HB4.out.cell (i := 1) rfl
  have k1 : -9223372036854775808 ≤ fr + len := by have := hfr.1; omega
  have k2 : fr + len ≤ 9223372036854775807 := by omega
  go_upto_region 8 with fail
  rw [← hw4]
  clear hw4
  have HFR := hid hfr
  have u1 : decide ((P : Int) < len) = true := by have h := hlen; rw [HP.out] at h; simp; omega

  have u1' : decide (P < len) = true := by have h := hlen; rw [HP.out] at h; simp; omega

  have HFA := hid (fun v => copy_far 0 a (P : Int) b fr (fr + len) v HRA.out HRB.out HFR.out ⟨k1, k2⟩ ⟨by omega, by rw [HP.out, HQ.out]; have h := hlen; rw [HP.out] at h; omega⟩)
  clear hlen hfr
  go_wp2_with fail
  refine (HFA.out _).mono ?_
  rintro e w5 ⟨rfl, hF⟩
  have HA5 := hid (HA4.out.keep hF id)
  have HB5 := hid (HB4.out.keep hF id)
  have HT5 := hid (HT4.out.trans hF)
  clear hF a0 a1 b0 b1
  have a0 := HA5.out.cell (i := 0) rfl
  have a1 := HA5.out.cell (i := 1) rfl
  go_wp2_with fail
  refine (HZA.out _).mono ?_
  rintro e w6 ⟨rfl, hF⟩
  have HT6 := hid (HT5.out.trans hF)
  clear hF
  go_wp2_with fail
  refine (awake_ok _).mono ?_
  rintro e w9 ⟨rfl, hF⟩
  go_wp2_with fail
  go_ret
  exact ⟨rfl, (HT6.out.trans hF).below (Nat.le_refl _) (fun _ hh => hh.elim)⟩

set_option maxRecDepth 100000 in
set_option maxHeartbeats 2000000 in
theorem moves_h (a b fr : Int) (A : Option Addr) (len cap : Nat) (w : World) (hfr : Fits fr) (h0 : 0 ≤ a) (h1 : a ≤ 8) (h2 : 0 ≤ b) (h3 : b ≤ 8) (h4 : len ≤ 256) (h5 : fr ≤ 9223372036854775807 - (len : Int)) (hlen : (len : Int) ≤ pow a ∧ pow b < (len : Int)) :
    Calls Try.prog 8 #[.agg #[.int .i64 a, .int .i64 b], .int .i64 fr, .slice A len cap] w fun e w' => e = .returned (.bool true) ∧ Below w.heap.size w w' := by
  have t1 : decide (a < 0) = false := by simp; omega
  have t2 : decide (8 < a) = false := by simp; omega
  have t3 : decide (b < 0) = false := by simp; omega
  have t4 : decide (8 < b) = false := by simp; omega
  have t5 : decide ((256 : Int) < len) = false := by simp; omega
  have t6 : decide (9223372036854775807 - (len : Int) < fr) = false := by simp; omega
  have p1 := pow_pos a
  have p2 := pow_le a h1
  have q1 := pow_pos b
  have q2 := pow_le b h3
  obtain ⟨P, hP⟩ : ∃ P : Nat, pow a = P := Int.eq_ofNat_of_zero_le (by omega)
  obtain ⟨Q, hQ⟩ : ∃ Q : Nat, pow b = Q := Int.eq_ofNat_of_zero_le (by omega)
  rw [hP] at p1 p2
  rw [hQ] at q1 q2
  have HP := hid hP
  have HQ := hid hQ
  have hRA : Rg.Right ⟨0, a⟩ := ⟨h0, h1, by simp only; omega, by simp only; rw [hP]; omega⟩
  have hRB : Rg.Right ⟨(P : Int), b⟩ := ⟨h2, h3, by simp only; omega, by simp only; rw [hQ]; omega⟩
  have HRA := hid hRA
  have HRB := hid hRB
  have HZA := hid (fun v => size_yes 0 a v hRA)
  have HZB := hid (fun v => size_yes (P : Int) b v hRB)
  rw [hP] at HZA
  rw [hQ] at HZB
  have HH := hid (show 0 ≤ a ∧ a ≤ 8 ∧ 0 ≤ b ∧ b ≤ 8 from ⟨h0, h1, h2, h3⟩)
  have HB0 := hid (Blk.new w #[.int .i64 a, .int .i64 b] 71)
  have HT0 := hid (Fr.alloc (fun _ => False) w (.cells #[.int .i64 a, .int .i64 b] 71))
  clear h0 h1 h2 h3 hP hQ hRA hRB
  go_enter Try.func8, Try.ntmps8
  go_wp2_with fail
  refine (new_ok 520 1 _ (by omega) (by omega) (by omega) (by omega)).mono ?_
  rintro e w1 ⟨m, rfl, hM, hF, hN⟩
  have HM1 := hid (show IsM w1 m ⟨List.replicate 520 0, 0, [0, 0]⟩ from hM)
  have HO := hid (show ∀ i, m.own i → w.heap.size + 1 ≤ i from fun i hi => by have := hN i hi; simpa using this)
  have HT1 := hid (HT0.out.trans hF)
  have HB1 := hid (HB0.out.keep hF id)
  clear hM hF hN HB0 HT0
  have HOW := hid (show ∀ i, m.own i → i < w.heap.size → False from fun i hi hh => by have := HO.out i hi; omega)
  have HOB := hid (show ¬ m.own w.heap.size from fun hh => by have := HO.out _ hh; omega)
  have b0 := HB1.out.cell (i := 0) rfl
  have b1 := HB1.out.cell (i := 1) rfl
  go_wp2_with fail
  refine (rnew_ok m _ 0 0 a _ HM1.out rfl (by simp) HH.out.1 HH.out.2.1 (by rw [HP.out]; simp; omega)).mono ?_
  rintro e w2 ⟨rfl, hM, hF⟩
  have e1 : (Mach.give (Mach.step ⟨List.replicate 520 0, 0, [0, 0]⟩ 0) (pow a).toNat) = ⟨List.replicate 520 0, P, [1, 0]⟩ := by rw [HP.out]; simp [Mach.give, Mach.step, wrap64]
  rw [e1] at hM
  have HM2 := hid (hM.same (Fr.alloc _ w2 (.cells #[.int .i64 0, .int .i64 a] 24)))
  have HT2 := hid ((HT1.out.since hF HOW.out).trans (Fr.alloc _ w2 (.cells #[.int .i64 0, .int .i64 a] 24)))
  have HB2 := hid ((HB1.out.keep hF HOB.out).alloc (.cells #[.int .i64 0, .int .i64 a] 24))
  have HWA := hid (show w.heap.size < w2.heap.size from (HB1.out.keep hF HOB.out).lt)
  have HA2 := hid (Blk.new w2 #[.int .i64 0, .int .i64 a] 24)
  have HOA := hid (show ¬ m.own w2.heap.size from fun hh => Nat.lt_irrefl _ (hM.own_lt _ hh))
  clear hM hF HM1 HT1 HB1 b0 b1 e1
  have b0 := HB2.out.cell (i := 0) rfl
  have b1 := HB2.out.cell (i := 1) rfl
  go_wp2_with fail
  refine (rnew_ok m _ 0 0 b _ HM2.out rfl (by simp) HH.out.2.2.1 HH.out.2.2.2 (by rw [HQ.out]; simp; omega)).mono ?_
  rintro e w3 ⟨rfl, hM, hF⟩
  have e1 : (Mach.give (Mach.step ⟨List.replicate 520 0, P, [1, 0]⟩ 0) (pow b).toNat) = ⟨List.replicate 520 0, P + Q, [2, 0]⟩ := by rw [HQ.out]; simp [Mach.give, Mach.step, wrap64]
  rw [e1] at hM
  obtain ⟨w4, hw4⟩ : ∃ w4, w4 = w3.alloc (.cells #[.int .i64 (P : Int), .int .i64 b] 24) := ⟨_, rfl⟩
  have HM4 := hid (show IsM w4 m _ from hw4 ▸ hM.same (Fr.alloc _ w3 _))
  have HT4 := hid (show Fr (fun _ => False) w w4 from hw4 ▸ (HT2.out.since hF HOW.out).trans (Fr.alloc _ w3 _))
  have HA4 := hid (show Blk w4 w2.heap.size #[.int .i64 0, .int .i64 a] from hw4 ▸ (HA2.out.keep hF HOA.out).alloc _)
  have HB4 := hid (show Blk w4 w3.heap.size #[.int .i64 (P : Int), .int .i64 b] from hw4 ▸ Blk.new w3 _ _)
  have HOB4 := hid (show ¬ m.own w3.heap.size from fun hh => Nat.lt_irrefl _ (hM.own_lt _ hh))
  clear hM hF HM2 HT2 HB2 HA2 b0 b1 e1
  have a0 := HA4.out.cell (i := 0) rfl
  have a1 := HA4.out.cell (i := 1) rfl
  have b0 := HB4.out.cell (i := 0) rfl
  have b1 := HB4.out.cell (i := 1) rfl
  have k1 : -9223372036854775808 ≤ fr + len := by have := hfr.1; omega
  have k2 : fr + len ≤ 9223372036854775807 := by omega
  go_upto_region 8 with fail
  rw [← hw4]
  clear hw4
  have HFR := hid hfr
  have u1 : decide ((P : Int) < len) = false := by have h := hlen; rw [HP.out, HQ.out] at h; simp; omega
  have u2 : decide ((Q : Int) < len) = true := by have h := hlen; rw [HP.out, HQ.out] at h; simp; omega
  have u1' : decide (P < len) = false := by have h := hlen; rw [HP.out, HQ.out] at h; simp; omega
  have u2p : decide (Q < len) = true := by have h := hlen; rw [HP.out, HQ.out] at h; simp; omega
  have HFA := hid (fun v => copy_far 0 a (P : Int) b fr (fr + len) v HRA.out HRB.out HFR.out ⟨k1, k2⟩ ⟨by omega, by rw [HP.out, HQ.out]; have h := hlen; rw [HP.out, HQ.out] at h; omega⟩)
  clear hlen hfr
  go_wp2_with fail
  refine (HFA.out _).mono ?_
  rintro e w5 ⟨rfl, hF⟩
  have HA5 := hid (HA4.out.keep hF id)
  have HB5 := hid (HB4.out.keep hF id)
  have HT5 := hid (HT4.out.trans hF)
  clear hF a0 a1 b0 b1
  have a0 := HA5.out.cell (i := 0) rfl
  have a1 := HA5.out.cell (i := 1) rfl
  go_wp2_with fail
  refine (HZA.out _).mono ?_
  rintro e w6 ⟨rfl, hF⟩
  have HT6 := hid (HT5.out.trans hF)
  have HB6 := hid (HB5.out.keep hF id)
  clear hF a0 a1
  have b0 := HB6.out.cell (i := 0) rfl
  have b1 := HB6.out.cell (i := 1) rfl
  go_wp2_with fail
  refine (HZB.out _).mono ?_
  rintro e w7 ⟨rfl, hF⟩
  have HT6 := hid (HT6.out.trans hF)
  clear hF
  go_wp2_with fail
  refine (awake_ok _).mono ?_
  rintro e w9 ⟨rfl, hF⟩
  go_wp2_with fail
  go_ret
  exact ⟨rfl, (HT6.out.trans hF).below (Nat.le_refl _) (fun _ hh => hh.elim)⟩

end Go.Proofs.Ythomjenkemepiaa
