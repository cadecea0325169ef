/-
  RingWords answers true at any ring, any number.
-/
import Derived.Test.YthomjenkemepiaaAwake
import Derived.Deep.RegionHeld3
import Derived.Deep.DeepCutAuto
import Derived.Deep.LoopGhost
namespace Go.Proofs.Ythomjenkemepiaa
open Go.RowKit
set_option linter.unusedVariables false

set_option maxRecDepth 100000 in
set_option maxHeartbeats 1000000 in
theorem words_in_yes (a l x : Int) (w : World) (h : Rg.Right ⟨a, l⟩) (hx0 : 0 ≤ x) (hx1 : x ≤ 9223372036854775807) (hq : Rg.Right (rgOf x)) :
    Calls Try.prog 4 #[.agg #[.int .i64 a, .int .i64 l], .int .i64 x] w fun e w' => e = .returned (.bool true) ∧ Below w.heap.size w w' := by
  have O1 := hid (fun v => of_yes x v hx0 hx1 hq)
  obtain ⟨p, hp⟩ : ∃ p, x / 16 = p := ⟨_, rfl⟩
  obtain ⟨q, hq2⟩ : ∃ q, x % 16 = q := ⟨_, rfl⟩
  rw [hp, hq2] at O1
  have hR : Rg.Right ⟨p, q⟩ := by rw [← hp, ← hq2]; exact hq
  have D1 := hid (fun v => word_yes p q v hR)
  have Z1 := hid (fun v => size_yes p q v hR)
  have z1 := pow_pos q
  obtain ⟨z, hz⟩ : ∃ z, pow q = z := ⟨_, rfl⟩
  rw [hz] at Z1 z1
  rw [show p * 16 + q = x by omega] at D1
  have t1 : decide (z < 1) = false := by simp; omega
  clear hp hq2 hR hq hz z1
  have hl0 := h.1
  have hl8 := h.2.1
  have ha0 := h.2.2.1
  have ha1 := h.2.2.2
  have hpp := pow_pos l
  simp only at hl0 hl8 ha0 ha1
  have D2 := hid (fun v => word_yes a l v h)
  have Z2 := hid (fun v => size_yes a l v h)
  have O2 := hid (fun v => of_yes (a * 16 + l) v (by omega) (by omega) (by unfold rgOf; rw [show (a * 16 + l) / 16 = a by omega, show (a * 16 + l) % 16 = l by omega]; exact h))
  rw [show (a * 16 + l) / 16 = a by omega, show (a * 16 + l) % 16 = l by omega] at O2
  obtain ⟨zz, hzz⟩ : ∃ z, pow l = z := ⟨_, rfl⟩
  rw [hzz] at Z2 hpp
  have t5 : (zz == 0) = false := by simp; omega
  obtain ⟨dd, hdd⟩ : ∃ z, a * 16 + l = z := ⟨_, rfl⟩
  rw [hdd] at D2 O2
  clear hl0 hl8 ha0 ha1 hpp hzz hdd h
  have HB0 := hid (Blk.new w #[.int .i64 a, .int .i64 l] 23)
  have HT := hid (Fr.alloc (fun _ => False) w (.cells #[.int .i64 a, .int .i64 l] 23))
  go_enter Try.func4, Try.ntmps4
  go_wp2_with fail
  refine (O1.out _).mono ?_
  rintro e w1 ⟨rfl, hF⟩
  have HB0 := hid (HB0.out.keep hF id)
  have HT := hid (HT.out.trans hF)
  clear hF
  have hB0 := HB0.out.alloc (.cells #[.int .i64 p, .int .i64 q] 24)
  have hG := Blk.new w1 #[.int .i64 p, .int .i64 q] 24
  have HT := hid (HT.out.trans (Fr.alloc _ w1 (.cells #[.int .i64 p, .int .i64 q] 24)))
  have HBB := hid hB0
  have HG := hid hG
  clear hB0 hG
  go_wp2_with fail
  refine (D1.out _).mono ?_
  rintro e w2 ⟨rfl, hF⟩
  have HT := hid (HT.out.trans hF)
  have HBB := hid (HBB.out.keep hF id)
  have hG := HG.out.keep hF id
  clear hF
  have g0 := hG.cell (i := 0) rfl
  have g1 := hG.cell (i := 1) rfl
  go_wp2_with fail
  refine (Z1.out _).mono ?_
  rintro e w3 ⟨rfl, hF⟩
  have HT := hid (HT.out.trans hF)
  have hB0 := HBB.out.keep hF id
  clear hF
  clear hG g0 g1
  have s0 := hB0.cell (i := 0) rfl
  have s1 := hB0.cell (i := 1) rfl
  go_wp2_with fail
  refine (D2.out _).mono ?_
  rintro e w4 ⟨rfl, hF⟩
  have HT := hid (HT.out.trans ((Fr.alloc _ _ _).trans hF))
  have HK := hid (((Blk.new w3 #[.int .i64 a, .int .i64 l] 24).at (n := w3.heap.size) (by simp)).keep hF id)
  clear hF
  go_wp2_with fail
  refine (O2.out _).mono ?_
  rintro e w5 ⟨rfl, hF⟩
  have HT := hid (HT.out.trans hF)
  have HK := hid (HK.out.keep hF id)
  clear hF
  have hK := HK.out.alloc (.cells #[.int .i64 a, .int .i64 l] 24)
  have m0 := hK.cell (i := 0) rfl
  have m1 := hK.cell (i := 1) rfl
  go_wp2_with fail
  refine (Z2.out _).mono ?_
  rintro e w6 ⟨rfl, hF⟩
  have HT := hid (HT.out.trans ((Fr.alloc _ _ _).trans hF))
  have hK6 := (HK.out.alloc (.cells #[.int .i64 a, .int .i64 l] 24)).keep hF id
  have hN6 := (Blk.new w5 #[.int .i64 a, .int .i64 l] 24).keep hF id
  clear hF m0 m1 hK
  have m0 := hK6.cell (i := 0) rfl
  have m1 := hK6.cell (i := 1) rfl
  have n0 := hN6.cell (i := 0) rfl
  have n1 := hN6.cell (i := 1) rfl
  go_wp2_with fail
  refine (awake_ok _).mono ?_
  rintro e w7 ⟨rfl, hF⟩
  go_wp2_with fail
  go_ret
  exact ⟨rfl, (HT.out.trans hF).below (Nat.le_refl _) (fun _ hh => hh.elim)⟩

set_option maxRecDepth 100000 in
set_option maxHeartbeats 1000000 in
theorem words_in_no (a l x : Int) (w : World) (h : Rg.Right ⟨a, l⟩) (hx0 : 0 ≤ x) (hx1 : x ≤ 9223372036854775807) (hq : ¬ Rg.Right (rgOf x)) :
    Calls Try.prog 4 #[.agg #[.int .i64 a, .int .i64 l], .int .i64 x] w fun e w' => e = .returned (.bool true) ∧ Below w.heap.size w w' := by
  have O1 := hid (fun v => of_no x v hx0 hx1 hq)
  obtain ⟨p, hp⟩ : ∃ p, x / 16 = p := ⟨_, rfl⟩
  obtain ⟨q, hq2⟩ : ∃ q, x % 16 = q := ⟨_, rfl⟩
  have hR : ¬ Rg.Right ⟨p, q⟩ := by rw [← hp, ← hq2]; exact hq
  have D1 := hid (fun v => word_no p q v hR)
  have Z1 := hid (fun v => size_no p q v hR)
  have e1 : x.tdiv 16 = p := by rw [Int.tdiv_eq_ediv_of_nonneg hx0, hp]
  have e2 : x.tmod 16 = q := by rw [Int.tmod_eq_emod_of_nonneg hx0, hq2]
  have q1 : 0 ≤ p := by omega
  have q2 : p ≤ 9223372036854775807 := by omega
  clear hp hq2 hR hq
  have hl0 := h.1
  have hl8 := h.2.1
  have ha0 := h.2.2.1
  have ha1 := h.2.2.2
  have hpp := pow_pos l
  simp only at hl0 hl8 ha0 ha1
  have D2 := hid (fun v => word_yes a l v h)
  have Z2 := hid (fun v => size_yes a l v h)
  have O2 := hid (fun v => of_yes (a * 16 + l) v (by omega) (by omega) (by unfold rgOf; rw [show (a * 16 + l) / 16 = a by omega, show (a * 16 + l) % 16 = l by omega]; exact h))
  rw [show (a * 16 + l) / 16 = a by omega, show (a * 16 + l) % 16 = l by omega] at O2
  obtain ⟨zz, hzz⟩ : ∃ z, pow l = z := ⟨_, rfl⟩
  rw [hzz] at Z2 hpp
  have t5 : (zz == 0) = false := by simp; omega
  obtain ⟨dd, hdd⟩ : ∃ z, a * 16 + l = z := ⟨_, rfl⟩
  rw [hdd] at D2 O2
  clear hl0 hl8 ha0 ha1 hpp hzz hdd h
  have HB0 := hid (Blk.new w #[.int .i64 a, .int .i64 l] 23)
  have HT := hid (Fr.alloc (fun _ => False) w (.cells #[.int .i64 a, .int .i64 l] 23))
  go_enter Try.func4, Try.ntmps4
  go_wp2_with fail
  refine (O1.out _).mono ?_
  rintro e w1 ⟨rfl, hF⟩
  have HB0 := hid (HB0.out.keep hF id)
  have HT := hid (HT.out.trans hF)
  clear hF
  have hB0 := HB0.out.alloc (.cells #[.int .i64 0, .int .i64 0] 24)
  have hG := Blk.new w1 #[.int .i64 0, .int .i64 0] 24
  have HT := hid (HT.out.trans (Fr.alloc _ w1 (.cells #[.int .i64 0, .int .i64 0] 24)))
  have HBB := hid hB0
  have HG := hid hG
  clear hB0 hG
  go_wp2_with fail
  refine (Z1.out _).mono ?_
  rintro e w2 ⟨rfl, hF⟩
  have HT := hid (HT.out.trans ((Fr.alloc _ _ _).trans hF))
  have HBB := hid ((HBB.out.alloc (.cells #[.int .i64 p, .int .i64 q] 24)).keep hF id)
  have HG := hid ((HG.out.alloc (.cells #[.int .i64 p, .int .i64 q] 24)).keep hF id)
  have hK := ((Blk.new (w1.alloc (.cells #[.int .i64 0, .int .i64 0] 24)) #[.int .i64 p, .int .i64 q] 24).at (n := w1.heap.size + 1) (by simp)).keep hF id
  clear hF
  have k0 := hK.cell (i := 0) rfl
  have k1 := hK.cell (i := 1) rfl
  go_wp2_with fail
  refine (D1.out _).mono ?_
  rintro e w3 ⟨rfl, hF⟩
  have HT := hid (HT.out.trans hF)
  have hB0 := HBB.out.keep hF id
  have hG := HG.out.keep hF id
  clear hF hK k0 k1
  have s0 := hB0.cell (i := 0) rfl
  have s1 := hB0.cell (i := 1) rfl
  have g0 := hG.cell (i := 0) rfl
  have g1 := hG.cell (i := 1) rfl
  go_wp2_with fail
  refine (D2.out _).mono ?_
  rintro e w4 ⟨rfl, hF⟩
  have HT := hid (HT.out.trans ((Fr.alloc _ _ _).trans hF))
  have HK := hid (((Blk.new w3 #[.int .i64 a, .int .i64 l] 24).at (n := w3.heap.size) (by simp)).keep hF id)
  clear hF
  go_wp2_with fail
  refine (O2.out _).mono ?_
  rintro e w5 ⟨rfl, hF⟩
  have HT := hid (HT.out.trans hF)
  have HK := hid (HK.out.keep hF id)
  clear hF
  have hK := HK.out.alloc (.cells #[.int .i64 a, .int .i64 l] 24)
  have m0 := hK.cell (i := 0) rfl
  have m1 := hK.cell (i := 1) rfl
  go_wp2_with fail
  refine (Z2.out _).mono ?_
  rintro e w6 ⟨rfl, hF⟩
  have HT := hid (HT.out.trans ((Fr.alloc _ _ _).trans hF))
  have hK6 := (HK.out.alloc (.cells #[.int .i64 a, .int .i64 l] 24)).keep hF id
  have hN6 := (Blk.new w5 #[.int .i64 a, .int .i64 l] 24).keep hF id
  clear hF m0 m1 hK
  have m0 := hK6.cell (i := 0) rfl
  have m1 := hK6.cell (i := 1) rfl
  have n0 := hN6.cell (i := 0) rfl
  have n1 := hN6.cell (i := 1) rfl
  go_wp2_with fail
  refine (awake_ok _).mono ?_
  rintro e w7 ⟨rfl, hF⟩
  go_wp2_with fail
  go_ret
  exact ⟨rfl, (HT.out.trans hF).below (Nat.le_refl _) (fun _ hh => hh.elim)⟩

set_option maxRecDepth 100000 in
set_option maxHeartbeats 1000000 in
theorem words_in_neg (a l x : Int) (w : World) (h : Rg.Right ⟨a, l⟩) (hx0 : x < 0) :
    Calls Try.prog 4 #[.agg #[.int .i64 a, .int .i64 l], .int .i64 x] w fun e w' => e = .returned (.bool true) ∧ Below w.heap.size w w' := by
  have O1 := hid (fun v => of_neg x v hx0)
  have t1 : decide (0 ≤ x) = false := by simp; omega
  have hl0 := h.1
  have hl8 := h.2.1
  have ha0 := h.2.2.1
  have ha1 := h.2.2.2
  have hpp := pow_pos l
  simp only at hl0 hl8 ha0 ha1
  have D2 := hid (fun v => word_yes a l v h)
  have Z2 := hid (fun v => size_yes a l v h)
  have O2 := hid (fun v => of_yes (a * 16 + l) v (by omega) (by omega) (by unfold rgOf; rw [show (a * 16 + l) / 16 = a by omega, show (a * 16 + l) % 16 = l by omega]; exact h))
  rw [show (a * 16 + l) / 16 = a by omega, show (a * 16 + l) % 16 = l by omega] at O2
  obtain ⟨zz, hzz⟩ : ∃ z, pow l = z := ⟨_, rfl⟩
  rw [hzz] at Z2 hpp
  have t5 : (zz == 0) = false := by simp; omega
  obtain ⟨dd, hdd⟩ : ∃ z, a * 16 + l = z := ⟨_, rfl⟩
  rw [hdd] at D2 O2
  clear hl0 hl8 ha0 ha1 hpp hzz hdd h
  have HB0 := hid (Blk.new w #[.int .i64 a, .int .i64 l] 23)
  have HT := hid (Fr.alloc (fun _ => False) w (.cells #[.int .i64 a, .int .i64 l] 23))
  go_enter Try.func4, Try.ntmps4
  go_wp2_with fail
  refine (O1.out _).mono ?_
  rintro e w1 ⟨rfl, hF⟩
  have HB0 := hid (HB0.out.keep hF id)
  have HT := hid (HT.out.trans hF)
  clear hF
  have hB0 := HB0.out.alloc (.cells #[.int .i64 0, .int .i64 0] 24)
  have hG := Blk.new w1 #[.int .i64 0, .int .i64 0] 24
  have HT := hid (HT.out.trans (Fr.alloc _ w1 (.cells #[.int .i64 0, .int .i64 0] 24)))
  have s0 := hB0.cell (i := 0) rfl
  have s1 := hB0.cell (i := 1) rfl
  go_wp2_with fail
  refine (D2.out _).mono ?_
  rintro e w4 ⟨rfl, hF⟩
  have HT := hid (HT.out.trans ((Fr.alloc _ _ _).trans hF))
  have HK := hid (((Blk.new (w1.alloc (.cells #[.int .i64 0, .int .i64 0] 24)) #[.int .i64 a, .int .i64 l] 24).at (n := w1.heap.size + 1) (by simp)).keep hF id)
  clear hF
  go_wp2_with fail
  refine (O2.out _).mono ?_
  rintro e w5 ⟨rfl, hF⟩
  have HT := hid (HT.out.trans hF)
  have HK := hid (HK.out.keep hF id)
  clear hF
  have hK := HK.out.alloc (.cells #[.int .i64 a, .int .i64 l] 24)
  have m0 := hK.cell (i := 0) rfl
  have m1 := hK.cell (i := 1) rfl
  go_wp2_with fail
  refine (Z2.out _).mono ?_
  rintro e w6 ⟨rfl, hF⟩
  have HT := hid (HT.out.trans ((Fr.alloc _ _ _).trans hF))
  have hK6 := (HK.out.alloc (.cells #[.int .i64 a, .int .i64 l] 24)).keep hF id
  have hN6 := (Blk.new w5 #[.int .i64 a, .int .i64 l] 24).keep hF id
  clear hF m0 m1 hK
  have m0 := hK6.cell (i := 0) rfl
  have m1 := hK6.cell (i := 1) rfl
  have n0 := hN6.cell (i := 0) rfl
  have n1 := hN6.cell (i := 1) rfl
  go_wp2_with fail
  refine (awake_ok _).mono ?_
  rintro e w7 ⟨rfl, hF⟩
  go_wp2_with fail
  go_ret
  exact ⟨rfl, (HT.out.trans hF).below (Nat.le_refl _) (fun _ hh => hh.elim)⟩

set_option maxRecDepth 100000 in
set_option maxHeartbeats 1000000 in
theorem words_out_yes (a l x : Int) (w : World) (h : ¬ Rg.Right ⟨a, l⟩) (hx0 : 0 ≤ x) (hx1 : x ≤ 9223372036854775807) (hq : Rg.Right (rgOf x)) :
    Calls Try.prog 4 #[.agg #[.int .i64 a, .int .i64 l], .int .i64 x] w fun e w' => e = .returned (.bool true) ∧ Below w.heap.size w w' := by
  have O1 := hid (fun v => of_yes x v hx0 hx1 hq)
  obtain ⟨p, hp⟩ : ∃ p, x / 16 = p := ⟨_, rfl⟩
  obtain ⟨q, hq2⟩ : ∃ q, x % 16 = q := ⟨_, rfl⟩
  rw [hp, hq2] at O1
  have hR : Rg.Right ⟨p, q⟩ := by rw [← hp, ← hq2]; exact hq
  have D1 := hid (fun v => word_yes p q v hR)
  have Z1 := hid (fun v => size_yes p q v hR)
  have z1 := pow_pos q
  obtain ⟨z, hz⟩ : ∃ z, pow q = z := ⟨_, rfl⟩
  rw [hz] at Z1 z1
  rw [show p * 16 + q = x by omega] at D1
  have t1 : decide (z < 1) = false := by simp; omega
  clear hp hq2 hR hq hz z1
  have D2 := hid (fun v => word_no a l v h)
  have Z2 := hid (fun v => size_no a l v h)
  have O2 := hid (fun v => of_neg (-1) v (by omega))
  clear h
  have HB0 := hid (Blk.new w #[.int .i64 a, .int .i64 l] 23)
  have HT := hid (Fr.alloc (fun _ => False) w (.cells #[.int .i64 a, .int .i64 l] 23))
  go_enter Try.func4, Try.ntmps4
  go_wp2_with fail
  refine (O1.out _).mono ?_
  rintro e w1 ⟨rfl, hF⟩
  have HB0 := hid (HB0.out.keep hF id)
  have HT := hid (HT.out.trans hF)
  clear hF
  have hB0 := HB0.out.alloc (.cells #[.int .i64 p, .int .i64 q] 24)
  have hG := Blk.new w1 #[.int .i64 p, .int .i64 q] 24
  have HT := hid (HT.out.trans (Fr.alloc _ w1 (.cells #[.int .i64 p, .int .i64 q] 24)))
  have HBB := hid hB0
  have HG := hid hG
  clear hB0 hG
  go_wp2_with fail
  refine (D1.out _).mono ?_
  rintro e w2 ⟨rfl, hF⟩
  have HT := hid (HT.out.trans hF)
  have HBB := hid (HBB.out.keep hF id)
  have hG := HG.out.keep hF id
  clear hF
  have g0 := hG.cell (i := 0) rfl
  have g1 := hG.cell (i := 1) rfl
  go_wp2_with fail
  refine (Z1.out _).mono ?_
  rintro e w3 ⟨rfl, hF⟩
  have HT := hid (HT.out.trans hF)
  have hB0 := HBB.out.keep hF id
  clear hF
  clear hG g0 g1
  have s0 := hB0.cell (i := 0) rfl
  have s1 := hB0.cell (i := 1) rfl
  go_wp2_with fail
  refine (D2.out _).mono ?_
  rintro e w4 ⟨rfl, hF⟩
  have HT := hid (HT.out.trans ((Fr.alloc _ _ _).trans hF))
  have HK := hid (((Blk.new w3 #[.int .i64 a, .int .i64 l] 24).at (n := w3.heap.size) (by simp)).keep hF id)
  clear hF
  go_wp2_with fail
  refine (O2.out _).mono ?_
  rintro e w5 ⟨rfl, hF⟩
  have HT := hid (HT.out.trans hF)
  have HK := hid (HK.out.keep hF id)
  clear hF
  have hK := HK.out.alloc (.cells #[.int .i64 0, .int .i64 0] 24)
  have m0 := hK.cell (i := 0) rfl
  have m1 := hK.cell (i := 1) rfl
  go_wp2_with fail
  refine (Z2.out _).mono ?_
  rintro e w6 ⟨rfl, hF⟩
  have HT := hid (HT.out.trans ((Fr.alloc _ _ _).trans hF))
  have hK6 := (HK.out.alloc (.cells #[.int .i64 0, .int .i64 0] 24)).keep hF id
  have hN6 := (Blk.new w5 #[.int .i64 0, .int .i64 0] 24).keep hF id
  clear hF m0 m1 hK
  go_wp2_with fail
  refine (awake_ok _).mono ?_
  rintro e w7 ⟨rfl, hF⟩
  go_wp2_with fail
  go_ret
  exact ⟨rfl, (HT.out.trans hF).below (Nat.le_refl _) (fun _ hh => hh.elim)⟩

set_option maxRecDepth 100000 in
set_option maxHeartbeats 1000000 in
theorem words_out_no (a l x : Int) (w : World) (h : ¬ Rg.Right ⟨a, l⟩) (hx0 : 0 ≤ x) (hx1 : x ≤ 9223372036854775807) (hq : ¬ Rg.Right (rgOf x)) :
    Calls Try.prog 4 #[.agg #[.int .i64 a, .int .i64 l], .int .i64 x] w fun e w' => e = .returned (.bool true) ∧ Below w.heap.size w w' := by
  have O1 := hid (fun v => of_no x v hx0 hx1 hq)
  obtain ⟨p, hp⟩ : ∃ p, x / 16 = p := ⟨_, rfl⟩
  obtain ⟨q, hq2⟩ : ∃ q, x % 16 = q := ⟨_, rfl⟩
  have hR : ¬ Rg.Right ⟨p, q⟩ := by rw [← hp, ← hq2]; exact hq
  have D1 := hid (fun v => word_no p q v hR)
  have Z1 := hid (fun v => size_no p q v hR)
  have e1 : x.tdiv 16 = p := by rw [Int.tdiv_eq_ediv_of_nonneg hx0, hp]
  have e2 : x.tmod 16 = q := by rw [Int.tmod_eq_emod_of_nonneg hx0, hq2]
  have q1 : 0 ≤ p := by omega
  have q2 : p ≤ 9223372036854775807 := by omega
  clear hp hq2 hR hq
  have D2 := hid (fun v => word_no a l v h)
  have Z2 := hid (fun v => size_no a l v h)
  have O2 := hid (fun v => of_neg (-1) v (by omega))
  clear h
  have HB0 := hid (Blk.new w #[.int .i64 a, .int .i64 l] 23)
  have HT := hid (Fr.alloc (fun _ => False) w (.cells #[.int .i64 a, .int .i64 l] 23))
  go_enter Try.func4, Try.ntmps4
  go_wp2_with fail
  refine (O1.out _).mono ?_
  rintro e w1 ⟨rfl, hF⟩
  have HB0 := hid (HB0.out.keep hF id)
  have HT := hid (HT.out.trans hF)
  clear hF
  have hB0 := HB0.out.alloc (.cells #[.int .i64 0, .int .i64 0] 24)
  have hG := Blk.new w1 #[.int .i64 0, .int .i64 0] 24
  have HT := hid (HT.out.trans (Fr.alloc _ w1 (.cells #[.int .i64 0, .int .i64 0] 24)))
  have HBB := hid hB0
  have HG := hid hG
  clear hB0 hG
  go_wp2_with fail
  refine (Z1.out _).mono ?_
  rintro e w2 ⟨rfl, hF⟩
  have HT := hid (HT.out.trans ((Fr.alloc _ _ _).trans hF))
  have HBB := hid ((HBB.out.alloc (.cells #[.int .i64 p, .int .i64 q] 24)).keep hF id)
  have HG := hid ((HG.out.alloc (.cells #[.int .i64 p, .int .i64 q] 24)).keep hF id)
  have hK := ((Blk.new (w1.alloc (.cells #[.int .i64 0, .int .i64 0] 24)) #[.int .i64 p, .int .i64 q] 24).at (n := w1.heap.size + 1) (by simp)).keep hF id
  clear hF
  have k0 := hK.cell (i := 0) rfl
  have k1 := hK.cell (i := 1) rfl
  go_wp2_with fail
  refine (D1.out _).mono ?_
  rintro e w3 ⟨rfl, hF⟩
  have HT := hid (HT.out.trans hF)
  have hB0 := HBB.out.keep hF id
  have hG := HG.out.keep hF id
  clear hF hK k0 k1
  have s0 := hB0.cell (i := 0) rfl
  have s1 := hB0.cell (i := 1) rfl
  have g0 := hG.cell (i := 0) rfl
  have g1 := hG.cell (i := 1) rfl
  go_wp2_with fail
  refine (D2.out _).mono ?_
  rintro e w4 ⟨rfl, hF⟩
  have HT := hid (HT.out.trans ((Fr.alloc _ _ _).trans hF))
  have HK := hid (((Blk.new w3 #[.int .i64 a, .int .i64 l] 24).at (n := w3.heap.size) (by simp)).keep hF id)
  clear hF
  go_wp2_with fail
  refine (O2.out _).mono ?_
  rintro e w5 ⟨rfl, hF⟩
  have HT := hid (HT.out.trans hF)
  have HK := hid (HK.out.keep hF id)
  clear hF
  have hK := HK.out.alloc (.cells #[.int .i64 0, .int .i64 0] 24)
  have m0 := hK.cell (i := 0) rfl
  have m1 := hK.cell (i := 1) rfl
  go_wp2_with fail
  refine (Z2.out _).mono ?_
  rintro e w6 ⟨rfl, hF⟩
  have HT := hid (HT.out.trans ((Fr.alloc _ _ _).trans hF))
  have hK6 := (HK.out.alloc (.cells #[.int .i64 0, .int .i64 0] 24)).keep hF id
  have hN6 := (Blk.new w5 #[.int .i64 0, .int .i64 0] 24).keep hF id
  clear hF m0 m1 hK
  go_wp2_with fail
  refine (awake_ok _).mono ?_
  rintro e w7 ⟨rfl, hF⟩
  go_wp2_with fail
  go_ret
  exact ⟨rfl, (HT.out.trans hF).below (Nat.le_refl _) (fun _ hh => hh.elim)⟩

set_option maxRecDepth 100000 in
set_option maxHeartbeats 1000000 in
theorem words_out_neg (a l x : Int) (w : World) (h : ¬ Rg.Right ⟨a, l⟩) (hx0 : x < 0) :
    Calls Try.prog 4 #[.agg #[.int .i64 a, .int .i64 l], .int .i64 x] w fun e w' => e = .returned (.bool true) ∧ Below w.heap.size w w' := by
  have O1 := hid (fun v => of_neg x v hx0)
  have t1 : decide (0 ≤ x) = false := by simp; omega
  have D2 := hid (fun v => word_no a l v h)
  have Z2 := hid (fun v => size_no a l v h)
  have O2 := hid (fun v => of_neg (-1) v (by omega))
  clear h
  have HB0 := hid (Blk.new w #[.int .i64 a, .int .i64 l] 23)
  have HT := hid (Fr.alloc (fun _ => False) w (.cells #[.int .i64 a, .int .i64 l] 23))
  go_enter Try.func4, Try.ntmps4
  go_wp2_with fail
  refine (O1.out _).mono ?_
  rintro e w1 ⟨rfl, hF⟩
  have HB0 := hid (HB0.out.keep hF id)
  have HT := hid (HT.out.trans hF)
  clear hF
  have hB0 := HB0.out.alloc (.cells #[.int .i64 0, .int .i64 0] 24)
  have hG := Blk.new w1 #[.int .i64 0, .int .i64 0] 24
  have HT := hid (HT.out.trans (Fr.alloc _ w1 (.cells #[.int .i64 0, .int .i64 0] 24)))
  have s0 := hB0.cell (i := 0) rfl
  have s1 := hB0.cell (i := 1) rfl
  go_wp2_with fail
  refine (D2.out _).mono ?_
  rintro e w4 ⟨rfl, hF⟩
  have HT := hid (HT.out.trans ((Fr.alloc _ _ _).trans hF))
  have HK := hid (((Blk.new (w1.alloc (.cells #[.int .i64 0, .int .i64 0] 24)) #[.int .i64 a, .int .i64 l] 24).at (n := w1.heap.size + 1) (by simp)).keep hF id)
  clear hF
  go_wp2_with fail
  refine (O2.out _).mono ?_
  rintro e w5 ⟨rfl, hF⟩
  have HT := hid (HT.out.trans hF)
  have HK := hid (HK.out.keep hF id)
  clear hF
  have hK := HK.out.alloc (.cells #[.int .i64 0, .int .i64 0] 24)
  have m0 := hK.cell (i := 0) rfl
  have m1 := hK.cell (i := 1) rfl
  go_wp2_with fail
  refine (Z2.out _).mono ?_
  rintro e w6 ⟨rfl, hF⟩
  have HT := hid (HT.out.trans ((Fr.alloc _ _ _).trans hF))
  have hK6 := (HK.out.alloc (.cells #[.int .i64 0, .int .i64 0] 24)).keep hF id
  have hN6 := (Blk.new w5 #[.int .i64 0, .int .i64 0] 24).keep hF id
  clear hF m0 m1 hK
  go_wp2_with fail
  refine (awake_ok _).mono ?_
  rintro e w7 ⟨rfl, hF⟩
  go_wp2_with fail
  go_ret
  exact ⟨rfl, (HT.out.trans hF).below (Nat.le_refl _) (fun _ hh => hh.elim)⟩

theorem wordsLaw (a l x : Int) (w : World) (hx : Fits x) :
    Calls Try.prog 4 #[.agg #[.int .i64 a, .int .i64 l], .int .i64 x] w fun e w' => e = .returned (.bool true) ∧ Below w.heap.size w w' := by
  have hx1 := hx.2
  by_cases h : Rg.Right ⟨a, l⟩ <;> by_cases h0 : 0 ≤ x
  · by_cases hq : Rg.Right (rgOf x)
    · exact words_in_yes a l x w h h0 hx1 hq
    · exact words_in_no a l x w h h0 hx1 hq
  · exact words_in_neg a l x w h (by omega)
  · by_cases hq : Rg.Right (rgOf x)
    · exact words_out_yes a l x w h h0 hx1 hq
    · exact words_out_no a l x w h h0 hx1 hq
  · exact words_out_neg a l x w h (by omega)
end Go.Proofs.Ythomjenkemepiaa
