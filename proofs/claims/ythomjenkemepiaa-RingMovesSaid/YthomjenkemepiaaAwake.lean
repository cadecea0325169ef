/-
  The examples of the chapter.
-/
import Derived.Test.YthomjenkemepiaaStep
import Derived.Test.YthomjenkemepiaaNew
namespace Go.Proofs.Ythomjenkemepiaa
open Go.RowKit
set_option linter.unusedVariables false

theorem of_82 (w : World) : Calls Try.prog 16 #[.int .i64 82] w fun e w' => e = .returned (.tuple #[.agg #[.int .i64 5, .int .i64 2], .int .i64 0]) ∧ Fr (fun _ => False) w w' :=
  of_yes 82 w (by decide) (by decide) (by decide)
theorem of_9 (w : World) : Calls Try.prog 16 #[.int .i64 9] w fun e w' => e = .returned (.tuple #[.agg #[.int .i64 0, .int .i64 0], .int .i64 11]) ∧ Fr (fun _ => False) w w' :=
  of_no 9 w (by decide) (by decide) (by decide)
theorem right_52 : Rg.Right ⟨5, 2⟩ := by decide
theorem right_01 : Rg.Right ⟨0, 1⟩ := by decide
theorem right_22 : Rg.Right ⟨2, 2⟩ := by decide
theorem size_52 (w : World) : Calls Try.prog 10 #[.agg #[.int .i64 5, .int .i64 2]] w fun e w' => e = .returned (.int .i64 4) ∧ Fr (fun _ => False) w w' := size_yes 5 2 w right_52
theorem place_526 (w : World) : Calls Try.prog 12 #[.agg #[.int .i64 5, .int .i64 2], .int .i64 6] w fun e w' => e = .returned (.int .i64 7) ∧ Fr (fun _ => False) w w' := place_yes 5 2 6 w right_52
theorem place_52m (w : World) : Calls Try.prog 12 #[.agg #[.int .i64 5, .int .i64 2], .int .i64 (-1)] w fun e w' => e = .returned (.int .i64 8) ∧ Fr (fun _ => False) w w' := place_yes 5 2 (-1) w right_52
theorem word_52 (w : World) : Calls Try.prog 14 #[.agg #[.int .i64 5, .int .i64 2]] w fun e w' => e = .returned (.int .i64 82) ∧ Fr (fun _ => False) w w' := word_yes 5 2 w right_52

set_option maxRecDepth 100000 in
set_option maxHeartbeats 1000000 in
theorem awake_ok (w : World) : Calls Try.prog 18 #[] w fun e w' => e = .returned (.bool true) ∧ Fr (fun _ => False) w w' := by
  go_enter Try.func18, Try.ntmps18
  go_wp2_with fail
  refine (of_82 _).mono ?_
  rintro e w1 ⟨rfl, hF1⟩
  have HT1 := hid hF1
  clear hF1
  go_wp2_with fail
  refine (of_9 _).mono ?_
  rintro e w2 ⟨rfl, hF2⟩
  have HR2 := hid ((Blk.new w1 #[.int .i64 5, .int .i64 2] 24).keep hF2 id)
  have HT2 := hid (HT1.out.trans ((Fr.alloc _ _ _).trans hF2))
  clear hF2 HT1
  go_wp2_with fail
  refine (new_ok 8 1 _ (by omega) (by omega) (by omega) (by omega)).mono ?_
  rintro e w3 ⟨b, rfl, h3, hF3, hN⟩
  replace h3 : IsM w3 b ⟨[0, 0, 0, 0, 0, 0, 0, 0], 0, [0, 0]⟩ := h3
  have HM3 := hid h3
  have HR3 := hid ((HR2.out.alloc _).keep hF3 id)
  have HT3 := hid (HT2.out.trans ((Fr.alloc _ _ _).trans hF3))
  have HO := hid (show ∀ i, b.own i → w2.heap.size + 1 ≤ i from fun i hi => by have := hN i hi; simpa using this)
  have HRL := hid (show w1.heap.size < w2.heap.size from HR2.out.lt)
  clear hF3 h3 hN HR2
  have HOW := hid (show ∀ i, b.own i → i < w.heap.size → False from fun i hi hh => by have := HO.out i hi; have := HT2.out.size; omega)
  have HOR := hid (show ¬ b.own w1.heap.size from fun hh => by have := HO.out _ hh; have := HRL.out; omega)
  clear HT2
  go_wp2_with fail
  refine (rnew_ok b _ 0 0 1 _ HM3.out rfl (by simp) (by omega) (by omega) (by decide)).mono ?_
  rintro e w4 ⟨rfl, h4, hF4⟩
  replace h4 : IsM w4 b ⟨[0, 0, 0, 0, 0, 0, 0, 0], 2, [1, 0]⟩ := by simpa [Mach.step, Mach.give, Mach.put, wrap64, pow] using h4
  have HR4 := hid (HR3.out.keep hF4 HOR.out)
  have HT4 := hid (HT3.out.since hF4 HOW.out)
  have HM4 := hid (h4.same (Fr.alloc _ _ (.cells #[.int .i64 0, .int .i64 1] 24)))
  have HO4 := hid (show ¬ b.own w4.heap.size from fun hh => by have := h4.own_lt _ hh; omega)
  clear hF4 h4 HR3 HT3 HM3
  go_wp2_with fail
  refine (rnew_ok b _ 1 1 2 _ HM4.out rfl (by simp) (by omega) (by omega) (by decide)).mono ?_
  rintro e w5 ⟨rfl, h5, hF5⟩
  replace h5 : IsM w5 b ⟨[0, 0, 0, 0, 0, 0, 0, 0], 6, [1, 1]⟩ := by simpa [Mach.step, Mach.give, Mach.put, wrap64, pow] using h5
  have hR5 := (HR4.out.alloc (.cells #[.int .i64 0, .int .i64 1] 24)).keep hF5 HOR.out
  have hA5 := (Blk.new w4 #[.int .i64 0, .int .i64 1] 24).keep hF5 HO4.out
  have hT5 := (HT4.out.trans (Fr.alloc _ w4 (.cells #[.int .i64 0, .int .i64 1] 24))).since hF5 HOW.out
  obtain ⟨w5', hw5'⟩ : ∃ w5', w5' = w5.alloc (.cells #[.int .i64 2, .int .i64 2] 24) := ⟨_, rfl⟩
  have HM5 := hid (show IsM w5' b _ from hw5' ▸ h5.same (Fr.alloc _ _ _))
  have HR5 := hid (show Blk w5' w1.heap.size _ from hw5' ▸ hR5.alloc _)
  have HA5 := hid (show Blk w5' w4.heap.size _ from hw5' ▸ hA5.alloc _)
  have HB5 := hid (show Blk w5' w5.heap.size _ from hw5' ▸ Blk.new w5 #[.int .i64 2, .int .i64 2] 24)
  have HT5 := hid (show Fr (fun _ => False) w w5' from hw5' ▸ hT5.trans (Fr.alloc _ _ _))
  have HO5 := hid (show ¬ b.own w5.heap.size from fun hh => by have := h5.own_lt _ hh; omega)
  clear hF5 h5 hR5 hA5 hT5 HR4 HT4 HM4
  have r0 := HR5.out.cell (i := 0) rfl
  have r1 := HR5.out.cell (i := 1) rfl
  have a0 := HA5.out.cell (i := 0) rfl
  have a1 := HA5.out.cell (i := 1) rfl
  have b0 := HB5.out.cell (i := 0) rfl
  have b1 := HB5.out.cell (i := 1) rfl
  go_upto_region 6 with fail
  rw [← hw5']
  clear hw5'
  go_upto_region 8 with fail
  clear a0 a1 b0 b1
  go_wp2_with fail
  refine (size_52 _).mono ?_
  rintro e w6 ⟨rfl, hF⟩
  replace HM5 := hid (HM5.out.same hF)
  replace HR5 := hid (HR5.out.keep hF id)
  replace HA5 := hid (HA5.out.keep hF id)
  replace HB5 := hid (HB5.out.keep hF id)
  replace HT5 := hid (HT5.out.trans hF)
  clear hF r0 r1
  have r0 := HR5.out.cell (i := 0) rfl
  have r1 := HR5.out.cell (i := 1) rfl
  go_wp2_with fail
  refine (place_526 _).mono ?_
  rintro e w7 ⟨rfl, hF⟩
  replace HM5 := hid (HM5.out.same hF)
  replace HR5 := hid (HR5.out.keep hF id)
  replace HA5 := hid (HA5.out.keep hF id)
  replace HB5 := hid (HB5.out.keep hF id)
  replace HT5 := hid (HT5.out.trans hF)
  clear hF r0 r1
  have r0 := HR5.out.cell (i := 0) rfl
  have r1 := HR5.out.cell (i := 1) rfl
  go_wp2_with fail
  refine (place_52m _).mono ?_
  rintro e w8 ⟨rfl, hF⟩
  replace HM5 := hid (HM5.out.same hF)
  replace HR5 := hid (HR5.out.keep hF id)
  replace HA5 := hid (HA5.out.keep hF id)
  replace HB5 := hid (HB5.out.keep hF id)
  replace HT5 := hid (HT5.out.trans hF)
  clear hF r0 r1
  have r0 := HR5.out.cell (i := 0) rfl
  have r1 := HR5.out.cell (i := 1) rfl
  go_wp2_with fail
  refine (word_52 _).mono ?_
  rintro e w9 ⟨rfl, hF⟩
  replace HM5 := hid (HM5.out.same hF)
  replace HR5 := hid (HR5.out.keep hF id)
  replace HA5 := hid (HA5.out.keep hF id)
  replace HB5 := hid (HB5.out.keep hF id)
  replace HT5 := hid (HT5.out.trans hF)
  clear hF r0 r1
  have r0 := HR5.out.cell (i := 0) rfl
  have r1 := HR5.out.cell (i := 1) rfl
  go_wp2_with fail
  refine (store_ok b _ 0 1 7 _ HM5.out (by simp) (by simp)).mono ?_
  rintro e w10 ⟨rfl, h10, hF⟩
  replace h10 : IsM w10 b ⟨[0, 7, 0, 0, 0, 0, 0, 0], 6, [2, 1]⟩ := by simpa [Mach.step, Mach.give, Mach.put, wrap64, pow] using h10
  have hA := HA5.out.keep hF HO4.out
  have hB := HB5.out.keep hF HO5.out
  replace HT5 := hid (HT5.out.since hF HOW.out)
  have HM10 := hid h10
  clear hF h10 r0 r1 HR5 HA5 HB5 HM5
  have a0 := hA.cell (i := 0) rfl
  have a1 := hA.cell (i := 1) rfl
  have b0 := hB.cell (i := 0) rfl
  have b1 := hB.cell (i := 1) rfl
  go_wp2_with fail
  refine (copy_ok 0 1 2 2 1 2 _ right_01 right_22 (by unfold Fits; omega) (by unfold Fits; omega) (by decide)).mono ?_
  rintro e w11 ⟨c, rfl, hC, hF, hc⟩
  have HM11 := hid (HM10.out.same hF)
  have HC := hid hC
  have HOC := hid (show ¬ b.own c from fun hh => by have := HM10.out.own_lt _ hh; omega)
  have HWC := hid (show ∀ i, CM b c i → i < w.heap.size → False from fun i hi hh => by
    rcases hi with hi | rfl
    · exact HOW.out i hi hh
    · have := HT5.out.size; omega)
  replace HT5 := hid (HT5.out.trans hF)
  clear hF hC hc a0 a1 b0 b1 hA hB HM10
  go_wp2_with fail
  refine (step_load b _ c ⟨0, 1, 2, 2, 1, 2, 0, false⟩ 0 1 _ HM11.out HC.out ⟨right_01, right_22, by decide, by decide, by decide⟩ (by decide) rfl HOC.out (by simp) (by decide) (by simp)).mono ?_
  rintro e w12 ⟨rfl, hC, hM, hF⟩
  replace hM : IsM w12 b ⟨[0, 7, 0, 0, 0, 0, 0, 0], 6, [3, 1]⟩ := by simpa [Mach.step, Mach.give, Mach.put, wrap64, pow] using hM
  replace HT5 := hid (HT5.out.since hF HWC.out)
  have HM12 := hid hM
  have HC12 := hid (show IsC w12 c ⟨0, 1, 2, 2, 1, 2, 7, true⟩ from hC)
  clear hF hC hM HM11 HC
  go_wp2_with fail
  refine (step_store b _ c ⟨0, 1, 2, 2, 1, 2, 7, true⟩ 0 3 _ HM12.out HC12.out ⟨right_01, right_22, by decide, by decide, by decide⟩ (by decide) rfl HOC.out (by simp) (by decide) (by simp)).mono ?_
  rintro e w13 ⟨rfl, hC, hM, hF⟩
  replace hM : IsM w13 b ⟨[0, 7, 0, 7, 0, 0, 0, 0], 6, [4, 1]⟩ := by simpa [Mach.step, Mach.give, Mach.put, wrap64, pow] using hM
  replace HT5 := hid (HT5.out.since hF HWC.out)
  have HM13 := hid hM
  clear hF hC hM HM12 HC12
  go_wp2_with fail
  refine (peek_in b _ 3 _ HM13.out (by simp)).mono ?_
  rintro e w' ⟨rfl, rfl⟩
  go_wp2_with fail
  go_ret
  exact ⟨rfl, HT5.out⟩
end Go.Proofs.Ythomjenkemepiaa
