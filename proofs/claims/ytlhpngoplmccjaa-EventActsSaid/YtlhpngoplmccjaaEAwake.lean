/-
  The chapter's example comes out true.
-/
import Derived.Test.YtlhpngoplmccjaaEvM
namespace Go.Proofs.Ytlhpngoplmccjaa
open Go.RowKit
set_option linter.unusedVariables false

set_option maxRecDepth 100000 in
set_option maxHeartbeats 1000000 in
theorem awake_ok (w0 : World) :
    Calls Try.prog 33 #[] w0 fun e w' => e = .returned (.bool true) ∧ Fr (fun _ => False) w0 w' := by
  have HG0 := hid (Fr.refl (fun _ => False) w0)
  go_enter Try.func33, Try.ntmps33
  go_wp2_with fail
  refine (new_mk 2 1 2 1 rfl rfl _ (by omega) (by omega) (by omega) (by omega)).mono ?_
  rintro e w1 ⟨b, rfl, hM, hF, hown⟩
  have HG1 := hid (HG0.out.trans hF)
  have HM1 := hid hM
  have HOWN := hid (show ∀ i, b.own i → w0.heap.size ≤ i from fun i hi => by have := hown i hi; have := HG0.out.size; omega)
  clear hF hM hown HG0
  go_wp2_with fail
  refine (enew_mk b _ _ _ 0 0 0 _ HM1.out rfl rfl (by simp) (by simp)).mono ?_
  rintro e w2 ⟨rfl, hM, hF⟩
  have HG2 := hid (HG1.out.since hF (fun i hi hlt => by have := HOWN.out i hi; omega))
  have HM2 := hid hM
  clear hF hM HG1 HM1
  obtain ⟨s0, hs0⟩ : ∃ s0, stp (List.replicate (1 + 1) 0) 0 = s0 := ⟨_, rfl⟩
  have HS0 := hid (show s0.length = 2 from by rw [← hs0]; decide +kernel)
  rw [hs0] at HM2
  clear hs0
  go_wp2_with fail
  obtain ⟨be, hbe⟩ : ∃ be, w2.heap.size = be := ⟨_, rfl⟩
  obtain ⟨w3, hw3⟩ : ∃ w3, w2.alloc (.cells #[.int .i64 0] 76) = w3 := ⟨_, rfl⟩
  have HBbe3 := hid (show Blk w3 be #[.int .i64 0] from by rw [← hw3]; exact (Blk.new _ _ _).at hbe)
  have hF : Fr (fun _ => False) w2 w3 := by rw [← hw3]; exact Fr.alloc _ _ _
  have HM3 := hid (HM2.out.same hF)
  have HG3 := hid (HG2.out.trans hF)
  have HLbe := hid (show w0.heap.size ≤ be from by have := HG2.out.size; omega)
  have nObe := hid (show ¬ b.own be from fun hh => by have := HM2.out.own_lt _ hh; omega)
  rw [hw3, hbe]
  clear hw3 hF HG2 HM2 hbe
  have pbe := HBbe3.out.cell (i := 0) rfl
  go_wp2_with fail
  refine (ewait_mk 0 _).mono ?_
  rintro e w4 ⟨x, rfl, hX, hF, hlx⟩
  have HG4 := hid (HG3.out.trans hF)
  have HM4 := hid (HM3.out.same hF)
  have HBbe4 := hid (HBbe3.out.same hF)
  have HXx4 := hid hX
  have HLx := hid (show w0.heap.size ≤ x from by have := HG3.out.size; omega)
  have nOx := hid (show ¬ b.own x from fun hh => by have := HM3.out.own_lt _ hh; omega)
  have nbe_x := hid (show be ≠ x from by have := HBbe3.out.lt; omega)
  clear hX hlx
  clear hF HG3 HM3 HBbe3 pbe
  have pbe := HBbe4.out.cell (i := 0) rfl
  go_wp2_with fail
  refine (wpark_no x 0 0 0 _ HXx4.out (by decide)).mono ?_
  rintro e w' ⟨rfl, rfl⟩
  have HSs0 := hid HS0.out
  go_wp2_with fail
  refine (wready_mk b _ _ _ 0 0 0 0 x 0 0 0 _ HM4.out HXx4.out nOx.out rfl rfl (by have := HSs0.out; omega) (by omega) rfl).mono ?_
  rintro e w5 ⟨rfl, hM, hX, hF⟩
  have HG5 := hid (HG4.out.since hF (fun i hi hlt => hi.elim (fun h => by have := HOWN.out i h; omega) (fun h => by have := HLx.out; have h2 : i = x := h; omega)))
  have HM5 := hid hM
  have HXx5 := hid hX
  have HBbe5 := hid (HBbe4.out.keep hF (fun hh => hh.elim nObe.out nbe_x.out))
  clear hF hM hX HG4 HM4 HXx4 HBbe4 pbe
  have pbe := HBbe5.out.cell (i := 0) rfl
  obtain ⟨s1, hs1⟩ : ∃ t, stp s0 0 = t := ⟨_, rfl⟩
  have HSs1 := hid (show s1.length = 2 from by rw [← hs1, stp_len]; exact HSs0.out)
  rw [hs1] at HM5
  clear hs1
  go_wp2_with fail
  refine (wpark_ok x 0 0 _ HXx5.out).mono ?_
  rintro e w6 ⟨rfl, hX, hF⟩
  have HG6 := hid (HG5.out.since hF (fun i hi hlt => by have := HLx.out; have h2 : i = x := hi; omega))
  have HM6 := hid (HM5.out.keep hF (fun k hk hh => nOx.out (hh ▸ hk)))
  have HXx6 := hid hX
  have HBbe6 := hid (HBbe5.out.keep hF nbe_x.out)
  clear hF hX HG5 HM5 HXx5 HBbe5 pbe
  have pbe := HBbe6.out.cell (i := 0) rfl
  go_wp2_with fail
  refine (wparked_mk b _ _ _ x 0 2 0 true _ HM6.out HXx6.out (by decide)).mono ?_
  rintro e w7 ⟨rfl, hF⟩
  have HG7 := hid (HG6.out.trans hF)
  have HM7 := hid (HM6.out.same hF)
  have HXx7 := hid (HXx6.out.same hF)
  have HBbe7 := hid (HBbe6.out.same hF)
  clear hF HG6 HM6 HXx6 HBbe6 pbe
  have pbe := HBbe7.out.cell (i := 0) rfl
  go_wp2_with fail
  refine (etell_mk b _ _ _ 1 0 1 0 1 _ HM7.out rfl rfl (by have := HSs1.out; omega) (by omega) (by decide +kernel)).mono ?_
  rintro e w8 ⟨rfl, hM, hF⟩
  have HG8 := hid (HG7.out.since hF (fun i hi hlt => by have := HOWN.out i hi; omega))
  have HM8 := hid hM
  have HXx8 := hid (HXx7.out.keep hF nOx.out)
  have HBbe8 := hid (HBbe7.out.keep hF nObe.out)
  clear hF hM HG7 HM7 HXx7 HBbe7 pbe
  have pbe := HBbe8.out.cell (i := 0) rfl
  obtain ⟨s2, hs2⟩ : ∃ t, stp s1 1 = t := ⟨_, rfl⟩
  have HSs2 := hid (show s2.length = 2 from by rw [← hs2, stp_len]; exact HSs1.out)
  rw [hs2] at HM8
  clear hs2
  go_wp2_with fail
  refine (wparked_mk b _ _ _ x 0 2 0 false _ HM8.out HXx8.out (by decide)).mono ?_
  rintro e w9 ⟨rfl, hF⟩
  have HG9 := hid (HG8.out.trans hF)
  have HM9 := hid (HM8.out.same hF)
  have HXx9 := hid (HXx8.out.same hF)
  have HBbe9 := hid (HBbe8.out.same hF)
  clear hF HG8 HM8 HXx8 HBbe8 pbe
  have pbe := HBbe9.out.cell (i := 0) rfl
  go_wp2_with fail
  refine (wready_mk b _ _ _ 0 0 0 1 x 0 2 0 _ HM9.out HXx9.out nOx.out rfl rfl (by have := HSs2.out; omega) (by omega) rfl).mono ?_
  rintro e w10 ⟨rfl, hM, hX, hF⟩
  have HG10 := hid (HG9.out.since hF (fun i hi hlt => hi.elim (fun h => by have := HOWN.out i h; omega) (fun h => by have := HLx.out; have h2 : i = x := h; omega)))
  have HM10 := hid hM
  have HXx10 := hid hX
  have HBbe10 := hid (HBbe9.out.keep hF (fun hh => hh.elim nObe.out nbe_x.out))
  clear hF hM hX HG9 HM9 HXx9 HBbe9 pbe
  have pbe := HBbe10.out.cell (i := 0) rfl
  obtain ⟨s3, hs3⟩ : ∃ t, stp s2 0 = t := ⟨_, rfl⟩
  have HSs3 := hid (show s3.length = 2 from by rw [← hs3, stp_len]; exact HSs2.out)
  rw [hs3] at HM10
  clear hs3
  go_wp2_with fail
  refine (wparked_mk b _ _ _ x 0 1 1 false _ HM10.out HXx10.out (by decide)).mono ?_
  rintro e w11 ⟨rfl, hF⟩
  have HG11 := hid (HG10.out.trans hF)
  have HM11 := hid (HM10.out.same hF)
  have HXx11 := hid (HXx10.out.same hF)
  have HBbe11 := hid (HBbe10.out.same hF)
  clear hF HG10 HM10 HXx10 HBbe10 pbe
  have pbe := HBbe11.out.cell (i := 0) rfl
  go_wp2_with fail
  refine (wpark_ok x 0 1 _ HXx11.out).mono ?_
  rintro e w12 ⟨rfl, hX, hF⟩
  have HG12 := hid (HG11.out.since hF (fun i hi hlt => by have := HLx.out; have h2 : i = x := hi; omega))
  have HM12 := hid (HM11.out.keep hF (fun k hk hh => nOx.out (hh ▸ hk)))
  have HXx12 := hid hX
  have HBbe12 := hid (HBbe11.out.keep hF nbe_x.out)
  clear hF hX HG11 HM11 HXx11 HBbe11 pbe
  have pbe := HBbe12.out.cell (i := 0) rfl
  go_wp2_with fail
  refine (wparked_mk b _ _ _ x 0 2 1 true _ HM12.out HXx12.out (by decide)).mono ?_
  rintro e w13 ⟨rfl, hF⟩
  have HG13 := hid (HG12.out.trans hF)
  have HM13 := hid (HM12.out.same hF)
  have HXx13 := hid (HXx12.out.same hF)
  have HBbe13 := hid (HBbe12.out.same hF)
  clear hF HG12 HM12 HXx12 HBbe12 pbe
  have pbe := HBbe13.out.cell (i := 0) rfl
  go_wp2_with fail
  refine (eread_mk b _ _ _ 0 0 0 0 1 _ HM13.out rfl rfl (by have := HSs3.out; omega) (by omega) rfl).mono ?_
  rintro e w14 ⟨rfl, hM, hF⟩
  have HG14 := hid (HG13.out.since hF (fun i hi hlt => by have := HOWN.out i hi; omega))
  have HM14 := hid hM
  have HXx14 := hid (HXx13.out.keep hF nOx.out)
  have HBbe14 := hid (HBbe13.out.keep hF nObe.out)
  clear hF hM HG13 HM13 HXx13 HBbe13 pbe
  have pbe := HBbe14.out.cell (i := 0) rfl
  go_wp2_with fail
  go_ret
  exact ⟨rfl, HG14.out⟩
end Go.Proofs.Ytlhpngoplmccjaa
