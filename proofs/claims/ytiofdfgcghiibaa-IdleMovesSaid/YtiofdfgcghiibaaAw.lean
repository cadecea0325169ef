/-
  The chapter's example comes out true.
-/
import Derived.Test.YtiofdfgcghiibaaSm
import Derived.Test.YtiofdfgcghiibaaSt
import Derived.Test.YtiofdfgcghiibaaFst
import Derived.Test.YtiofdfgcghiibaaCount
namespace Go.Proofs.Ytiofdfgcghiibaa
open Go.RowKit
set_option linter.unusedVariables false

theorem count_21 (w : World) : Calls Try.prog 32 #[.int .i64 21] w fun e w' => e = .returned (.int .i64 3) ∧ Fr (fun _ => False) w w' := by
  have h := count_any 21 w
  rw [show (memN 21 64).length = 3 by decide +kernel] at h
  exact h

theorem list_21 (sb : Nat) (w : World) (hb : Blk w sb #[.int .i64 21]) : Calls Try.prog 36 #[.func (.func 70) #[] #[.pointer (some ⟨sb, 0, none⟩)], .int .i64 9] w fun e w' => ∃ A cap, e = .returned (.slice A 3 cap) ∧ NatR w' A [0, 2, 4] ∧ Fr (fun _ => False) w w' := by
  have h := list_any 21 sb 9 0 (by omega) (by omega) w hb
  rw [show (memN 21 64).take 9 = [0, 2, 4] by decide +kernel] at h
  exact h

theorem first_21 (w : World) : Calls Try.prog 33 #[.int .i64 21, .int .i64 5] w fun e w' => e = .returned (.int .i64 1) ∧ w = w' :=
  first_go 21 5 5 1 (.inr ⟨1, by omega, rfl, by decide +kernel, fun j hj => by obtain rfl : j = 0 := (by omega); decide +kernel⟩) _ rfl rfl w

theorem first_7 (w : World) : Calls Try.prog 33 #[.int .i64 7, .int .i64 3] w fun e w' => e = .returned (.int .i64 (-1)) ∧ w = w' :=
  first_go 7 3 3 (-1) (.inl ⟨rfl, fun k hk => by
    rcases (by omega : k = 0 ∨ k = 1 ∨ k = 2) with rfl | rfl | rfl <;> decide +kernel⟩) _ rfl rfl w

theorem natR_three (w : World) (g : Nat) (h : Blk w g #[.int .i64 0, .int .i64 2, .int .i64 4]) : NatR w (some ⟨g, 0, none⟩) [0, 2, 4] := by
  intro _
  refine ⟨g, 0, rfl, h.lt, fun k hk => ?_⟩
  rw [Nat.zero_add]
  have hk2 : k < 3 := hk
  rcases (by omega : k = 0 ∨ k = 1 ∨ k = 2) with rfl | rfl | rfl
  · exact h.cell rfl
  · exact h.cell rfl
  · exact h.cell rfl

set_option maxRecDepth 100000 in
set_option maxHeartbeats 2000000 in
theorem awake_ok (w0 : World) :
    Calls Try.prog 38 #[] w0 fun e w' => e = .returned (.bool true) ∧ Fr (fun _ => False) w0 w' := by
  go_enter Try.func38, Try.ntmps38
  go_wp2_with fail
  refine (count_21 _).mono ?_
  rintro e wa ⟨rfl, hFa⟩
  go_wp2_with fail
  refine (mem_mk 21 _).mono ?_
  rintro e wb ⟨rfl, hWb⟩
  have hBb : Blk wb wa.heap.size #[.int .i64 21] := by rw [hWb]; exact Blk.new _ _ _
  have hFb : Fr (fun _ => False) w0 wb := by rw [hWb]; exact hFa.trans (Fr.alloc _ _ _)
  clear hWb hFa
  go_wp2_with fail
  refine (list_21 _ _ hBb).mono ?_
  rintro e wc ⟨A, cap, rfl, hNc, hFc⟩
  have hFc := hFb.trans hFc
  clear hBb hFb
  go_wp2_with fail
  have HNc := hid hNc
  have HFc := hid hFc
  clear hNc hFc
  refine (same_yes A (some ⟨wc.heap.size, 0, none⟩) [0, 2, 4] 3 cap 3 _ (HNc.out.same (Fr.alloc _ _ _)) (natR_three _ _ (Blk.new wc _ _)) rfl (by omega)).mono ?_
  rintro e wd ⟨rfl, hFd⟩
  have HFd := hid ((HFc.out.trans (Fr.alloc _ _ _)).trans hFd)
  clear HFc HNc hFd
  go_wp2_with fail
  refine (first_21 _).mono ?_
  rintro e w' ⟨rfl, rfl⟩
  go_wp2_with fail
  refine (first_7 _).mono ?_
  rintro e w' ⟨rfl, rfl⟩
  obtain ⟨wx, hwx⟩ : ∃ wx, wd = wx := ⟨_, rfl⟩
  rw [hwx] at HFd ⊢
  clear hwx
  have HG0 := hid HFd.out
  clear HFd
  go_wp2_with fail
  refine (new_mk 1 2 1 2 rfl rfl _ (by omega) (by omega) (by omega) (by omega)).mono ?_
  rintro e w1 ⟨b, rfl, hM, hF, hown⟩
  have HG1 := hid (HG0.out.trans hF)
  have HM1 := hid hM
  have HOWN := hid (show ∀ i, b.own i → w0.heap.size ≤ i from fun i hi => by have := hown i hi; have := HG0.out.size; omega)
  clear hF hM hown HG0
  go_wp2_with fail
  refine (inew_mk b _ _ _ 0 0 0 _ HM1.out rfl rfl (by simp) (by simp)).mono ?_
  rintro e w2 ⟨rfl, hM, hF⟩
  have HG2 := hid (HG1.out.since hF (fun i hi hlt => by have := HOWN.out i hi; omega))
  have HM2 := hid hM
  clear hF hM HG1 HM1
  obtain ⟨s0, hs0⟩ : ∃ s0, stp (List.replicate (2 + 1) 0) 0 = s0 := ⟨_, rfl⟩
  have HSs0 := hid (show s0.length = 3 from by rw [← hs0]; decide +kernel)
  rw [hs0] at HM2
  have HM2 := hid (show IsM w2 b (mk [0] 1 s0) from HM2.out)
  clear hs0
  go_wp2_with fail
  obtain ⟨be, hbe⟩ : ∃ be, w2.heap.size = be := ⟨_, rfl⟩
  obtain ⟨w3, hw3⟩ : ∃ w3, w2.alloc (.cells #[.int .i64 0] 82) = w3 := ⟨_, rfl⟩
  have HBbe3 := hid (show Blk w3 be #[.int .i64 0] from by rw [← hw3]; exact (Blk.new _ _ _).at hbe)
  have hF : Fr (fun _ => False) w2 w3 := by rw [← hw3]; exact Fr.alloc _ _ _
  have HM3 := hid (HM2.out.same hF)
  have HG3 := hid (HG2.out.trans hF)
  have HLbe := hid (show w0.heap.size ≤ be from by have := HG2.out.size; omega)
  have nObe := hid (show ¬ b.own be from fun hh => by have := HM2.out.own_lt _ hh; omega)
  rw [hw3, hbe]
  clear hw3 hF HG2 HM2 hbe
  have pbe := HBbe3.out.cell (i := 0) rfl
  go_wp2_with fail
  refine (ienter_mk b _ _ _ 0 2 2 0 4 4 _ HM3.out rfl rfl (by have := HSs0.out; omega) (by omega) (by omega) (by decide +kernel) (by decide +kernel)).mono ?_
  rintro e w4 ⟨rfl, hM, hF⟩
  have HG4 := hid (HG3.out.since hF (fun i hi hlt => by have := HOWN.out i hi; omega))
  have HM4 := hid hM
  have HBbe4 := hid (HBbe3.out.keep hF nObe.out)
  clear hF hM HG3 HM3 HBbe3 pbe
  have pbe := HBbe4.out.cell (i := 0) rfl
  obtain ⟨s1, hs1⟩ : ∃ t, stp s0 2 = t := ⟨_, rfl⟩
  have HSs1 := hid (show s1.length = 3 from by rw [← hs1, stp_len]; exact HSs0.out)
  rw [hs1] at HM4
  clear hs1
  have HM4 := hid (show IsM w4 b (mk [4] 1 s1) from HM4.out)
  go_wp2_with fail
  refine (ienter_mk b _ _ _ 0 0 0 0 1 5 _ HM4.out rfl rfl (by have := HSs1.out; omega) (by omega) (by omega) (by decide +kernel) (by decide +kernel)).mono ?_
  rintro e w5 ⟨rfl, hM, hF⟩
  have HG5 := hid (HG4.out.since hF (fun i hi hlt => by have := HOWN.out i hi; omega))
  have HM5 := hid hM
  have HBbe5 := hid (HBbe4.out.keep hF nObe.out)
  clear hF hM HG4 HM4 HBbe4 pbe
  have pbe := HBbe5.out.cell (i := 0) rfl
  obtain ⟨s2, hs2⟩ : ∃ t, stp s1 0 = t := ⟨_, rfl⟩
  have HSs2 := hid (show s2.length = 3 from by rw [← hs2, stp_len]; exact HSs1.out)
  rw [hs2] at HM5
  clear hs2
  have HM5 := hid (show IsM w5 b (mk [5] 1 s2) from HM5.out)
  go_wp2_with fail
  refine (ileave_mk b _ _ _ 0 2 2 0 (-4) 1 _ HM5.out rfl rfl (by have := HSs2.out; omega) (by omega) (by omega) (by decide +kernel) (by decide +kernel)).mono ?_
  rintro e w6 ⟨rfl, hM, hF⟩
  have HG6 := hid (HG5.out.since hF (fun i hi hlt => by have := HOWN.out i hi; omega))
  have HM6 := hid hM
  have HBbe6 := hid (HBbe5.out.keep hF nObe.out)
  clear hF hM HG5 HM5 HBbe5 pbe
  have pbe := HBbe6.out.cell (i := 0) rfl
  obtain ⟨s3, hs3⟩ : ∃ t, stp s2 2 = t := ⟨_, rfl⟩
  have HSs3 := hid (show s3.length = 3 from by rw [← hs3, stp_len]; exact HSs2.out)
  rw [hs3] at HM6
  clear hs3
  have HM6 := hid (show IsM w6 b (mk [1] 1 s3) from HM6.out)
  go_wp2_with fail
  refine (iread_mk b _ _ _ 1 0 1 0 1 _ HM6.out rfl rfl (by have := HSs3.out; omega) (by omega) rfl).mono ?_
  rintro e w7 ⟨rfl, hM, hF⟩
  have HG7 := hid (HG6.out.since hF (fun i hi hlt => by have := HOWN.out i hi; omega))
  have HM7 := hid hM
  have HBbe7 := hid (HBbe6.out.keep hF nObe.out)
  clear hF hM HG6 HM6 HBbe6 pbe
  have pbe := HBbe7.out.cell (i := 0) rfl
  go_wp2_with fail
  go_ret
  exact ⟨rfl, HG7.out⟩
end Go.Proofs.Ytiofdfgcghiibaa
