/-
  IdleBreaks answers true at every input.
-/
import Derived.Test.YtiofdfgcghiibaaRf
import Derived.Test.YtiofdfgcghiibaaAw
import Derived.Deep.DeepCutAuto
import Derived.Deep.DeepMust
import Derived.Deep.RegionHeld3
namespace Go.Proofs.Ytiofdfgcghiibaa
open Go.RowKit
set_option linter.unusedVariables false

set_option maxRecDepth 100000 in
set_option maxHeartbeats 4000000 in
theorem breaksLaw (x n : Int) (w0 : World) :
    Calls Try.prog 7 #[.int .i64 x, .int .i64 n] w0 fun e w' => e = .returned (.bool true) ∧ Below w0.heap.size w0 w' := by
  obtain ⟨L, hL⟩ : ∃ L, memN x 64 = L := ⟨_, rfl⟩
  obtain ⟨M, hM⟩ : ∃ M, L.length = M := ⟨_, rfl⟩
  have hM64 : M ≤ 64 := by rw [← hM, ← hL]; exact memN_len x 64
  have HL := hid hL
  have HM := hid hM
  clear hL hM
  have hRM := hid (show ∀ w, Calls Try.prog 29 #[.int .i64 x] w fun e w' => ∃ A cap, e = .returned (.slice A M cap) ∧ NatR w' A L ∧ Fr (fun _ => False) w w' ∧ M ≤ cap from fun w => by have := rmem_all x w; rw [HL.out, HM.out] at this; exact this)
  have HG0 := hid (Fr.refl (fun _ => False) w0)
  go_enter Try.func7, Try.ntmps7
  go_wp2_with fail
  refine (hRM.out _).mono ?_
  rintro e w1 ⟨A, cap, rfl, hN, hF, hcap⟩
  have HG1 := hid (HG0.out.trans hF)
  have HNA1 := hid hN
  clear hN
  clear hF HG0 
  by_cases h1 : n < 1
  · have t1 : decide (n < 1) = true := by simpa using h1
    go_wp2_with fail
    refine (awake_ok _).mono ?_
    rintro e w2 ⟨rfl, hF⟩
    have HG2 := hid (HG1.out.trans hF)
    have HNA2 := hid (HNA1.out.same hF)
    clear hF HG1 HNA1
    go_wp2_with fail
    go_ret
    exact ⟨rfl, HG2.out.below (Nat.le_refl _) (fun _ hh => hh.elim)⟩
  · by_cases h2 : (M : Int) < n
    · have t1 : decide (n < 1) = false := by simpa using h1
      go_wp2_with fail
      refine (awake_ok _).mono ?_
      rintro e w2 ⟨rfl, hF⟩
      have HG2 := hid (HG1.out.trans hF)
      have HNA2 := hid (HNA1.out.same hF)
      clear hF HG1 HNA1
      go_wp2_with fail
      go_ret
      exact ⟨rfl, HG2.out.below (Nat.le_refl _) (fun _ hh => hh.elim)⟩
    · obtain ⟨N, rfl⟩ := Int.eq_ofNat_of_zero_le (show 0 ≤ n by omega)
      have hN1 : 1 ≤ N := by omega
      have hNM : N ≤ M := by omega
      clear h1 h2
      have hLS := hid (show ∀ sb w, Blk w sb #[.int .i64 x] → Calls Try.prog 36 #[.func (.func 70) #[] #[.pointer (some ⟨sb, 0, none⟩)], .int .i64 N] w fun e w' => ∃ A cap, e = .returned (.slice A N cap) ∧ NatR w' A (L.take N) ∧ Fr (fun _ => False) w w' from fun sb w hb => by
        have := list_any x sb N 0 (by omega) (by omega) w hb
        unfold LstPost at this
        rw [HL.out, List.length_take, HM.out, Nat.min_eq_left hNM] at this
        exact this)
      obtain ⟨g, off, rfl, _, _⟩ := HNA1.out (by rw [HM.out]; omega)
      have hNc : N ≤ cap := by omega
      have t1 : decide ((N : Int) < 1) = false := by simp; omega
      have t2 : decide ((M : Int) < N) = false := by simp; omega
      have HFd := hid (Fr.refl (fun _ => False) w1)
      have HTK := hid (HNA1.out.take N (by rw [HM.out]; exact hNM))
      have HLT := hid (show (L.take N).length = N by rw [List.length_take, HM.out, Nat.min_eq_left hNM])
      have HN1000 := hid (show N ≤ 1000 by omega)
      clear hcap HM HL hRM HNA1
      go_upto_region 4 with fail
      go_region_held3 (fun _ => True)
        (exact True.intro)
        (first
          | (go_at_call 37; go_must ((with_reducible refine (mem_mk x _).mono ?_); rintro e w6 ⟨rfl, hW6⟩; have HB6 := hid (show Blk w6 w1.heap.size #[.int .i64 x] from by rw [hW6]; exact Blk.new _ _ _); have HFd := hid (HFd.out.trans (show Fr (fun _ => False) w1 w6 from by first | (rw [hW6]; exact Fr.alloc _ _ _) | (rw [hW6]; exact (Fr.drew _ _).trans (Fr.alloc _ _ _)))); clear hW6))
          | (go_at_call 36; (with_reducible refine (hLS.out _ _ HB6.out).mono ?_); rintro e w7 ⟨A2, cap2, rfl, hN7, hF7⟩; have HFd := hid (HFd.out.trans hF7); have HN7 := hid hN7; clear hN7 hF7)
          | (go_at_call 35; (with_reducible refine (same_yes _ _ (L.take N) N _ _ _ HN7.out (HTK.out.same HFd.out) HLT.out HN1000.out).mono ?_); rintro e w8 ⟨rfl, hF8⟩; have HFd := hid (HFd.out.trans hF8); clear hF8)
          | (go_at_call 38; (with_reducible refine (awake_ok _).mono ?_); rintro e w9 ⟨rfl, hF9⟩; have HFd := hid (HFd.out.trans hF9); clear hF9))
      all_goals
        go_wp2_with fail
        go_ret
        exact ⟨rfl, (HG1.out.trans (HFd.out.trans (by first | exact Fr.refl _ _ | exact Fr.drew _ _))).below (Nat.le_refl _) (fun _ hh => hh.elim)⟩
end Go.Proofs.Ytiofdfgcghiibaa
