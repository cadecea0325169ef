/-
  IdleBits answers true at every input.
-/
import Derived.Test.YtiofdfgcghiibaaRf
import Derived.Test.YtiofdfgcghiibaaAw
import Derived.Deep.DeepCutAuto
import Derived.Deep.DeepMust
import Derived.Deep.RegionHeld3
namespace Go.Proofs.Ytiofdfgcghiibaa
open Go.RowKit
set_option linter.unusedVariables false

set_option maxRecDepth 100000 in
set_option maxHeartbeats 4000000 in
theorem bitsLaw (x v n : Int) (w0 : World) :
    Calls Try.prog 4 #[.int .i64 x, .int .i64 v, .int .i64 n] w0 fun e w' => e = .returned (.bool true) ∧ Below w0.heap.size w0 w' := by
  obtain ⟨L, hL⟩ : ∃ L, memN x 64 = L := ⟨_, rfl⟩
  obtain ⟨M, hM⟩ : ∃ M, L.length = M := ⟨_, rfl⟩
  have hM64 : M ≤ 64 := by rw [← hM, ← hL]; exact memN_len x 64
  have HL := hid hL
  have HM := hid hM
  clear hL hM
  have hRM := hid (show ∀ w, Calls Try.prog 29 #[.int .i64 x] w fun e w' => ∃ A cap, e = .returned (.slice A M cap) ∧ NatR w' A L ∧ Fr (fun _ => False) w w' from fun w => by have := rmem_any x w; rw [HL.out] at this; rw [← HM.out]; exact this)
  have hCT := hid (show ∀ w, Calls Try.prog 32 #[.int .i64 x] w fun e w' => e = .returned (.int .i64 M) ∧ Fr (fun _ => False) w w' from fun w => by have := count_any x w; rw [HL.out, HM.out] at this; exact this)
  have hLS := hid (show ∀ sb w, Blk w sb #[.int .i64 x] → Calls Try.prog 36 #[.func (.func 70) #[] #[.pointer (some ⟨sb, 0, none⟩)], .int .i64 100] w fun e w' => ∃ A cap, e = .returned (.slice A M cap) ∧ NatR w' A L ∧ Fr (fun _ => False) w w' from fun sb w hb => by
    have := list_any x sb 100 0 (by omega) (by omega) w hb
    rw [HL.out, List.take_of_length_le (by rw [HM.out]; omega)] at this
    rw [← HM.out]; exact this)
  obtain ⟨hv, hhv⟩ : ∃ b, hasB x v = b := ⟨_, rfl⟩
  have hHA := hid (fun w => has_any x v w)
  have hRH := hid (fun w => rhas_any x v w)
  rw [hhv] at hHA hRH
  clear hhv
  have t1 : (hv != hv) = false := by simp
  have t2 : ((M : Int) != (M : Int)) = false := by simp
  obtain ⟨r, hr⟩ := FirstP.ex x (lim n)
  have HR := hid hr
  clear hr
  have t3 : (r != r) = false := by simp
  have HG0 := hid (Fr.refl (fun _ => False) w0)
  go_enter Try.func4, Try.ntmps4
  go_wp2_with fail
  refine (hRM.out _).mono ?_
  rintro e w1 ⟨A, cap, rfl, hN, hF⟩
  have HG1 := hid (HG0.out.trans hF)
  have HNA1 := hid hN
  clear hN
  clear hF HG0 
  go_wp2_with fail
  refine (hHA.out _).mono ?_
  rintro e w' ⟨rfl, rfl⟩
  go_wp2_with fail
  refine (hRH.out _).mono ?_
  rintro e w2 ⟨rfl, hF⟩
  have HG2 := hid (HG1.out.trans hF)
  have HNA2 := hid (HNA1.out.same hF)
  clear hF HG1 HNA1
  go_wp2_with fail
  refine (hCT.out _).mono ?_
  rintro e w3 ⟨rfl, hF⟩
  have HG3 := hid (HG2.out.trans hF)
  have HNA3 := hid (HNA2.out.same hF)
  clear hF HG2 HNA2
  go_wp2_with fail
  refine (first_any x n _).mono ?_
  rintro e w' ⟨r1, rfl, hr1, rfl⟩
  obtain rfl : r1 = r := hr1.one HR.out
  clear hr1
  go_wp2_with fail
  refine (rfirst_any x n _).mono ?_
  rintro e w4 ⟨r2, rfl, hr2, hF⟩
  have HG4 := hid (HG3.out.trans hF)
  have HNA4 := hid (HNA3.out.same hF)
  obtain rfl : r2 = r1 := hr2.one HR.out
  clear hr2
  clear hF HG3 HNA3
  go_wp2_with fail
  refine (mem_mk x _).mono ?_
  rintro e w5 ⟨rfl, hW⟩
  have hF : Fr (fun _ => False) w4 w5 := by rw [hW]; exact Fr.alloc _ _ _
  have HG5 := hid (HG4.out.trans hF)
  have HNA5 := hid (HNA4.out.same hF)
  have hB := hid (show Blk w5 w4.heap.size #[.int .i64 x] from by rw [hW]; exact Blk.new _ _ _)
  clear hW
  clear hF HG4 HNA4
  go_wp2_with fail
  refine (hLS.out _ _ hB.out).mono ?_
  rintro e w6 ⟨A2, cap2, rfl, hN, hF⟩
  have HG6 := hid (HG5.out.trans hF)
  have HNA6 := hid (HNA5.out.same hF)
  have HNB6 := hid hN
  clear hN hB
  clear hF HG5 HNA5
  go_wp2_with fail
  refine (same_yes A2 A L M cap2 cap _ HNB6.out HNA6.out HM.out (by omega)).mono ?_
  rintro e w7 ⟨rfl, hF⟩
  have HG7 := hid (HG6.out.trans hF)
  have HNA7 := hid (HNA6.out.same hF)
  have HNB7 := hid (HNB6.out.same hF)
  clear hF HG6 HNA6 HNB6
  go_wp2_with fail
  refine (awake_ok _).mono ?_
  rintro e w8 ⟨rfl, hF⟩
  have HG8 := hid (HG7.out.trans hF)
  have HNA8 := hid (HNA7.out.same hF)
  have HNB8 := hid (HNB7.out.same hF)
  clear hF HG7 HNA7 HNB7
  go_wp2_with fail
  go_ret
  exact ⟨rfl, HG8.out.below (Nat.le_refl _) (fun _ hh => hh.elim)⟩
end Go.Proofs.Ytiofdfgcghiibaa
