/-
  ScopeNil answers true at every input.
-/
import Derived.Test.YtoajdknhllaoeaaAw
namespace Go.Proofs.Ytoajdknhllaoeaa
open Go.RowKit
set_option linter.unusedVariables false

def nl0 : Sc := scT 4 (stp (List.replicate 2 0) 1)

def NlRel (w0 : World) (b : MB) (tb : Nat) (d : Nat) (z : Value) (wr : World) : Prop := ∃ i : Nat, i ≤ 3 ∧ d = 4 - i ∧ z = .int .i64 i ∧ OwnT w0 wr b tb nl0

theorem OwnT.none {w0 w : World} {b : MB} {tb : Nat} {T : Sc} (h : OwnT w0 w b tb T) {y : Int} (hy : isB T.n y = false) : FErr (.pointer (some ⟨tb, 0, none⟩)) (.pointer (some ⟨b.m, 0, none⟩)) y 17 w := by
  obtain ⟨O, h1, _⟩ := h
  exact ferr_none w y hy h1

def NlRel2 (w0 : World) (b : MB) (tb : Nat) (d : Nat) (z : Value) (wr : World) : Prop := ∃ i : Nat, i ≤ 2 ∧ d = 3 - i ∧ z = .int .i64 i ∧ OwnT w0 wr b tb nl0

set_option maxRecDepth 100000 in
set_option maxHeartbeats 4000000 in
theorem nil_zero (x : Int) (w0 : World) :
    Calls Try.prog 8 #[.int .i64 x, .int .i64 0] w0 fun e w' => e = .returned (.bool true) ∧ Below w0.heap.size w0 w' := by
  go_enter Try.func8, Try.ntmps8
  go_wp2_with fail
  refine (new_mk 4 1 4 1 rfl rfl _ (by omega) (by omega) (by omega) (by omega)).mono ?_
  rintro e w1 ⟨b, rfl, hM, hF, hown⟩
  have HM := hid hM
  have HF := hid hF
  have HO := hid hown
  clear hM hF hown
  go_wp2_with fail
  refine (ow_new w0 b 4 2 1 1 _ rfl (by omega) (by omega) HM.out HF.out HO.out).mono ?_
  rintro e w2 ⟨tb, rfl, h⟩
  have HT := hid (show OwnT w0 w2 b tb nl0 from h)
  clear h HM HF HO
  go_wp2_with fail
  refine (new_tree_nil _ x).mono ?_
  rintro e w3 ⟨rfl, hF⟩
  have HTn := hid (HT.out.same hF)
  have HT := HTn
  clear hF HTn
  have HE0 := hid (fun W (h : OwnT w0 W b tb nl0) => ferr_nil W (.pointer (some ⟨b.m, 0, none⟩)) 0)
  have HE1 := hid (fun W (h : OwnT w0 W b tb nl0) => ferr_nom W tb 0)
  have HLK := hid (fun W (h : OwnT w0 W b tb nl0) => ow_look W 0 0 rfl (by decide) h)
  go_wp2_with fail
  go_loopg [14] 3 (fun d z wr => NlRel2 w0 b tb d z wr)
  case atStart => exact ⟨0, by omega, by omega, rfl, HT.out⟩
  case round =>
    clear HT
    obtain ⟨i, hi, rfl, rfl, hT⟩ := hrel
    have HT := hid hT
    clear hT
    obtain rfl | rfl | rfl : i = 0 ∨ i = 1 ∨ i = 2 := by omega
    · go_wp2_with fail
      refine (open_err _ _ x 0 _ _ (HE0.out _ HT.out)).mono ?_
      rintro e w4 ⟨rfl, hF⟩
      have HTn := hid (HT.out.same hF)
      have HT := HTn
      clear hF HTn
      go_wp2_with fail
      refine (leave_err _ _ x 0 _ _ (HE0.out _ HT.out)).mono ?_
      rintro e w5 ⟨rfl, hF⟩
      have HTn := hid (HT.out.same hF)
      have HT := HTn
      clear hF HTn
      go_wp2_with fail
      refine (live_err _ _ x 0 _ _ (HE0.out _ HT.out)).mono ?_
      rintro e w6 ⟨rfl, hF⟩
      have HTn := hid (HT.out.same hF)
      have HT := HTn
      clear hF HTn
      go_wp2_with fail
      refine (ask_err _ _ x 0 _ _ (HE0.out _ HT.out)).mono ?_
      rintro e w7 ⟨rfl, hF⟩
      have HTn := hid (HT.out.same hF)
      have HT := HTn
      clear hF HTn
      go_wp2_with fail
      refine (asked_err _ _ x 0 _ _ (HE0.out _ HT.out)).mono ?_
      rintro e w8 ⟨rfl, hF⟩
      have HTn := hid (HT.out.same hF)
      have HT := HTn
      clear hF HTn
      go_wp2_with fail
      refine (peek_err _ _ 0 _ _ (HE0.out _ HT.out)).mono ?_
      rintro e w9 ⟨rfl, hF⟩
      have HTn := hid (HT.out.same hF)
      have HT := HTn
      clear hF HTn
      go_wp2_with fail
      refine (enter_err _ _ x 0 _ _ (HE0.out _ HT.out)).mono ?_
      rintro e w10 ⟨rfl, hF⟩
      have HTn := hid (HT.out.same hF)
      have HT := HTn
      clear hF HTn
      go_wp2_with fail
      go_roundg 2
      case rel => exact ⟨1, by omega, by omega, rfl, HT.out⟩
      case measure => omega
    · go_wp2_with fail
      refine (open_err _ _ x 0 _ _ (HE1.out _ HT.out)).mono ?_
      rintro e w11 ⟨rfl, hF⟩
      have HTn := hid (HT.out.same hF)
      have HT := HTn
      clear hF HTn
      go_wp2_with fail
      refine (leave_err _ _ x 0 _ _ (HE1.out _ HT.out)).mono ?_
      rintro e w12 ⟨rfl, hF⟩
      have HTn := hid (HT.out.same hF)
      have HT := HTn
      clear hF HTn
      go_wp2_with fail
      refine (live_err _ _ x 0 _ _ (HE1.out _ HT.out)).mono ?_
      rintro e w13 ⟨rfl, hF⟩
      have HTn := hid (HT.out.same hF)
      have HT := HTn
      clear hF HTn
      go_wp2_with fail
      refine (ask_err _ _ x 0 _ _ (HE1.out _ HT.out)).mono ?_
      rintro e w14 ⟨rfl, hF⟩
      have HTn := hid (HT.out.same hF)
      have HT := HTn
      clear hF HTn
      go_wp2_with fail
      refine (asked_err _ _ x 0 _ _ (HE1.out _ HT.out)).mono ?_
      rintro e w15 ⟨rfl, hF⟩
      have HTn := hid (HT.out.same hF)
      have HT := HTn
      clear hF HTn
      go_wp2_with fail
      refine (peek_err _ _ 0 _ _ (HE1.out _ HT.out)).mono ?_
      rintro e w16 ⟨rfl, hF⟩
      have HTn := hid (HT.out.same hF)
      have HT := HTn
      clear hF HTn
      go_wp2_with fail
      refine (enter_err _ _ x 0 _ _ (HE1.out _ HT.out)).mono ?_
      rintro e w17 ⟨rfl, hF⟩
      have HTn := hid (HT.out.same hF)
      have HT := HTn
      clear hF HTn
      go_wp2_with fail
      go_roundg 1
      case rel => exact ⟨2, by omega, by omega, rfl, HT.out⟩
      case measure => omega
    · go_wp2_with fail
      refine (len_nil _).mono ?_
      rintro e w' ⟨rfl, rfl⟩
      go_wp2_with fail
      refine (parent_nil _ 0).mono ?_
      rintro e w18 ⟨rfl, hF⟩
      have HTn := hid (HT.out.same hF)
      have HT := HTn
      clear hF HTn
      go_wp2_with fail
      refine (nest_nil _ 0).mono ?_
      rintro e w19 ⟨rfl, hF⟩
      have HTn := hid (HT.out.same hF)
      have HT := HTn
      clear hF HTn
      go_wp2_with fail
      refine (inside_nil _ 0 0).mono ?_
      rintro e w20 ⟨rfl, hF⟩
      have HTn := hid (HT.out.same hF)
      have HT := HTn
      clear hF HTn
      go_wp2_with fail
      refine (look_nil _ 0).mono ?_
      rintro e w' ⟨rfl, rfl⟩
      go_wp2_with fail
      refine (HLK.out _ HT.out).mono ?_
      rintro e w21 ⟨lb, rfl, hL⟩
      have HTn := hid hL.tree
      have HT := HTn
      clear hL HTn
      go_wp2_with fail
      refine (lstep_nil _ _ x).mono ?_
      rintro e w' ⟨rfl, rfl⟩
      go_wp2_with fail
      refine (lstep_nom _ _ x).mono ?_
      rintro e w' ⟨rfl, rfl⟩
      go_wp2_with fail
      refine (ow_used _ 2 rfl HT.out).mono ?_
      rintro e w' ⟨rfl, rfl⟩
      go_wp2_with fail
      refine (ow_steps _ 0 0 0 rfl (by decide) (by decide) HT.out).mono ?_
      rintro e w' ⟨rfl, rfl⟩
      go_wp2_with fail
      refine (ow_steps _ 1 1 1 rfl (by decide) (by decide +kernel) HT.out).mono ?_
      rintro e w' ⟨rfl, rfl⟩
      go_wp2_with fail
      refine (awake_ok _).mono ?_
      rintro e w22 ⟨rfl, hF⟩
      have HF := hid (HT.out.fr.trans hF)
      clear hF
      go_wp2_with fail
      go_ret
      exact ⟨rfl, HF.out.below (Nat.le_refl _) (fun _ h => h.elim)⟩

set_option maxRecDepth 100000 in
set_option maxHeartbeats 4000000 in
theorem nil_else (x : Int) (y : Int) (hy : y ≠ 0) (w0 : World) :
    Calls Try.prog 8 #[.int .i64 x, .int .i64 y] w0 fun e w' => e = .returned (.bool true) ∧ Below w0.heap.size w0 w' := by
  have t1 : (y == 0) = false := by simpa using hy
  have HYB := hid (show isB nl0.n y = false from isB_no (by have h : nl0.n = 1 := rfl; rw [h]; omega))
  clear hy
  go_enter Try.func8, Try.ntmps8
  go_wp2_with fail
  refine (new_mk 4 1 4 1 rfl rfl _ (by omega) (by omega) (by omega) (by omega)).mono ?_
  rintro e w1 ⟨b, rfl, hM, hF, hown⟩
  have HM := hid hM
  have HF := hid hF
  have HO := hid hown
  clear hM hF hown
  go_wp2_with fail
  refine (ow_new w0 b 4 2 1 1 _ rfl (by omega) (by omega) HM.out HF.out HO.out).mono ?_
  rintro e w2 ⟨tb, rfl, h⟩
  have HT := hid (show OwnT w0 w2 b tb nl0 from h)
  clear h HM HF HO
  go_wp2_with fail
  refine (new_tree_nil _ x).mono ?_
  rintro e w3 ⟨rfl, hF⟩
  have HTn := hid (HT.out.same hF)
  have HT := HTn
  clear hF HTn
  have HE0 := hid (fun W (h : OwnT w0 W b tb nl0) => ferr_nil W (.pointer (some ⟨b.m, 0, none⟩)) y)
  have HE1 := hid (fun W (h : OwnT w0 W b tb nl0) => ferr_nom W tb y)
  have HE2 := hid (fun W (h : OwnT w0 W b tb nl0) => h.none HYB.out)
  have HLK := hid (show ∀ W, OwnT w0 W b tb nl0 → Calls Try.prog 32 #[.pointer (some ⟨tb, 0, none⟩), .int .i64 y] W fun e w' => e = .returned (.tuple #[.pointer none, .int .i64 17]) ∧ Fr (fun _ => False) W w' from fun W h => by
    obtain ⟨O, h1, _⟩ := h
    exact look_no W y HYB.out h1)
  go_wp2_with fail
  go_loopg [14] 4 (fun d z wr => NlRel w0 b tb d z wr)
  case atStart => exact ⟨0, by omega, by omega, rfl, HT.out⟩
  case round =>
    clear HT
    obtain ⟨i, hi, rfl, rfl, hT⟩ := hrel
    have HT := hid hT
    clear hT
    obtain rfl | rfl | rfl | rfl : i = 0 ∨ i = 1 ∨ i = 2 ∨ i = 3 := by omega
    · go_wp2_with fail
      refine (open_err _ _ x y _ _ (HE0.out _ HT.out)).mono ?_
      rintro e w4 ⟨rfl, hF⟩
      have HTn := hid (HT.out.same hF)
      have HT := HTn
      clear hF HTn
      go_wp2_with fail
      refine (leave_err _ _ x y _ _ (HE0.out _ HT.out)).mono ?_
      rintro e w5 ⟨rfl, hF⟩
      have HTn := hid (HT.out.same hF)
      have HT := HTn
      clear hF HTn
      go_wp2_with fail
      refine (live_err _ _ x y _ _ (HE0.out _ HT.out)).mono ?_
      rintro e w6 ⟨rfl, hF⟩
      have HTn := hid (HT.out.same hF)
      have HT := HTn
      clear hF HTn
      go_wp2_with fail
      refine (ask_err _ _ x y _ _ (HE0.out _ HT.out)).mono ?_
      rintro e w7 ⟨rfl, hF⟩
      have HTn := hid (HT.out.same hF)
      have HT := HTn
      clear hF HTn
      go_wp2_with fail
      refine (asked_err _ _ x y _ _ (HE0.out _ HT.out)).mono ?_
      rintro e w8 ⟨rfl, hF⟩
      have HTn := hid (HT.out.same hF)
      have HT := HTn
      clear hF HTn
      go_wp2_with fail
      refine (peek_err _ _ y _ _ (HE0.out _ HT.out)).mono ?_
      rintro e w9 ⟨rfl, hF⟩
      have HTn := hid (HT.out.same hF)
      have HT := HTn
      clear hF HTn
      go_wp2_with fail
      refine (enter_err _ _ x y _ _ (HE0.out _ HT.out)).mono ?_
      rintro e w10 ⟨rfl, hF⟩
      have HTn := hid (HT.out.same hF)
      have HT := HTn
      clear hF HTn
      go_wp2_with fail
      go_roundg 3
      case rel => exact ⟨1, by omega, by omega, rfl, HT.out⟩
      case measure => omega
    · go_wp2_with fail
      refine (open_err _ _ x y _ _ (HE1.out _ HT.out)).mono ?_
      rintro e w11 ⟨rfl, hF⟩
      have HTn := hid (HT.out.same hF)
      have HT := HTn
      clear hF HTn
      go_wp2_with fail
      refine (leave_err _ _ x y _ _ (HE1.out _ HT.out)).mono ?_
      rintro e w12 ⟨rfl, hF⟩
      have HTn := hid (HT.out.same hF)
      have HT := HTn
      clear hF HTn
      go_wp2_with fail
      refine (live_err _ _ x y _ _ (HE1.out _ HT.out)).mono ?_
      rintro e w13 ⟨rfl, hF⟩
      have HTn := hid (HT.out.same hF)
      have HT := HTn
      clear hF HTn
      go_wp2_with fail
      refine (ask_err _ _ x y _ _ (HE1.out _ HT.out)).mono ?_
      rintro e w14 ⟨rfl, hF⟩
      have HTn := hid (HT.out.same hF)
      have HT := HTn
      clear hF HTn
      go_wp2_with fail
      refine (asked_err _ _ x y _ _ (HE1.out _ HT.out)).mono ?_
      rintro e w15 ⟨rfl, hF⟩
      have HTn := hid (HT.out.same hF)
      have HT := HTn
      clear hF HTn
      go_wp2_with fail
      refine (peek_err _ _ y _ _ (HE1.out _ HT.out)).mono ?_
      rintro e w16 ⟨rfl, hF⟩
      have HTn := hid (HT.out.same hF)
      have HT := HTn
      clear hF HTn
      go_wp2_with fail
      refine (enter_err _ _ x y _ _ (HE1.out _ HT.out)).mono ?_
      rintro e w17 ⟨rfl, hF⟩
      have HTn := hid (HT.out.same hF)
      have HT := HTn
      clear hF HTn
      go_wp2_with fail
      go_roundg 2
      case rel => exact ⟨2, by omega, by omega, rfl, HT.out⟩
      case measure => omega
    · go_wp2_with fail
      refine (open_err _ _ x y _ _ (HE2.out _ HT.out)).mono ?_
      rintro e w18 ⟨rfl, hF⟩
      have HTn := hid (HT.out.same hF)
      have HT := HTn
      clear hF HTn
      go_wp2_with fail
      refine (leave_err _ _ x y _ _ (HE2.out _ HT.out)).mono ?_
      rintro e w19 ⟨rfl, hF⟩
      have HTn := hid (HT.out.same hF)
      have HT := HTn
      clear hF HTn
      go_wp2_with fail
      refine (live_err _ _ x y _ _ (HE2.out _ HT.out)).mono ?_
      rintro e w20 ⟨rfl, hF⟩
      have HTn := hid (HT.out.same hF)
      have HT := HTn
      clear hF HTn
      go_wp2_with fail
      refine (ask_err _ _ x y _ _ (HE2.out _ HT.out)).mono ?_
      rintro e w21 ⟨rfl, hF⟩
      have HTn := hid (HT.out.same hF)
      have HT := HTn
      clear hF HTn
      go_wp2_with fail
      refine (asked_err _ _ x y _ _ (HE2.out _ HT.out)).mono ?_
      rintro e w22 ⟨rfl, hF⟩
      have HTn := hid (HT.out.same hF)
      have HT := HTn
      clear hF HTn
      go_wp2_with fail
      refine (peek_err _ _ y _ _ (HE2.out _ HT.out)).mono ?_
      rintro e w23 ⟨rfl, hF⟩
      have HTn := hid (HT.out.same hF)
      have HT := HTn
      clear hF HTn
      go_wp2_with fail
      refine (enter_err _ _ x y _ _ (HE2.out _ HT.out)).mono ?_
      rintro e w24 ⟨rfl, hF⟩
      have HTn := hid (HT.out.same hF)
      have HT := HTn
      clear hF HTn
      go_wp2_with fail
      go_roundg 1
      case rel => exact ⟨3, by omega, by omega, rfl, HT.out⟩
      case measure => omega
    · go_wp2_with fail
      refine (len_nil _).mono ?_
      rintro e w' ⟨rfl, rfl⟩
      go_wp2_with fail
      refine (parent_nil _ y).mono ?_
      rintro e w25 ⟨rfl, hF⟩
      have HTn := hid (HT.out.same hF)
      have HT := HTn
      clear hF HTn
      go_wp2_with fail
      refine (nest_nil _ y).mono ?_
      rintro e w26 ⟨rfl, hF⟩
      have HTn := hid (HT.out.same hF)
      have HT := HTn
      clear hF HTn
      go_wp2_with fail
      refine (inside_nil _ y y).mono ?_
      rintro e w27 ⟨rfl, hF⟩
      have HTn := hid (HT.out.same hF)
      have HT := HTn
      clear hF HTn
      go_wp2_with fail
      refine (look_nil _ y).mono ?_
      rintro e w' ⟨rfl, rfl⟩
      go_wp2_with fail
      refine (HLK.out _ HT.out).mono ?_
      rintro e w28 ⟨rfl, hF⟩
      have HTn := hid (HT.out.same hF)
      have HT := HTn
      clear hF HTn
      go_wp2_with fail
      refine (lstep_nil _ _ x).mono ?_
      rintro e w' ⟨rfl, rfl⟩
      go_wp2_with fail
      refine (ow_used _ 2 rfl HT.out).mono ?_
      rintro e w' ⟨rfl, rfl⟩
      go_wp2_with fail
      refine (ow_steps _ 0 0 0 rfl (by decide) (by decide) HT.out).mono ?_
      rintro e w' ⟨rfl, rfl⟩
      go_wp2_with fail
      refine (ow_steps _ 1 1 1 rfl (by decide) (by decide +kernel) HT.out).mono ?_
      rintro e w' ⟨rfl, rfl⟩
      go_wp2_with fail
      refine (awake_ok _).mono ?_
      rintro e w29 ⟨rfl, hF⟩
      have HF := hid (HT.out.fr.trans hF)
      clear hF
      go_wp2_with fail
      go_ret
      exact ⟨rfl, HF.out.below (Nat.le_refl _) (fun _ h => h.elim)⟩


theorem nilLaw (x y : Int) (w0 : World) :
    Calls Try.prog 8 #[.int .i64 x, .int .i64 y] w0 fun e w' => e = .returned (.bool true) ∧ Below w0.heap.size w0 w' := by
  by_cases hy : y = 0
  · subst hy
    exact nil_zero x w0
  · exact nil_else x y hy w0
end Go.Proofs.Ytoajdknhllaoeaa
