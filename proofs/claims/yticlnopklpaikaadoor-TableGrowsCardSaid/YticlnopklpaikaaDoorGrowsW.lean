/-
  Stage 7: TableGrows, the walk.
-/
import Derived.Test.YticlnopklpaikaaDoorOrderW
import Derived.Test.YticlnopklpaikaaDoorRGrown
namespace Go.Proofs.YticlnopklpaikaaDoor
open Go.RowKit
set_option linter.unusedVariables false

theorem rgrown_is {A B : Option Addr} {n c m c' : Nat} {l mm : List Tw} {W : World} (W' : World) (h : Fr (fun _ => False) W W') (ho : Opn W A n c l) (ho' : Opn W B m c' mm) (hf : fewB l) (hf' : fewB mm) :
    Calls Tryd.prog 25 #[.slice A n c, .slice B m c'] W' (fun e w' => e = .returned (.bool (gb l mm)) ∧ Fr (fun _ => False) W' w') :=
  (rgrown_any A B n c m c' l mm W' (ho.rd.same h) (ho'.rd.same h) ho.len ho'.len (by have := ho.n60 hf; omega) (by have := ho'.n60 hf'; omega) hf.t hf'.t).mono fun e w' ⟨b, he, hb, hF⟩ =>
    ⟨by rw [he, show b = gb l mm by rw [Bool.eq_iff_iff, hb, gb_iff]], hF⟩

set_option maxRecDepth 100000 in
set_option maxHeartbeats 8000000 in
theorem grows_law (A : Option Addr) (n c : Nat) (l : List Tw) (B : Option Addr) (m c' : Nat) (mm : List Tw) (W : World) (hT : Tabs W) (ho : Opn W A n c l) (ho' : Opn W B m c' mm) :
    Calls Tryd.prog 7 #[.slice A n c, .slice B m c'] W (LawPost W) := by
  have HAW := hid (fun W' (h : Fr (fun _ => False) W W') => awake_ok W' (hT.same h))
  have HW0 := hid (few_any A n c l W ho.rd ho.len (by have := ho.nc; have := ho.cb; omega) ho.cls)
  have HW1 := hid (few_any B m c' mm W ho'.rd ho'.len (by have := ho'.nc; have := ho'.cb; omega) ho'.cls)
  have HO := hid ho
  have HO1 := hid ho'
  have HF := hid (Fr.refl (fun _ => False) W)
  clear hT ho ho'
  unfold LawPost at HAW
  go_enter Tryd.func7, Tryd.ntmps7
  go_wp2_with fail
  refine HW0.out.mono ?_
  rintro e w1 ⟨b, rfl, hb, rfl⟩
  have HQ0 := hid hb
  clear hb
  cases b with
  | false =>
    go_wp2_with fail
    refine (HAW.out _ HF.out).mono ?_
    rintro e w4 ⟨rfl, hF⟩
    go_wp2_with fail
    go_ret
    exact ⟨rfl, hF⟩
  | true =>
    have HE0 := hid (HQ0.out rfl)
    clear HQ0
    go_wp2_with fail
    refine HW1.out.mono ?_
    rintro e w1 ⟨b, rfl, hb, rfl⟩
    have HQ1 := hid hb
    clear hb
    cases b with
    | false =>
      go_wp2_with fail
      refine (HAW.out _ HF.out).mono ?_
      rintro e w5 ⟨rfl, hF⟩
      go_wp2_with fail
      go_ret
      exact ⟨rfl, hF⟩
    | true =>
      have HE1 := hid (HQ1.out rfl)
      clear HQ1
      have HLM := hid (fun W' (h : Fr (fun _ => False) W W') => grown_is W' h HO.out HO1.out HE0.out HE1.out)
      have HML := hid (fun W' (h : Fr (fun _ => False) W W') => grown_is W' h HO1.out HO.out HE1.out HE0.out)
      have HRLM := hid (fun W' (h : Fr (fun _ => False) W W') => rgrown_is W' h HO.out HO1.out HE0.out HE1.out)
      have HRML := hid (fun W' (h : Fr (fun _ => False) W W') => rgrown_is W' h HO1.out HO.out HE1.out HE0.out)
      obtain ⟨x, hx⟩ : ∃ b, gb l mm = b := ⟨_, rfl⟩
      obtain ⟨y, hy⟩ : ∃ b, gb mm l = b := ⟨_, rfl⟩
      rw [hx] at HLM HRLM
      rw [hy] at HML HRML
      have t1 : (x == x) = true := by simp
      have t2 : (y == y) = true := by simp
      clear hx hy HW0 HW1 HE0 HE1 HO HO1
      go_wp2_with fail
      refine (HLM.out _ HF.out).mono ?_
      rintro e w6 ⟨rfl, hF⟩
      have HF := hid (HF.out.trans hF)
      clear hF
      go_wp2_with fail
      refine (HRLM.out _ HF.out).mono ?_
      rintro e w7 ⟨rfl, hF⟩
      have HF := hid (HF.out.trans hF)
      clear hF
      go_wp2_with fail
      refine (HML.out _ HF.out).mono ?_
      rintro e w8 ⟨rfl, hF⟩
      have HF := hid (HF.out.trans hF)
      clear hF
      go_wp2_with fail
      refine (HRML.out _ HF.out).mono ?_
      rintro e w9 ⟨rfl, hF⟩
      have HF := hid (HF.out.trans hF)
      clear hF
      go_wp2_with fail
      refine (HAW.out _ HF.out).mono ?_
      rintro e w10 ⟨rfl, hF⟩
      go_wp2_with fail
      go_ret
      exact ⟨rfl, HF.out.trans hF⟩

end Go.Proofs.YticlnopklpaikaaDoor
