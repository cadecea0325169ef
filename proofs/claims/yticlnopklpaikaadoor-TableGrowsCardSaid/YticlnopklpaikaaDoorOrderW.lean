/-
  Stage 7: TableOrder, the walk.
-/
import Derived.Test.YticlnopklpaikaaDoorLawM
import Derived.Test.YticlnopklpaikaaDoorDone
namespace Go.Proofs.YticlnopklpaikaaDoor
open Go.RowKit
set_option linter.unusedVariables false

noncomputable def gb (l m : List Tw) : Bool := @decide (Grows l m) (Classical.propDecidable _)
theorem gb_iff {l m : List Tw} : gb l m = true ↔ Grows l m := @decide_eq_true_iff _ (Classical.propDecidable _)
theorem gb_self (l : List Tw) : gb l l = (chk l == 0) := by
  rw [Bool.eq_iff_iff, gb_iff, beq_iff_eq]
  exact ⟨fun h => h.1, Grows.refl⟩

theorem grown_is {A B : Option Addr} {n c m c' : Nat} {l mm : List Tw} {W : World} (W' : World) (h : Fr (fun _ => False) W W') (ho : Opn W A n c l) (ho' : Opn W B m c' mm) (hf : fewB l) (hf' : fewB mm) :
    Calls Tryd.prog 24 #[.slice A n c, .slice B m c'] W' (fun e w' => e = .returned (.bool (gb l mm)) ∧ Fr (fun _ => False) W' w') :=
  (grown_any A B n c m c' l mm W' (ho.rd.same h) (ho'.rd.same h) ho.len ho'.len (by have := ho.n60 hf; omega) (by have := ho'.n60 hf'; omega) ho.nc ho'.nc hf.t hf'.t).mono fun e w' ⟨b, he, hb, hF⟩ =>
    ⟨by rw [he, show b = gb l mm by rw [Bool.eq_iff_iff, hb, gb_iff]], hF⟩

theorem done_all {l : List Tw} (h : doneB l = true) : ∀ (i : Nat) (r : Tw), l[i]? = some r → 2 ≤ r.kind := fun i r hr => by
  unfold doneB at h
  rw [List.all_eq_true] at h
  have := h r (List.mem_of_getElem? hr)
  unfold cameB at this
  exact of_decide_eq_true this

set_option maxRecDepth 100000 in
set_option maxHeartbeats 8000000 in
theorem order_law (A : Option Addr) (n c : Nat) (l : List Tw) (B : Option Addr) (m c' : Nat) (mm : List Tw) (C : Option Addr) (k c2 : Nat) (kk : List Tw) (W : World) (hT : Tabs W) (ho : Opn W A n c l) (ho' : Opn W B m c' mm) (ho2 : Opn W C k c2 kk) :
    Calls Tryd.prog 8 #[.slice A n c, .slice B m c', .slice C k c2] W (LawPost W) := by
  have HAW := hid (fun W' (h : Fr (fun _ => False) W W') => awake_ok W' (hT.same h))
  have HW0 := hid (few_any A n c l W ho.rd ho.len (by have := ho.nc; have := ho.cb; omega) ho.cls)
  have HW1 := hid (few_any B m c' mm W ho'.rd ho'.len (by have := ho'.nc; have := ho'.cb; omega) ho'.cls)
  have HW2 := hid (few_any C k c2 kk W ho2.rd ho2.len (by have := ho2.nc; have := ho2.cb; omega) ho2.cls)
  have HO := hid ho
  have HO1 := hid ho'
  have HO2 := hid ho2
  have HF := hid (Fr.refl (fun _ => False) W)
  clear hT ho ho' ho2
  unfold LawPost at HAW
  go_enter Tryd.func8, Tryd.ntmps8
  go_wp2_with fail
  refine HW0.out.mono ?_
  rintro e w1 ⟨b, rfl, hb, rfl⟩
  have HQ0 := hid hb
  clear hb
  cases b with
  | false =>
    go_wp2_with fail
    refine (HAW.out _ HF.out).mono ?_
    rintro e w4 ⟨rfl, hF⟩
    have HF := hid (HF.out.trans hF)
    clear hF
    go_wp2_with fail
    go_ret
    exact ⟨rfl, HF.out⟩
  | true =>
    have HE0 := hid (HQ0.out rfl)
    clear HQ0
    go_wp2_with fail
    refine HW1.out.mono ?_
    rintro e w1 ⟨b, rfl, hb, rfl⟩
    have HQ1 := hid hb
    clear hb
    cases b with
    | false =>
      go_wp2_with fail
      refine (HAW.out _ HF.out).mono ?_
      rintro e w5 ⟨rfl, hF⟩
      have HF := hid (HF.out.trans hF)
      clear hF
      go_wp2_with fail
      go_ret
      exact ⟨rfl, HF.out⟩
    | true =>
      have HE1 := hid (HQ1.out rfl)
      clear HQ1
      go_wp2_with fail
      refine HW2.out.mono ?_
      rintro e w1 ⟨b, rfl, hb, rfl⟩
      have HQ2 := hid hb
      clear hb
      cases b with
      | false =>
        go_wp2_with fail
        refine (HAW.out _ HF.out).mono ?_
        rintro e w6 ⟨rfl, hF⟩
        have HF := hid (HF.out.trans hF)
        clear hF
        go_wp2_with fail
        go_ret
        exact ⟨rfl, HF.out⟩
      | true =>
        have HE2 := hid (HQ2.out rfl)
        clear HQ2
        have HLL := hid (fun W' (h : Fr (fun _ => False) W W') => grown_is W' h HO.out HO.out HE0.out HE0.out)
        have HLM := hid (fun W' (h : Fr (fun _ => False) W W') => grown_is W' h HO.out HO1.out HE0.out HE1.out)
        have HMN := hid (fun W' (h : Fr (fun _ => False) W W') => grown_is W' h HO1.out HO2.out HE1.out HE2.out)
        have HLN := hid (fun W' (h : Fr (fun _ => False) W W') => grown_is W' h HO.out HO2.out HE0.out HE2.out)
        have HML := hid (fun W' (h : Fr (fun _ => False) W W') => grown_is W' h HO1.out HO.out HE1.out HE0.out)
        have HCK := hid (fun W' (h : Fr (fun _ => False) W W') => check_any A n c l W' (HO.out.rd.same h) HO.out.len (by have := HO.out.n60 HE0.out; omega) HO.out.nc HE0.out.t)
        have HDN := hid (fun W' (h : Fr (fun _ => False) W W') => done_any A n c l W' (HO.out.rd.same h) HO.out.len (by have := HO.out.n60 HE0.out; omega))
        have HRW := hid (fun W' (h : Fr (fun _ => False) W W') => rows_any A B n c m c' l mm W' (HO.out.rd.same h) (HO1.out.rd.same h) HO.out.len HO1.out.len (by have := HO.out.n60 HE0.out; omega) (by have := HO1.out.n60 HE1.out; omega))
        unfold CkPost at HCK
        rw [gb_self] at HLL
        obtain ⟨x, hx⟩ : ∃ x, chk l = x := ⟨_, rfl⟩
        rw [hx] at HLL HCK
        obtain ⟨y, hy⟩ : ∃ y, (x == 0) = y := ⟨_, rfl⟩
        rw [hy] at HLL
        have t2 : (y != y) = false := by simp
        obtain ⟨xlm, hlm⟩ : ∃ b, gb l mm = b := ⟨_, rfl⟩
        obtain ⟨xmn, hmn⟩ : ∃ b, gb mm kk = b := ⟨_, rfl⟩
        obtain ⟨xln, hln⟩ : ∃ b, gb l kk = b := ⟨_, rfl⟩
        obtain ⟨xml, hml⟩ : ∃ b, gb mm l = b := ⟨_, rfl⟩
        obtain ⟨d, hd⟩ : ∃ b, doneB l = b := ⟨_, rfl⟩
        obtain ⟨xr, hr⟩ : ∃ b, decide (l = mm) = b := ⟨_, rfl⟩
        rw [hlm] at HLM
        rw [hmn] at HMN
        rw [hln] at HLN
        rw [hml] at HML
        rw [hd] at HDN
        rw [hr] at HRW
        have HTX := hid (show xlm = true → xmn = true → xln = true from fun h1 h2 => by
          rw [← hln, gb_iff]
          exact Grows.trans (gb_iff.1 (hlm.trans h1)) (gb_iff.1 (hmn.trans h2)))
        have HAX := hid (show xlm = true → xml = true → l = mm from fun h1 h2 => Grows.anti (gb_iff.1 (hlm.trans h1)) (gb_iff.1 (hml.trans h2)))
        have HDX := hid (show xlm = true → d = true → l = mm from fun h1 h2 => Grows.done (gb_iff.1 (hlm.trans h1)) (done_all (hd.trans h2)))
        have HRX := hid (show l = mm → xr = true from fun h => by rw [← hr]; exact decide_eq_true h)
        clear hx hlm hmn hln hml hd hr HW0 HW1 HW2 HE0 HE1 HE2 HO HO1 HO2
        go_wp2_with fail
        refine (HLL.out _ HF.out).mono ?_
        rintro e w7 ⟨rfl, hF⟩
        have HF := hid (HF.out.trans hF)
        clear hF
        go_wp2_with fail
        refine (HCK.out _ HF.out).mono ?_
        rintro e w8 ⟨rfl, hF⟩
        have HF := hid (HF.out.trans hF)
        clear hF
        go_wp2_with fail
        refine (HLM.out _ HF.out).mono ?_
        rintro e w9 ⟨rfl, hF⟩
        have HF := hid (HF.out.trans hF)
        clear hF
        cases xlm with
        | false =>
          go_wp2_with fail
          refine (HLM.out _ HF.out).mono ?_
          rintro e w10 ⟨rfl, hF⟩
          have HF := hid (HF.out.trans hF)
          clear hF
          go_wp2_with fail
          refine (HLM.out _ HF.out).mono ?_
          rintro e w11 ⟨rfl, hF⟩
          have HF := hid (HF.out.trans hF)
          clear hF
          go_wp2_with fail
          refine (HAW.out _ HF.out).mono ?_
          rintro e w12 ⟨rfl, hF⟩
          have HF := hid (HF.out.trans hF)
          clear hF
          go_wp2_with fail
          go_ret
          exact ⟨rfl, HF.out⟩
        | true =>
          go_wp2_with fail
          refine (HMN.out _ HF.out).mono ?_
          rintro e w13 ⟨rfl, hF⟩
          have HF := hid (HF.out.trans hF)
          clear hF
          cases xmn with
          | false =>
            go_wp2_with fail
            refine (HLM.out _ HF.out).mono ?_
            rintro e w14 ⟨rfl, hF⟩
            have HF := hid (HF.out.trans hF)
            clear hF
            go_wp2_with fail
            refine (HML.out _ HF.out).mono ?_
            rintro e w15 ⟨rfl, hF⟩
            have HF := hid (HF.out.trans hF)
            clear hF
            cases xml with
            | false =>
              go_wp2_with fail
              refine (HLM.out _ HF.out).mono ?_
              rintro e w16 ⟨rfl, hF⟩
              have HF := hid (HF.out.trans hF)
              clear hF
              go_wp2_with fail
              refine (HDN.out _ HF.out).mono ?_
              rintro e w17 ⟨rfl, hF⟩
              have HF := hid (HF.out.trans hF)
              clear hF
              cases d with
              | false =>
                go_wp2_with fail
                refine (HAW.out _ HF.out).mono ?_
                rintro e w18 ⟨rfl, hF⟩
                have HF := hid (HF.out.trans hF)
                clear hF
                go_wp2_with fail
                go_ret
                exact ⟨rfl, HF.out⟩
              | true =>
                obtain rfl : xr = true := HRX.out (HDX.out (by simp) (by simp))
                go_wp2_with fail
                refine (HRW.out _ HF.out).mono ?_
                rintro e w19 ⟨rfl, hF⟩
                have HF := hid (HF.out.trans hF)
                clear hF
                go_wp2_with fail
                refine (HAW.out _ HF.out).mono ?_
                rintro e w20 ⟨rfl, hF⟩
                have HF := hid (HF.out.trans hF)
                clear hF
                go_wp2_with fail
                go_ret
                exact ⟨rfl, HF.out⟩
            | true =>
              obtain rfl : xr = true := HRX.out (HAX.out (by simp) (by simp))
              go_wp2_with fail
              refine (HRW.out _ HF.out).mono ?_
              rintro e w21 ⟨rfl, hF⟩
              have HF := hid (HF.out.trans hF)
              clear hF
              go_wp2_with fail
              refine (HLM.out _ HF.out).mono ?_
              rintro e w22 ⟨rfl, hF⟩
              have HF := hid (HF.out.trans hF)
              clear hF
              go_wp2_with fail
              refine (HDN.out _ HF.out).mono ?_
              rintro e w23 ⟨rfl, hF⟩
              have HF := hid (HF.out.trans hF)
              clear hF
              cases d with
              | false =>
                go_wp2_with fail
                refine (HAW.out _ HF.out).mono ?_
                rintro e w24 ⟨rfl, hF⟩
                have HF := hid (HF.out.trans hF)
                clear hF
                go_wp2_with fail
                go_ret
                exact ⟨rfl, HF.out⟩
              | true =>
                go_wp2_with fail
                refine (HRW.out _ HF.out).mono ?_
                rintro e w25 ⟨rfl, hF⟩
                have HF := hid (HF.out.trans hF)
                clear hF
                go_wp2_with fail
                refine (HAW.out _ HF.out).mono ?_
                rintro e w26 ⟨rfl, hF⟩
                have HF := hid (HF.out.trans hF)
                clear hF
                go_wp2_with fail
                go_ret
                exact ⟨rfl, HF.out⟩
          | true =>
            obtain rfl : xln = true := HTX.out (by simp) (by simp)
            go_wp2_with fail
            refine (HLN.out _ HF.out).mono ?_
            rintro e w27 ⟨rfl, hF⟩
            have HF := hid (HF.out.trans hF)
            clear hF
            go_wp2_with fail
            refine (HLM.out _ HF.out).mono ?_
            rintro e w28 ⟨rfl, hF⟩
            have HF := hid (HF.out.trans hF)
            clear hF
            go_wp2_with fail
            refine (HML.out _ HF.out).mono ?_
            rintro e w29 ⟨rfl, hF⟩
            have HF := hid (HF.out.trans hF)
            clear hF
            cases xml with
            | false =>
              go_wp2_with fail
              refine (HLM.out _ HF.out).mono ?_
              rintro e w30 ⟨rfl, hF⟩
              have HF := hid (HF.out.trans hF)
              clear hF
              go_wp2_with fail
              refine (HDN.out _ HF.out).mono ?_
              rintro e w31 ⟨rfl, hF⟩
              have HF := hid (HF.out.trans hF)
              clear hF
              cases d with
              | false =>
                go_wp2_with fail
                refine (HAW.out _ HF.out).mono ?_
                rintro e w32 ⟨rfl, hF⟩
                have HF := hid (HF.out.trans hF)
                clear hF
                go_wp2_with fail
                go_ret
                exact ⟨rfl, HF.out⟩
              | true =>
                obtain rfl : xr = true := HRX.out (HDX.out (by simp) (by simp))
                go_wp2_with fail
                refine (HRW.out _ HF.out).mono ?_
                rintro e w33 ⟨rfl, hF⟩
                have HF := hid (HF.out.trans hF)
                clear hF
                go_wp2_with fail
                refine (HAW.out _ HF.out).mono ?_
                rintro e w34 ⟨rfl, hF⟩
                have HF := hid (HF.out.trans hF)
                clear hF
                go_wp2_with fail
                go_ret
                exact ⟨rfl, HF.out⟩
            | true =>
              obtain rfl : xr = true := HRX.out (HAX.out (by simp) (by simp))
              go_wp2_with fail
              refine (HRW.out _ HF.out).mono ?_
              rintro e w35 ⟨rfl, hF⟩
              have HF := hid (HF.out.trans hF)
              clear hF
              go_wp2_with fail
              refine (HLM.out _ HF.out).mono ?_
              rintro e w36 ⟨rfl, hF⟩
              have HF := hid (HF.out.trans hF)
              clear hF
              go_wp2_with fail
              refine (HDN.out _ HF.out).mono ?_
              rintro e w37 ⟨rfl, hF⟩
              have HF := hid (HF.out.trans hF)
              clear hF
              cases d with
              | false =>
                go_wp2_with fail
                refine (HAW.out _ HF.out).mono ?_
                rintro e w38 ⟨rfl, hF⟩
                have HF := hid (HF.out.trans hF)
                clear hF
                go_wp2_with fail
                go_ret
                exact ⟨rfl, HF.out⟩
              | true =>
                go_wp2_with fail
                refine (HRW.out _ HF.out).mono ?_
                rintro e w39 ⟨rfl, hF⟩
                have HF := hid (HF.out.trans hF)
                clear hF
                go_wp2_with fail
                refine (HAW.out _ HF.out).mono ?_
                rintro e w40 ⟨rfl, hF⟩
                have HF := hid (HF.out.trans hF)
                clear hF
                go_wp2_with fail
                go_ret
                exact ⟨rfl, HF.out⟩

end Go.Proofs.YticlnopklpaikaaDoor
