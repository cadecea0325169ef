/-
  Stage 7: TableKids, the walk.
-/
import Derived.Test.YticlnopklpaikaaDoorLawM
import Derived.Test.YticlnopklpaikaaDoorKidsP
namespace Go.Proofs.YticlnopklpaikaaDoor
open Go.RowKit
set_option linter.unusedVariables false

set_option maxRecDepth 100000 in
set_option maxHeartbeats 4000000 in
theorem kids_law (A : Option Addr) (n c : Nat) (l : List Tw) (i t : Int) (W : World) (hT : Tabs W) (ho : Opn W A n c l) :
    Calls Tryd.prog 3 #[.slice A n c, .int .i64 i, .int .i64 t] W (LawPost W) := by
  have HAW := hid (fun W' (h : Fr (fun _ => False) W W') => awake_ok W' (hT.same h))
  have HFW := hid (few_any A n c l W ho.rd ho.len (by have := ho.nc; have := ho.cb; omega) ho.cls)
  have HO := hid ho
  clear hT ho
  go_enter Tryd.func3, Tryd.ntmps3
  go_wp2_with fail
  refine HFW.out.mono ?_
  rintro e w1 ⟨b, rfl, hb, rfl⟩
  cases b with
  | false =>
    go_wp2_with fail
    refine (HAW.out _ (Fr.refl _ _)).mono ?_
    rintro e w2 ⟨rfl, hF⟩
    go_wp2_with fail
    go_ret
    exact ⟨rfl, hF⟩
  | true =>
    have hfew := hb rfl
    have h60 := HO.out.n60 hfew
    have HCK := hid (rcheck_any A n c l W HO.out.rd HO.out.len (by omega) hfew.t)
    have HK1 := hid (fun W' (h : Fr (fun _ => False) W W') => kids_any A n c l i W' (HO.out.rd.same h) HO.out.len (by omega))
    have HK2 := hid (fun W' (h : Fr (fun _ => False) W W') => rkids_any A n c l i W' (HO.out.rd.same h) HO.out.len (by omega))
    have HW1 := hid (fun W' (h : Fr (fun _ => False) W W') => within_any A n c l i t W' (HO.out.rd.same h) HO.out.len (by omega))
    have HW2 := hid (fun W' (h : Fr (fun _ => False) W W') => rwithin_any A n c l i t W' (HO.out.rd.same h) HO.out.len (by omega))
    have HLN := hid HO.out.len
    obtain ⟨x, hx⟩ : ∃ x, chk l = x := ⟨_, rfl⟩
    unfold CkPost at HCK
    rw [hx] at HCK
    have HX := hid hx
    clear hx hb hfew
    go_wp2_with fail
    refine HCK.out.mono ?_
    rintro e w1 ⟨rfl, hF1⟩
    by_cases hx0 : x = 0
    · have t1 : (x != 0) = false := by simp [hx0]
      have htb := tabl_of_chk (HX.out.trans hx0)
      have hwn := wth_next htb HLN.out i t
      rw [hwn] at HW2
      obtain ⟨bw, hbw⟩ : ∃ b, wth l t n i = b := ⟨_, rfl⟩
      rw [hbw] at HW1 HW2
      clear htb hwn hbw hx0
      have t2 : (bw == bw) = true := by simp
      go_wp2_with fail
      refine (HK1.out _ hF1).mono ?_
      rintro e w2 ⟨m, A1, c1, rfl, hm, hO1, hF2⟩
      have HM1 := hid hm
      clear hm
      go_wp2_with fail
      refine (HK2.out _ (hF1.trans hF2)).mono ?_
      rintro e w3 ⟨m2, A2, c2, rfl, hm2, hO2, hF3⟩
      obtain rfl : m2 = m := by rw [hm2, HM1.out]
      have hml := kidsN_len l i n
      have HIN := hid (ints_any A1 A2 m2 c1 c2 _ _ (kidsN l i n) w3 (by rw [hm2]; omega) (hO1.same hF3) hO2)
      clear hm2 hO1 hO2 hml
      go_wp2_with fail
      refine HIN.out.mono ?_
      rintro e w4 ⟨rfl, hF4⟩
      have HF4 := hid (((hF1.trans hF2).trans hF3).trans hF4)
      clear hF1 hF2 hF3 hF4
      go_wp2_with fail
      refine (HW1.out _ HF4.out).mono ?_
      rintro e w5 ⟨rfl, hF5⟩
      have HF5 := hid (HF4.out.trans hF5)
      clear hF5
      go_wp2_with fail
      refine (HW2.out _ HF5.out).mono ?_
      rintro e w6 ⟨rfl, hF6⟩
      have HF6 := hid (HF5.out.trans hF6)
      clear hF6
      go_wp2_with fail
      refine (HAW.out _ HF6.out).mono ?_
      rintro e w7 ⟨rfl, hF⟩
      go_wp2_with fail
      go_ret
      exact ⟨rfl, HF6.out.trans hF⟩
    · have t1 : (x != 0) = true := by simpa using hx0
      go_wp2_with fail
      refine (HAW.out _ hF1).mono ?_
      rintro e w2 ⟨rfl, hF⟩
      go_wp2_with fail
      go_ret
      exact ⟨rfl, hF1.trans hF⟩

end Go.Proofs.YticlnopklpaikaaDoor
