/-
  Stage 7: TablePrints, the walk.
-/
import Derived.Test.YticlnopklpaikaaDoorLawM
import Derived.Test.YticlnopklpaikaaDoorRPrint
namespace Go.Proofs.YticlnopklpaikaaDoor
open Go.RowKit
set_option linter.unusedVariables false

set_option maxRecDepth 100000 in
set_option maxHeartbeats 4000000 in
theorem print_law (A : Option Addr) (n c : Nat) (l : List Tw) (W : World) (hT : Tabs W) (ho : Opn W A n c l) :
    Calls Tryd.prog 6 #[.slice A n c] W (LawPost W) := by
  have HAW := hid (fun W' (h : Fr (fun _ => False) W W') => awake_ok W' (hT.same h))
  have HFW := hid (few_any A n c l W ho.rd ho.len (by have := ho.nc; have := ho.cb; omega) ho.cls)
  have HO := hid ho
  have HT := hid hT
  clear hT ho
  unfold LawPost at HAW
  go_enter Tryd.func6, Tryd.ntmps6
  go_wp2_with fail
  refine HFW.out.mono ?_
  rintro e w1 ⟨b, rfl, hb, rfl⟩
  cases b with
  | false =>
    go_wp2_with fail
    refine (HAW.out _ (Fr.refl _ _)).mono ?_
    rintro e w2 ⟨rfl, hF⟩
    go_wp2_with fail
    go_ret
    exact ⟨rfl, hF⟩
  | true =>
    have hfew := hb rfl
    have h60 := HO.out.n60 hfew
    have HP1 := hid (print_any A n c l W HT.out HO.out.rd HO.out.len (by omega) HO.out.nc (fun _ => HO.out.fits hfew) hfew.t)
    have HP2 := hid (fun W' (h : Fr (fun _ => False) W W') => rprint_any A n c l W' (HO.out.rd.same h) HO.out.len (by omega) (fun _ => HO.out.fits hfew) hfew.t)
    unfold PrPost at HP1 HP2
    obtain ⟨x, hx⟩ : ∃ x, chk l = x := ⟨_, rfl⟩
    obtain ⟨s, hs⟩ : ∃ x, bs (prV l) = x := ⟨_, rfl⟩
    rw [hx, hs] at HP1 HP2
    have t1 : (x == x) = true := by simp
    have t2 : (s.toList == s.toList) = true := by simp
    clear hx hs hb hfew
    go_wp2_with fail
    refine HP1.out.mono ?_
    rintro e w2 ⟨rfl, hF2⟩
    go_wp2_with fail
    refine (HP2.out _ hF2).mono ?_
    rintro e w3 ⟨rfl, hF3⟩
    go_wp2_with fail
    refine (HAW.out _ (hF2.trans hF3)).mono ?_
    rintro e w4 ⟨rfl, hF⟩
    go_wp2_with fail
    go_ret
    exact ⟨rfl, (hF2.trans hF3).trans hF⟩

end Go.Proofs.YticlnopklpaikaaDoor
