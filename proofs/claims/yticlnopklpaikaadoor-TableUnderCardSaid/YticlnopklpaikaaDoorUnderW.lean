/-
  Stage 7: TableUnder, the walk.
-/
import Derived.Test.YticlnopklpaikaaDoorLawM
import Derived.Test.YticlnopklpaikaaDoorRUnder
namespace Go.Proofs.YticlnopklpaikaaDoor
open Go.RowKit
set_option linter.unusedVariables false

set_option maxRecDepth 100000 in
set_option maxHeartbeats 4000000 in
theorem under_law (A : Option Addr) (n c : Nat) (l : List Tw) (i : Int) (W : World) (hT : Tabs W) (ho : Opn W A n c l) :
    Calls Tryd.prog 4 #[.slice A n c, .int .i64 i] W (LawPost W) := by
  have HAW := hid (fun W' (h : Fr (fun _ => False) W W') => awake_ok W' (hT.same h))
  have HFW := hid (few_any A n c l W ho.rd ho.len (by have := ho.nc; have := ho.cb; omega) ho.cls)
  have HO := hid ho
  clear hT ho
  go_enter Tryd.func4, Tryd.ntmps4
  go_wp2_with fail
  refine HFW.out.mono ?_
  rintro e w1 ⟨b, rfl, hb, rfl⟩
  cases b with
  | false =>
    go_wp2_with fail
    refine (HAW.out _ (Fr.refl _ _)).mono ?_
    rintro e w2 ⟨rfl, hF⟩
    go_wp2_with fail
    go_ret
    exact ⟨rfl, hF⟩
  | true =>
    have hfew := hb rfl
    have h60 := HO.out.n60 hfew
    have HCK := hid (fun W' (h : Fr (fun _ => False) W W') => rcheck_any A n c l W' (HO.out.rd.same h) HO.out.len (by omega) hfew.t)
    have HUN := hid (under_any A n c l i W HO.out.rd HO.out.len (by omega) HO.out.nc HO.out.cb hfew.t)
    have HRU := hid (fun W' (z : Nat) (h : Fr (fun _ => False) W W') (hz : z < n) (hs : Nest l) => runder_any A n c z l W' (HO.out.rd.same h) HO.out.len (by omega) hz hs)
    have HLN := hid HO.out.len
    obtain ⟨x, hx⟩ : ∃ x, chk l = x := ⟨_, rfl⟩
    unfold CkPost at HCK
    rw [hx] at HCK
    have HX := hid hx
    clear hb hfew
    go_wp2_with fail
    refine HUN.out.mono ?_
    rintro e w1 ⟨hF1, hcs⟩
    rw [hx, HLN.out] at hcs
    clear hx
    rcases hcs with ⟨h0, rfl⟩ | ⟨h0, h1, rfl⟩ | ⟨h0, h1, A', n', cap, hn', rfl, hO⟩
    · have t1 : (x != 0) = true := by simpa using h0
      have t2 : (x == x) = true := by simp
      have t3 : (x == 0) = false := by simpa using h0
      go_wp2_with fail
      refine (HCK.out _ hF1).mono ?_
      rintro e w2 ⟨rfl, hF2⟩
      go_wp2_with fail
      refine (HAW.out _ (hF1.trans hF2)).mono ?_
      rintro e w3 ⟨rfl, hF⟩
      go_wp2_with fail
      go_ret
      exact ⟨rfl, (hF1.trans hF2).trans hF⟩
    · subst h0
      go_wp2_with fail
      refine (HCK.out _ hF1).mono ?_
      rintro e w2 ⟨rfl, hF2⟩
      by_cases hi : i < 0
      · go_wp2_with fail
        refine (HAW.out _ (hF1.trans hF2)).mono ?_
        rintro e w3 ⟨rfl, hF⟩
        go_wp2_with fail
        go_ret
        exact ⟨rfl, (hF1.trans hF2).trans hF⟩
      · have hi2 : (n : Int) ≤ i := by omega
        go_wp2_with fail
        refine (HAW.out _ (hF1.trans hF2)).mono ?_
        rintro e w3 ⟨rfl, hF⟩
        go_wp2_with fail
        go_ret
        exact ⟨rfl, (hF1.trans hF2).trans hF⟩
    · subst h0
      obtain ⟨z, rfl⟩ : ∃ z : Nat, i = z := ⟨i.toNat, by omega⟩
      rw [Int.toNat_natCast] at hn' hO
      have hz : z < n := by omega
      have hi1 : ¬ (z : Int) < 0 := by omega
      have hi2 : ¬ (n : Int) ≤ z := by omega
      have HNS := hid (nest_of_chk HX.out)
      have hul : n' ≤ 60 := by
        have h2 := undD_len l z (l.length - z)
        have h3 : (und l z).length ≤ l.length - z := h2
        have := HLN.out
        omega
      have HN' := hid hn'
      have HO1 := hid hO
      clear hn' hO
      go_wp2_with fail
      refine (HCK.out _ hF1).mono ?_
      rintro e w2 ⟨rfl, hF2⟩
      have HF2 := hid (hF1.trans hF2)
      have HO2 := hid (HO1.out.same hF2)
      clear hF1 hF2
      go_wp2_with fail
      refine (HRU.out _ z HF2.out hz HNS.out).mono ?_
      rintro e w3 ⟨hF3, A2, n2, c2, hn2, rfl, hO3⟩
      obtain rfl : n2 = n' := by rw [← hn2, HN'.out]
      have HRW := hid (rows_any A' A2 n2 cap n2 c2 (und l z) (und l z) w3 (HO2.out.same hF3).rdT hO3.rdT hn2 hn2 (by omega) (by omega))
      rw [dec_self] at HRW
      have HF3 := hid (HF2.out.trans hF3)
      clear hF3 hn2 hO3
      go_wp2_with fail
      refine HRW.out.mono ?_
      rintro e w4 ⟨rfl, hF4⟩
      go_wp2_with fail
      refine (HAW.out _ (HF3.out.trans hF4)).mono ?_
      rintro e w5 ⟨rfl, hF⟩
      go_wp2_with fail
      go_ret
      exact ⟨rfl, (HF3.out.trans hF4).trans hF⟩

end Go.Proofs.YticlnopklpaikaaDoor
