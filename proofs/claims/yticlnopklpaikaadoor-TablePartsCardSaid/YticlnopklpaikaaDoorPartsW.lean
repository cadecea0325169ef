/-
  Stage 7: TableParts, the walk.
-/
import Derived.Test.YticlnopklpaikaaDoorLawM
import Derived.Test.YticlnopklpaikaaDoorDone
namespace Go.Proofs.YticlnopklpaikaaDoor
open Go.RowKit
set_option linter.unusedVariables false

theorem shr_kind (i j : Nat) (r : Tw) : (shr i j r).kind = r.kind := by unfold shr; split <;> rfl
theorem shr_cl (i j : Nat) (r : Tw) : (shr i j r).cl = r.cl := by unfold shr; split <;> rfl

/-- What is told of a part. -/
structure Prt (l : List Tw) (z n' : Nat) : Prop where
  len : (und l z).length = n'
  pos : 0 < n'
  le : z + n' ≤ l.length
  chk : chk (und l z) = 0
  done : doneB l = true → doneB (und l z) = true
  ins : ∀ j : Nat, j < l.length → wth l (z : Int) l.length (j : Int) = decide (z ≤ j ∧ j < z + n')
  part : ∀ k, k < n' → und (und l z) k = und l (z + k)
  few : FewT l → FewT (und l z)

theorem prt {l : List Tw} (hc : chk l = 0) {z : Nat} (hz : z < l.length) : ∃ n', Prt l z n' := by
  have hn := nest_of_chk hc
  obtain ⟨e, p⟩ := partOf hn hz
  have h1 := p.lt
  have h2 := p.le
  have h3 := p.len
  have hat : ∀ (i : Nat) r, (und l z)[i]? = some r → ∃ s, l[z + i]? = some s ∧ r = shr z (z + i) s := fun i r hr => by
    have hi := (List.getElem?_eq_some_iff.1 hr).1
    have h4 := p.at_ i (by omega)
    rw [hr] at h4
    obtain ⟨s, hs, h5⟩ := Option.map_eq_some_iff.1 h4.symm
    exact ⟨s, hs, h5.symm⟩
  refine ⟨e - z, h3, by omega, by omega, p.chk hc, fun hd => doneB_true fun i r hr => ?_, fun j hj => ?_, fun k hk => p.part hn (by omega), fun hf i r hr => ?_⟩
  · obtain ⟨s, hs, rfl⟩ := hat i r hr
    unfold doneB at hd
    rw [List.all_eq_true] at hd
    have := hd s (List.mem_of_getElem? hs)
    unfold cameB at this ⊢
    rw [shr_kind]
    exact this
  · rw [inn_of hn.down (by omega), Bool.eq_iff_iff, p.ins j, decide_eq_true_eq]
    omega
  · obtain ⟨s, hs, rfl⟩ := hat i r hr
    rw [shr_cl]
    exact hf _ s hs

set_option maxRecDepth 100000 in
set_option maxHeartbeats 8000000 in
theorem parts_law (A : Option Addr) (n c : Nat) (l : List Tw) (i k : Int) (W : World) (hT : Tabs W) (ho : Opn W A n c l) :
    Calls Tryd.prog 5 #[.slice A n c, .int .i64 i, .int .i64 k] W (LawPost W) := by
  have HAW := hid (fun W' (h : Fr (fun _ => False) W W') => awake_ok W' (hT.same h))
  have HFW := hid (few_any A n c l W ho.rd ho.len (by have := ho.nc; have := ho.cb; omega) ho.cls)
  have HO := hid ho
  have HF := hid (Fr.refl (fun _ => False) W)
  clear hT ho
  unfold LawPost at HAW
  go_enter Tryd.func5, Tryd.ntmps5
  go_wp2_with fail
  refine HFW.out.mono ?_
  rintro e w1 ⟨b, rfl, hb, rfl⟩
  cases b with
  | false =>
    go_wp2_with fail
    refine (HAW.out _ HF.out).mono ?_
    rintro e w2 ⟨rfl, hF⟩
    go_wp2_with fail
    go_ret
    exact ⟨rfl, hF⟩
  | true =>
    have hfew := hb rfl
    have h60 := HO.out.n60 hfew
    have HFT := hid hfew.t
    have HCK := hid (fun W' (h : Fr (fun _ => False) W W') => check_any A n c l W' (HO.out.rd.same h) HO.out.len (by omega) HO.out.nc HFT.out)
    have HUN := hid (fun W' (i : Int) (h : Fr (fun _ => False) W W') => under_any A n c l i W' (HO.out.rd.same h) HO.out.len (by omega) HO.out.nc HO.out.cb HFT.out)
    have HDN := hid (fun W' (h : Fr (fun _ => False) W W') => done_any A n c l W' (HO.out.rd.same h) HO.out.len (by omega))
    have HW1 := hid (fun W' (i t : Int) (h : Fr (fun _ => False) W W') => within_any A n c l i t W' (HO.out.rd.same h) HO.out.len (by omega))
    have HLN := hid HO.out.len
    obtain ⟨x, hx⟩ : ∃ x, chk l = x := ⟨_, rfl⟩
    unfold CkPost at HCK
    rw [hx] at HCK
    have HX := hid hx
    clear hb hfew hx
    go_wp2_with fail
    refine (HCK.out _ HF.out).mono ?_
    rintro e w1 ⟨rfl, hF⟩
    have HF := hid (HF.out.trans hF)
    clear hF
    by_cases hx0 : x = 0
    · have t1 : (x != 0) = false := by simp [hx0]
      have HC := hid (HX.out.trans hx0)
      have hn0 := (chk_zero.1 HC.out).1
      rw [HLN.out] at hn0
      clear hx0 HX HCK HFW
      go_wp2_with fail
      refine (HUN.out _ 0 HF.out).mono ?_
      rintro e w2 ⟨hF, hcs⟩
      rw [HLN.out] at hcs
      rcases hcs with ⟨h0, _⟩ | ⟨_, h1, _⟩ | ⟨_, h1, A0, m0, c0, hm0, rfl, hO0⟩
      · exact absurd HC.out h0
      · exact absurd ⟨by omega, by omega⟩ h1
      have hu0 : und l (0 : Int).toNat = l := und_whole HC.out
      rw [hu0] at hm0 hO0
      obtain rfl : m0 = n := by rw [← hm0, HLN.out]
      have HF2 := hid (HF.out.trans hF)
      have HRW := hid (rows_any A0 A m0 c0 m0 c l l w2 hO0.rdT (HO.out.rd.same HF2.out) HLN.out HLN.out (by omega) (by omega))
      rw [dec_self] at HRW
      clear hm0 hO0 hu0 h1 hF
      go_wp2_with fail
      refine HRW.out.mono ?_
      rintro e w3 ⟨rfl, hF⟩
      have HF3 := hid (HF2.out.trans hF)
      clear hF HRW HF2 HF
      go_wp2_with fail
      refine (HUN.out _ i HF3.out).mono ?_
      rintro e w4 ⟨hF, hcs⟩
      rw [HLN.out] at hcs
      have HF4 := hid (HF3.out.trans hF)
      clear HF3 hF
      rcases hcs with ⟨h0, _⟩ | ⟨_, h1, rfl⟩ | ⟨_, h1, A1, n', c1, hn1, rfl, hO1⟩
      · exact absurd HC.out h0
      · by_cases hi : i < 0
        · clear h1
          go_wp2_with fail
          refine (HAW.out _ HF4.out).mono ?_
          rintro e w5 ⟨rfl, hF⟩
          go_wp2_with fail
          go_ret
          exact ⟨rfl, HF4.out.trans hF⟩
        · have hi2 : (m0 : Int) ≤ i := by omega
          clear h1
          go_wp2_with fail
          refine (HAW.out _ HF4.out).mono ?_
          rintro e w5 ⟨rfl, hF⟩
          go_wp2_with fail
          go_ret
          exact ⟨rfl, HF4.out.trans hF⟩
      obtain ⟨z, rfl⟩ : ∃ z : Nat, i = z := ⟨i.toNat, by omega⟩
      rw [Int.toNat_natCast] at hn1 hO1
      obtain ⟨n2, P⟩ := prt HC.out (z := z) (by rw [HLN.out]; omega)
      obtain rfl : n2 = n' := by rw [← P.len, hn1]
      have HP := hid P
      have hz : z + n2 ≤ m0 := by have := P.le; rw [HLN.out] at this; exact this
      have hp0 := P.pos
      have hcap := hO1.le
      have HO1 := hid hO1
      obtain ⟨u, hu⟩ : ∃ u, und l z = u := ⟨_, rfl⟩
      rw [hu] at HO1
      have HU := hid hu
      have HR1 := hid (fun W' (h : Fr (fun _ => False) w4 W') => (HO1.out.same h).rdT)
      have HC1 := hid (fun W' (h : Fr (fun _ => False) w4 W') => check_any A1 n2 c1 u W' (HR1.out _ h) (by rw [← hu]; exact P.len) (by omega) hcap.1 (by rw [← hu]; exact P.few HFT.out))
      have HD1 := hid (fun W' (h : Fr (fun _ => False) w4 W') => done_any A1 n2 c1 u W' (HR1.out _ h) (by rw [← hu]; exact P.len) (by omega))
      have HU1 := hid (fun W' (h : Fr (fun _ => False) w4 W') => under_any A1 n2 c1 u k W' (HR1.out _ h) (by rw [← hu]; exact P.len) (by omega) hcap.1 hcap.2 (by rw [← hu]; exact P.few HFT.out))
      unfold CkPost at HC1
      rw [show chk u = 0 by rw [← hu]; exact P.chk] at HC1
      have HDD := hid (show doneB l = true → doneB u = true by rw [← hu]; exact P.done)
      obtain ⟨d, hd⟩ : ∃ d, doneB l = d := ⟨_, rfl⟩
      obtain ⟨d1, hd1⟩ : ∃ d, doneB u = d := ⟨_, rfl⟩
      rw [hd] at HDN HDD
      rw [hd1] at HD1 HDD
      have hz0 : (0 : Int) ≤ z ∧ (z : Int) ≤ 60 := by omega
      have hz1 : ¬ (z : Int) < 0 := by omega
      have hz2 : ¬ (m0 : Int) ≤ z := by omega
      have hn0' : (0 : Int) ≤ n2 ∧ (n2 : Int) ≤ 60 := by omega
      have hwr : IntKind.i64.wrap ((z : Int) + n2) = (z : Int) + n2 := by rw [IntKind.wrap_i64]; omega
      have hgt : ¬ (m0 : Int) < (z : Int) + n2 := by omega
      have HFu := hid (Fr.refl (fun _ => False) w4)
      clear hn1 hO1 P hu hd hd1 h1 hcap
      go_wp2_with fail
      refine (HC1.out _ HFu.out).mono ?_
      rintro e w5 ⟨rfl, hF⟩
      have HFu := hid (HFu.out.trans hF)
      clear hF
      go_wp2_with fail
      refine (HDN.out _ (HF4.out.trans HFu.out)).mono ?_
      rintro e w6 ⟨rfl, hF⟩
      have HFv := hid (HFu.out.trans hF)
      clear hF HFu
      cases d with
      | false =>
        have HFC := hid HFv.out
        clear HFv
        go_wp2_with fail
        go_loopg [11] (m0 + 1) (fun d k wr => ItRel m0 w6 d k wr)
        case atStart => exact ⟨0, by omega, by omega, rfl, Fr.refl _ _⟩
        case round =>
          obtain ⟨wo, rfl⟩ : ∃ wo, wo = wr := ⟨_, rfl⟩
          obtain ⟨j, hj, hd, rfl, hF⟩ := hrel
          have HFW := hid (HFC.out.trans hF)
          have HFL := hid hF
          have HD := hid hd
          clear hF hd
          by_cases hlt : j < m0
          · have HWJ := hid (fun W' (h : Fr (fun _ => False) W W') => HW1.out W' (j : Int) (z : Int) h)
            have hin := HP.out.ins j (by rw [HLN.out]; exact hlt)
            rw [HLN.out] at hin
            have hj0 : (0 : Int) ≤ j ∧ (j : Int) ≤ 60 := by omega
            by_cases h1 : j < z
            · rw [hin, show decide (z ≤ j ∧ j < z + n2) = false from decide_eq_false (by omega)] at HWJ
              have g1 : ¬ (z : Int) ≤ j := by omega
              clear hin
              go_wp2_with fail
              refine (HWJ.out _ (HF4.out.trans HFW.out)).mono ?_
              rintro e w8 ⟨rfl, hF⟩
              go_wp2_with fail
              go_roundg (m0 + 1 - (j + 1))
              case rel => exact ⟨j + 1, by omega, rfl, by go_num, HFL.out.trans hF⟩
              case measure => have := HD.out; omega
            · by_cases h2 : j < z + n2
              · rw [hin, show decide (z ≤ j ∧ j < z + n2) = true from decide_eq_true (by omega)] at HWJ
                have g1 : (z : Int) ≤ j := by omega
                have g2 : (j : Int) < (z : Int) + n2 := by omega
                clear hin
                go_wp2_with fail
                refine (HWJ.out _ (HF4.out.trans HFW.out)).mono ?_
                rintro e w8 ⟨rfl, hF⟩
                go_wp2_with fail
                go_roundg (m0 + 1 - (j + 1))
                case rel => exact ⟨j + 1, by omega, rfl, by go_num, HFL.out.trans hF⟩
                case measure => have := HD.out; omega
              · rw [hin, show decide (z ≤ j ∧ j < z + n2) = false from decide_eq_false (by omega)] at HWJ
                have g1 : (z : Int) ≤ j := by omega
                have g2 : ¬ (j : Int) < (z : Int) + n2 := by omega
                clear hin
                go_wp2_with fail
                refine (HWJ.out _ (HF4.out.trans HFW.out)).mono ?_
                rintro e w8 ⟨rfl, hF⟩
                go_wp2_with fail
                go_roundg (m0 + 1 - (j + 1))
                case rel => exact ⟨j + 1, by omega, rfl, by go_num, HFL.out.trans hF⟩
                case measure => have := HD.out; omega
          · clear hwr hgt
            go_wp2_with fail
            refine (HU1.out _ HFW.out).mono ?_
            rintro e w9 ⟨hF, hcs⟩
            have hul : u.length = n2 := by rw [← HU.out]; exact HP.out.len
            rw [hul] at hcs
            have HF9 := hid ((HF4.out.trans HFW.out).trans hF)
            clear hF
            rcases hcs with ⟨h0, _⟩ | ⟨_, h1, rfl⟩ | ⟨_, h1, A2, n3, c3, hn3, rfl, hO3⟩
            · exact absurd (by rw [← HU.out]; exact HP.out.chk) h0
            · by_cases hi : k < 0
              · clear h1
                go_wp2_with fail
                refine (HAW.out _ HF9.out).mono ?_
                rintro e w5 ⟨rfl, hF⟩
                go_wp2_with fail
                go_ret
                exact ⟨rfl, HF9.out.trans hF⟩
              · have hi2 : (n2 : Int) ≤ k := by omega
                clear h1
                go_wp2_with fail
                refine (HAW.out _ HF9.out).mono ?_
                rintro e w5 ⟨rfl, hF⟩
                go_wp2_with fail
                go_ret
                exact ⟨rfl, HF9.out.trans hF⟩
            obtain ⟨y, rfl⟩ : ∃ y : Nat, k = y := ⟨k.toNat, by omega⟩
            have hy : y < n2 := by omega
            have hpt := HP.out.part y hy
            rw [HU.out] at hpt
            rw [Int.toNat_natCast, hpt] at hn3 hO3
            have HO3 := hid hO3
            have HN3 := hid hn3
            have hy0 : (0 : Int) ≤ y ∧ (y : Int) ≤ 60 := by omega
            have hwr2 : IntKind.i64.wrap ((z : Int) + y) = (z : Int) + y := by rw [IntKind.wrap_i64]; omega
            have hU3 := HUN.out w9 ((z : Int) + y) HF9.out
            have HU3 := hid hU3
            have hb3 : n3 ≤ 60 := by
              obtain ⟨n4, P4⟩ := prt HC.out (z := z + y) (by rw [HLN.out]; omega)
              have h5 := P4.len
              have h6 := P4.le
              rw [HN3.out] at h5
              rw [HLN.out] at h6
              omega
            clear hU3 h1 hn3 hO3 hpt
            go_wp2_with fail
            refine HU3.out.mono ?_
            rintro e w10 ⟨hF, hcs⟩
            rw [HLN.out] at hcs
            rcases hcs with ⟨h0, _⟩ | ⟨_, h1, _⟩ | ⟨_, h1, A4, n4, c4, hn4, rfl, hO4⟩
            · exact absurd HC.out h0
            · exact absurd ⟨by omega, by omega⟩ h1
            rw [show ((z : Int) + y).toNat = z + y by omega] at hn4 hO4
            obtain rfl : n4 = n3 := by rw [← hn4, HN3.out]
            have HRW := hid (rows_any A2 A4 n4 c3 n4 c4 (und l (z + y)) (und l (z + y)) w10 (HO3.out.same hF).rdT hO4.rdT hn4 hn4 (by omega) (by omega))
            rw [dec_self] at HRW
            have HF10 := hid (HF9.out.trans hF)
            clear hF hn4 hO4 h1
            go_wp2_with fail
            refine HRW.out.mono ?_
            rintro e w11 ⟨rfl, hF⟩
            go_wp2_with fail
            refine (HAW.out _ (HF10.out.trans hF)).mono ?_
            rintro e w12 ⟨rfl, hF2⟩
            go_wp2_with fail
            go_ret
            exact ⟨rfl, (HF10.out.trans hF).trans hF2⟩
      | true =>
        obtain rfl : d1 = true := HDD.out (by simp)
        go_wp2_with fail
        refine (HD1.out _ HFv.out).mono ?_
        rintro e w7 ⟨rfl, hF⟩
        have HFC := hid (HFv.out.trans hF)
        clear HFv hF
        go_wp2_with fail
        go_loopg [11] (m0 + 1) (fun d k wr => ItRel m0 w7 d k wr)
        case atStart => exact ⟨0, by omega, by omega, rfl, Fr.refl _ _⟩
        case round =>
          obtain ⟨wo, rfl⟩ : ∃ wo, wo = wr := ⟨_, rfl⟩
          obtain ⟨j, hj, hd, rfl, hF⟩ := hrel
          have HFW := hid (HFC.out.trans hF)
          have HFL := hid hF
          have HD := hid hd
          clear hF hd
          by_cases hlt : j < m0
          · have HWJ := hid (fun W' (h : Fr (fun _ => False) W W') => HW1.out W' (j : Int) (z : Int) h)
            have hin := HP.out.ins j (by rw [HLN.out]; exact hlt)
            rw [HLN.out] at hin
            have hj0 : (0 : Int) ≤ j ∧ (j : Int) ≤ 60 := by omega
            by_cases h1 : j < z
            · rw [hin, show decide (z ≤ j ∧ j < z + n2) = false from decide_eq_false (by omega)] at HWJ
              have g1 : ¬ (z : Int) ≤ j := by omega
              clear hin
              go_wp2_with fail
              refine (HWJ.out _ (HF4.out.trans HFW.out)).mono ?_
              rintro e w8 ⟨rfl, hF⟩
              go_wp2_with fail
              go_roundg (m0 + 1 - (j + 1))
              case rel => exact ⟨j + 1, by omega, rfl, by go_num, HFL.out.trans hF⟩
              case measure => have := HD.out; omega
            · by_cases h2 : j < z + n2
              · rw [hin, show decide (z ≤ j ∧ j < z + n2) = true from decide_eq_true (by omega)] at HWJ
                have g1 : (z : Int) ≤ j := by omega
                have g2 : (j : Int) < (z : Int) + n2 := by omega
                clear hin
                go_wp2_with fail
                refine (HWJ.out _ (HF4.out.trans HFW.out)).mono ?_
                rintro e w8 ⟨rfl, hF⟩
                go_wp2_with fail
                go_roundg (m0 + 1 - (j + 1))
                case rel => exact ⟨j + 1, by omega, rfl, by go_num, HFL.out.trans hF⟩
                case measure => have := HD.out; omega
              · rw [hin, show decide (z ≤ j ∧ j < z + n2) = false from decide_eq_false (by omega)] at HWJ
                have g1 : (z : Int) ≤ j := by omega
                have g2 : ¬ (j : Int) < (z : Int) + n2 := by omega
                clear hin
                go_wp2_with fail
                refine (HWJ.out _ (HF4.out.trans HFW.out)).mono ?_
                rintro e w8 ⟨rfl, hF⟩
                go_wp2_with fail
                go_roundg (m0 + 1 - (j + 1))
                case rel => exact ⟨j + 1, by omega, rfl, by go_num, HFL.out.trans hF⟩
                case measure => have := HD.out; omega
          · clear hwr hgt
            go_wp2_with fail
            refine (HU1.out _ HFW.out).mono ?_
            rintro e w9 ⟨hF, hcs⟩
            have hul : u.length = n2 := by rw [← HU.out]; exact HP.out.len
            rw [hul] at hcs
            have HF9 := hid ((HF4.out.trans HFW.out).trans hF)
            clear hF
            rcases hcs with ⟨h0, _⟩ | ⟨_, h1, rfl⟩ | ⟨_, h1, A2, n3, c3, hn3, rfl, hO3⟩
            · exact absurd (by rw [← HU.out]; exact HP.out.chk) h0
            · by_cases hi : k < 0
              · clear h1
                go_wp2_with fail
                refine (HAW.out _ HF9.out).mono ?_
                rintro e w5 ⟨rfl, hF⟩
                go_wp2_with fail
                go_ret
                exact ⟨rfl, HF9.out.trans hF⟩
              · have hi2 : (n2 : Int) ≤ k := by omega
                clear h1
                go_wp2_with fail
                refine (HAW.out _ HF9.out).mono ?_
                rintro e w5 ⟨rfl, hF⟩
                go_wp2_with fail
                go_ret
                exact ⟨rfl, HF9.out.trans hF⟩
            obtain ⟨y, rfl⟩ : ∃ y : Nat, k = y := ⟨k.toNat, by omega⟩
            have hy : y < n2 := by omega
            have hpt := HP.out.part y hy
            rw [HU.out] at hpt
            rw [Int.toNat_natCast, hpt] at hn3 hO3
            have HO3 := hid hO3
            have HN3 := hid hn3
            have hy0 : (0 : Int) ≤ y ∧ (y : Int) ≤ 60 := by omega
            have hwr2 : IntKind.i64.wrap ((z : Int) + y) = (z : Int) + y := by rw [IntKind.wrap_i64]; omega
            have hU3 := HUN.out w9 ((z : Int) + y) HF9.out
            have HU3 := hid hU3
            have hb3 : n3 ≤ 60 := by
              obtain ⟨n4, P4⟩ := prt HC.out (z := z + y) (by rw [HLN.out]; omega)
              have h5 := P4.len
              have h6 := P4.le
              rw [HN3.out] at h5
              rw [HLN.out] at h6
              omega
            clear hU3 h1 hn3 hO3 hpt
            go_wp2_with fail
            refine HU3.out.mono ?_
            rintro e w10 ⟨hF, hcs⟩
            rw [HLN.out] at hcs
            rcases hcs with ⟨h0, _⟩ | ⟨_, h1, _⟩ | ⟨_, h1, A4, n4, c4, hn4, rfl, hO4⟩
            · exact absurd HC.out h0
            · exact absurd ⟨by omega, by omega⟩ h1
            rw [show ((z : Int) + y).toNat = z + y by omega] at hn4 hO4
            obtain rfl : n4 = n3 := by rw [← hn4, HN3.out]
            have HRW := hid (rows_any A2 A4 n4 c3 n4 c4 (und l (z + y)) (und l (z + y)) w10 (HO3.out.same hF).rdT hO4.rdT hn4 hn4 (by omega) (by omega))
            rw [dec_self] at HRW
            have HF10 := hid (HF9.out.trans hF)
            clear hF hn4 hO4 h1
            go_wp2_with fail
            refine HRW.out.mono ?_
            rintro e w11 ⟨rfl, hF⟩
            go_wp2_with fail
            refine (HAW.out _ (HF10.out.trans hF)).mono ?_
            rintro e w12 ⟨rfl, hF2⟩
            go_wp2_with fail
            go_ret
            exact ⟨rfl, (HF10.out.trans hF).trans hF2⟩
    · have t1 : (x != 0) = true := by simpa using hx0
      go_wp2_with fail
      refine (HAW.out _ HF.out).mono ?_
      rintro e w2 ⟨rfl, hF⟩
      go_wp2_with fail
      go_ret
      exact ⟨rfl, HF.out.trans hF⟩

end Go.Proofs.YticlnopklpaikaaDoor
