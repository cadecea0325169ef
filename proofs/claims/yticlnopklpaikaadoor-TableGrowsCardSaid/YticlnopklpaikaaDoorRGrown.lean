/-
  Stage 7: Grown, the document's.
-/
import Derived.Test.YticlnopklpaikaaDoorRFind
import Derived.Test.YticlnopklpaikaaDoorRBec
import Derived.Test.YticlnopklpaikaaDoorGrowM
import Derived.Test.YticlnopklpaikaaDoorGrown
import Derived.Deep.QuietTactic
import Derived.BigQuiet
namespace Go.Proofs.YticlnopklpaikaaDoor
open Go.RowKit
set_option linter.unusedVariables false
set_option linter.unusedSimpArgs false

/-- Where the loop stands. -/
def RwRel2 (l m : List Tw) (n : Nat) (w : World) (d : Nat) (k : Value) (wr : World) : Prop :=
  ∃ i : Nat, i ≤ n ∧ d = n + 1 - i ∧ k = .int .i64 i ∧ (∀ x, x < i → OkD l m x) ∧ Fr (fun _ => False) w wr

set_option maxRecDepth 100000 in
set_option maxHeartbeats 8000000 in
theorem rgrown_any (A B : Option Addr) (n c m c' : Nat) (l mm : List Tw) (w : World) (hA : RdT w A l) (hB : RdT w B mm) (hl : l.length = n) (hm : mm.length = m) (hn : n ≤ 4000000) (hm4 : m ≤ 4000000) (hf : FewT l) (hf' : FewT mm) :
    Calls Tryd.prog 25 #[.slice A n c, .slice B m c'] w (GwPost l mm w) := by
  have HC1 := hid (fun (W : World) (hW : Fr (fun _ => False) w W) => rcheck_any A n c l W (hA.same hW) hl hn hf)
  have HC2 := hid (fun (W : World) (hW : Fr (fun _ => False) w W) => rcheck_any B m c' mm W (hB.same hW) hm hm4 hf')
  have HWY := hid (fun (W : World) (i : Nat) (ht : Tabl l) (hi : i < n) (hW : Fr (fun _ => False) w W) => rway_any A n c i l W (hA.same hW) hl hn hi ht)
  have HFD := hid (fun (W : World) (A' : Option Addr) (nk cap B0 : Nat) (ws : List Nat) (h0 : 0 < m) (hk : ws.length = nk) (hnk : nk ≤ 4000000) (hO : OwnR W B0 3 1 A' nk cap (intsV (natI ws))) (hW : Fr (fun _ => False) w W) => rfind_any B A' m c' nk cap B0 mm ws W (hB.same hW) hm hm4 h0 hk hnk hO)
  have HKA := hid (fun (W : World) (hW : Fr (fun _ => False) w W) (t : Int) => rkids_any A n c l t W (hA.same hW) hl hn)
  have HKB := hid (fun (W : World) (hW : Fr (fun _ => False) w W) (t : Int) => rkids_any B m c' mm t W (hB.same hW) hm hm4)
  have HRA := hid (fun (W : World) (hW : Fr (fun _ => False) w W) (j : Nat) (r : Tw) (hr : l[j]? = some r) => (hA.same hW).cell hr)
  have HRBB := hid (fun (W : World) (hW : Fr (fun _ => False) w W) (j : Nat) (r : Tw) (hr : mm[j]? = some r) => (hB.same hW).cell hr)
  have HL := hid hl
  have HM := hid hm
  have HFW := hid (And.intro hf hf')
  clear hA hB hl hm hf hf'
  obtain ⟨x, hx⟩ : ∃ x, chk l = x := ⟨_, rfl⟩
  obtain ⟨y, hy⟩ : ∃ y, chk mm = y := ⟨_, rfl⟩
  unfold CkPost at HC1 HC2
  rw [hx] at HC1
  rw [hy] at HC2
  have HX := hid hx
  have HY := hid hy
  clear hx hy
  go_enter Tryd.func25, Tryd.ntmps25
  go_wp2_with fail
  refine (HC1.out _ (Fr.refl _ _)).mono ?_
  rintro e w1 ⟨rfl, hF1⟩
  have HF1 := hid hF1
  clear hF1
  by_cases hx0 : x = 0
  · have t1 : (x != 0) = false := by simp [hx0]
    have HX0 := hid (HX.out.trans hx0)
    clear hx0
    go_wp2_with fail
    refine (HC2.out _ HF1.out).mono ?_
    rintro e w2 ⟨rfl, hF2⟩
    have HF2 := hid (HF1.out.trans hF2)
    clear hF2
    by_cases hy0 : y = 0
    · have t2 : (y != 0) = false := by simp [hy0]
      have HY0 := hid (HY.out.trans hy0)
      clear hy0
      have HT1 := hid (tabl_of_chk HX0.out)
      have HT2 := hid (tabl_of_chk HY0.out)
      have HM0 := hid (show 0 < m by have := (chk_zero.1 HY0.out).1; rw [HM.out] at this; exact this)
      clear HC1 HC2
      go_wp2_with fail
      go_loopg [5] (n + 1) (fun d k wr => RwRel2 l mm n w d k wr)
      case atStart => exact ⟨0, by omega, by omega, rfl, fun x hx => by omega, HF2.out⟩
      case round =>
        obtain ⟨wo, rfl⟩ : ∃ wo, wo = wr := ⟨_, rfl⟩
        obtain ⟨i, hi, hd, rfl, hall, hF⟩ := hrel
        have HD := hid hd
        have HAL := hid hall
        have HF := hid hF
        clear hd hall hF
        by_cases hlt : i < n
        · obtain ⟨r, hr⟩ : ∃ r, l[i]? = some r := ⟨_, List.getElem?_eq_getElem (by rw [HL.out]; omega)⟩
          have HR := hid hr
          clear hr
          go_wp2_with fail
          refine (HWY.out _ i HT1.out hlt HF.out).mono ?_
          rintro e w3 ⟨nk, A', cap, rfl, hk, hnk, hO, hF3⟩
          have HF3 := hid (HF.out.trans hF3)
          have HO := hid hO
          have HK := hid hk
          clear hF3 hO hk
          go_wp2_with fail
          refine (HFD.out _ _ _ _ _ _ HM0.out HK.out hnk HO.out HF3.out).mono ?_
          rintro e w4 ⟨rfl, hF4⟩
          have HF4 := hid (HF3.out.trans hF4)
          have hIM := hid (show findN mm (wayN l (i + 1) i) = img l mm i from rfl)
          rw [hIM.out]
          obtain ⟨z, hz⟩ : ∃ z, img l mm i = z := ⟨_, rfl⟩
          rw [hz]
          have HQ := hid hz
          clear hF4 hz hIM HWY HFD
          by_cases hq : z < 0
          · have g0 : decide (z < 0) = true := decide_eq_true hq
            go_upto_region 7 with fail
            go_quiet (fail)
            go_wp2_with fail
            go_ret
            exact ⟨false, rfl, ⟨(fun h => by cases h), fun h => by
              obtain ⟨q', _, _, g1, _⟩ := h.2.2 i (by rw [HL.out]; exact hlt)
              have := HQ.out
              omega⟩, HF4.out.trans (by first | exact Fr.drew _ _ | exact Fr.drewN _ _ _)⟩
          · obtain ⟨q, rfl⟩ : ∃ q : Nat, z = q := ⟨z.toNat, by omega⟩
            have hqm : q < m := by
              have h1 := img_lt HT1.out (by rw [HM.out]; exact HM0.out) (i := i) (by rw [HL.out]; exact hlt) (by rw [HQ.out]; omega)
              rw [HQ.out, HM.out] at h1
              omega
            obtain ⟨s, hs⟩ : ∃ s, mm[q]? = some s := ⟨_, List.getElem?_eq_getElem (by rw [HM.out]; omega)⟩
            have HS := hid hs
            obtain ⟨ga, oga, rfl, hga, _⟩ := HRA.out w4 HF4.out i r HR.out
            obtain ⟨gb, ogb, rfl, hgb, _⟩ := HRBB.out w4 HF4.out q s hs
            have HSS := hid (show ∀ W, Fr (fun _ => False) w4 W → W.cell? ⟨ga, oga + i * 7, none⟩ = some (.int .i64 r.par) ∧ W.cell? ⟨ga, oga + i * 7 + 1, none⟩ = some (.int .i64 r.in_) ∧ W.cell? ⟨ga, oga + i * 7 + 2, none⟩ = some (.int .i64 r.fn) ∧ W.cell? ⟨ga, oga + i * 7 + 3, none⟩ = some (.int .i64 r.kind) ∧ W.cell? ⟨ga, oga + i * 7 + 4, none⟩ = some (.int .i64 r.v) ∧ W.cell? ⟨ga, oga + i * 7 + 5, none⟩ = some (.int .i64 r.st) ∧ W.cell? ⟨ga, oga + i * 7 + 6, none⟩ = some (.string r.cl) ∧ W.cell? ⟨gb, ogb + q * 7, none⟩ = some (.int .i64 s.par) ∧ W.cell? ⟨gb, ogb + q * 7 + 1, none⟩ = some (.int .i64 s.in_) ∧ W.cell? ⟨gb, ogb + q * 7 + 2, none⟩ = some (.int .i64 s.fn) ∧ W.cell? ⟨gb, ogb + q * 7 + 3, none⟩ = some (.int .i64 s.kind) ∧ W.cell? ⟨gb, ogb + q * 7 + 4, none⟩ = some (.int .i64 s.v) ∧ W.cell? ⟨gb, ogb + q * 7 + 5, none⟩ = some (.int .i64 s.st) ∧ W.cell? ⟨gb, ogb + q * 7 + 6, none⟩ = some (.string s.cl) from fun W hW => by
              obtain ⟨ga', oga', e1, _, hc1⟩ := HRA.out W (HF4.out.trans hW) i r HR.out
              injection e1 with e1
              injection e1 with e1 eo
              subst e1 eo
              obtain ⟨gb', ogb', e2, _, hc2⟩ := HRBB.out W (HF4.out.trans hW) q s HS.out
              injection e2 with e2
              injection e2 with e2 eo
              subst e2 eo
              exact ⟨hc1 0 _ rfl, hc1 1 _ rfl, hc1 2 _ rfl, hc1 3 _ rfl, hc1 4 _ rfl, hc1 5 _ rfl, hc1 6 _ rfl, hc2 0 _ rfl, hc2 1 _ rfl, hc2 2 _ rfl, hc2 3 _ rfl, hc2 4 _ rfl, hc2 5 _ rfl, hc2 6 _ rfl⟩)
            have g0 : decide ((q : Int) < 0) = false := decide_eq_false (by omega)
            have hi0 : (0 : Int) ≤ i ∧ (i : Int) < n := by omega
            have hq0 : (0 : Int) ≤ q ∧ (q : Int) < m := by omega
            obtain ⟨fi, hfi⟩ : ∃ b, ((i : Int) == 0) = b := ⟨_, rfl⟩
            have hfi2 : (i == 0) = fi := by rw [← hfi, Bool.eq_iff_iff, beq_iff_eq, beq_iff_eq]; omega
            have HRB := hid (fun W => rbecame_any r s fi W (HFW.out.1 i r HR.out) (HFW.out.2 q s hs))
            have hiff := rbec_iff HX0.out (s := s) HR.out (fun h0 => by
              have h1 : q = 0 := by
                have := HQ.out
                rw [h0, img_zero HT1.out] at this
                omega
              exact (kind_ok HY0.out HS.out).2.2.2.2.2 h1)
            rw [hfi2] at hiff
            obtain ⟨bb, hbb⟩ : ∃ b, rbecB r s fi = b := ⟨_, rfl⟩
            rw [hbb] at HRB hiff
            unfold rowC at HRB
            have HIF := hid hiff
            have HCM := hid (rcame_any r)
            obtain ⟨bc, hbc⟩ : ∃ b, cameB r = b := ⟨_, rfl⟩
            rw [hbc] at HCM
            have HBC := hid hbc
            have hFd0 := Fr.refl (fun _ : Nat => False) w4
            have HFd := hid hFd0
            clear hs hfi2 hiff hbb hbc hFd0
            cases bb with
            | false =>
              go_upto_region 7 with fail
              refine wp_region_held_drew (S := fun W => W.cell? ⟨ga, oga + i * 7, none⟩ = some (.int .i64 r.par) ∧ W.cell? ⟨ga, oga + i * 7 + 1, none⟩ = some (.int .i64 r.in_) ∧ W.cell? ⟨ga, oga + i * 7 + 2, none⟩ = some (.int .i64 r.fn) ∧ W.cell? ⟨ga, oga + i * 7 + 3, none⟩ = some (.int .i64 r.kind) ∧ W.cell? ⟨ga, oga + i * 7 + 4, none⟩ = some (.int .i64 r.v) ∧ W.cell? ⟨ga, oga + i * 7 + 5, none⟩ = some (.int .i64 r.st) ∧ W.cell? ⟨ga, oga + i * 7 + 6, none⟩ = some (.string r.cl) ∧ W.cell? ⟨gb, ogb + q * 7, none⟩ = some (.int .i64 s.par) ∧ W.cell? ⟨gb, ogb + q * 7 + 1, none⟩ = some (.int .i64 s.in_) ∧ W.cell? ⟨gb, ogb + q * 7 + 2, none⟩ = some (.int .i64 s.fn) ∧ W.cell? ⟨gb, ogb + q * 7 + 3, none⟩ = some (.int .i64 s.kind) ∧ W.cell? ⟨gb, ogb + q * 7 + 4, none⟩ = some (.int .i64 s.v) ∧ W.cell? ⟨gb, ogb + q * 7 + 5, none⟩ = some (.int .i64 s.st) ∧ W.cell? ⟨gb, ogb + q * 7 + 6, none⟩ = some (.string s.cl)) (by kernel_rfl) (HSS.out _ (Fr.drew _ _)) (fun hHeld => ?_)
              have HFd := hid (HFd.out.trans (Fr.drew _ _))
              refine wpAnyH_take (i := 0) (v := (.int .i64 q)) rfl (by kernel_rfl) (by kernel_rfl) (by kernel_rfl) (fun _ _ _ h => h) (Or.inl ⟨by rfl, by intro W hSW; (try dsimp only at hSW); go_simp⟩) (by assumption) ?_
              simp only [Act.put, List.getElem_toArray, List.getElem_cons_zero, List.getElem_cons_succ, List.setIfInBounds_toArray, List.set_cons_zero, List.set_cons_succ]
              refine wpAnyH_take (i := 1) (v := (.bool false)) rfl (by kernel_rfl) (by kernel_rfl) (by kernel_rfl) (fun _ _ _ h => h) (Or.inl ⟨by rfl, by intro W hSW; (try dsimp only at hSW); go_simp⟩) (by assumption) ?_
              simp only [Act.put, List.getElem_toArray, List.getElem_cons_zero, List.getElem_cons_succ, List.setIfInBounds_toArray, List.set_cons_zero, List.set_cons_succ]
              refine wpAnyH_take (i := 2) (v := (.bool false)) rfl (by kernel_rfl) (by kernel_rfl) (by kernel_rfl) (fun _ _ _ h => h) (Or.inl ⟨by rfl, by intro W hSW; (try dsimp only at hSW); go_simp⟩) (by assumption) ?_
              simp only [Act.put, List.getElem_toArray, List.getElem_cons_zero, List.getElem_cons_succ, List.setIfInBounds_toArray, List.set_cons_zero, List.set_cons_succ]
              refine wpAnyH_take (i := 3) (v := (.slice (some ⟨ga, oga, none⟩) n c)) rfl (by kernel_rfl) (by kernel_rfl) (by kernel_rfl) (fun _ _ _ h => h) (Or.inl ⟨by rfl, by intro W hSW; (try dsimp only at hSW); go_simp⟩) (by assumption) ?_
              simp only [Act.put, List.getElem_toArray, List.getElem_cons_zero, List.getElem_cons_succ, List.setIfInBounds_toArray, List.set_cons_zero, List.set_cons_succ]
              refine wpAnyH_take (i := 4) (v := (.int .i64 i)) rfl (by kernel_rfl) (by kernel_rfl) (by kernel_rfl) (fun _ _ _ h => h) (Or.inl ⟨by rfl, by intro W hSW; (try dsimp only at hSW); go_simp⟩) (by assumption) ?_
              simp only [Act.put, List.getElem_toArray, List.getElem_cons_zero, List.getElem_cons_succ, List.setIfInBounds_toArray, List.set_cons_zero, List.set_cons_succ]
              refine wpAnyH_take (i := 5) (v := (.pointer (some ⟨ga, oga + i * 7, none⟩))) rfl (by kernel_rfl) (by kernel_rfl) (by kernel_rfl) (fun _ _ _ h => h) (Or.inl ⟨by rfl, by intro W hSW; (try dsimp only at hSW); go_simp⟩) (by assumption) ?_
              simp only [Act.put, List.getElem_toArray, List.getElem_cons_zero, List.getElem_cons_succ, List.setIfInBounds_toArray, List.set_cons_zero, List.set_cons_succ]
              refine wpAnyH_take (i := 6) (v := (.agg #[.int .i64 r.par, .int .i64 r.in_, .int .i64 r.fn, .int .i64 r.kind, .int .i64 r.v, .int .i64 r.st, .string r.cl])) rfl (by kernel_rfl) (by kernel_rfl) (by kernel_rfl) (fun _ _ _ h => h) (Or.inl ⟨by rfl, by intro W hSW; (try dsimp only at hSW); go_simp⟩) (by assumption) ?_
              simp only [Act.put, List.getElem_toArray, List.getElem_cons_zero, List.getElem_cons_succ, List.setIfInBounds_toArray, List.set_cons_zero, List.set_cons_succ]
              refine wpAnyH_take (i := 7) (v := ((.slice (some ⟨gb, ogb, none⟩) m c'))) rfl (by kernel_rfl) (by kernel_rfl) (by kernel_rfl) (fun _ _ _ h => h) (Or.inl ⟨by rfl, by intro W hSW; (try dsimp only at hSW); go_simp⟩) (by assumption) ?_
              simp only [Act.put, List.getElem_toArray, List.getElem_cons_zero, List.getElem_cons_succ, List.setIfInBounds_toArray, List.set_cons_zero, List.set_cons_succ]
              refine wpAnyH_take (i := 8) (v := (.int .i64 q)) rfl (by kernel_rfl) (by kernel_rfl) (by kernel_rfl) (fun _ _ _ h => h) (Or.inl ⟨by rfl, by intro W hSW; (try dsimp only at hSW); go_simp⟩) (by assumption) ?_
              simp only [Act.put, List.getElem_toArray, List.getElem_cons_zero, List.getElem_cons_succ, List.setIfInBounds_toArray, List.set_cons_zero, List.set_cons_succ]
              refine wpAnyH_take (i := 9) (v := (.pointer (some ⟨gb, ogb + q * 7, none⟩))) rfl (by kernel_rfl) (by kernel_rfl) (by kernel_rfl) (fun _ _ _ h => h) (Or.inl ⟨by rfl, by intro W hSW; (try dsimp only at hSW); go_simp⟩) (by assumption) ?_
              simp only [Act.put, List.getElem_toArray, List.getElem_cons_zero, List.getElem_cons_succ, List.setIfInBounds_toArray, List.set_cons_zero, List.set_cons_succ]
              refine wpAnyH_take (i := 10) (v := (.agg #[.int .i64 s.par, .int .i64 s.in_, .int .i64 s.fn, .int .i64 s.kind, .int .i64 s.v, .int .i64 s.st, .string s.cl])) rfl (by kernel_rfl) (by kernel_rfl) (by kernel_rfl) (fun _ _ _ h => h) (Or.inl ⟨by rfl, by intro W hSW; (try dsimp only at hSW); go_simp⟩) (by assumption) ?_
              simp only [Act.put, List.getElem_toArray, List.getElem_cons_zero, List.getElem_cons_succ, List.setIfInBounds_toArray, List.set_cons_zero, List.set_cons_succ]
              refine wpAnyH_take (i := 11) (v := (.int .i64 i)) rfl (by kernel_rfl) (by kernel_rfl) (by kernel_rfl) (fun _ _ _ h => h) (Or.inl ⟨by rfl, by intro W hSW; (try dsimp only at hSW); go_simp⟩) (by assumption) ?_
              simp only [Act.put, List.getElem_toArray, List.getElem_cons_zero, List.getElem_cons_succ, List.setIfInBounds_toArray, List.set_cons_zero, List.set_cons_succ]
              refine wpAnyH_take (i := 12) (v := (.bool fi)) rfl (by kernel_rfl) (by kernel_rfl) (by kernel_rfl) (fun _ _ _ h => h) (Or.inl ⟨by rfl, by intro W hSW; (try dsimp only at hSW); go_simp⟩) (by assumption) ?_
              simp only [Act.put, List.getElem_toArray, List.getElem_cons_zero, List.getElem_cons_succ, List.setIfInBounds_toArray, List.set_cons_zero, List.set_cons_succ]
              refine wpAnyH_ready (rs := [13]) (by kernel_rfl) (by simp) ?_
              refine AllReadyH.cons rfl (fun K hK => ?_) AllReadyH.nil
              simp only [List.getElem_toArray, List.getElem_cons_zero, List.getElem_cons_succ]
              go_simp
              ((with_reducible refine (HRB.out _).mono ?_); rintro e wb ⟨rfl, hF⟩; have HFd := hid (HFd.out.trans (Fr.trans (by first | exact Fr.refl _ _ | exact Fr.drew _ _) hF)); clear hF)
              refine hK.out _ _ (by first | exact HSS.out _ HFd.out) (fun hHeld => ?_)
              clear hK K
              try simp only [Act.put, List.getElem_toArray, List.getElem_cons_zero, List.getElem_cons_succ, List.setIfInBounds_toArray, List.set_cons_zero, List.set_cons_succ]
              refine wpAnyH_take (i := 14) (v := (.bool true)) rfl (by kernel_rfl) (by kernel_rfl) (by kernel_rfl) (fun _ _ _ h => h) (Or.inl ⟨by rfl, by intro W hSW; (try dsimp only at hSW); go_simp⟩) (by assumption) ?_
              simp only [Act.put, List.getElem_toArray, List.getElem_cons_zero, List.getElem_cons_succ, List.setIfInBounds_toArray, List.set_cons_zero, List.set_cons_succ]
              refine wpAnyH_take (i := 15) (v := (.bool true)) rfl (by kernel_rfl) (by kernel_rfl) (by kernel_rfl) (fun _ _ _ h => h) (Or.inl ⟨by rfl, by intro W hSW; (try dsimp only at hSW); go_simp⟩) (by assumption) ?_
              simp only [Act.put, List.getElem_toArray, List.getElem_cons_zero, List.getElem_cons_succ, List.setIfInBounds_toArray, List.set_cons_zero, List.set_cons_succ]
              refine wpAnyH_take (i := 16) (v := (.bool true)) rfl (by kernel_rfl) (by kernel_rfl) (by kernel_rfl) (fun _ _ _ h => h) (Or.inl ⟨by rfl, by intro W hSW; (try dsimp only at hSW); go_simp⟩) (by assumption) ?_
              simp only [Act.put, List.getElem_toArray, List.getElem_cons_zero, List.getElem_cons_succ, List.setIfInBounds_toArray, List.set_cons_zero, List.set_cons_succ]
              refine wpAnyH_take (i := 17) (v := undef) rfl (by kernel_rfl) (by kernel_rfl) (by kernel_rfl) (fun _ _ _ h => h) (Or.inr ⟨by rfl, rfl⟩) (by assumption) ?_
              simp only [Act.put, List.getElem_toArray, List.getElem_cons_zero, List.getElem_cons_succ, List.setIfInBounds_toArray, List.set_cons_zero, List.set_cons_succ]
              refine wpAnyH_take (i := 18) (v := undef) rfl (by kernel_rfl) (by kernel_rfl) (by kernel_rfl) (fun _ _ _ h => h) (Or.inr ⟨by rfl, rfl⟩) (by assumption) ?_
              simp only [Act.put, List.getElem_toArray, List.getElem_cons_zero, List.getElem_cons_succ, List.setIfInBounds_toArray, List.set_cons_zero, List.set_cons_succ]
              refine wpAnyH_take (i := 19) (v := undef) rfl (by kernel_rfl) (by kernel_rfl) (by kernel_rfl) (fun _ _ _ h => h) (Or.inr ⟨by rfl, rfl⟩) (by assumption) ?_
              simp only [Act.put, List.getElem_toArray, List.getElem_cons_zero, List.getElem_cons_succ, List.setIfInBounds_toArray, List.set_cons_zero, List.set_cons_succ]
              refine wpAnyH_take (i := 20) (v := undef) rfl (by kernel_rfl) (by kernel_rfl) (by kernel_rfl) (fun _ _ _ h => h) (Or.inr ⟨by rfl, rfl⟩) (by assumption) ?_
              simp only [Act.put, List.getElem_toArray, List.getElem_cons_zero, List.getElem_cons_succ, List.setIfInBounds_toArray, List.set_cons_zero, List.set_cons_succ]
              refine wpAnyH_take (i := 21) (v := undef) rfl (by kernel_rfl) (by kernel_rfl) (by kernel_rfl) (fun _ _ _ h => h) (Or.inr ⟨by rfl, rfl⟩) (by assumption) ?_
              simp only [Act.put, List.getElem_toArray, List.getElem_cons_zero, List.getElem_cons_succ, List.setIfInBounds_toArray, List.set_cons_zero, List.set_cons_succ]
              refine wpAnyH_take (i := 22) (v := undef) rfl (by kernel_rfl) (by kernel_rfl) (by kernel_rfl) (fun _ _ _ h => h) (Or.inr ⟨by rfl, rfl⟩) (by assumption) ?_
              simp only [Act.put, List.getElem_toArray, List.getElem_cons_zero, List.getElem_cons_succ, List.setIfInBounds_toArray, List.set_cons_zero, List.set_cons_succ]
              refine wpAnyH_take (i := 23) (v := undef) rfl (by kernel_rfl) (by kernel_rfl) (by kernel_rfl) (fun _ _ _ h => h) (Or.inr ⟨by rfl, rfl⟩) (by assumption) ?_
              simp only [Act.put, List.getElem_toArray, List.getElem_cons_zero, List.getElem_cons_succ, List.setIfInBounds_toArray, List.set_cons_zero, List.set_cons_succ]
              refine wpAnyH_take (i := 24) (v := undef) rfl (by kernel_rfl) (by kernel_rfl) (by kernel_rfl) (fun _ _ _ h => h) (Or.inr ⟨by rfl, rfl⟩) (by assumption) ?_
              simp only [Act.put, List.getElem_toArray, List.getElem_cons_zero, List.getElem_cons_succ, List.setIfInBounds_toArray, List.set_cons_zero, List.set_cons_succ]
              refine wpAnyH_take (i := 25) (v := undef) rfl (by kernel_rfl) (by kernel_rfl) (by kernel_rfl) (fun _ _ _ h => h) (Or.inr ⟨by rfl, rfl⟩) (by assumption) ?_
              simp only [Act.put, List.getElem_toArray, List.getElem_cons_zero, List.getElem_cons_succ, List.setIfInBounds_toArray, List.set_cons_zero, List.set_cons_succ]
              refine wpAnyH_take (i := 26) (v := undef) rfl (by kernel_rfl) (by kernel_rfl) (by kernel_rfl) (fun _ _ _ h => h) (Or.inr ⟨by rfl, rfl⟩) (by assumption) ?_
              simp only [Act.put, List.getElem_toArray, List.getElem_cons_zero, List.getElem_cons_succ, List.setIfInBounds_toArray, List.set_cons_zero, List.set_cons_succ]
              refine wpAnyH_take (i := 27) (v := undef) rfl (by kernel_rfl) (by kernel_rfl) (by kernel_rfl) (fun _ _ _ h => h) (Or.inr ⟨by rfl, rfl⟩) (by assumption) ?_
              simp only [Act.put, List.getElem_toArray, List.getElem_cons_zero, List.getElem_cons_succ, List.setIfInBounds_toArray, List.set_cons_zero, List.set_cons_succ]
              refine wpAnyH_take (i := 28) (v := undef) rfl (by kernel_rfl) (by kernel_rfl) (by kernel_rfl) (fun _ _ _ h => h) (Or.inr ⟨by rfl, rfl⟩) (by assumption) ?_
              simp only [Act.put, List.getElem_toArray, List.getElem_cons_zero, List.getElem_cons_succ, List.setIfInBounds_toArray, List.set_cons_zero, List.set_cons_succ]
              refine wpAnyH_take (i := 29) (v := undef) rfl (by kernel_rfl) (by kernel_rfl) (by kernel_rfl) (fun _ _ _ h => h) (Or.inr ⟨by rfl, rfl⟩) (by assumption) ?_
              simp only [Act.put, List.getElem_toArray, List.getElem_cons_zero, List.getElem_cons_succ, List.setIfInBounds_toArray, List.set_cons_zero, List.set_cons_succ]
              refine wpAnyH_take (i := 30) (v := undef) rfl (by kernel_rfl) (by kernel_rfl) (by kernel_rfl) (fun _ _ _ h => h) (Or.inr ⟨by rfl, rfl⟩) (by assumption) ?_
              simp only [Act.put, List.getElem_toArray, List.getElem_cons_zero, List.getElem_cons_succ, List.setIfInBounds_toArray, List.set_cons_zero, List.set_cons_succ]
              refine wpAnyH_take (i := 31) (v := undef) rfl (by kernel_rfl) (by kernel_rfl) (by kernel_rfl) (fun _ _ _ h => h) (Or.inr ⟨by rfl, rfl⟩) (by assumption) ?_
              simp only [Act.put, List.getElem_toArray, List.getElem_cons_zero, List.getElem_cons_succ, List.setIfInBounds_toArray, List.set_cons_zero, List.set_cons_succ]
              refine wpAnyH_take (i := 32) (v := undef) rfl (by kernel_rfl) (by kernel_rfl) (by kernel_rfl) (fun _ _ _ h => h) (Or.inr ⟨by rfl, rfl⟩) (by assumption) ?_
              simp only [Act.put, List.getElem_toArray, List.getElem_cons_zero, List.getElem_cons_succ, List.setIfInBounds_toArray, List.set_cons_zero, List.set_cons_succ]
              refine wpAnyH_take (i := 33) (v := (.bool true)) rfl (by kernel_rfl) (by kernel_rfl) (by kernel_rfl) (fun _ _ _ h => h) (Or.inl ⟨by rfl, by intro W hSW; (try dsimp only at hSW); go_simp⟩) (by assumption) ?_
              simp only [Act.put, List.getElem_toArray, List.getElem_cons_zero, List.getElem_cons_succ, List.setIfInBounds_toArray, List.set_cons_zero, List.set_cons_succ]
              refine wpAnyH_done (by kernel_rfl) ?_ _
              all_goals
                go_wp2_with fail
                go_ret
                exact ⟨false, rfl, ⟨(fun h => by cases h), fun h => by
                  obtain ⟨q', r', s', g1, g2, g3, g4, g5, g6⟩ := h.2.2 i (by rw [HL.out]; exact hlt)
                  have hqq : q' = q := by have := HQ.out; omega
                  subst hqq
                  rw [HR.out] at g2
                  rw [HS.out] at g3
                  injection g2 with g2
                  injection g3 with g3
                  subst g2 g3
                  exact HIF.out.2 g4⟩, HF4.out.trans HFd.out⟩
            | true =>
              cases bc with
              | false =>
                have HOK := hid (show OkD l mm i from ⟨q, r, s, HQ.out, HR.out, HS.out, HIF.out.1 rfl, fun h => absurd (decide_eq_true h) (by rw [show decide (2 ≤ r.kind) = false from HBC.out]; simp)⟩)
                go_upto_region 7 with fail
                refine wp_region_held_drew (S := fun W => W.cell? ⟨ga, oga + i * 7, none⟩ = some (.int .i64 r.par) ∧ W.cell? ⟨ga, oga + i * 7 + 1, none⟩ = some (.int .i64 r.in_) ∧ W.cell? ⟨ga, oga + i * 7 + 2, none⟩ = some (.int .i64 r.fn) ∧ W.cell? ⟨ga, oga + i * 7 + 3, none⟩ = some (.int .i64 r.kind) ∧ W.cell? ⟨ga, oga + i * 7 + 4, none⟩ = some (.int .i64 r.v) ∧ W.cell? ⟨ga, oga + i * 7 + 5, none⟩ = some (.int .i64 r.st) ∧ W.cell? ⟨ga, oga + i * 7 + 6, none⟩ = some (.string r.cl) ∧ W.cell? ⟨gb, ogb + q * 7, none⟩ = some (.int .i64 s.par) ∧ W.cell? ⟨gb, ogb + q * 7 + 1, none⟩ = some (.int .i64 s.in_) ∧ W.cell? ⟨gb, ogb + q * 7 + 2, none⟩ = some (.int .i64 s.fn) ∧ W.cell? ⟨gb, ogb + q * 7 + 3, none⟩ = some (.int .i64 s.kind) ∧ W.cell? ⟨gb, ogb + q * 7 + 4, none⟩ = some (.int .i64 s.v) ∧ W.cell? ⟨gb, ogb + q * 7 + 5, none⟩ = some (.int .i64 s.st) ∧ W.cell? ⟨gb, ogb + q * 7 + 6, none⟩ = some (.string s.cl)) (by kernel_rfl) (HSS.out _ (Fr.drew _ _)) (fun hHeld => ?_)
                have HFd := hid (HFd.out.trans (Fr.drew _ _))
                refine wpAnyH_take (i := 0) (v := (.int .i64 q)) rfl (by kernel_rfl) (by kernel_rfl) (by kernel_rfl) (fun _ _ _ h => h) (Or.inl ⟨by rfl, by intro W hSW; (try dsimp only at hSW); go_simp⟩) (by assumption) ?_
                simp only [Act.put, List.getElem_toArray, List.getElem_cons_zero, List.getElem_cons_succ, List.setIfInBounds_toArray, List.set_cons_zero, List.set_cons_succ]
                refine wpAnyH_take (i := 1) (v := (.bool false)) rfl (by kernel_rfl) (by kernel_rfl) (by kernel_rfl) (fun _ _ _ h => h) (Or.inl ⟨by rfl, by intro W hSW; (try dsimp only at hSW); go_simp⟩) (by assumption) ?_
                simp only [Act.put, List.getElem_toArray, List.getElem_cons_zero, List.getElem_cons_succ, List.setIfInBounds_toArray, List.set_cons_zero, List.set_cons_succ]
                refine wpAnyH_take (i := 2) (v := (.bool false)) rfl (by kernel_rfl) (by kernel_rfl) (by kernel_rfl) (fun _ _ _ h => h) (Or.inl ⟨by rfl, by intro W hSW; (try dsimp only at hSW); go_simp⟩) (by assumption) ?_
                simp only [Act.put, List.getElem_toArray, List.getElem_cons_zero, List.getElem_cons_succ, List.setIfInBounds_toArray, List.set_cons_zero, List.set_cons_succ]
                refine wpAnyH_take (i := 3) (v := (.slice (some ⟨ga, oga, none⟩) n c)) rfl (by kernel_rfl) (by kernel_rfl) (by kernel_rfl) (fun _ _ _ h => h) (Or.inl ⟨by rfl, by intro W hSW; (try dsimp only at hSW); go_simp⟩) (by assumption) ?_
                simp only [Act.put, List.getElem_toArray, List.getElem_cons_zero, List.getElem_cons_succ, List.setIfInBounds_toArray, List.set_cons_zero, List.set_cons_succ]
                refine wpAnyH_take (i := 4) (v := (.int .i64 i)) rfl (by kernel_rfl) (by kernel_rfl) (by kernel_rfl) (fun _ _ _ h => h) (Or.inl ⟨by rfl, by intro W hSW; (try dsimp only at hSW); go_simp⟩) (by assumption) ?_
                simp only [Act.put, List.getElem_toArray, List.getElem_cons_zero, List.getElem_cons_succ, List.setIfInBounds_toArray, List.set_cons_zero, List.set_cons_succ]
                refine wpAnyH_take (i := 5) (v := (.pointer (some ⟨ga, oga + i * 7, none⟩))) rfl (by kernel_rfl) (by kernel_rfl) (by kernel_rfl) (fun _ _ _ h => h) (Or.inl ⟨by rfl, by intro W hSW; (try dsimp only at hSW); go_simp⟩) (by assumption) ?_
                simp only [Act.put, List.getElem_toArray, List.getElem_cons_zero, List.getElem_cons_succ, List.setIfInBounds_toArray, List.set_cons_zero, List.set_cons_succ]
                refine wpAnyH_take (i := 6) (v := (.agg #[.int .i64 r.par, .int .i64 r.in_, .int .i64 r.fn, .int .i64 r.kind, .int .i64 r.v, .int .i64 r.st, .string r.cl])) rfl (by kernel_rfl) (by kernel_rfl) (by kernel_rfl) (fun _ _ _ h => h) (Or.inl ⟨by rfl, by intro W hSW; (try dsimp only at hSW); go_simp⟩) (by assumption) ?_
                simp only [Act.put, List.getElem_toArray, List.getElem_cons_zero, List.getElem_cons_succ, List.setIfInBounds_toArray, List.set_cons_zero, List.set_cons_succ]
                refine wpAnyH_take (i := 7) (v := ((.slice (some ⟨gb, ogb, none⟩) m c'))) rfl (by kernel_rfl) (by kernel_rfl) (by kernel_rfl) (fun _ _ _ h => h) (Or.inl ⟨by rfl, by intro W hSW; (try dsimp only at hSW); go_simp⟩) (by assumption) ?_
                simp only [Act.put, List.getElem_toArray, List.getElem_cons_zero, List.getElem_cons_succ, List.setIfInBounds_toArray, List.set_cons_zero, List.set_cons_succ]
                refine wpAnyH_take (i := 8) (v := (.int .i64 q)) rfl (by kernel_rfl) (by kernel_rfl) (by kernel_rfl) (fun _ _ _ h => h) (Or.inl ⟨by rfl, by intro W hSW; (try dsimp only at hSW); go_simp⟩) (by assumption) ?_
                simp only [Act.put, List.getElem_toArray, List.getElem_cons_zero, List.getElem_cons_succ, List.setIfInBounds_toArray, List.set_cons_zero, List.set_cons_succ]
                refine wpAnyH_take (i := 9) (v := (.pointer (some ⟨gb, ogb + q * 7, none⟩))) rfl (by kernel_rfl) (by kernel_rfl) (by kernel_rfl) (fun _ _ _ h => h) (Or.inl ⟨by rfl, by intro W hSW; (try dsimp only at hSW); go_simp⟩) (by assumption) ?_
                simp only [Act.put, List.getElem_toArray, List.getElem_cons_zero, List.getElem_cons_succ, List.setIfInBounds_toArray, List.set_cons_zero, List.set_cons_succ]
                refine wpAnyH_take (i := 10) (v := (.agg #[.int .i64 s.par, .int .i64 s.in_, .int .i64 s.fn, .int .i64 s.kind, .int .i64 s.v, .int .i64 s.st, .string s.cl])) rfl (by kernel_rfl) (by kernel_rfl) (by kernel_rfl) (fun _ _ _ h => h) (Or.inl ⟨by rfl, by intro W hSW; (try dsimp only at hSW); go_simp⟩) (by assumption) ?_
                simp only [Act.put, List.getElem_toArray, List.getElem_cons_zero, List.getElem_cons_succ, List.setIfInBounds_toArray, List.set_cons_zero, List.set_cons_succ]
                refine wpAnyH_take (i := 11) (v := (.int .i64 i)) rfl (by kernel_rfl) (by kernel_rfl) (by kernel_rfl) (fun _ _ _ h => h) (Or.inl ⟨by rfl, by intro W hSW; (try dsimp only at hSW); go_simp⟩) (by assumption) ?_
                simp only [Act.put, List.getElem_toArray, List.getElem_cons_zero, List.getElem_cons_succ, List.setIfInBounds_toArray, List.set_cons_zero, List.set_cons_succ]
                refine wpAnyH_take (i := 12) (v := (.bool fi)) rfl (by kernel_rfl) (by kernel_rfl) (by kernel_rfl) (fun _ _ _ h => h) (Or.inl ⟨by rfl, by intro W hSW; (try dsimp only at hSW); go_simp⟩) (by assumption) ?_
                simp only [Act.put, List.getElem_toArray, List.getElem_cons_zero, List.getElem_cons_succ, List.setIfInBounds_toArray, List.set_cons_zero, List.set_cons_succ]
                refine wpAnyH_ready (rs := [13]) (by kernel_rfl) (by simp) ?_
                refine AllReadyH.cons rfl (fun K hK => ?_) AllReadyH.nil
                simp only [List.getElem_toArray, List.getElem_cons_zero, List.getElem_cons_succ]
                go_simp
                ((with_reducible refine (HRB.out _).mono ?_); rintro e wb ⟨rfl, hF⟩; have HFd := hid (HFd.out.trans (Fr.trans (by first | exact Fr.refl _ _ | exact Fr.drew _ _) hF)); clear hF)
                refine hK.out _ _ (by first | exact HSS.out _ HFd.out) (fun hHeld => ?_)
                clear hK K
                try simp only [Act.put, List.getElem_toArray, List.getElem_cons_zero, List.getElem_cons_succ, List.setIfInBounds_toArray, List.set_cons_zero, List.set_cons_succ]
                refine wpAnyH_take (i := 14) (v := (.bool false)) rfl (by kernel_rfl) (by kernel_rfl) (by kernel_rfl) (fun _ _ _ h => h) (Or.inl ⟨by rfl, by intro W hSW; (try dsimp only at hSW); go_simp⟩) (by assumption) ?_
                simp only [Act.put, List.getElem_toArray, List.getElem_cons_zero, List.getElem_cons_succ, List.setIfInBounds_toArray, List.set_cons_zero, List.set_cons_succ]
                refine wpAnyH_take (i := 15) (v := (.bool false)) rfl (by kernel_rfl) (by kernel_rfl) (by kernel_rfl) (fun _ _ _ h => h) (Or.inl ⟨by rfl, by intro W hSW; (try dsimp only at hSW); go_simp⟩) (by assumption) ?_
                simp only [Act.put, List.getElem_toArray, List.getElem_cons_zero, List.getElem_cons_succ, List.setIfInBounds_toArray, List.set_cons_zero, List.set_cons_succ]
                refine wpAnyH_take (i := 16) (v := (.bool false)) rfl (by kernel_rfl) (by kernel_rfl) (by kernel_rfl) (fun _ _ _ h => h) (Or.inl ⟨by rfl, by intro W hSW; (try dsimp only at hSW); go_simp⟩) (by assumption) ?_
                simp only [Act.put, List.getElem_toArray, List.getElem_cons_zero, List.getElem_cons_succ, List.setIfInBounds_toArray, List.set_cons_zero, List.set_cons_succ]
                refine wpAnyH_take (i := 17) (v := (.slice (some ⟨ga, oga, none⟩) n c)) rfl (by kernel_rfl) (by kernel_rfl) (by kernel_rfl) (fun _ _ _ h => h) (Or.inl ⟨by rfl, by intro W hSW; (try dsimp only at hSW); go_simp⟩) (by assumption) ?_
                simp only [Act.put, List.getElem_toArray, List.getElem_cons_zero, List.getElem_cons_succ, List.setIfInBounds_toArray, List.set_cons_zero, List.set_cons_succ]
                refine wpAnyH_take (i := 18) (v := (.int .i64 i)) rfl (by kernel_rfl) (by kernel_rfl) (by kernel_rfl) (fun _ _ _ h => h) (Or.inl ⟨by rfl, by intro W hSW; (try dsimp only at hSW); go_simp⟩) (by assumption) ?_
                simp only [Act.put, List.getElem_toArray, List.getElem_cons_zero, List.getElem_cons_succ, List.setIfInBounds_toArray, List.set_cons_zero, List.set_cons_succ]
                refine wpAnyH_take (i := 19) (v := (.pointer (some ⟨ga, oga + i * 7, none⟩))) rfl (by kernel_rfl) (by kernel_rfl) (by kernel_rfl) (fun _ _ _ h => h) (Or.inl ⟨by rfl, by intro W hSW; (try dsimp only at hSW); go_simp⟩) (by assumption) ?_
                simp only [Act.put, List.getElem_toArray, List.getElem_cons_zero, List.getElem_cons_succ, List.setIfInBounds_toArray, List.set_cons_zero, List.set_cons_succ]
                refine wpAnyH_take (i := 20) (v := (.agg #[.int .i64 r.par, .int .i64 r.in_, .int .i64 r.fn, .int .i64 r.kind, .int .i64 r.v, .int .i64 r.st, .string r.cl])) rfl (by kernel_rfl) (by kernel_rfl) (by kernel_rfl) (fun _ _ _ h => h) (Or.inl ⟨by rfl, by intro W hSW; (try dsimp only at hSW); go_simp⟩) (by assumption) ?_
                simp only [Act.put, List.getElem_toArray, List.getElem_cons_zero, List.getElem_cons_succ, List.setIfInBounds_toArray, List.set_cons_zero, List.set_cons_succ]
                refine wpAnyH_ready (rs := [21]) (by kernel_rfl) (by simp) ?_
                refine AllReadyH.cons rfl (fun K hK => ?_) AllReadyH.nil
                simp only [List.getElem_toArray, List.getElem_cons_zero, List.getElem_cons_succ]
                go_simp
                ((with_reducible refine (HCM.out _).mono ?_); rintro e wb ⟨rfl, hF⟩; have HFd := hid (HFd.out.trans (Fr.trans (by first | exact Fr.refl _ _ | exact Fr.drew _ _) hF)); clear hF)
                refine hK.out _ _ (by first | exact HSS.out _ HFd.out) (fun hHeld => ?_)
                clear hK K
                try simp only [Act.put, List.getElem_toArray, List.getElem_cons_zero, List.getElem_cons_succ, List.setIfInBounds_toArray, List.set_cons_zero, List.set_cons_succ]
                refine wpAnyH_take (i := 22) (v := (.bool false)) rfl (by kernel_rfl) (by kernel_rfl) (by kernel_rfl) (fun _ _ _ h => h) (Or.inl ⟨by rfl, by intro W hSW; (try dsimp only at hSW); go_simp⟩) (by assumption) ?_
                simp only [Act.put, List.getElem_toArray, List.getElem_cons_zero, List.getElem_cons_succ, List.setIfInBounds_toArray, List.set_cons_zero, List.set_cons_succ]
                refine wpAnyH_take (i := 23) (v := undef) rfl (by kernel_rfl) (by kernel_rfl) (by kernel_rfl) (fun _ _ _ h => h) (Or.inr ⟨by rfl, rfl⟩) (by assumption) ?_
                simp only [Act.put, List.getElem_toArray, List.getElem_cons_zero, List.getElem_cons_succ, List.setIfInBounds_toArray, List.set_cons_zero, List.set_cons_succ]
                refine wpAnyH_take (i := 24) (v := undef) rfl (by kernel_rfl) (by kernel_rfl) (by kernel_rfl) (fun _ _ _ h => h) (Or.inr ⟨by rfl, rfl⟩) (by assumption) ?_
                simp only [Act.put, List.getElem_toArray, List.getElem_cons_zero, List.getElem_cons_succ, List.setIfInBounds_toArray, List.set_cons_zero, List.set_cons_succ]
                refine wpAnyH_take (i := 25) (v := undef) rfl (by kernel_rfl) (by kernel_rfl) (by kernel_rfl) (fun _ _ _ h => h) (Or.inr ⟨by rfl, rfl⟩) (by assumption) ?_
                simp only [Act.put, List.getElem_toArray, List.getElem_cons_zero, List.getElem_cons_succ, List.setIfInBounds_toArray, List.set_cons_zero, List.set_cons_succ]
                refine wpAnyH_take (i := 26) (v := undef) rfl (by kernel_rfl) (by kernel_rfl) (by kernel_rfl) (fun _ _ _ h => h) (Or.inr ⟨by rfl, rfl⟩) (by assumption) ?_
                simp only [Act.put, List.getElem_toArray, List.getElem_cons_zero, List.getElem_cons_succ, List.setIfInBounds_toArray, List.set_cons_zero, List.set_cons_succ]
                refine wpAnyH_take (i := 27) (v := undef) rfl (by kernel_rfl) (by kernel_rfl) (by kernel_rfl) (fun _ _ _ h => h) (Or.inr ⟨by rfl, rfl⟩) (by assumption) ?_
                simp only [Act.put, List.getElem_toArray, List.getElem_cons_zero, List.getElem_cons_succ, List.setIfInBounds_toArray, List.set_cons_zero, List.set_cons_succ]
                refine wpAnyH_take (i := 28) (v := undef) rfl (by kernel_rfl) (by kernel_rfl) (by kernel_rfl) (fun _ _ _ h => h) (Or.inr ⟨by rfl, rfl⟩) (by assumption) ?_
                simp only [Act.put, List.getElem_toArray, List.getElem_cons_zero, List.getElem_cons_succ, List.setIfInBounds_toArray, List.set_cons_zero, List.set_cons_succ]
                refine wpAnyH_take (i := 29) (v := undef) rfl (by kernel_rfl) (by kernel_rfl) (by kernel_rfl) (fun _ _ _ h => h) (Or.inr ⟨by rfl, rfl⟩) (by assumption) ?_
                simp only [Act.put, List.getElem_toArray, List.getElem_cons_zero, List.getElem_cons_succ, List.setIfInBounds_toArray, List.set_cons_zero, List.set_cons_succ]
                refine wpAnyH_take (i := 30) (v := undef) rfl (by kernel_rfl) (by kernel_rfl) (by kernel_rfl) (fun _ _ _ h => h) (Or.inr ⟨by rfl, rfl⟩) (by assumption) ?_
                simp only [Act.put, List.getElem_toArray, List.getElem_cons_zero, List.getElem_cons_succ, List.setIfInBounds_toArray, List.set_cons_zero, List.set_cons_succ]
                refine wpAnyH_take (i := 31) (v := undef) rfl (by kernel_rfl) (by kernel_rfl) (by kernel_rfl) (fun _ _ _ h => h) (Or.inr ⟨by rfl, rfl⟩) (by assumption) ?_
                simp only [Act.put, List.getElem_toArray, List.getElem_cons_zero, List.getElem_cons_succ, List.setIfInBounds_toArray, List.set_cons_zero, List.set_cons_succ]
                refine wpAnyH_take (i := 32) (v := (.bool false)) rfl (by kernel_rfl) (by kernel_rfl) (by kernel_rfl) (fun _ _ _ h => h) (Or.inl ⟨by rfl, by intro W hSW; (try dsimp only at hSW); go_simp⟩) (by assumption) ?_
                simp only [Act.put, List.getElem_toArray, List.getElem_cons_zero, List.getElem_cons_succ, List.setIfInBounds_toArray, List.set_cons_zero, List.set_cons_succ]
                refine wpAnyH_take (i := 33) (v := (.bool false)) rfl (by kernel_rfl) (by kernel_rfl) (by kernel_rfl) (fun _ _ _ h => h) (Or.inl ⟨by rfl, by intro W hSW; (try dsimp only at hSW); go_simp⟩) (by assumption) ?_
                simp only [Act.put, List.getElem_toArray, List.getElem_cons_zero, List.getElem_cons_succ, List.setIfInBounds_toArray, List.set_cons_zero, List.set_cons_succ]
                refine wpAnyH_done (by kernel_rfl) ?_ _
                all_goals
                  go_wp2_with fail
                  go_roundg (n + 1 - (i + 1))
                  case rel => exact ⟨i + 1, by omega, rfl, by go_num, fun x hx => by
                    rcases Nat.lt_or_ge x i with h | h
                    · exact HAL.out x h
                    · obtain rfl : x = i := by omega
                      exact HOK.out, HF4.out.trans HFd.out⟩
                  case measure => have := HD.out; omega
              | true =>
                obtain ⟨N1, hN1⟩ : ∃ x, (kidsN l i n).length = x := ⟨_, rfl⟩
                obtain ⟨N2, hN2⟩ : ∃ x, (kidsN mm q m).length = x := ⟨_, rfl⟩
                have HK1 := hid (fun (W : World) (hW : Fr (fun _ => False) w4 W) => HKA.out W (HF4.out.trans hW) i)
                have HK2 := hid (fun (W : World) (hW : Fr (fun _ => False) w4 W) => HKB.out W (HF4.out.trans hW) q)
                rw [hN1] at HK1
                rw [hN2] at HK2
                have HN := hid (And.intro (show kc l (i : Int) = N1 by unfold kc; rw [HL.out]; exact hN1) (show kc mm (q : Int) = N2 by unfold kc; rw [HM.out]; exact hN2))
                obtain ⟨bn, hbn⟩ : ∃ b, ((N1 : Int) != (N2 : Int)) = b := ⟨_, rfl⟩
                have HBN := hid hbn
                have hb1 : N1 ≤ n := by rw [← hN1]; exact kidsN_len l i n
                have hb2 : N2 ≤ m := by rw [← hN2]; exact kidsN_len mm q m
                clear hN1 hN2
                cases bn with
                | false =>
                  have HOK := hid (show OkD l mm i from ⟨q, r, s, HQ.out, HR.out, HS.out, HIF.out.1 rfl, fun h => by
                    rw [HN.out.1, HN.out.2]
                    have := HBN.out
                    simp at this
                    omega⟩)
                  go_upto_region 7 with fail
                  refine wp_region_held_drew (S := fun W => W.cell? ⟨ga, oga + i * 7, none⟩ = some (.int .i64 r.par) ∧ W.cell? ⟨ga, oga + i * 7 + 1, none⟩ = some (.int .i64 r.in_) ∧ W.cell? ⟨ga, oga + i * 7 + 2, none⟩ = some (.int .i64 r.fn) ∧ W.cell? ⟨ga, oga + i * 7 + 3, none⟩ = some (.int .i64 r.kind) ∧ W.cell? ⟨ga, oga + i * 7 + 4, none⟩ = some (.int .i64 r.v) ∧ W.cell? ⟨ga, oga + i * 7 + 5, none⟩ = some (.int .i64 r.st) ∧ W.cell? ⟨ga, oga + i * 7 + 6, none⟩ = some (.string r.cl) ∧ W.cell? ⟨gb, ogb + q * 7, none⟩ = some (.int .i64 s.par) ∧ W.cell? ⟨gb, ogb + q * 7 + 1, none⟩ = some (.int .i64 s.in_) ∧ W.cell? ⟨gb, ogb + q * 7 + 2, none⟩ = some (.int .i64 s.fn) ∧ W.cell? ⟨gb, ogb + q * 7 + 3, none⟩ = some (.int .i64 s.kind) ∧ W.cell? ⟨gb, ogb + q * 7 + 4, none⟩ = some (.int .i64 s.v) ∧ W.cell? ⟨gb, ogb + q * 7 + 5, none⟩ = some (.int .i64 s.st) ∧ W.cell? ⟨gb, ogb + q * 7 + 6, none⟩ = some (.string s.cl)) (by kernel_rfl) (HSS.out _ (Fr.drew _ _)) (fun hHeld => ?_)
                  have HFd := hid (HFd.out.trans (Fr.drew _ _))
                  refine wpAnyH_take (i := 0) (v := (.int .i64 q)) rfl (by kernel_rfl) (by kernel_rfl) (by kernel_rfl) (fun _ _ _ h => h) (Or.inl ⟨by rfl, by intro W hSW; (try dsimp only at hSW); go_simp⟩) (by assumption) ?_
                  simp only [Act.put, List.getElem_toArray, List.getElem_cons_zero, List.getElem_cons_succ, List.setIfInBounds_toArray, List.set_cons_zero, List.set_cons_succ]
                  refine wpAnyH_take (i := 1) (v := (.bool false)) rfl (by kernel_rfl) (by kernel_rfl) (by kernel_rfl) (fun _ _ _ h => h) (Or.inl ⟨by rfl, by intro W hSW; (try dsimp only at hSW); go_simp⟩) (by assumption) ?_
                  simp only [Act.put, List.getElem_toArray, List.getElem_cons_zero, List.getElem_cons_succ, List.setIfInBounds_toArray, List.set_cons_zero, List.set_cons_succ]
                  refine wpAnyH_take (i := 2) (v := (.bool false)) rfl (by kernel_rfl) (by kernel_rfl) (by kernel_rfl) (fun _ _ _ h => h) (Or.inl ⟨by rfl, by intro W hSW; (try dsimp only at hSW); go_simp⟩) (by assumption) ?_
                  simp only [Act.put, List.getElem_toArray, List.getElem_cons_zero, List.getElem_cons_succ, List.setIfInBounds_toArray, List.set_cons_zero, List.set_cons_succ]
                  refine wpAnyH_take (i := 3) (v := (.slice (some ⟨ga, oga, none⟩) n c)) rfl (by kernel_rfl) (by kernel_rfl) (by kernel_rfl) (fun _ _ _ h => h) (Or.inl ⟨by rfl, by intro W hSW; (try dsimp only at hSW); go_simp⟩) (by assumption) ?_
                  simp only [Act.put, List.getElem_toArray, List.getElem_cons_zero, List.getElem_cons_succ, List.setIfInBounds_toArray, List.set_cons_zero, List.set_cons_succ]
                  refine wpAnyH_take (i := 4) (v := (.int .i64 i)) rfl (by kernel_rfl) (by kernel_rfl) (by kernel_rfl) (fun _ _ _ h => h) (Or.inl ⟨by rfl, by intro W hSW; (try dsimp only at hSW); go_simp⟩) (by assumption) ?_
                  simp only [Act.put, List.getElem_toArray, List.getElem_cons_zero, List.getElem_cons_succ, List.setIfInBounds_toArray, List.set_cons_zero, List.set_cons_succ]
                  refine wpAnyH_take (i := 5) (v := (.pointer (some ⟨ga, oga + i * 7, none⟩))) rfl (by kernel_rfl) (by kernel_rfl) (by kernel_rfl) (fun _ _ _ h => h) (Or.inl ⟨by rfl, by intro W hSW; (try dsimp only at hSW); go_simp⟩) (by assumption) ?_
                  simp only [Act.put, List.getElem_toArray, List.getElem_cons_zero, List.getElem_cons_succ, List.setIfInBounds_toArray, List.set_cons_zero, List.set_cons_succ]
                  refine wpAnyH_take (i := 6) (v := (.agg #[.int .i64 r.par, .int .i64 r.in_, .int .i64 r.fn, .int .i64 r.kind, .int .i64 r.v, .int .i64 r.st, .string r.cl])) rfl (by kernel_rfl) (by kernel_rfl) (by kernel_rfl) (fun _ _ _ h => h) (Or.inl ⟨by rfl, by intro W hSW; (try dsimp only at hSW); go_simp⟩) (by assumption) ?_
                  simp only [Act.put, List.getElem_toArray, List.getElem_cons_zero, List.getElem_cons_succ, List.setIfInBounds_toArray, List.set_cons_zero, List.set_cons_succ]
                  refine wpAnyH_take (i := 7) (v := ((.slice (some ⟨gb, ogb, none⟩) m c'))) rfl (by kernel_rfl) (by kernel_rfl) (by kernel_rfl) (fun _ _ _ h => h) (Or.inl ⟨by rfl, by intro W hSW; (try dsimp only at hSW); go_simp⟩) (by assumption) ?_
                  simp only [Act.put, List.getElem_toArray, List.getElem_cons_zero, List.getElem_cons_succ, List.setIfInBounds_toArray, List.set_cons_zero, List.set_cons_succ]
                  refine wpAnyH_take (i := 8) (v := (.int .i64 q)) rfl (by kernel_rfl) (by kernel_rfl) (by kernel_rfl) (fun _ _ _ h => h) (Or.inl ⟨by rfl, by intro W hSW; (try dsimp only at hSW); go_simp⟩) (by assumption) ?_
                  simp only [Act.put, List.getElem_toArray, List.getElem_cons_zero, List.getElem_cons_succ, List.setIfInBounds_toArray, List.set_cons_zero, List.set_cons_succ]
                  refine wpAnyH_take (i := 9) (v := (.pointer (some ⟨gb, ogb + q * 7, none⟩))) rfl (by kernel_rfl) (by kernel_rfl) (by kernel_rfl) (fun _ _ _ h => h) (Or.inl ⟨by rfl, by intro W hSW; (try dsimp only at hSW); go_simp⟩) (by assumption) ?_
                  simp only [Act.put, List.getElem_toArray, List.getElem_cons_zero, List.getElem_cons_succ, List.setIfInBounds_toArray, List.set_cons_zero, List.set_cons_succ]
                  refine wpAnyH_take (i := 10) (v := (.agg #[.int .i64 s.par, .int .i64 s.in_, .int .i64 s.fn, .int .i64 s.kind, .int .i64 s.v, .int .i64 s.st, .string s.cl])) rfl (by kernel_rfl) (by kernel_rfl) (by kernel_rfl) (fun _ _ _ h => h) (Or.inl ⟨by rfl, by intro W hSW; (try dsimp only at hSW); go_simp⟩) (by assumption) ?_
                  simp only [Act.put, List.getElem_toArray, List.getElem_cons_zero, List.getElem_cons_succ, List.setIfInBounds_toArray, List.set_cons_zero, List.set_cons_succ]
                  refine wpAnyH_take (i := 11) (v := (.int .i64 i)) rfl (by kernel_rfl) (by kernel_rfl) (by kernel_rfl) (fun _ _ _ h => h) (Or.inl ⟨by rfl, by intro W hSW; (try dsimp only at hSW); go_simp⟩) (by assumption) ?_
                  simp only [Act.put, List.getElem_toArray, List.getElem_cons_zero, List.getElem_cons_succ, List.setIfInBounds_toArray, List.set_cons_zero, List.set_cons_succ]
                  refine wpAnyH_take (i := 12) (v := (.bool fi)) rfl (by kernel_rfl) (by kernel_rfl) (by kernel_rfl) (fun _ _ _ h => h) (Or.inl ⟨by rfl, by intro W hSW; (try dsimp only at hSW); go_simp⟩) (by assumption) ?_
                  simp only [Act.put, List.getElem_toArray, List.getElem_cons_zero, List.getElem_cons_succ, List.setIfInBounds_toArray, List.set_cons_zero, List.set_cons_succ]
                  refine wpAnyH_ready (rs := [13]) (by kernel_rfl) (by simp) ?_
                  refine AllReadyH.cons rfl (fun K hK => ?_) AllReadyH.nil
                  simp only [List.getElem_toArray, List.getElem_cons_zero, List.getElem_cons_succ]
                  go_simp
                  ((with_reducible refine (HRB.out _).mono ?_); rintro e wb ⟨rfl, hF⟩; have HFd := hid (HFd.out.trans (Fr.trans (by first | exact Fr.refl _ _ | exact Fr.drew _ _) hF)); clear hF)
                  refine hK.out _ _ (by first | exact HSS.out _ HFd.out) (fun hHeld => ?_)
                  clear hK K
                  try simp only [Act.put, List.getElem_toArray, List.getElem_cons_zero, List.getElem_cons_succ, List.setIfInBounds_toArray, List.set_cons_zero, List.set_cons_succ]
                  refine wpAnyH_take (i := 14) (v := (.bool false)) rfl (by kernel_rfl) (by kernel_rfl) (by kernel_rfl) (fun _ _ _ h => h) (Or.inl ⟨by rfl, by intro W hSW; (try dsimp only at hSW); go_simp⟩) (by assumption) ?_
                  simp only [Act.put, List.getElem_toArray, List.getElem_cons_zero, List.getElem_cons_succ, List.setIfInBounds_toArray, List.set_cons_zero, List.set_cons_succ]
                  refine wpAnyH_take (i := 15) (v := (.bool false)) rfl (by kernel_rfl) (by kernel_rfl) (by kernel_rfl) (fun _ _ _ h => h) (Or.inl ⟨by rfl, by intro W hSW; (try dsimp only at hSW); go_simp⟩) (by assumption) ?_
                  simp only [Act.put, List.getElem_toArray, List.getElem_cons_zero, List.getElem_cons_succ, List.setIfInBounds_toArray, List.set_cons_zero, List.set_cons_succ]
                  refine wpAnyH_take (i := 16) (v := (.bool false)) rfl (by kernel_rfl) (by kernel_rfl) (by kernel_rfl) (fun _ _ _ h => h) (Or.inl ⟨by rfl, by intro W hSW; (try dsimp only at hSW); go_simp⟩) (by assumption) ?_
                  simp only [Act.put, List.getElem_toArray, List.getElem_cons_zero, List.getElem_cons_succ, List.setIfInBounds_toArray, List.set_cons_zero, List.set_cons_succ]
                  refine wpAnyH_take (i := 17) (v := (.slice (some ⟨ga, oga, none⟩) n c)) rfl (by kernel_rfl) (by kernel_rfl) (by kernel_rfl) (fun _ _ _ h => h) (Or.inl ⟨by rfl, by intro W hSW; (try dsimp only at hSW); go_simp⟩) (by assumption) ?_
                  simp only [Act.put, List.getElem_toArray, List.getElem_cons_zero, List.getElem_cons_succ, List.setIfInBounds_toArray, List.set_cons_zero, List.set_cons_succ]
                  refine wpAnyH_take (i := 18) (v := (.int .i64 i)) rfl (by kernel_rfl) (by kernel_rfl) (by kernel_rfl) (fun _ _ _ h => h) (Or.inl ⟨by rfl, by intro W hSW; (try dsimp only at hSW); go_simp⟩) (by assumption) ?_
                  simp only [Act.put, List.getElem_toArray, List.getElem_cons_zero, List.getElem_cons_succ, List.setIfInBounds_toArray, List.set_cons_zero, List.set_cons_succ]
                  refine wpAnyH_take (i := 19) (v := (.pointer (some ⟨ga, oga + i * 7, none⟩))) rfl (by kernel_rfl) (by kernel_rfl) (by kernel_rfl) (fun _ _ _ h => h) (Or.inl ⟨by rfl, by intro W hSW; (try dsimp only at hSW); go_simp⟩) (by assumption) ?_
                  simp only [Act.put, List.getElem_toArray, List.getElem_cons_zero, List.getElem_cons_succ, List.setIfInBounds_toArray, List.set_cons_zero, List.set_cons_succ]
                  refine wpAnyH_take (i := 20) (v := (.agg #[.int .i64 r.par, .int .i64 r.in_, .int .i64 r.fn, .int .i64 r.kind, .int .i64 r.v, .int .i64 r.st, .string r.cl])) rfl (by kernel_rfl) (by kernel_rfl) (by kernel_rfl) (fun _ _ _ h => h) (Or.inl ⟨by rfl, by intro W hSW; (try dsimp only at hSW); go_simp⟩) (by assumption) ?_
                  simp only [Act.put, List.getElem_toArray, List.getElem_cons_zero, List.getElem_cons_succ, List.setIfInBounds_toArray, List.set_cons_zero, List.set_cons_succ]
                  refine wpAnyH_ready (rs := [21]) (by kernel_rfl) (by simp) ?_
                  refine AllReadyH.cons rfl (fun K hK => ?_) AllReadyH.nil
                  simp only [List.getElem_toArray, List.getElem_cons_zero, List.getElem_cons_succ]
                  go_simp
                  ((with_reducible refine (HCM.out _).mono ?_); rintro e wb ⟨rfl, hF⟩; have HFd := hid (HFd.out.trans (Fr.trans (by first | exact Fr.refl _ _ | exact Fr.drew _ _) hF)); clear hF)
                  refine hK.out _ _ (by first | exact HSS.out _ HFd.out) (fun hHeld => ?_)
                  clear hK K
                  try simp only [Act.put, List.getElem_toArray, List.getElem_cons_zero, List.getElem_cons_succ, List.setIfInBounds_toArray, List.set_cons_zero, List.set_cons_succ]
                  refine wpAnyH_take (i := 22) (v := (.bool true)) rfl (by kernel_rfl) (by kernel_rfl) (by kernel_rfl) (fun _ _ _ h => h) (Or.inl ⟨by rfl, by intro W hSW; (try dsimp only at hSW); go_simp⟩) (by assumption) ?_
                  simp only [Act.put, List.getElem_toArray, List.getElem_cons_zero, List.getElem_cons_succ, List.setIfInBounds_toArray, List.set_cons_zero, List.set_cons_succ]
                  refine wpAnyH_take (i := 23) (v := (.slice (some ⟨ga, oga, none⟩) n c)) rfl (by kernel_rfl) (by kernel_rfl) (by kernel_rfl) (fun _ _ _ h => h) (Or.inl ⟨by rfl, by intro W hSW; (try dsimp only at hSW); go_simp⟩) (by assumption) ?_
                  simp only [Act.put, List.getElem_toArray, List.getElem_cons_zero, List.getElem_cons_succ, List.setIfInBounds_toArray, List.set_cons_zero, List.set_cons_succ]
                  refine wpAnyH_take (i := 24) (v := (.int .i64 i)) rfl (by kernel_rfl) (by kernel_rfl) (by kernel_rfl) (fun _ _ _ h => h) (Or.inl ⟨by rfl, by intro W hSW; (try dsimp only at hSW); go_simp⟩) (by assumption) ?_
                  simp only [Act.put, List.getElem_toArray, List.getElem_cons_zero, List.getElem_cons_succ, List.setIfInBounds_toArray, List.set_cons_zero, List.set_cons_succ]
                  refine wpAnyH_take (i := 27) (v := ((.slice (some ⟨gb, ogb, none⟩) m c'))) rfl (by kernel_rfl) (by kernel_rfl) (by kernel_rfl) (fun _ _ _ h => h) (Or.inl ⟨by rfl, by intro W hSW; (try dsimp only at hSW); go_simp⟩) (by assumption) ?_
                  simp only [Act.put, List.getElem_toArray, List.getElem_cons_zero, List.getElem_cons_succ, List.setIfInBounds_toArray, List.set_cons_zero, List.set_cons_succ]
                  refine wpAnyH_take (i := 28) (v := (.int .i64 q)) rfl (by kernel_rfl) (by kernel_rfl) (by kernel_rfl) (fun _ _ _ h => h) (Or.inl ⟨by rfl, by intro W hSW; (try dsimp only at hSW); go_simp⟩) (by assumption) ?_
                  simp only [Act.put, List.getElem_toArray, List.getElem_cons_zero, List.getElem_cons_succ, List.setIfInBounds_toArray, List.set_cons_zero, List.set_cons_succ]
                  refine wpAnyH_ready (rs := [25]) (by kernel_rfl) (by simp) ?_
                  refine AllReadyH.cons rfl (fun K hK => ?_) AllReadyH.nil
                  simp only [List.getElem_toArray, List.getElem_cons_zero, List.getElem_cons_succ]
                  go_simp
                  ((with_reducible refine (HK1.out _ HFd.out).mono ?_); rintro e wb ⟨m1, A1, cp1, rfl, hm1, hO1, hF⟩; have hm2 := hm1.symm; subst hm2; have HFd := hid (HFd.out.trans hF); clear hF hO1 hm1)
                  refine hK.out _ _ (by first | exact HSS.out _ HFd.out) (fun hHeld => ?_)
                  clear hK K
                  try simp only [Act.put, List.getElem_toArray, List.getElem_cons_zero, List.getElem_cons_succ, List.setIfInBounds_toArray, List.set_cons_zero, List.set_cons_succ]
                  refine wpAnyH_take (i := 26) (v := (.int .i64 N1)) rfl (by kernel_rfl) (by kernel_rfl) (by kernel_rfl) (fun _ _ _ h => h) (Or.inl ⟨by rfl, by intro W hSW; (try dsimp only at hSW); go_simp⟩) (by assumption) ?_
                  simp only [Act.put, List.getElem_toArray, List.getElem_cons_zero, List.getElem_cons_succ, List.setIfInBounds_toArray, List.set_cons_zero, List.set_cons_succ]
                  refine wpAnyH_ready (rs := [29]) (by kernel_rfl) (by simp) ?_
                  refine AllReadyH.cons rfl (fun K hK => ?_) AllReadyH.nil
                  simp only [List.getElem_toArray, List.getElem_cons_zero, List.getElem_cons_succ]
                  go_simp
                  ((with_reducible refine (HK2.out _ HFd.out).mono ?_); rintro e wb ⟨m2, A2, cp2, rfl, hm1, hO1, hF⟩; have hm2 := hm1.symm; subst hm2; have HFd := hid (HFd.out.trans hF); clear hF hO1 hm1)
                  refine hK.out _ _ (by first | exact HSS.out _ HFd.out) (fun hHeld => ?_)
                  clear hK K
                  try simp only [Act.put, List.getElem_toArray, List.getElem_cons_zero, List.getElem_cons_succ, List.setIfInBounds_toArray, List.set_cons_zero, List.set_cons_succ]
                  refine wpAnyH_take (i := 30) (v := (.int .i64 N2)) rfl (by kernel_rfl) (by kernel_rfl) (by kernel_rfl) (fun _ _ _ h => h) (Or.inl ⟨by rfl, by intro W hSW; (try dsimp only at hSW); go_simp⟩) (by assumption) ?_
                  simp only [Act.put, List.getElem_toArray, List.getElem_cons_zero, List.getElem_cons_succ, List.setIfInBounds_toArray, List.set_cons_zero, List.set_cons_succ]
                  refine wpAnyH_take (i := 31) (v := (.bool false)) rfl (by kernel_rfl) (by kernel_rfl) (by kernel_rfl) (fun _ _ _ h => h) (Or.inl ⟨by rfl, by intro W hSW; (try dsimp only at hSW); go_simp⟩) (by assumption) ?_
                  simp only [Act.put, List.getElem_toArray, List.getElem_cons_zero, List.getElem_cons_succ, List.setIfInBounds_toArray, List.set_cons_zero, List.set_cons_succ]
                  refine wpAnyH_take (i := 32) (v := (.bool false)) rfl (by kernel_rfl) (by kernel_rfl) (by kernel_rfl) (fun _ _ _ h => h) (Or.inl ⟨by rfl, by intro W hSW; (try dsimp only at hSW); go_simp⟩) (by assumption) ?_
                  simp only [Act.put, List.getElem_toArray, List.getElem_cons_zero, List.getElem_cons_succ, List.setIfInBounds_toArray, List.set_cons_zero, List.set_cons_succ]
                  refine wpAnyH_take (i := 33) (v := (.bool false)) rfl (by kernel_rfl) (by kernel_rfl) (by kernel_rfl) (fun _ _ _ h => h) (Or.inl ⟨by rfl, by intro W hSW; (try dsimp only at hSW); go_simp⟩) (by assumption) ?_
                  simp only [Act.put, List.getElem_toArray, List.getElem_cons_zero, List.getElem_cons_succ, List.setIfInBounds_toArray, List.set_cons_zero, List.set_cons_succ]
                  refine wpAnyH_done (by kernel_rfl) ?_ _
                  all_goals
                    go_wp2_with fail
                    go_roundg (n + 1 - (i + 1))
                    case rel => exact ⟨i + 1, by omega, rfl, by go_num, fun x hx => by
                      rcases Nat.lt_or_ge x i with h | h
                      · exact HAL.out x h
                      · obtain rfl : x = i := by omega
                        exact HOK.out, HF4.out.trans HFd.out⟩
                    case measure => have := HD.out; omega
                | true =>
                  go_upto_region 7 with fail
                  refine wp_region_held_drew (S := fun W => W.cell? ⟨ga, oga + i * 7, none⟩ = some (.int .i64 r.par) ∧ W.cell? ⟨ga, oga + i * 7 + 1, none⟩ = some (.int .i64 r.in_) ∧ W.cell? ⟨ga, oga + i * 7 + 2, none⟩ = some (.int .i64 r.fn) ∧ W.cell? ⟨ga, oga + i * 7 + 3, none⟩ = some (.int .i64 r.kind) ∧ W.cell? ⟨ga, oga + i * 7 + 4, none⟩ = some (.int .i64 r.v) ∧ W.cell? ⟨ga, oga + i * 7 + 5, none⟩ = some (.int .i64 r.st) ∧ W.cell? ⟨ga, oga + i * 7 + 6, none⟩ = some (.string r.cl) ∧ W.cell? ⟨gb, ogb + q * 7, none⟩ = some (.int .i64 s.par) ∧ W.cell? ⟨gb, ogb + q * 7 + 1, none⟩ = some (.int .i64 s.in_) ∧ W.cell? ⟨gb, ogb + q * 7 + 2, none⟩ = some (.int .i64 s.fn) ∧ W.cell? ⟨gb, ogb + q * 7 + 3, none⟩ = some (.int .i64 s.kind) ∧ W.cell? ⟨gb, ogb + q * 7 + 4, none⟩ = some (.int .i64 s.v) ∧ W.cell? ⟨gb, ogb + q * 7 + 5, none⟩ = some (.int .i64 s.st) ∧ W.cell? ⟨gb, ogb + q * 7 + 6, none⟩ = some (.string s.cl)) (by kernel_rfl) (HSS.out _ (Fr.drew _ _)) (fun hHeld => ?_)
                  have HFd := hid (HFd.out.trans (Fr.drew _ _))
                  refine wpAnyH_take (i := 0) (v := (.int .i64 q)) rfl (by kernel_rfl) (by kernel_rfl) (by kernel_rfl) (fun _ _ _ h => h) (Or.inl ⟨by rfl, by intro W hSW; (try dsimp only at hSW); go_simp⟩) (by assumption) ?_
                  simp only [Act.put, List.getElem_toArray, List.getElem_cons_zero, List.getElem_cons_succ, List.setIfInBounds_toArray, List.set_cons_zero, List.set_cons_succ]
                  refine wpAnyH_take (i := 1) (v := (.bool false)) rfl (by kernel_rfl) (by kernel_rfl) (by kernel_rfl) (fun _ _ _ h => h) (Or.inl ⟨by rfl, by intro W hSW; (try dsimp only at hSW); go_simp⟩) (by assumption) ?_
                  simp only [Act.put, List.getElem_toArray, List.getElem_cons_zero, List.getElem_cons_succ, List.setIfInBounds_toArray, List.set_cons_zero, List.set_cons_succ]
                  refine wpAnyH_take (i := 2) (v := (.bool false)) rfl (by kernel_rfl) (by kernel_rfl) (by kernel_rfl) (fun _ _ _ h => h) (Or.inl ⟨by rfl, by intro W hSW; (try dsimp only at hSW); go_simp⟩) (by assumption) ?_
                  simp only [Act.put, List.getElem_toArray, List.getElem_cons_zero, List.getElem_cons_succ, List.setIfInBounds_toArray, List.set_cons_zero, List.set_cons_succ]
                  refine wpAnyH_take (i := 3) (v := (.slice (some ⟨ga, oga, none⟩) n c)) rfl (by kernel_rfl) (by kernel_rfl) (by kernel_rfl) (fun _ _ _ h => h) (Or.inl ⟨by rfl, by intro W hSW; (try dsimp only at hSW); go_simp⟩) (by assumption) ?_
                  simp only [Act.put, List.getElem_toArray, List.getElem_cons_zero, List.getElem_cons_succ, List.setIfInBounds_toArray, List.set_cons_zero, List.set_cons_succ]
                  refine wpAnyH_take (i := 4) (v := (.int .i64 i)) rfl (by kernel_rfl) (by kernel_rfl) (by kernel_rfl) (fun _ _ _ h => h) (Or.inl ⟨by rfl, by intro W hSW; (try dsimp only at hSW); go_simp⟩) (by assumption) ?_
                  simp only [Act.put, List.getElem_toArray, List.getElem_cons_zero, List.getElem_cons_succ, List.setIfInBounds_toArray, List.set_cons_zero, List.set_cons_succ]
                  refine wpAnyH_take (i := 5) (v := (.pointer (some ⟨ga, oga + i * 7, none⟩))) rfl (by kernel_rfl) (by kernel_rfl) (by kernel_rfl) (fun _ _ _ h => h) (Or.inl ⟨by rfl, by intro W hSW; (try dsimp only at hSW); go_simp⟩) (by assumption) ?_
                  simp only [Act.put, List.getElem_toArray, List.getElem_cons_zero, List.getElem_cons_succ, List.setIfInBounds_toArray, List.set_cons_zero, List.set_cons_succ]
                  refine wpAnyH_take (i := 6) (v := (.agg #[.int .i64 r.par, .int .i64 r.in_, .int .i64 r.fn, .int .i64 r.kind, .int .i64 r.v, .int .i64 r.st, .string r.cl])) rfl (by kernel_rfl) (by kernel_rfl) (by kernel_rfl) (fun _ _ _ h => h) (Or.inl ⟨by rfl, by intro W hSW; (try dsimp only at hSW); go_simp⟩) (by assumption) ?_
                  simp only [Act.put, List.getElem_toArray, List.getElem_cons_zero, List.getElem_cons_succ, List.setIfInBounds_toArray, List.set_cons_zero, List.set_cons_succ]
                  refine wpAnyH_take (i := 7) (v := ((.slice (some ⟨gb, ogb, none⟩) m c'))) rfl (by kernel_rfl) (by kernel_rfl) (by kernel_rfl) (fun _ _ _ h => h) (Or.inl ⟨by rfl, by intro W hSW; (try dsimp only at hSW); go_simp⟩) (by assumption) ?_
                  simp only [Act.put, List.getElem_toArray, List.getElem_cons_zero, List.getElem_cons_succ, List.setIfInBounds_toArray, List.set_cons_zero, List.set_cons_succ]
                  refine wpAnyH_take (i := 8) (v := (.int .i64 q)) rfl (by kernel_rfl) (by kernel_rfl) (by kernel_rfl) (fun _ _ _ h => h) (Or.inl ⟨by rfl, by intro W hSW; (try dsimp only at hSW); go_simp⟩) (by assumption) ?_
                  simp only [Act.put, List.getElem_toArray, List.getElem_cons_zero, List.getElem_cons_succ, List.setIfInBounds_toArray, List.set_cons_zero, List.set_cons_succ]
                  refine wpAnyH_take (i := 9) (v := (.pointer (some ⟨gb, ogb + q * 7, none⟩))) rfl (by kernel_rfl) (by kernel_rfl) (by kernel_rfl) (fun _ _ _ h => h) (Or.inl ⟨by rfl, by intro W hSW; (try dsimp only at hSW); go_simp⟩) (by assumption) ?_
                  simp only [Act.put, List.getElem_toArray, List.getElem_cons_zero, List.getElem_cons_succ, List.setIfInBounds_toArray, List.set_cons_zero, List.set_cons_succ]
                  refine wpAnyH_take (i := 10) (v := (.agg #[.int .i64 s.par, .int .i64 s.in_, .int .i64 s.fn, .int .i64 s.kind, .int .i64 s.v, .int .i64 s.st, .string s.cl])) rfl (by kernel_rfl) (by kernel_rfl) (by kernel_rfl) (fun _ _ _ h => h) (Or.inl ⟨by rfl, by intro W hSW; (try dsimp only at hSW); go_simp⟩) (by assumption) ?_
                  simp only [Act.put, List.getElem_toArray, List.getElem_cons_zero, List.getElem_cons_succ, List.setIfInBounds_toArray, List.set_cons_zero, List.set_cons_succ]
                  refine wpAnyH_take (i := 11) (v := (.int .i64 i)) rfl (by kernel_rfl) (by kernel_rfl) (by kernel_rfl) (fun _ _ _ h => h) (Or.inl ⟨by rfl, by intro W hSW; (try dsimp only at hSW); go_simp⟩) (by assumption) ?_
                  simp only [Act.put, List.getElem_toArray, List.getElem_cons_zero, List.getElem_cons_succ, List.setIfInBounds_toArray, List.set_cons_zero, List.set_cons_succ]
                  refine wpAnyH_take (i := 12) (v := (.bool fi)) rfl (by kernel_rfl) (by kernel_rfl) (by kernel_rfl) (fun _ _ _ h => h) (Or.inl ⟨by rfl, by intro W hSW; (try dsimp only at hSW); go_simp⟩) (by assumption) ?_
                  simp only [Act.put, List.getElem_toArray, List.getElem_cons_zero, List.getElem_cons_succ, List.setIfInBounds_toArray, List.set_cons_zero, List.set_cons_succ]
                  refine wpAnyH_ready (rs := [13]) (by kernel_rfl) (by simp) ?_
                  refine AllReadyH.cons rfl (fun K hK => ?_) AllReadyH.nil
                  simp only [List.getElem_toArray, List.getElem_cons_zero, List.getElem_cons_succ]
                  go_simp
                  ((with_reducible refine (HRB.out _).mono ?_); rintro e wb ⟨rfl, hF⟩; have HFd := hid (HFd.out.trans (Fr.trans (by first | exact Fr.refl _ _ | exact Fr.drew _ _) hF)); clear hF)
                  refine hK.out _ _ (by first | exact HSS.out _ HFd.out) (fun hHeld => ?_)
                  clear hK K
                  try simp only [Act.put, List.getElem_toArray, List.getElem_cons_zero, List.getElem_cons_succ, List.setIfInBounds_toArray, List.set_cons_zero, List.set_cons_succ]
                  refine wpAnyH_take (i := 14) (v := (.bool false)) rfl (by kernel_rfl) (by kernel_rfl) (by kernel_rfl) (fun _ _ _ h => h) (Or.inl ⟨by rfl, by intro W hSW; (try dsimp only at hSW); go_simp⟩) (by assumption) ?_
                  simp only [Act.put, List.getElem_toArray, List.getElem_cons_zero, List.getElem_cons_succ, List.setIfInBounds_toArray, List.set_cons_zero, List.set_cons_succ]
                  refine wpAnyH_take (i := 15) (v := (.bool false)) rfl (by kernel_rfl) (by kernel_rfl) (by kernel_rfl) (fun _ _ _ h => h) (Or.inl ⟨by rfl, by intro W hSW; (try dsimp only at hSW); go_simp⟩) (by assumption) ?_
                  simp only [Act.put, List.getElem_toArray, List.getElem_cons_zero, List.getElem_cons_succ, List.setIfInBounds_toArray, List.set_cons_zero, List.set_cons_succ]
                  refine wpAnyH_take (i := 16) (v := (.bool false)) rfl (by kernel_rfl) (by kernel_rfl) (by kernel_rfl) (fun _ _ _ h => h) (Or.inl ⟨by rfl, by intro W hSW; (try dsimp only at hSW); go_simp⟩) (by assumption) ?_
                  simp only [Act.put, List.getElem_toArray, List.getElem_cons_zero, List.getElem_cons_succ, List.setIfInBounds_toArray, List.set_cons_zero, List.set_cons_succ]
                  refine wpAnyH_take (i := 17) (v := (.slice (some ⟨ga, oga, none⟩) n c)) rfl (by kernel_rfl) (by kernel_rfl) (by kernel_rfl) (fun _ _ _ h => h) (Or.inl ⟨by rfl, by intro W hSW; (try dsimp only at hSW); go_simp⟩) (by assumption) ?_
                  simp only [Act.put, List.getElem_toArray, List.getElem_cons_zero, List.getElem_cons_succ, List.setIfInBounds_toArray, List.set_cons_zero, List.set_cons_succ]
                  refine wpAnyH_take (i := 18) (v := (.int .i64 i)) rfl (by kernel_rfl) (by kernel_rfl) (by kernel_rfl) (fun _ _ _ h => h) (Or.inl ⟨by rfl, by intro W hSW; (try dsimp only at hSW); go_simp⟩) (by assumption) ?_
                  simp only [Act.put, List.getElem_toArray, List.getElem_cons_zero, List.getElem_cons_succ, List.setIfInBounds_toArray, List.set_cons_zero, List.set_cons_succ]
                  refine wpAnyH_take (i := 19) (v := (.pointer (some ⟨ga, oga + i * 7, none⟩))) rfl (by kernel_rfl) (by kernel_rfl) (by kernel_rfl) (fun _ _ _ h => h) (Or.inl ⟨by rfl, by intro W hSW; (try dsimp only at hSW); go_simp⟩) (by assumption) ?_
                  simp only [Act.put, List.getElem_toArray, List.getElem_cons_zero, List.getElem_cons_succ, List.setIfInBounds_toArray, List.set_cons_zero, List.set_cons_succ]
                  refine wpAnyH_take (i := 20) (v := (.agg #[.int .i64 r.par, .int .i64 r.in_, .int .i64 r.fn, .int .i64 r.kind, .int .i64 r.v, .int .i64 r.st, .string r.cl])) rfl (by kernel_rfl) (by kernel_rfl) (by kernel_rfl) (fun _ _ _ h => h) (Or.inl ⟨by rfl, by intro W hSW; (try dsimp only at hSW); go_simp⟩) (by assumption) ?_
                  simp only [Act.put, List.getElem_toArray, List.getElem_cons_zero, List.getElem_cons_succ, List.setIfInBounds_toArray, List.set_cons_zero, List.set_cons_succ]
                  refine wpAnyH_ready (rs := [21]) (by kernel_rfl) (by simp) ?_
                  refine AllReadyH.cons rfl (fun K hK => ?_) AllReadyH.nil
                  simp only [List.getElem_toArray, List.getElem_cons_zero, List.getElem_cons_succ]
                  go_simp
                  ((with_reducible refine (HCM.out _).mono ?_); rintro e wb ⟨rfl, hF⟩; have HFd := hid (HFd.out.trans (Fr.trans (by first | exact Fr.refl _ _ | exact Fr.drew _ _) hF)); clear hF)
                  refine hK.out _ _ (by first | exact HSS.out _ HFd.out) (fun hHeld => ?_)
                  clear hK K
                  try simp only [Act.put, List.getElem_toArray, List.getElem_cons_zero, List.getElem_cons_succ, List.setIfInBounds_toArray, List.set_cons_zero, List.set_cons_succ]
                  refine wpAnyH_take (i := 22) (v := (.bool true)) rfl (by kernel_rfl) (by kernel_rfl) (by kernel_rfl) (fun _ _ _ h => h) (Or.inl ⟨by rfl, by intro W hSW; (try dsimp only at hSW); go_simp⟩) (by assumption) ?_
                  simp only [Act.put, List.getElem_toArray, List.getElem_cons_zero, List.getElem_cons_succ, List.setIfInBounds_toArray, List.set_cons_zero, List.set_cons_succ]
                  refine wpAnyH_take (i := 23) (v := (.slice (some ⟨ga, oga, none⟩) n c)) rfl (by kernel_rfl) (by kernel_rfl) (by kernel_rfl) (fun _ _ _ h => h) (Or.inl ⟨by rfl, by intro W hSW; (try dsimp only at hSW); go_simp⟩) (by assumption) ?_
                  simp only [Act.put, List.getElem_toArray, List.getElem_cons_zero, List.getElem_cons_succ, List.setIfInBounds_toArray, List.set_cons_zero, List.set_cons_succ]
                  refine wpAnyH_take (i := 24) (v := (.int .i64 i)) rfl (by kernel_rfl) (by kernel_rfl) (by kernel_rfl) (fun _ _ _ h => h) (Or.inl ⟨by rfl, by intro W hSW; (try dsimp only at hSW); go_simp⟩) (by assumption) ?_
                  simp only [Act.put, List.getElem_toArray, List.getElem_cons_zero, List.getElem_cons_succ, List.setIfInBounds_toArray, List.set_cons_zero, List.set_cons_succ]
                  refine wpAnyH_take (i := 27) (v := ((.slice (some ⟨gb, ogb, none⟩) m c'))) rfl (by kernel_rfl) (by kernel_rfl) (by kernel_rfl) (fun _ _ _ h => h) (Or.inl ⟨by rfl, by intro W hSW; (try dsimp only at hSW); go_simp⟩) (by assumption) ?_
                  simp only [Act.put, List.getElem_toArray, List.getElem_cons_zero, List.getElem_cons_succ, List.setIfInBounds_toArray, List.set_cons_zero, List.set_cons_succ]
                  refine wpAnyH_take (i := 28) (v := (.int .i64 q)) rfl (by kernel_rfl) (by kernel_rfl) (by kernel_rfl) (fun _ _ _ h => h) (Or.inl ⟨by rfl, by intro W hSW; (try dsimp only at hSW); go_simp⟩) (by assumption) ?_
                  simp only [Act.put, List.getElem_toArray, List.getElem_cons_zero, List.getElem_cons_succ, List.setIfInBounds_toArray, List.set_cons_zero, List.set_cons_succ]
                  refine wpAnyH_ready (rs := [25]) (by kernel_rfl) (by simp) ?_
                  refine AllReadyH.cons rfl (fun K hK => ?_) AllReadyH.nil
                  simp only [List.getElem_toArray, List.getElem_cons_zero, List.getElem_cons_succ]
                  go_simp
                  ((with_reducible refine (HK1.out _ HFd.out).mono ?_); rintro e wb ⟨m1, A1, cp1, rfl, hm1, hO1, hF⟩; have hm2 := hm1.symm; subst hm2; have HFd := hid (HFd.out.trans hF); clear hF hO1 hm1)
                  refine hK.out _ _ (by first | exact HSS.out _ HFd.out) (fun hHeld => ?_)
                  clear hK K
                  try simp only [Act.put, List.getElem_toArray, List.getElem_cons_zero, List.getElem_cons_succ, List.setIfInBounds_toArray, List.set_cons_zero, List.set_cons_succ]
                  refine wpAnyH_take (i := 26) (v := (.int .i64 N1)) rfl (by kernel_rfl) (by kernel_rfl) (by kernel_rfl) (fun _ _ _ h => h) (Or.inl ⟨by rfl, by intro W hSW; (try dsimp only at hSW); go_simp⟩) (by assumption) ?_
                  simp only [Act.put, List.getElem_toArray, List.getElem_cons_zero, List.getElem_cons_succ, List.setIfInBounds_toArray, List.set_cons_zero, List.set_cons_succ]
                  refine wpAnyH_ready (rs := [29]) (by kernel_rfl) (by simp) ?_
                  refine AllReadyH.cons rfl (fun K hK => ?_) AllReadyH.nil
                  simp only [List.getElem_toArray, List.getElem_cons_zero, List.getElem_cons_succ]
                  go_simp
                  ((with_reducible refine (HK2.out _ HFd.out).mono ?_); rintro e wb ⟨m2, A2, cp2, rfl, hm1, hO1, hF⟩; have hm2 := hm1.symm; subst hm2; have HFd := hid (HFd.out.trans hF); clear hF hO1 hm1)
                  refine hK.out _ _ (by first | exact HSS.out _ HFd.out) (fun hHeld => ?_)
                  clear hK K
                  try simp only [Act.put, List.getElem_toArray, List.getElem_cons_zero, List.getElem_cons_succ, List.setIfInBounds_toArray, List.set_cons_zero, List.set_cons_succ]
                  refine wpAnyH_take (i := 30) (v := (.int .i64 N2)) rfl (by kernel_rfl) (by kernel_rfl) (by kernel_rfl) (fun _ _ _ h => h) (Or.inl ⟨by rfl, by intro W hSW; (try dsimp only at hSW); go_simp⟩) (by assumption) ?_
                  simp only [Act.put, List.getElem_toArray, List.getElem_cons_zero, List.getElem_cons_succ, List.setIfInBounds_toArray, List.set_cons_zero, List.set_cons_succ]
                  refine wpAnyH_take (i := 31) (v := (.bool true)) rfl (by kernel_rfl) (by kernel_rfl) (by kernel_rfl) (fun _ _ _ h => h) (Or.inl ⟨by rfl, by intro W hSW; (try dsimp only at hSW); go_simp⟩) (by assumption) ?_
                  simp only [Act.put, List.getElem_toArray, List.getElem_cons_zero, List.getElem_cons_succ, List.setIfInBounds_toArray, List.set_cons_zero, List.set_cons_succ]
                  refine wpAnyH_take (i := 32) (v := (.bool true)) rfl (by kernel_rfl) (by kernel_rfl) (by kernel_rfl) (fun _ _ _ h => h) (Or.inl ⟨by rfl, by intro W hSW; (try dsimp only at hSW); go_simp⟩) (by assumption) ?_
                  simp only [Act.put, List.getElem_toArray, List.getElem_cons_zero, List.getElem_cons_succ, List.setIfInBounds_toArray, List.set_cons_zero, List.set_cons_succ]
                  refine wpAnyH_take (i := 33) (v := (.bool true)) rfl (by kernel_rfl) (by kernel_rfl) (by kernel_rfl) (fun _ _ _ h => h) (Or.inl ⟨by rfl, by intro W hSW; (try dsimp only at hSW); go_simp⟩) (by assumption) ?_
                  simp only [Act.put, List.getElem_toArray, List.getElem_cons_zero, List.getElem_cons_succ, List.setIfInBounds_toArray, List.set_cons_zero, List.set_cons_succ]
                  refine wpAnyH_done (by kernel_rfl) ?_ _
                  all_goals
                    go_wp2_with fail
                    go_ret
                    exact ⟨false, rfl, ⟨(fun h => by cases h), fun h => by
                      obtain ⟨q', r', s', g1, g2, g3, g4, g5, g6⟩ := h.2.2 i (by rw [HL.out]; exact hlt)
                      have hqq : q' = q := by have := HQ.out; omega
                      subst hqq
                      rw [HR.out] at g2
                      injection g2 with g2
                      subst g2
                      have h7 := g6 (of_decide_eq_true HBC.out)
                      rw [HN.out.1, HN.out.2] at h7
                      have := HBN.out
                      rw [h7] at this
                      simp at this⟩, HF4.out.trans HFd.out⟩
        · go_wp2_with fail
          go_ret
          exact ⟨true, rfl, ⟨fun _ => ⟨HX0.out, HY0.out, okD_all HT1.out (fun x hx => HAL.out x (by rw [HL.out] at hx; omega))⟩, fun _ => rfl⟩, HF.out⟩
    · have t2 : (y != 0) = true := by simpa using hy0
      have HN := hid hy0
      clear hy0
      go_wp2_with fail
      go_ret
      exact ⟨false, rfl, ⟨(fun h => by cases h), fun h => absurd (HY.out.symm.trans h.2.1) HN.out⟩, HF2.out⟩
  · have t1 : (x != 0) = true := by simpa using hx0
    have HN := hid hx0
    clear hx0
    go_wp2_with fail
    go_ret
    exact ⟨false, rfl, ⟨(fun h => by cases h), fun h => absurd (HX.out.symm.trans h.1) HN.out⟩, HF1.out⟩

end Go.Proofs.YticlnopklpaikaaDoor
