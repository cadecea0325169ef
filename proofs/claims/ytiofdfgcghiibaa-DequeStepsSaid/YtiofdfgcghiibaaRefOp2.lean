/-
  The document's operations of a deque: steps that call, copy, grow, or break.
-/
import Derived.Test.YtiofdfgcghiibaaRefOp
import Derived.Test.YtiofdfgcghiibaaRefS
namespace Go.Proofs.Ytiofdfgcghiibaa
open Go.RowKit
set_option linter.unusedVariables false

set_option maxRecDepth 100000 in
set_option maxHeartbeats 1000000 in
theorem ru6 (B c g r cp n cap : Nat) (most size did : Int) (L : List Int) (x bo t ra rl ta tl pl cx got err : Int) (ld won : Bool) (w : World) (hO : RO w r cp most ⟨0, 6, x, bo, t, ⟨ra, rl⟩, ⟨ta, tl⟩, pl, cx, ld, won, 0, got, err⟩) (hC : RC w B c g L n cap size did) (hS : RSep c g r cp) (h3 : 3 ≤ n) (wv : Int) (hwv : Rg.word ⟨ta, tl⟩ = wv) :
    Calls Try.prog 57 #[.pointer (some ⟨r, 0, none⟩), .pointer (some ⟨c, 0, none⟩)] w (RPost B c g r cp most ⟨0, 7, x, bo, t, ⟨ta, tl⟩, ⟨ta, tl⟩, pl, cx, ld, won, 0, got, err⟩ (L.set 2 wv) n cap size did w) := by
  obtain ⟨cv, hO, hV⟩ := hO
  unfold rc16 at hO
  have HO := hid hO
  have HC := hid hC
  have HS := hid hS
  have HV := hid hV
  have kd0 := hO.cell (i := 0) rfl
  have kd1 := hO.cell (i := 4) rfl
  have cs := hC.hc.cell (i := 0) rfl
  have n1 : r ≠ g := hS.rg
  have n2 : r ≠ c := hS.rc
  have n3 : c ≠ g := hC.ne
  have n4 : g ≠ r := hS.rg.symm
  have n5 : c ≠ r := hS.rc.symm
  have n6 : g ≠ c := hC.ne.symm
  have HP := hid (fun (v : World) => hwv ▸ rword_any ta tl v)
  clear hwv
  have HS0 := hid hS
  have hb3 : (2 : Int) < (n : Int) := by omega
  have hb4 : 2 < n := by omega
  have tw1 : IntKind.i64.wrap (0 + 2) = 2 := wrap_in _ (by omega) (by omega)
  have tw2 : IntKind.i64.wrap 2 = 2 := wrap_in _ (by omega) (by omega)
  have HSa := hid (show ∀ v, Fr (fun _ => False) w v → v.cell? ⟨c, 0, none⟩ = some (.slice (some ⟨g, 0, none⟩) n cap) ∧ v.cell? ⟨r, 9, none⟩ = some (.int .i64 ta) ∧ v.cell? ⟨r, 10, none⟩ = some (.int .i64 tl) from fun v F => ⟨(HC.out.same F).hc.cell (i := 0) rfl, (HO.out.same F).cell (i := 9) rfl, (HO.out.same F).cell (i := 10) rfl⟩)
  have HSb := hid (show ∀ v, Fr (fun _ => False) w v → (v.setCell ⟨g, 2, none⟩ (.int .i64 wv)).cell? ⟨c, 0, none⟩ = some (.slice (some ⟨g, 0, none⟩) n cap) ∧ (v.setCell ⟨g, 2, none⟩ (.int .i64 wv)).cell? ⟨r, 9, none⟩ = some (.int .i64 ta) ∧ (v.setCell ⟨g, 2, none⟩ (.int .i64 wv)).cell? ⟨r, 10, none⟩ = some (.int .i64 tl) from fun v F => ⟨((HC.out.same F).set (k := 2) (by omega) wv).hc.cell (i := 0) rfl, ((HO.out.same F).far 2 (.int .i64 wv) HS0.out.rg).cell (i := 9) rfl, ((HO.out.same F).far 2 (.int .i64 wv) HS0.out.rg).cell (i := 10) rfl⟩)
  have HFd := hid (Fr.refl (fun _ => False) w)
  clear hO hC hS hV
  go_enter Try.func57, Try.ntmps57
  go_upto_region 32 with fail
  go_region_held3 (fun v => v.cell? ⟨c, 0, none⟩ = some (.slice (some ⟨g, 0, none⟩) n cap) ∧ v.cell? ⟨r, 9, none⟩ = some (.int .i64 ta) ∧ v.cell? ⟨r, 10, none⟩ = some (.int .i64 tl))
    (first | exact HSb.out _ HFd.out | exact HSb.out _ (HFd.out.trans (Fr.drew _ _)) | exact HSa.out _ HFd.out | exact HSa.out _ (HFd.out.trans (Fr.drew _ _)))
    (first
      | (go_at_call 85; ((with_reducible refine (HP.out _).mono ?_); rintro e w6 ⟨rfl, hF6⟩; have HFd := hid (HFd.out.trans (Fr.trans (by first | exact Fr.refl _ _ | exact Fr.drew _ _) hF6)); clear hF6; have kf99 := (HC.out.same HFd.out).frozen 2; have ks99 := (HC.out.same HFd.out).cell (k := 2) (by omega))))
  all_goals
    have HO1 := hid (HO.out.same HFd.out)
    have HC1 := hid (HC.out.same HFd.out)
    have HF1 := hid (HFd.out.mono (T := RS r g cp) fun _ h => h.elim)
    have kf4 := (HO1.out.far 2 (.int .i64 wv) HS0.out.rg).frozen 4
    have ks4 := (HO1.out.far 2 (.int .i64 wv) HS0.out.rg).cell (i := 4) rfl
    have kf7 := (HO1.out.far 2 (.int .i64 wv) HS0.out.rg).frozen 7
    have ks7 := (HO1.out.far 2 (.int .i64 wv) HS0.out.rg).cell (i := 7) rfl
    have kf8 := (HO1.out.far 2 (.int .i64 wv) HS0.out.rg).frozen 8
    have ks8 := (HO1.out.far 2 (.int .i64 wv) HS0.out.rg).cell (i := 8) rfl
    have kf9 := (HO1.out.far 2 (.int .i64 wv) HS0.out.rg).frozen 9
    have ks9 := (HO1.out.far 2 (.int .i64 wv) HS0.out.rg).cell (i := 9) rfl
    have kf10 := (HO1.out.far 2 (.int .i64 wv) HS0.out.rg).frozen 10
    have ks10 := (HO1.out.far 2 (.int .i64 wv) HS0.out.rg).cell (i := 10) rfl
    go_wp2_with fail
    refine bodyPost_end (v := .tuple #[]) (by simp [results, Try.results57, go_sem]) rfl ?_
    have HB9 := ((((((((HO1.out).far (2) (.int .i64 (wv)) n1)).set 7 (.int .i64 ta))).set 8 (.int .i64 tl))).set 4 (.int .i64 7))
    exact ⟨rfl, ⟨cv, by simpa [rc16] using HB9, fun _ h => by cases h⟩, ((((((((HC1.out).set (k := 2) (by omega) (wv))).rset n2 n1 7 (.int .i64 ta))).rset n2 n1 8 (.int .i64 tl))).rset n2 n1 4 (.int .i64 7)), ((((((((HF1.out).trans (frs_g _ r g cp (2) (.int .i64 (wv))))).trans (frs_r _ r g cp 7 (.int .i64 ta)))).trans (frs_r _ r g cp 8 (.int .i64 tl)))).trans (frs_r _ r g cp 4 (.int .i64 7)))⟩
set_option maxRecDepth 100000 in
set_option maxHeartbeats 1000000 in
theorem ru3_room (B c g r cp n cap : Nat) (most size did : Int) (L : List Int) (x bo t ra rl ta tl pl cx got err : Int) (ld won : Bool) (w : World) (hO : RO w r cp most ⟨0, 3, x, bo, t, ⟨ra, rl⟩, ⟨ta, tl⟩, pl, cx, ld, won, 0, got, err⟩) (hC : RC w B c g L n cap size did) (hS : RSep c g r cp) (h3 : 3 ≤ n) (v0 : Int) (hv0 : L.getD 2 0 = v0) (ra2 rl2 sz : Int) (hR : Rg.Right ⟨ra2, rl2⟩) (hw : v0 = Rg.word ⟨ra2, rl2⟩) (hsz : Rg.size ⟨ra2, rl2⟩ = sz) (hc : bo - t < sz) (hb1 : -100000 ≤ bo) (hb2 : bo ≤ 100000) (ht1 : -100000 ≤ t) (ht2 : t ≤ 100000) :
    Calls Try.prog 57 #[.pointer (some ⟨r, 0, none⟩), .pointer (some ⟨c, 0, none⟩)] w (RPost B c g r cp most ⟨0, 7, x, bo, t, ⟨ra2, rl2⟩, ⟨ta, tl⟩, pl, cx, ld, won, 0, got, err⟩ (L) n cap size did w) := by
  obtain ⟨cv, hO, hV⟩ := hO
  unfold rc16 at hO
  have HO := hid hO
  have HC := hid hC
  have HS := hid hS
  have HV := hid hV
  have kd0 := hO.cell (i := 0) rfl
  have kd1 := hO.cell (i := 4) rfl
  have cs := hC.hc.cell (i := 0) rfl
  have n1 : r ≠ g := hS.rg
  have n2 : r ≠ c := hS.rc
  have n3 : c ≠ g := hC.ne
  have n4 : g ≠ r := hS.rg.symm
  have n5 : c ≠ r := hS.rc.symm
  have n6 : g ≠ c := hC.ne.symm
  have HOF := hid (fun (v : World) => hw ▸ rof_is ra2 rl2 hR v)
  have HSZ := hid (fun (v : World) => hsz ▸ rsize_any ra2 rl2 v)
  clear hR hw hsz
  have tw : IntKind.i64.wrap (bo - t) = bo - t := wrap_in _ (by omega) (by omega)
  have hb3 : (2 : Int) < (n : Int) := by omega
  have tc : decide (bo - t < sz) = true := by simp; omega
  clear hc
  have cm0 := hC.cell (k := 2) (by omega)
  rw [hv0] at cm0
  clear hv0
  clear hO hC hS hV
  go_enter Try.func57, Try.ntmps57
  go_wp2_with fail
  refine (HOF.out _).mono ?_
  rintro e w1 ⟨rfl, hF⟩
  have HO1 := hid (HO.out.keep hF id)
  have HC1 := hid (HC.out.same hF)
  have HF1 := hid (hF.mono (T := RS r g cp) fun _ h => h.elim)
  clear hF
  have kf7 := HO1.out.frozen 7
  have ks7 := HO1.out.cell (i := 7) rfl
  have kf8 := HO1.out.frozen 8
  have ks8 := HO1.out.cell (i := 8) rfl
  have kf4 := HO1.out.frozen 4
  have ks4 := HO1.out.cell (i := 4) rfl
  go_upto_region 11 with fail
  have HO2 := hid (((HO1.out.set 7 (.int .i64 ra2)).set 8 (.int .i64 rl2)).set 4 (.int .i64 4))
  have HC2 := hid (((HC1.out.rset n2 n1 7 (.int .i64 ra2)).rset n2 n1 8 (.int .i64 rl2)).rset n2 n1 4 (.int .i64 4))
  have HF2 := hid (((HF1.out.trans (frs_r _ r g cp 7 (.int .i64 ra2))).trans (frs_r _ r g cp 8 (.int .i64 rl2))).trans (frs_r _ r g cp 4 (.int .i64 4)))
  obtain ⟨w2, hw2⟩ : ∃ w2, ((w1.setCell ⟨r, 7, none⟩ (.int .i64 ra2)).setCell ⟨r, 8, none⟩ (.int .i64 rl2)).setCell ⟨r, 4, none⟩ (.int .i64 4) = w2 := ⟨_, rfl⟩
  rw [hw2] at HO2 HC2 HF2 ⊢
  clear hw2 kf7 ks7 kf8 ks8 kf4 ks4
  have HSa := hid (show ∀ v, Fr (fun _ => False) w2 v → v.cell? ⟨r, 5, none⟩ = some (.int .i64 bo) ∧ v.cell? ⟨r, 6, none⟩ = some (.int .i64 t) ∧ v.cell? ⟨r, 7, none⟩ = some (.int .i64 ra2) ∧ v.cell? ⟨r, 8, none⟩ = some (.int .i64 rl2) from fun v F => ⟨(HO2.out.same F).cell (i := 5) rfl, (HO2.out.same F).cell (i := 6) rfl, (HO2.out.same F).cell (i := 7) rfl, (HO2.out.same F).cell (i := 8) rfl⟩)
  have HFd := hid (Fr.refl (fun _ => False) w2)
  go_region_held3 (fun v => v.cell? ⟨r, 5, none⟩ = some (.int .i64 bo) ∧ v.cell? ⟨r, 6, none⟩ = some (.int .i64 t) ∧ v.cell? ⟨r, 7, none⟩ = some (.int .i64 ra2) ∧ v.cell? ⟨r, 8, none⟩ = some (.int .i64 rl2))
    (first | exact HSa.out _ HFd.out | exact HSa.out _ (HFd.out.trans (Fr.drew _ _)))
    (first
      | (go_at_call 50; ((with_reducible refine (HSZ.out _).mono ?_); rintro e w6 ⟨rfl, hF6⟩; have HFd := hid (HFd.out.trans (Fr.trans (by first | exact Fr.refl _ _ | exact Fr.drew _ _) hF6)); clear hF6)))
  all_goals
    clear tw
    have HO3 := hid (HO2.out.same HFd.out)
    have HC3 := hid (HC2.out.same HFd.out)
    have HF3 := hid (HF2.out.trans (HFd.out.mono (T := RS r g cp) fun _ h => h.elim))
    have kf4 := HO3.out.frozen 4
    have ks4 := HO3.out.cell (i := 4) rfl
    have kf13 := HO3.out.frozen 13
    have ks13 := HO3.out.cell (i := 13) rfl
    have ks8 := HO3.out.cell (i := 8) rfl
    have ks1 := HO3.out.cell (i := 1) rfl
    go_wp2_with fail
    refine bodyPost_end (v := .tuple #[]) (by simp [results, Try.results57, go_sem]) rfl ?_
    have HB9 := ((HO3.out).set 4 (.int .i64 7))
    exact ⟨rfl, ⟨cv, by simpa [rc16] using HB9, fun _ h => by cases h⟩, ((HC3.out).rset n2 n1 4 (.int .i64 7)), ((HF3.out).trans (frs_r _ r g cp 4 (.int .i64 7)))⟩
set_option maxRecDepth 100000 in
set_option maxHeartbeats 1000000 in
theorem ru3_full (B c g r cp n cap : Nat) (most size did : Int) (L : List Int) (x bo t ra rl ta tl pl cx got err : Int) (ld won : Bool) (w : World) (hO : RO w r cp most ⟨0, 3, x, bo, t, ⟨ra, rl⟩, ⟨ta, tl⟩, pl, cx, ld, won, 0, got, err⟩) (hC : RC w B c g L n cap size did) (hS : RSep c g r cp) (h3 : 3 ≤ n) (v0 : Int) (hv0 : L.getD 2 0 = v0) (ra2 rl2 sz : Int) (hR : Rg.Right ⟨ra2, rl2⟩) (hw : v0 = Rg.word ⟨ra2, rl2⟩) (hsz : Rg.size ⟨ra2, rl2⟩ = sz) (hc : ¬ bo - t < sz) (hc2 : most ≤ rl2) (hb1 : -100000 ≤ bo) (hb2 : bo ≤ 100000) (ht1 : -100000 ≤ t) (ht2 : t ≤ 100000) :
    Calls Try.prog 57 #[.pointer (some ⟨r, 0, none⟩), .pointer (some ⟨c, 0, none⟩)] w (RPost B c g r cp most ⟨0, 4, x, bo, t, ⟨ra2, rl2⟩, ⟨ta, tl⟩, pl, cx, ld, won, 4, got, err⟩ (L) n cap size did w) := by
  obtain ⟨cv, hO, hV⟩ := hO
  unfold rc16 at hO
  have HO := hid hO
  have HC := hid hC
  have HS := hid hS
  have HV := hid hV
  have kd0 := hO.cell (i := 0) rfl
  have kd1 := hO.cell (i := 4) rfl
  have cs := hC.hc.cell (i := 0) rfl
  have n1 : r ≠ g := hS.rg
  have n2 : r ≠ c := hS.rc
  have n3 : c ≠ g := hC.ne
  have n4 : g ≠ r := hS.rg.symm
  have n5 : c ≠ r := hS.rc.symm
  have n6 : g ≠ c := hC.ne.symm
  have HOF := hid (fun (v : World) => hw ▸ rof_is ra2 rl2 hR v)
  have HSZ := hid (fun (v : World) => hsz ▸ rsize_any ra2 rl2 v)
  clear hR hw hsz
  have tw : IntKind.i64.wrap (bo - t) = bo - t := wrap_in _ (by omega) (by omega)
  have hb3 : (2 : Int) < (n : Int) := by omega
  have tc : decide (bo - t < sz) = false := by simp; omega
  have tc2 : decide (most ≤ rl2) = true := by simp; omega
  clear hc2
  clear hc
  have cm0 := hC.cell (k := 2) (by omega)
  rw [hv0] at cm0
  clear hv0
  clear hO hC hS hV
  go_enter Try.func57, Try.ntmps57
  go_wp2_with fail
  refine (HOF.out _).mono ?_
  rintro e w1 ⟨rfl, hF⟩
  have HO1 := hid (HO.out.keep hF id)
  have HC1 := hid (HC.out.same hF)
  have HF1 := hid (hF.mono (T := RS r g cp) fun _ h => h.elim)
  clear hF
  have kf7 := HO1.out.frozen 7
  have ks7 := HO1.out.cell (i := 7) rfl
  have kf8 := HO1.out.frozen 8
  have ks8 := HO1.out.cell (i := 8) rfl
  have kf4 := HO1.out.frozen 4
  have ks4 := HO1.out.cell (i := 4) rfl
  go_upto_region 11 with fail
  have HO2 := hid (((HO1.out.set 7 (.int .i64 ra2)).set 8 (.int .i64 rl2)).set 4 (.int .i64 4))
  have HC2 := hid (((HC1.out.rset n2 n1 7 (.int .i64 ra2)).rset n2 n1 8 (.int .i64 rl2)).rset n2 n1 4 (.int .i64 4))
  have HF2 := hid (((HF1.out.trans (frs_r _ r g cp 7 (.int .i64 ra2))).trans (frs_r _ r g cp 8 (.int .i64 rl2))).trans (frs_r _ r g cp 4 (.int .i64 4)))
  obtain ⟨w2, hw2⟩ : ∃ w2, ((w1.setCell ⟨r, 7, none⟩ (.int .i64 ra2)).setCell ⟨r, 8, none⟩ (.int .i64 rl2)).setCell ⟨r, 4, none⟩ (.int .i64 4) = w2 := ⟨_, rfl⟩
  rw [hw2] at HO2 HC2 HF2 ⊢
  clear hw2 kf7 ks7 kf8 ks8 kf4 ks4
  have HSa := hid (show ∀ v, Fr (fun _ => False) w2 v → v.cell? ⟨r, 5, none⟩ = some (.int .i64 bo) ∧ v.cell? ⟨r, 6, none⟩ = some (.int .i64 t) ∧ v.cell? ⟨r, 7, none⟩ = some (.int .i64 ra2) ∧ v.cell? ⟨r, 8, none⟩ = some (.int .i64 rl2) from fun v F => ⟨(HO2.out.same F).cell (i := 5) rfl, (HO2.out.same F).cell (i := 6) rfl, (HO2.out.same F).cell (i := 7) rfl, (HO2.out.same F).cell (i := 8) rfl⟩)
  have HFd := hid (Fr.refl (fun _ => False) w2)
  go_region_held3 (fun v => v.cell? ⟨r, 5, none⟩ = some (.int .i64 bo) ∧ v.cell? ⟨r, 6, none⟩ = some (.int .i64 t) ∧ v.cell? ⟨r, 7, none⟩ = some (.int .i64 ra2) ∧ v.cell? ⟨r, 8, none⟩ = some (.int .i64 rl2))
    (first | exact HSa.out _ HFd.out | exact HSa.out _ (HFd.out.trans (Fr.drew _ _)))
    (first
      | (go_at_call 50; ((with_reducible refine (HSZ.out _).mono ?_); rintro e w6 ⟨rfl, hF6⟩; have HFd := hid (HFd.out.trans (Fr.trans (by first | exact Fr.refl _ _ | exact Fr.drew _ _) hF6)); clear hF6)))
  all_goals
    clear tw
    have HO3 := hid (HO2.out.same HFd.out)
    have HC3 := hid (HC2.out.same HFd.out)
    have HF3 := hid (HF2.out.trans (HFd.out.mono (T := RS r g cp) fun _ h => h.elim))
    have kf4 := HO3.out.frozen 4
    have ks4 := HO3.out.cell (i := 4) rfl
    have kf13 := HO3.out.frozen 13
    have ks13 := HO3.out.cell (i := 13) rfl
    have ks8 := HO3.out.cell (i := 8) rfl
    have ks1 := HO3.out.cell (i := 1) rfl
    go_wp2_with fail
    go_region
    go_wp2_with fail
    refine bodyPost_end (v := .tuple #[]) (by simp [results, Try.results57, go_sem]) rfl ?_
    have HB9 := (((HO3.out).set 13 (.int .i64 4))).drew
    exact ⟨rfl, ⟨cv, by simpa [rc16] using HB9, fun _ h => by cases h⟩, ((((HC3.out).rset n2 n1 13 (.int .i64 4))).same (Fr.drew _ _)), ((((HF3.out).trans (frs_r _ r g cp 13 (.int .i64 4)))).trans (Fr.drew _ _))⟩
set_option maxRecDepth 100000 in
set_option maxHeartbeats 1000000 in
theorem ru3_more (B c g r cp n cap : Nat) (most size did : Int) (L : List Int) (x bo t ra rl ta tl pl cx got err : Int) (ld won : Bool) (w : World) (hO : RO w r cp most ⟨0, 3, x, bo, t, ⟨ra, rl⟩, ⟨ta, tl⟩, pl, cx, ld, won, 0, got, err⟩) (hC : RC w B c g L n cap size did) (hS : RSep c g r cp) (h3 : 3 ≤ n) (v0 : Int) (hv0 : L.getD 2 0 = v0) (ra2 rl2 sz : Int) (hR : Rg.Right ⟨ra2, rl2⟩) (hw : v0 = Rg.word ⟨ra2, rl2⟩) (hsz : Rg.size ⟨ra2, rl2⟩ = sz) (hc : ¬ bo - t < sz) (hc2 : ¬ most ≤ rl2) (hb1 : -100000 ≤ bo) (hb2 : bo ≤ 100000) (ht1 : -100000 ≤ t) (ht2 : t ≤ 100000) :
    Calls Try.prog 57 #[.pointer (some ⟨r, 0, none⟩), .pointer (some ⟨c, 0, none⟩)] w (RPost B c g r cp most ⟨0, 4, x, bo, t, ⟨ra2, rl2⟩, ⟨ta, tl⟩, pl, cx, ld, won, 0, got, err⟩ (L) n cap size did w) := by
  obtain ⟨cv, hO, hV⟩ := hO
  unfold rc16 at hO
  have HO := hid hO
  have HC := hid hC
  have HS := hid hS
  have HV := hid hV
  have kd0 := hO.cell (i := 0) rfl
  have kd1 := hO.cell (i := 4) rfl
  have cs := hC.hc.cell (i := 0) rfl
  have n1 : r ≠ g := hS.rg
  have n2 : r ≠ c := hS.rc
  have n3 : c ≠ g := hC.ne
  have n4 : g ≠ r := hS.rg.symm
  have n5 : c ≠ r := hS.rc.symm
  have n6 : g ≠ c := hC.ne.symm
  have HOF := hid (fun (v : World) => hw ▸ rof_is ra2 rl2 hR v)
  have HSZ := hid (fun (v : World) => hsz ▸ rsize_any ra2 rl2 v)
  clear hR hw hsz
  have tw : IntKind.i64.wrap (bo - t) = bo - t := wrap_in _ (by omega) (by omega)
  have hb3 : (2 : Int) < (n : Int) := by omega
  have tc : decide (bo - t < sz) = false := by simp; omega
  have tc2 : decide (most ≤ rl2) = false := by simp; omega
  clear hc2
  clear hc
  have cm0 := hC.cell (k := 2) (by omega)
  rw [hv0] at cm0
  clear hv0
  clear hO hC hS hV
  go_enter Try.func57, Try.ntmps57
  go_wp2_with fail
  refine (HOF.out _).mono ?_
  rintro e w1 ⟨rfl, hF⟩
  have HO1 := hid (HO.out.keep hF id)
  have HC1 := hid (HC.out.same hF)
  have HF1 := hid (hF.mono (T := RS r g cp) fun _ h => h.elim)
  clear hF
  have kf7 := HO1.out.frozen 7
  have ks7 := HO1.out.cell (i := 7) rfl
  have kf8 := HO1.out.frozen 8
  have ks8 := HO1.out.cell (i := 8) rfl
  have kf4 := HO1.out.frozen 4
  have ks4 := HO1.out.cell (i := 4) rfl
  go_upto_region 11 with fail
  have HO2 := hid (((HO1.out.set 7 (.int .i64 ra2)).set 8 (.int .i64 rl2)).set 4 (.int .i64 4))
  have HC2 := hid (((HC1.out.rset n2 n1 7 (.int .i64 ra2)).rset n2 n1 8 (.int .i64 rl2)).rset n2 n1 4 (.int .i64 4))
  have HF2 := hid (((HF1.out.trans (frs_r _ r g cp 7 (.int .i64 ra2))).trans (frs_r _ r g cp 8 (.int .i64 rl2))).trans (frs_r _ r g cp 4 (.int .i64 4)))
  obtain ⟨w2, hw2⟩ : ∃ w2, ((w1.setCell ⟨r, 7, none⟩ (.int .i64 ra2)).setCell ⟨r, 8, none⟩ (.int .i64 rl2)).setCell ⟨r, 4, none⟩ (.int .i64 4) = w2 := ⟨_, rfl⟩
  rw [hw2] at HO2 HC2 HF2 ⊢
  clear hw2 kf7 ks7 kf8 ks8 kf4 ks4
  have HSa := hid (show ∀ v, Fr (fun _ => False) w2 v → v.cell? ⟨r, 5, none⟩ = some (.int .i64 bo) ∧ v.cell? ⟨r, 6, none⟩ = some (.int .i64 t) ∧ v.cell? ⟨r, 7, none⟩ = some (.int .i64 ra2) ∧ v.cell? ⟨r, 8, none⟩ = some (.int .i64 rl2) from fun v F => ⟨(HO2.out.same F).cell (i := 5) rfl, (HO2.out.same F).cell (i := 6) rfl, (HO2.out.same F).cell (i := 7) rfl, (HO2.out.same F).cell (i := 8) rfl⟩)
  have HFd := hid (Fr.refl (fun _ => False) w2)
  go_region_held3 (fun v => v.cell? ⟨r, 5, none⟩ = some (.int .i64 bo) ∧ v.cell? ⟨r, 6, none⟩ = some (.int .i64 t) ∧ v.cell? ⟨r, 7, none⟩ = some (.int .i64 ra2) ∧ v.cell? ⟨r, 8, none⟩ = some (.int .i64 rl2))
    (first | exact HSa.out _ HFd.out | exact HSa.out _ (HFd.out.trans (Fr.drew _ _)))
    (first
      | (go_at_call 50; ((with_reducible refine (HSZ.out _).mono ?_); rintro e w6 ⟨rfl, hF6⟩; have HFd := hid (HFd.out.trans (Fr.trans (by first | exact Fr.refl _ _ | exact Fr.drew _ _) hF6)); clear hF6)))
  all_goals
    clear tw
    have HO3 := hid (HO2.out.same HFd.out)
    have HC3 := hid (HC2.out.same HFd.out)
    have HF3 := hid (HF2.out.trans (HFd.out.mono (T := RS r g cp) fun _ h => h.elim))
    have kf4 := HO3.out.frozen 4
    have ks4 := HO3.out.cell (i := 4) rfl
    have kf13 := HO3.out.frozen 13
    have ks13 := HO3.out.cell (i := 13) rfl
    have ks8 := HO3.out.cell (i := 8) rfl
    have ks1 := HO3.out.cell (i := 1) rfl
    go_wp2_with fail
    go_region
    go_wp2_with fail
    refine bodyPost_end (v := .tuple #[]) (by simp [results, Try.results57, go_sem]) rfl ?_
    have HB9 := (HO3.out).drew
    exact ⟨rfl, ⟨cv, by simpa [rc16] using HB9, fun _ h => by cases h⟩, ((HC3.out).same (Fr.drew _ _)), ((HF3.out).trans (Fr.drew _ _))⟩
set_option maxHeartbeats 400000 in
theorem rbroke_ok (r cp : Nat) (most e0 : Int) (op : DOp) (w : World) (hO : RO w r cp most op) (hcp : cp ≠ r) :
    Calls Try.prog 56 #[.pointer (some ⟨r, 0, none⟩), .int .i64 e0] w fun e w' => e = .returned (.tuple #[]) ∧ RO w' r cp most { op with how := 6, err := e0, got := 0 } ∧ Fr (fun k => k = r) w w' := by
  obtain ⟨cv, hO, hV⟩ := hO
  unfold rc16 at hO
  have HO := hid hO
  have HV := hid hV
  have k13 := hO.cell (i := 13) rfl
  have f13 := hO.frozen 13
  have k14 := hO.cell (i := 14) rfl
  have f14 := hO.frozen 14
  have k15 := hO.cell (i := 15) rfl
  have f15 := hO.frozen 15
  clear hO hV
  go_enter Try.func56, Try.ntmps56
  go_wp2_with fail
  refine bodyPost_end (v := .tuple #[]) (by simp [results, Try.results56, go_sem]) rfl ?_
  have HB9 := ((HO.out.set 13 (.int .i64 6)).set 15 (.int .i64 e0)).set 14 (.int .i64 0)
  have HF9 : Fr (fun k => k = r) w _ := ((fr_r w r 13 (.int .i64 6)).trans (fr_r _ r 15 (.int .i64 e0))).trans (fr_r _ r 14 (.int .i64 0))
  exact ⟨rfl, ⟨cv, by simpa [rc16] using HB9, fun h1 h2 => ⟨(HV.out h1 h2).1, (HV.out h1 h2).2.keep HF9 hcp⟩⟩, HF9⟩

end Go.Proofs.Ytiofdfgcghiibaa
