/-
  Steps of a push in memory.
-/
import Derived.Test.YtiofdfgcghiibaaAll0
namespace Go.Proofs.Ytiofdfgcghiibaa
open Go.RowKit
set_option linter.unusedVariables false

set_option maxRecDepth 10000 in
set_option maxHeartbeats 1000000 in
theorem ok_u1 (b : MB) (M : Mach) (s : List Int) (o q cp j : Nat) (most : Int) (w : World) (x bo t : Int) (rg tt : Rg) (pl cx : Int) (ld won : Bool) (got err : Int) (h : Pre w b M s o q cp most ⟨0, 1, x, bo, t, rg, tt, pl, cx, ld, won, 0, got, err⟩ j)  :
    Calls Try.prog 18 #[.pointer (some ⟨o, 0, none⟩), .pointer (some ⟨b.m, 0, none⟩), .int .i64 j] w (OKPost b M s o q cp most ⟨0, 1, x, bo, t, rg, tt, pl, cx, ld, won, 0, got, err⟩ j w) := by
  obtain ⟨⟨sep, kk, hO, rep⟩, hM, hj, ⟨hu, hin, hs⟩, hbd, hl⟩ := h
  have hq := sep.bq
  obtain ⟨wa, wl, cv, f, hB, hg, he, hr⟩ : RepU w q cp most _ := by
    rcases rep with ⟨_, ⟨_, hU⟩ | ⟨k, _⟩ | ⟨k, _⟩⟩ | ⟨k, _⟩
    · exact hU
    all_goals exact absurd k (by simp)
  obtain ⟨hf, hto, hcp, hcx, htp⟩ := hr rfl
  have hf' : f = 52 := hf
  subst hf'
  simp only at hs hbd
  unfold OpB at hbd
  simp only at hbd
  refine (step_push (.pointer (some ⟨b.m, 0, none⟩)) j 0 0 0 o q _ _ _ (And_ (b.own) q) (fun w => IsM w b (MO (M) (stp s j))) w (.inr ⟨_, rfl⟩) (fun _ _ => by kernel_rfl) hO hB rfl rfl rfl ?_ rfl (fun w1 F1 => pu_seeBottom (.pointer (some ⟨b.m, 0, none⟩)) j (rd M 1) 0 most b.own _ q _ w1 (.inr ⟨_, rfl⟩) (hB.keep F1 id) rfl rfl ⟨_, rfl⟩ ⟨_, rfl⟩ hq (stays_m hq _) ((does_load hM hq hj 1 (by simp) (by omega)).later (fr_no1 q F1)))).mono ?_
  · rfl
  rintro e w' ⟨rfl, hB2, hM2, hF⟩
  refine fin_op sep hO ⟨0, 2, x, rd M 1, t, rg, tt, pl, cx, ld, won, 0, got, err⟩ (M) rfl rfl kk (by simp) ?_ hM2 (fr_om hF)
  exact .inl ⟨rfl, wa, wl, cv, _, hB2, hg, he, fun _ => ⟨rfl, fun a a' => absurd (And.intro a a') (by simp), fun a => absurd a (by simp), fun a => absurd a (by simp), fun a => absurd a (by simp)⟩⟩

set_option maxRecDepth 10000 in
set_option maxHeartbeats 1000000 in
theorem ok_u2 (b : MB) (M : Mach) (s : List Int) (o q cp j : Nat) (most : Int) (w : World) (x bo t : Int) (rg tt : Rg) (pl cx : Int) (ld won : Bool) (got err : Int) (h : Pre w b M s o q cp most ⟨0, 2, x, bo, t, rg, tt, pl, cx, ld, won, 0, got, err⟩ j)  :
    Calls Try.prog 18 #[.pointer (some ⟨o, 0, none⟩), .pointer (some ⟨b.m, 0, none⟩), .int .i64 j] w (OKPost b M s o q cp most ⟨0, 2, x, bo, t, rg, tt, pl, cx, ld, won, 0, got, err⟩ j w) := by
  obtain ⟨⟨sep, kk, hO, rep⟩, hM, hj, ⟨hu, hin, hs⟩, hbd, hl⟩ := h
  have hq := sep.bq
  obtain ⟨wa, wl, cv, f, hB, hg, he, hr⟩ : RepU w q cp most _ := by
    rcases rep with ⟨_, ⟨_, hU⟩ | ⟨k, _⟩ | ⟨k, _⟩⟩ | ⟨k, _⟩
    · exact hU
    all_goals exact absurd k (by simp)
  obtain ⟨hf, hto, hcp, hcx, htp⟩ := hr rfl
  have hf' : f = 80 := hf
  subst hf'
  simp only at hs hbd
  unfold OpB at hbd
  simp only at hbd
  refine (step_push (.pointer (some ⟨b.m, 0, none⟩)) j 0 0 0 o q _ _ _ (And_ (b.own) q) (fun w => IsM w b (MO (M) (stp s j))) w (.inr ⟨_, rfl⟩) (fun _ _ => by kernel_rfl) hO hB rfl rfl rfl ?_ rfl (fun w1 F1 => pu_seeTop (.pointer (some ⟨b.m, 0, none⟩)) j (rd M 0) 0 most b.own _ q _ w1 (.inr ⟨_, rfl⟩) (hB.keep F1 id) rfl rfl ⟨_, rfl⟩ ⟨_, rfl⟩ hq (stays_m hq _) ((does_load hM hq hj 0 (by simp) (by omega)).later (fr_no1 q F1)))).mono ?_
  · rfl
  rintro e w' ⟨rfl, hB2, hM2, hF⟩
  refine fin_op sep hO ⟨0, 3, x, bo, rd M 0, rg, tt, pl, cx, ld, won, 0, got, err⟩ (M) rfl rfl kk (by simp) ?_ hM2 (fr_om hF)
  exact .inl ⟨rfl, wa, wl, cv, _, hB2, hg, he, fun _ => ⟨rfl, fun a a' => absurd (And.intro a a') (by simp), fun a => absurd a (by simp), fun a => absurd a (by simp), fun a => absurd a (by simp)⟩⟩

set_option maxRecDepth 10000 in
set_option maxHeartbeats 1000000 in
theorem ok_u3_room (b : MB) (M : Mach) (s : List Int) (o q cp j : Nat) (most : Int) (w : World) (x bo t : Int) (rg tt : Rg) (pl cx : Int) (ld won : Bool) (got err : Int) (h : Pre w b M s o q cp most ⟨0, 3, x, bo, t, rg, tt, pl, cx, ld, won, 0, got, err⟩ j) (hc : bo - t < pow (rgOf (rd M 2)).l) :
    Calls Try.prog 18 #[.pointer (some ⟨o, 0, none⟩), .pointer (some ⟨b.m, 0, none⟩), .int .i64 j] w (OKPost b M s o q cp most ⟨0, 3, x, bo, t, rg, tt, pl, cx, ld, won, 0, got, err⟩ j w) := by
  obtain ⟨⟨sep, kk, hO, rep⟩, hM, hj, ⟨hu, hin, hs⟩, hbd, hl⟩ := h
  have hq := sep.bq
  obtain ⟨wa, wl, cv, f, hB, hg, he, hr⟩ : RepU w q cp most _ := by
    rcases rep with ⟨_, ⟨_, hU⟩ | ⟨k, _⟩ | ⟨k, _⟩⟩ | ⟨k, _⟩
    · exact hU
    all_goals exact absurd k (by simp)
  obtain ⟨hf, hto, hcp, hcx, htp⟩ := hr rfl
  have hf' : f = 88 := hf
  subst hf'
  simp only at hs hbd
  unfold OpB at hbd
  simp only at hbd
  obtain ⟨R, hR, hwd⟩ := hs
  have er : rgOf (rd M 2) = R := by rw [hwd, rgOf_word hR]
  have hsz := size_eq hR
  have hpb := pow_le R.l hR.2.1
  have hp0 := pow_pos R.l
  rw [er] at hc
  refine (step_push (.pointer (some ⟨b.m, 0, none⟩)) j 0 0 0 o q _ _ _ (And_ (b.own) q) (fun w => IsM w b (MO (M) (stp s j))) w (.inr ⟨_, rfl⟩) (fun _ _ => by kernel_rfl) hO hB rfl rfl rfl ?_ rfl (fun w1 F1 => pu_seeRing_room (.pointer (some ⟨b.m, 0, none⟩)) j most b.own _ q _ w1 R hR t bo (bo - t) (pow R.l) (.inr ⟨_, rfl⟩) (hB.keep F1 id) rfl rfl rfl rfl ⟨_, rfl⟩ ⟨_, rfl⟩ ⟨_, rfl⟩ hq (stays_m hq _) (wrap_in _ (by omega) (by omega)) rfl (by simpa using hc) (by have h9 := does_load hM hq hj 2 (by simp) (by omega); rw [hwd] at h9; exact h9.later (fr_no1 q F1)))).mono ?_
  · rfl
  rintro e w' ⟨rfl, hB2, hM2, hF⟩
  refine fin_op sep hO ⟨0, 7, x, bo, t, R, tt, pl, cx, ld, won, 0, got, err⟩ (M) (by show DOp.push3 most _ M = _; unfold DOp.push3; simp only [er, hsz]; rw [if_pos hc]) rfl kk (by simp) ?_ hM2 (fr_om hF)
  exact .inl ⟨rfl, wa, wl, cv, _, hB2, hg, he, fun _ => ⟨rfl, fun a a' => absurd (And.intro a a') (by simp), fun a => absurd a (by simp), fun a => absurd a (by simp), fun a => absurd a (by simp)⟩⟩

set_option maxRecDepth 10000 in
set_option maxHeartbeats 1000000 in
theorem ok_u3_full (b : MB) (M : Mach) (s : List Int) (o q cp j : Nat) (most : Int) (w : World) (x bo t : Int) (rg tt : Rg) (pl cx : Int) (ld won : Bool) (got err : Int) (h : Pre w b M s o q cp most ⟨0, 3, x, bo, t, rg, tt, pl, cx, ld, won, 0, got, err⟩ j) (hc : ¬ bo - t < pow (rgOf (rd M 2)).l) (hc2 : most ≤ (rgOf (rd M 2)).l) :
    Calls Try.prog 18 #[.pointer (some ⟨o, 0, none⟩), .pointer (some ⟨b.m, 0, none⟩), .int .i64 j] w (OKPost b M s o q cp most ⟨0, 3, x, bo, t, rg, tt, pl, cx, ld, won, 0, got, err⟩ j w) := by
  obtain ⟨⟨sep, kk, hO, rep⟩, hM, hj, ⟨hu, hin, hs⟩, hbd, hl⟩ := h
  have hq := sep.bq
  obtain ⟨wa, wl, cv, f, hB, hg, he, hr⟩ : RepU w q cp most _ := by
    rcases rep with ⟨_, ⟨_, hU⟩ | ⟨k, _⟩ | ⟨k, _⟩⟩ | ⟨k, _⟩
    · exact hU
    all_goals exact absurd k (by simp)
  obtain ⟨hf, hto, hcp, hcx, htp⟩ := hr rfl
  have hf' : f = 88 := hf
  subst hf'
  simp only at hs hbd
  unfold OpB at hbd
  simp only at hbd
  obtain ⟨R, hR, hwd⟩ := hs
  have er : rgOf (rd M 2) = R := by rw [hwd, rgOf_word hR]
  have hsz := size_eq hR
  have hpb := pow_le R.l hR.2.1
  have hp0 := pow_pos R.l
  rw [er] at hc
  rw [er] at hc2
  refine (step_push (.pointer (some ⟨b.m, 0, none⟩)) j 0 0 4 o q _ _ _ (And_ (b.own) q) (fun w => IsM w b (MO (M) (stp s j))) w (.inr ⟨_, rfl⟩) (fun _ _ => by kernel_rfl) hO hB rfl rfl rfl ?_ rfl (fun w1 F1 => pu_seeRing_full (.pointer (some ⟨b.m, 0, none⟩)) j most b.own _ q _ w1 R hR t bo (bo - t) (pow R.l) (.inr ⟨_, rfl⟩) (hB.keep F1 id) rfl rfl rfl rfl ⟨_, rfl⟩ ⟨_, rfl⟩ ⟨_, rfl⟩ hq (stays_m hq _) (wrap_in _ (by omega) (by omega)) rfl (by simpa using hc) (by simpa using hc2) (by have h9 := does_load hM hq hj 2 (by simp) (by omega); rw [hwd] at h9; exact h9.later (fr_no1 q F1)))).mono ?_
  · rfl
  rintro e w' ⟨rfl, hB2, hM2, hF⟩
  refine fin_op sep hO ⟨0, 4, x, bo, t, R, tt, pl, cx, ld, won, 4, got, err⟩ (M) (by show DOp.push3 most _ M = _; unfold DOp.push3; simp only [er, hsz]; rw [if_neg hc, if_pos hc2]) rfl kk (by simp) ?_ hM2 (fr_om hF)
  exact .inl ⟨rfl, wa, wl, cv, _, hB2, hg, he, fun a => absurd a (by simp)⟩

set_option maxRecDepth 10000 in
set_option maxHeartbeats 1000000 in
theorem ok_u3_more (b : MB) (M : Mach) (s : List Int) (o q cp j : Nat) (most : Int) (w : World) (x bo t : Int) (rg tt : Rg) (pl cx : Int) (ld won : Bool) (got err : Int) (h : Pre w b M s o q cp most ⟨0, 3, x, bo, t, rg, tt, pl, cx, ld, won, 0, got, err⟩ j) (hc : ¬ bo - t < pow (rgOf (rd M 2)).l) (hc2 : ¬ most ≤ (rgOf (rd M 2)).l) :
    Calls Try.prog 18 #[.pointer (some ⟨o, 0, none⟩), .pointer (some ⟨b.m, 0, none⟩), .int .i64 j] w (OKPost b M s o q cp most ⟨0, 3, x, bo, t, rg, tt, pl, cx, ld, won, 0, got, err⟩ j w) := by
  obtain ⟨⟨sep, kk, hO, rep⟩, hM, hj, ⟨hu, hin, hs⟩, hbd, hl⟩ := h
  have hq := sep.bq
  obtain ⟨wa, wl, cv, f, hB, hg, he, hr⟩ : RepU w q cp most _ := by
    rcases rep with ⟨_, ⟨_, hU⟩ | ⟨k, _⟩ | ⟨k, _⟩⟩ | ⟨k, _⟩
    · exact hU
    all_goals exact absurd k (by simp)
  obtain ⟨hf, hto, hcp, hcx, htp⟩ := hr rfl
  have hf' : f = 88 := hf
  subst hf'
  simp only at hs hbd
  unfold OpB at hbd
  simp only at hbd
  obtain ⟨R, hR, hwd⟩ := hs
  have er : rgOf (rd M 2) = R := by rw [hwd, rgOf_word hR]
  have hsz := size_eq hR
  have hpb := pow_le R.l hR.2.1
  have hp0 := pow_pos R.l
  rw [er] at hc
  rw [er] at hc2
  refine (step_push (.pointer (some ⟨b.m, 0, none⟩)) j 0 0 0 o q _ _ _ (And_ (b.own) q) (fun w => IsM w b (MO (M) (stp s j))) w (.inr ⟨_, rfl⟩) (fun _ _ => by kernel_rfl) hO hB rfl rfl rfl ?_ rfl (fun w1 F1 => pu_seeRing_more (.pointer (some ⟨b.m, 0, none⟩)) j most b.own _ q _ w1 R hR t bo (bo - t) (pow R.l) (.inr ⟨_, rfl⟩) (hB.keep F1 id) rfl rfl rfl rfl ⟨_, rfl⟩ ⟨_, rfl⟩ ⟨_, rfl⟩ hq (stays_m hq _) (wrap_in _ (by omega) (by omega)) rfl (by simpa using hc) (by simpa using hc2) (by have h9 := does_load hM hq hj 2 (by simp) (by omega); rw [hwd] at h9; exact h9.later (fr_no1 q F1)))).mono ?_
  · rfl
  rintro e w' ⟨rfl, hB2, hM2, hF⟩
  refine fin_op sep hO ⟨0, 4, x, bo, t, R, tt, pl, cx, ld, won, 0, got, err⟩ (M) (by show DOp.push3 most _ M = _; unfold DOp.push3; simp only [er, hsz]; rw [if_neg hc, if_neg hc2]) rfl kk (by simp) ?_ hM2 (fr_om hF)
  exact .inl ⟨rfl, wa, wl, cv, _, hB2, hg, he, fun _ => ⟨rfl, fun a a' => absurd (And.intro a a') (by simp), fun a => absurd a (by simp), fun a => absurd a (by simp), fun a => absurd a (by simp)⟩⟩

set_option maxRecDepth 10000 in
set_option maxHeartbeats 1000000 in
theorem ok_u4 (b : MB) (M : Mach) (s : List Int) (o q cp j : Nat) (most : Int) (w : World) (x bo t : Int) (rg tt : Rg) (pl cx : Int) (ld won : Bool) (got err : Int) (h : Pre w b M s o q cp most ⟨0, 4, x, bo, t, rg, tt, pl, cx, ld, won, 0, got, err⟩ j)  :
    Calls Try.prog 18 #[.pointer (some ⟨o, 0, none⟩), .pointer (some ⟨b.m, 0, none⟩), .int .i64 j] w (OKPost b M s o q cp most ⟨0, 4, x, bo, t, rg, tt, pl, cx, ld, won, 0, got, err⟩ j w) := by
  obtain ⟨⟨sep, kk, hO, rep⟩, hM, hj, ⟨hu, hin, hs⟩, hbd, hl⟩ := h
  have hq := sep.bq
  obtain ⟨wa, wl, cv, f, hB, hg, he, hr⟩ : RepU w q cp most _ := by
    rcases rep with ⟨_, ⟨_, hU⟩ | ⟨k, _⟩ | ⟨k, _⟩⟩ | ⟨k, _⟩
    · exact hU
    all_goals exact absurd k (by simp)
  obtain ⟨hf, hto, hcp, hcx, htp⟩ := hr rfl
  have hf' : f = 94 := hf
  subst hf'
  simp only at hs hbd
  unfold OpB at hbd
  simp only at hbd
  have hr0 := hs.1.1
  refine (step_push (.pointer (some ⟨b.m, 0, none⟩)) j 0 0 0 o q _ _ _ (And_ (b.own) q) (fun w => IsM w b (MO (M.give (pow (rg.l + 1)).toNat) (stp s j))) w (.inr ⟨_, rfl⟩) (fun _ _ => by kernel_rfl) hO hB rfl rfl rfl ?_ rfl (fun w1 F1 => pu_grow (.pointer (some ⟨b.m, 0, none⟩)) j 0 b.own _ q _ w1 rg.l M.used (rg.l + 1) (.inr ⟨_, rfl⟩) (hB.keep F1 id) rfl ⟨_, rfl⟩ ⟨_, rfl⟩ ⟨_, rfl⟩ hq (stays_m hq _) (by omega) (by omega) ((does_rnew hM hq hj (rg.l + 1) (by omega) (by omega) (by simpa using hs.2.2.2.2.1)).later (fr_no1 q F1)))).mono ?_
  · rfl
  rintro e w' ⟨rfl, hB2, hM2, hF⟩
  refine fin_op sep hO ⟨0, 5, x, bo, t, rg, ⟨M.used, rg.l + 1⟩, t, 0, false, won, 0, got, err⟩ (M.give (pow (rg.l + 1)).toNat) rfl rfl kk (by simp) ?_ hM2 (fr_om hF)
  exact .inl ⟨rfl, M.used, rg.l + 1, cv, _, hB2, hg, he, fun _ => ⟨by simp [pushF, fresh], fun _ _ => ⟨rfl, rfl⟩, fun _ a => absurd a (by simp [fresh]), fun _ _ => rfl, fun _ => Int.le_refl _⟩⟩

set_option maxRecDepth 10000 in
set_option maxHeartbeats 1000000 in
theorem ok_u6 (b : MB) (M : Mach) (s : List Int) (o q cp j : Nat) (most : Int) (w : World) (x bo t : Int) (rg tt : Rg) (pl cx : Int) (ld won : Bool) (got err : Int) (h : Pre w b M s o q cp most ⟨0, 6, x, bo, t, rg, tt, pl, cx, ld, won, 0, got, err⟩ j)  :
    Calls Try.prog 18 #[.pointer (some ⟨o, 0, none⟩), .pointer (some ⟨b.m, 0, none⟩), .int .i64 j] w (OKPost b M s o q cp most ⟨0, 6, x, bo, t, rg, tt, pl, cx, ld, won, 0, got, err⟩ j w) := by
  obtain ⟨⟨sep, kk, hO, rep⟩, hM, hj, ⟨hu, hin, hs⟩, hbd, hl⟩ := h
  have hq := sep.bq
  obtain ⟨wa, wl, cv, f, hB, hg, he, hr⟩ : RepU w q cp most _ := by
    rcases rep with ⟨_, ⟨_, hU⟩ | ⟨k, _⟩ | ⟨k, _⟩⟩ | ⟨k, _⟩
    · exact hU
    all_goals exact absurd k (by simp)
  obtain ⟨hf, hto, hcp, hcx, htp⟩ := hr rfl
  have hf' : f = 108 := hf
  subst hf'
  simp only at hs hbd
  unfold OpB at hbd
  simp only at hbd
  obtain ⟨rfl, rfl⟩ := hto (by simp) (by simp)
  refine (step_push (.pointer (some ⟨b.m, 0, none⟩)) j 0 0 0 o q _ _ _ (And_ (b.own) q) (fun w => IsM w b (MO (wrc M 2 tt.word) (stp s j))) w (.inr ⟨_, rfl⟩) (fun _ _ => by kernel_rfl) hO hB rfl rfl rfl ?_ rfl (fun w1 F1 => pu_turn (.pointer (some ⟨b.m, 0, none⟩)) j 0 most b.own _ q _ w1 tt.a tt.l tt.word (.inr ⟨_, rfl⟩) (hB.keep F1 id) rfl rfl rfl rfl ⟨_, rfl⟩ ⟨_, rfl⟩ ⟨_, rfl⟩ ⟨_, rfl⟩ hq (stays_m hq _) rfl ((does_store hM hq hj 2 tt.word (by simp) (by omega)).later (fr_no1 q F1)))).mono ?_
  · rfl
  rintro e w' ⟨rfl, hB2, hM2, hF⟩
  refine fin_op sep hO ⟨0, 7, x, bo, t, tt, tt, pl, cx, ld, won, 0, got, err⟩ (wrc M 2 tt.word) rfl rfl kk (by simp) ?_ hM2 (fr_om hF)
  exact .inl ⟨rfl, tt.a, tt.l, _, _, hB2, hg, he, fun _ => ⟨rfl, fun a a' => absurd (And.intro a a') (by simp), fun a => absurd a (by simp), fun a => absurd a (by simp), fun a => absurd a (by simp)⟩⟩

set_option maxRecDepth 10000 in
set_option maxHeartbeats 1000000 in
theorem ok_u7 (b : MB) (M : Mach) (s : List Int) (o q cp j : Nat) (most : Int) (w : World) (x bo t : Int) (rg tt : Rg) (pl cx : Int) (ld won : Bool) (got err : Int) (h : Pre w b M s o q cp most ⟨0, 7, x, bo, t, rg, tt, pl, cx, ld, won, 0, got, err⟩ j)  :
    Calls Try.prog 18 #[.pointer (some ⟨o, 0, none⟩), .pointer (some ⟨b.m, 0, none⟩), .int .i64 j] w (OKPost b M s o q cp most ⟨0, 7, x, bo, t, rg, tt, pl, cx, ld, won, 0, got, err⟩ j w) := by
  obtain ⟨⟨sep, kk, hO, rep⟩, hM, hj, ⟨hu, hin, hs⟩, hbd, hl⟩ := h
  have hq := sep.bq
  obtain ⟨wa, wl, cv, f, hB, hg, he, hr⟩ : RepU w q cp most _ := by
    rcases rep with ⟨_, ⟨_, hU⟩ | ⟨k, _⟩ | ⟨k, _⟩⟩ | ⟨k, _⟩
    · exact hU
    all_goals exact absurd k (by simp)
  obtain ⟨hf, hto, hcp, hcx, htp⟩ := hr rfl
  have hf' : f = 93 := hf
  subst hf'
  simp only at hs hbd
  unfold OpB at hbd
  simp only at hbd
  have hp3 := hs.2.2
  refine (step_push (.pointer (some ⟨b.m, 0, none⟩)) j 0 0 0 o q _ _ _ (And_ (b.own) q) (fun w => IsM w b (MO (wrc M (rg.place bo) x) (stp s j))) w (.inr ⟨_, rfl⟩) (fun _ _ => by kernel_rfl) hO hB rfl rfl rfl ?_ rfl (fun w1 F1 => pu_put (.pointer (some ⟨b.m, 0, none⟩)) j 0 b.own _ q _ w1 rg.a rg.l bo x (rg.place bo) (.inr ⟨_, rfl⟩) (hB.keep F1 id) rfl rfl rfl rfl ⟨_, rfl⟩ hq (stays_m hq _) rfl ((does_store hM hq hj (rg.place bo) x (by omega) hs.2.1).later (fr_no1 q F1)))).mono ?_
  · rfl
  rintro e w' ⟨rfl, hB2, hM2, hF⟩
  refine fin_op sep hO ⟨0, 8, x, bo, t, rg, tt, pl, cx, ld, won, 0, got, err⟩ (wrc M (rg.place bo) x) rfl rfl kk (by simp) ?_ hM2 (fr_om hF)
  exact .inl ⟨rfl, wa, wl, cv, _, hB2, hg, he, fun _ => ⟨rfl, fun a a' => absurd (And.intro a a') (by simp), fun a => absurd a (by simp), fun a => absurd a (by simp), fun a => absurd a (by simp)⟩⟩

set_option maxRecDepth 10000 in
set_option maxHeartbeats 1000000 in
theorem ok_u8 (b : MB) (M : Mach) (s : List Int) (o q cp j : Nat) (most : Int) (w : World) (x bo t : Int) (rg tt : Rg) (pl cx : Int) (ld won : Bool) (got err : Int) (h : Pre w b M s o q cp most ⟨0, 8, x, bo, t, rg, tt, pl, cx, ld, won, 0, got, err⟩ j)  :
    Calls Try.prog 18 #[.pointer (some ⟨o, 0, none⟩), .pointer (some ⟨b.m, 0, none⟩), .int .i64 j] w (OKPost b M s o q cp most ⟨0, 8, x, bo, t, rg, tt, pl, cx, ld, won, 0, got, err⟩ j w) := by
  obtain ⟨⟨sep, kk, hO, rep⟩, hM, hj, ⟨hu, hin, hs⟩, hbd, hl⟩ := h
  have hq := sep.bq
  obtain ⟨wa, wl, cv, f, hB, hg, he, hr⟩ : RepU w q cp most _ := by
    rcases rep with ⟨_, ⟨_, hU⟩ | ⟨k, _⟩ | ⟨k, _⟩⟩ | ⟨k, _⟩
    · exact hU
    all_goals exact absurd k (by simp)
  obtain ⟨hf, hto, hcp, hcx, htp⟩ := hr rfl
  have hf' : f = 97 := hf
  subst hf'
  simp only at hs hbd
  unfold OpB at hbd
  simp only at hbd
  refine (step_push (.pointer (some ⟨b.m, 0, none⟩)) j 0 0 1 o q _ _ _ (And_ (b.own) q) (fun w => IsM w b (MO (wrc M 1 (bo + 1)) (stp s j))) w (.inr ⟨_, rfl⟩) (fun _ _ => by kernel_rfl) hO hB rfl rfl rfl ?_ rfl (fun w1 F1 => pu_raise (.pointer (some ⟨b.m, 0, none⟩)) j 0 most b.own _ q _ w1 bo (bo + 1) (.inr ⟨_, rfl⟩) (hB.keep F1 id) rfl rfl rfl ⟨_, rfl⟩ hq (stays_m hq _) (wrap_in _ (by omega) (by omega)) ((does_store hM hq hj 1 (bo + 1) (by simp) (by omega)).later (fr_no1 q F1)))).mono ?_
  · rfl
  rintro e w' ⟨rfl, hB2, hM2, hF⟩
  refine fin_op sep hO ⟨0, 8, x, bo, t, rg, tt, pl, cx, ld, won, 1, got, err⟩ (wrc M 1 (bo + 1)) rfl rfl kk (by simp) ?_ hM2 (fr_om hF)
  exact .inl ⟨rfl, wa, wl, cv, _, hB2, hg, he, fun a => absurd a (by simp)⟩

end Go.Proofs.Ytiofdfgcghiibaa
