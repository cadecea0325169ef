/-
  Steps of a steal in memory.
-/
import Derived.Test.YtiofdfgcghiibaaAll0
namespace Go.Proofs.Ytiofdfgcghiibaa
open Go.RowKit
set_option linter.unusedVariables false

set_option maxRecDepth 10000 in
set_option maxHeartbeats 1000000 in
theorem ok_t1 (b : MB) (M : Mach) (s : List Int) (o q cp j : Nat) (most : Int) (w : World) (x bo t : Int) (rg tt : Rg) (pl cx : Int) (ld won : Bool) (got err : Int) (h : Pre w b M s o q cp most ⟨2, 1, x, bo, t, rg, tt, pl, cx, ld, won, 0, got, err⟩ j)  :
    Calls Try.prog 18 #[.pointer (some ⟨o, 0, none⟩), .pointer (some ⟨b.m, 0, none⟩), .int .i64 j] w (OKPost b M s o q cp most ⟨2, 1, x, bo, t, rg, tt, pl, cx, ld, won, 0, got, err⟩ j w) := by
  obtain ⟨⟨sep, kk, hO, rep⟩, hM, hj, ⟨hu, hin, hs⟩, hbd, hl⟩ := h
  have hq := sep.bq
  obtain ⟨gv, f, hB, he, hgv, hr⟩ : RepT w q most _ := by
    rcases rep with ⟨_, ⟨k, _⟩ | ⟨k, _⟩ | ⟨_, hU⟩⟩ | ⟨k, _⟩
    · exact absurd k (by simp)
    · exact absurd k (by simp)
    · exact hU
    · exact absurd k (by simp)
  have hf := hr (by simp)
  have hf' : f = 51 := hf
  subst hf'
  simp only at hs hbd
  unfold OpB at hbd
  simp only at hbd
  refine (step_steal (.pointer (some ⟨b.m, 0, none⟩)) j 0 0 0 o q _ _ _ (And_ (b.own) q) (fun w => IsM w b (MO (M) (stp s j))) w (.inr ⟨_, rfl⟩) (fun _ _ => by kernel_rfl) hO hB rfl rfl rfl ?_ rfl (fun w1 F1 => st_seeTop (.pointer (some ⟨b.m, 0, none⟩)) j (rd M 0) 0 most b.own _ q _ w1 (.inr ⟨_, rfl⟩) (hB.keep F1 id) rfl rfl ⟨_, rfl⟩ ⟨_, rfl⟩ hq (stays_m hq _) ((does_load hM hq hj 0 (by simp) (by omega)).later (fr_no1 q F1)))).mono ?_
  · rfl
  rintro e w' ⟨rfl, hB2, hM2, hF⟩
  refine fin_op sep hO ⟨2, 2, x, bo, rd M 0, rg, tt, pl, cx, ld, won, 0, got, err⟩ (M) rfl rfl kk (by simp) ?_ hM2 (fr_om hF)
  exact .inr (.inr ⟨rfl, gv, _, hB2, he, fun _ => hgv (by simp), fun _ => rfl⟩)

set_option maxRecDepth 10000 in
set_option maxHeartbeats 1000000 in
theorem ok_t2_no (b : MB) (M : Mach) (s : List Int) (o q cp j : Nat) (most : Int) (w : World) (x bo t : Int) (rg tt : Rg) (pl cx : Int) (ld won : Bool) (got err : Int) (h : Pre w b M s o q cp most ⟨2, 2, x, bo, t, rg, tt, pl, cx, ld, won, 0, got, err⟩ j) (hc : ¬ t < rd M 1) :
    Calls Try.prog 18 #[.pointer (some ⟨o, 0, none⟩), .pointer (some ⟨b.m, 0, none⟩), .int .i64 j] w (OKPost b M s o q cp most ⟨2, 2, x, bo, t, rg, tt, pl, cx, ld, won, 0, got, err⟩ j w) := by
  obtain ⟨⟨sep, kk, hO, rep⟩, hM, hj, ⟨hu, hin, hs⟩, hbd, hl⟩ := h
  have hq := sep.bq
  obtain ⟨gv, f, hB, he, hgv, hr⟩ : RepT w q most _ := by
    rcases rep with ⟨_, ⟨k, _⟩ | ⟨k, _⟩ | ⟨_, hU⟩⟩ | ⟨k, _⟩
    · exact absurd k (by simp)
    · exact absurd k (by simp)
    · exact hU
    · exact absurd k (by simp)
  have hf := hr (by simp)
  have hf' : f = 78 := hf
  subst hf'
  simp only at hs hbd
  unfold OpB at hbd
  simp only at hbd
  refine (step_steal (.pointer (some ⟨b.m, 0, none⟩)) j 0 0 3 o q _ _ _ (And_ (b.own) q) (fun w => IsM w b (MO (M) (stp s j))) w (.inr ⟨_, rfl⟩) (fun _ _ => by kernel_rfl) hO hB rfl rfl rfl ?_ rfl (fun w1 F1 => st_seeBottom_no (.pointer (some ⟨b.m, 0, none⟩)) j (rd M 1) 0 most b.own _ q _ w1 t (.inr ⟨_, rfl⟩) (hB.keep F1 id) rfl rfl rfl ⟨_, rfl⟩ ⟨_, rfl⟩ ⟨_, rfl⟩ hq (stays_m hq _) (by simpa using hc) ((does_load hM hq hj 1 (by simp) (by omega)).later (fr_no1 q F1)))).mono ?_
  · rfl
  rintro e w' ⟨rfl, hB2, hM2, hF⟩
  refine fin_op sep hO ⟨2, 3, x, rd M 1, t, rg, tt, pl, cx, ld, won, 3, got, err⟩ (M) (by show DOp.steal2 _ M = _; unfold DOp.steal2; rw [if_neg hc]) rfl kk (by simp) ?_ hM2 (fr_om hF)
  exact .inr (.inr ⟨rfl, gv, _, hB2, he, fun _ => hgv (by simp), fun a => absurd a (by simp)⟩)

set_option maxRecDepth 10000 in
set_option maxHeartbeats 1000000 in
theorem ok_t2_in (b : MB) (M : Mach) (s : List Int) (o q cp j : Nat) (most : Int) (w : World) (x bo t : Int) (rg tt : Rg) (pl cx : Int) (ld won : Bool) (got err : Int) (h : Pre w b M s o q cp most ⟨2, 2, x, bo, t, rg, tt, pl, cx, ld, won, 0, got, err⟩ j) (hc : t < rd M 1) :
    Calls Try.prog 18 #[.pointer (some ⟨o, 0, none⟩), .pointer (some ⟨b.m, 0, none⟩), .int .i64 j] w (OKPost b M s o q cp most ⟨2, 2, x, bo, t, rg, tt, pl, cx, ld, won, 0, got, err⟩ j w) := by
  obtain ⟨⟨sep, kk, hO, rep⟩, hM, hj, ⟨hu, hin, hs⟩, hbd, hl⟩ := h
  have hq := sep.bq
  obtain ⟨gv, f, hB, he, hgv, hr⟩ : RepT w q most _ := by
    rcases rep with ⟨_, ⟨k, _⟩ | ⟨k, _⟩ | ⟨_, hU⟩⟩ | ⟨k, _⟩
    · exact absurd k (by simp)
    · exact absurd k (by simp)
    · exact hU
    · exact absurd k (by simp)
  have hf := hr (by simp)
  have hf' : f = 78 := hf
  subst hf'
  simp only at hs hbd
  unfold OpB at hbd
  simp only at hbd
  refine (step_steal (.pointer (some ⟨b.m, 0, none⟩)) j 0 0 0 o q _ _ _ (And_ (b.own) q) (fun w => IsM w b (MO (M) (stp s j))) w (.inr ⟨_, rfl⟩) (fun _ _ => by kernel_rfl) hO hB rfl rfl rfl ?_ rfl (fun w1 F1 => st_seeBottom_in (.pointer (some ⟨b.m, 0, none⟩)) j (rd M 1) 0 most b.own _ q _ w1 t (.inr ⟨_, rfl⟩) (hB.keep F1 id) rfl rfl rfl ⟨_, rfl⟩ ⟨_, rfl⟩ hq (stays_m hq _) (by simpa using hc) ((does_load hM hq hj 1 (by simp) (by omega)).later (fr_no1 q F1)))).mono ?_
  · rfl
  rintro e w' ⟨rfl, hB2, hM2, hF⟩
  refine fin_op sep hO ⟨2, 3, x, rd M 1, t, rg, tt, pl, cx, ld, won, 0, got, err⟩ (M) (by show DOp.steal2 _ M = _; unfold DOp.steal2; rw [if_pos hc]) rfl kk (by simp) ?_ hM2 (fr_om hF)
  exact .inr (.inr ⟨rfl, gv, _, hB2, he, fun _ => hgv (by simp), fun _ => rfl⟩)

set_option maxRecDepth 10000 in
set_option maxHeartbeats 1000000 in
theorem ok_t3 (b : MB) (M : Mach) (s : List Int) (o q cp j : Nat) (most : Int) (w : World) (x bo t : Int) (rg tt : Rg) (pl cx : Int) (ld won : Bool) (got err : Int) (h : Pre w b M s o q cp most ⟨2, 3, x, bo, t, rg, tt, pl, cx, ld, won, 0, got, err⟩ j)  :
    Calls Try.prog 18 #[.pointer (some ⟨o, 0, none⟩), .pointer (some ⟨b.m, 0, none⟩), .int .i64 j] w (OKPost b M s o q cp most ⟨2, 3, x, bo, t, rg, tt, pl, cx, ld, won, 0, got, err⟩ j w) := by
  obtain ⟨⟨sep, kk, hO, rep⟩, hM, hj, ⟨hu, hin, hs⟩, hbd, hl⟩ := h
  have hq := sep.bq
  obtain ⟨gv, f, hB, he, hgv, hr⟩ : RepT w q most _ := by
    rcases rep with ⟨_, ⟨k, _⟩ | ⟨k, _⟩ | ⟨_, hU⟩⟩ | ⟨k, _⟩
    · exact absurd k (by simp)
    · exact absurd k (by simp)
    · exact hU
    · exact absurd k (by simp)
  have hf := hr (by simp)
  have hf' : f = 87 := hf
  subst hf'
  simp only at hs hbd
  unfold OpB at hbd
  simp only at hbd
  obtain ⟨R, hR, hwd⟩ := hs
  have er : rgOf (rd M 2) = R := by rw [hwd, rgOf_word hR]
  have hsz := size_eq hR
  have hpb := pow_le R.l hR.2.1
  have hp0 := pow_pos R.l
  refine (step_steal (.pointer (some ⟨b.m, 0, none⟩)) j 0 0 0 o q _ _ _ (And_ (b.own) q) (fun w => IsM w b (MO (M) (stp s j))) w (.inr ⟨_, rfl⟩) (fun _ _ => by kernel_rfl) hO hB rfl rfl rfl ?_ rfl (fun w1 F1 => st_seeRing (.pointer (some ⟨b.m, 0, none⟩)) j most b.own _ q _ w1 R hR (.inr ⟨_, rfl⟩) (hB.keep F1 id) rfl rfl ⟨_, rfl⟩ ⟨_, rfl⟩ ⟨_, rfl⟩ hq (stays_m hq _) (by have h9 := does_load hM hq hj 2 (by simp) (by omega); rw [hwd] at h9; exact h9.later (fr_no1 q F1)))).mono ?_
  · rfl
  rintro e w' ⟨rfl, hB2, hM2, hF⟩
  refine fin_op sep hO ⟨2, 4, x, bo, t, R, tt, pl, cx, ld, won, 0, got, err⟩ (M) (by show DOp.steal3 _ M = _; unfold DOp.steal3; simp only [er]) rfl kk (by simp) ?_ hM2 (fr_om hF)
  exact .inr (.inr ⟨rfl, gv, _, hB2, he, fun _ => hgv (by simp), fun _ => rfl⟩)

set_option maxRecDepth 10000 in
set_option maxHeartbeats 1000000 in
theorem ok_t4 (b : MB) (M : Mach) (s : List Int) (o q cp j : Nat) (most : Int) (w : World) (x bo t : Int) (rg tt : Rg) (pl cx : Int) (ld won : Bool) (got err : Int) (h : Pre w b M s o q cp most ⟨2, 4, x, bo, t, rg, tt, pl, cx, ld, won, 0, got, err⟩ j)  :
    Calls Try.prog 18 #[.pointer (some ⟨o, 0, none⟩), .pointer (some ⟨b.m, 0, none⟩), .int .i64 j] w (OKPost b M s o q cp most ⟨2, 4, x, bo, t, rg, tt, pl, cx, ld, won, 0, got, err⟩ j w) := by
  obtain ⟨⟨sep, kk, hO, rep⟩, hM, hj, ⟨hu, hin, hs⟩, hbd, hl⟩ := h
  have hq := sep.bq
  obtain ⟨gv, f, hB, he, hgv, hr⟩ : RepT w q most _ := by
    rcases rep with ⟨_, ⟨k, _⟩ | ⟨k, _⟩ | ⟨_, hU⟩⟩ | ⟨k, _⟩
    · exact absurd k (by simp)
    · exact absurd k (by simp)
    · exact hU
    · exact absurd k (by simp)
  have hf := hr (by simp)
  have hf' : f = 92 := hf
  subst hf'
  simp only at hs hbd
  unfold OpB at hbd
  simp only at hbd
  have hp0 : 0 ≤ rg.place t := by have := (place_in hs.1 t).1; have := hs.1.2.2.1; omega
  refine (step_steal (.pointer (some ⟨b.m, 0, none⟩)) j 0 0 2 o q _ _ _ (And_ (b.own) q) (fun w => IsM w b (MO (M) (stp s j))) w (.inr ⟨_, rfl⟩) (fun _ _ => by kernel_rfl) hO hB rfl rfl rfl ?_ rfl (fun w1 F1 => st_see (.pointer (some ⟨b.m, 0, none⟩)) j (rd M (rg.place t)) 0 b.own _ q _ w1 t rg.a rg.l (rg.place t) (.inr ⟨_, rfl⟩) (hB.keep F1 id) rfl rfl rfl ⟨_, rfl⟩ ⟨_, rfl⟩ ⟨_, rfl⟩ hq (stays_m hq _) rfl ((does_load hM hq hj (rg.place t) hp0 hs.2).later (fr_no1 q F1)))).mono ?_
  · rfl
  rintro e w' ⟨rfl, hB2, hM2, hF⟩
  refine fin_op sep hO ⟨2, 5, x, bo, t, rg, tt, pl, cx, ld, won, 2, rd M (rg.place t), err⟩ (M) rfl rfl kk (by simp) ?_ hM2 (fr_om hF)
  exact .inr (.inr ⟨rfl, _, _, hB2, he, fun _ => rfl, fun _ => rfl⟩)

set_option maxRecDepth 10000 in
set_option maxHeartbeats 1000000 in
theorem ok_t5_2_won (b : MB) (M : Mach) (s : List Int) (o q cp j : Nat) (most : Int) (w : World) (x bo t : Int) (rg tt : Rg) (pl cx : Int) (ld won : Bool) (got err : Int) (h : Pre w b M s o q cp most ⟨2, 5, x, bo, t, rg, tt, pl, cx, ld, won, 2, got, err⟩ j) (hc : rd M 0 = t) :
    Calls Try.prog 18 #[.pointer (some ⟨o, 0, none⟩), .pointer (some ⟨b.m, 0, none⟩), .int .i64 j] w (OKPost b M s o q cp most ⟨2, 5, x, bo, t, rg, tt, pl, cx, ld, won, 2, got, err⟩ j w) := by
  obtain ⟨⟨sep, kk, hO, rep⟩, hM, hj, ⟨hu, hin, hs⟩, hbd, hl⟩ := h
  have hq := sep.bq
  obtain ⟨gv, f, hB, he, hgv, hr⟩ : RepT w q most _ := by
    rcases rep with ⟨_, ⟨k, _⟩ | ⟨k, _⟩ | ⟨_, hU⟩⟩ | ⟨k, _⟩
    · exact absurd k (by simp)
    · exact absurd k (by simp)
    · exact hU
    · exact absurd k (by simp)
  have hf := hr (by simp)
  have hf' : f = 96 := hf
  subst hf'
  simp only at hs hbd
  unfold OpB at hbd
  simp only at hbd
  refine (step_steal (.pointer (some ⟨b.m, 0, none⟩)) j 0 2 1 o q _ _ _ (And_ (b.own) q) (fun w => IsM w b (MO (wrc M 0 (t + 1)) (stp s j))) w (.inr ⟨_, rfl⟩) (fun _ _ => by kernel_rfl) hO hB rfl rfl rfl ?_ rfl (fun w1 F1 => st_take_won (.pointer (some ⟨b.m, 0, none⟩)) j 0 most b.own _ q _ w1 t (t + 1) (.inr ⟨_, rfl⟩) (hB.keep F1 id) rfl rfl rfl ⟨_, rfl⟩ hq (stays_m hq _) (wrap_in _ (by omega) (by omega)) ((does_cas_yes hM hq hj t (t + 1) (by omega) hc).later (fr_no1 q F1)))).mono ?_
  · rfl
  rintro e w' ⟨rfl, hB2, hM2, hF⟩
  refine fin_op sep hO ⟨2, 5, x, bo, t, rg, tt, pl, cx, ld, won, 1, got, err⟩ (wrc M 0 (t + 1)) (by show DOp.steal5 _ M = _; unfold DOp.steal5; rw [if_pos hc]) rfl kk (by simp) ?_ hM2 (fr_om hF)
  exact .inr (.inr ⟨rfl, gv, _, hB2, he, fun _ => hgv (by simp), fun a => absurd a (by simp)⟩)

set_option maxRecDepth 10000 in
set_option maxHeartbeats 1000000 in
theorem ok_t5_2_not (b : MB) (M : Mach) (s : List Int) (o q cp j : Nat) (most : Int) (w : World) (x bo t : Int) (rg tt : Rg) (pl cx : Int) (ld won : Bool) (got err : Int) (h : Pre w b M s o q cp most ⟨2, 5, x, bo, t, rg, tt, pl, cx, ld, won, 2, got, err⟩ j) (hc : rd M 0 ≠ t) :
    Calls Try.prog 18 #[.pointer (some ⟨o, 0, none⟩), .pointer (some ⟨b.m, 0, none⟩), .int .i64 j] w (OKPost b M s o q cp most ⟨2, 5, x, bo, t, rg, tt, pl, cx, ld, won, 2, got, err⟩ j w) := by
  obtain ⟨⟨sep, kk, hO, rep⟩, hM, hj, ⟨hu, hin, hs⟩, hbd, hl⟩ := h
  have hq := sep.bq
  obtain ⟨gv, f, hB, he, hgv, hr⟩ : RepT w q most _ := by
    rcases rep with ⟨_, ⟨k, _⟩ | ⟨k, _⟩ | ⟨_, hU⟩⟩ | ⟨k, _⟩
    · exact absurd k (by simp)
    · exact absurd k (by simp)
    · exact hU
    · exact absurd k (by simp)
  have hf := hr (by simp)
  have hf' : f = 96 := hf
  subst hf'
  simp only at hs hbd
  unfold OpB at hbd
  simp only at hbd
  refine (step_steal (.pointer (some ⟨b.m, 0, none⟩)) j 0 2 5 o q _ _ _ (And_ (b.own) q) (fun w => IsM w b (MO (M) (stp s j))) w (.inr ⟨_, rfl⟩) (fun _ _ => by kernel_rfl) hO hB rfl rfl rfl ?_ rfl (fun w1 F1 => st_take_not (.pointer (some ⟨b.m, 0, none⟩)) j 0 most b.own _ q _ w1 t (t + 1) (.inr ⟨_, rfl⟩) (hB.keep F1 id) rfl rfl rfl ⟨_, rfl⟩ hq (stays_m hq _) (wrap_in _ (by omega) (by omega)) ((does_cas_not hM hq hj t (t + 1) (by omega) hc).later (fr_no1 q F1)))).mono ?_
  · rfl
  rintro e w' ⟨rfl, hB2, hM2, hF⟩
  refine fin_op sep hO ⟨2, 5, x, bo, t, rg, tt, pl, cx, ld, won, 5, 0, err⟩ (M) (by show DOp.steal5 _ M = _; unfold DOp.steal5; rw [if_neg hc]) rfl kk (by simp) ?_ hM2 (fr_om hF)
  exact .inr (.inr ⟨rfl, gv, _, hB2, he, fun a => absurd rfl a, fun a => absurd a (by simp)⟩)

end Go.Proofs.Ytiofdfgcghiibaa
