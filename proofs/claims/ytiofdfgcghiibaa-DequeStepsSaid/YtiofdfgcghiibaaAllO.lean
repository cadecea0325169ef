/-
  Steps of a pop in memory.
-/
import Derived.Test.YtiofdfgcghiibaaAll0
namespace Go.Proofs.Ytiofdfgcghiibaa
open Go.RowKit
set_option linter.unusedVariables false

set_option maxRecDepth 10000 in
set_option maxHeartbeats 1000000 in
theorem ok_o1 (b : MB) (M : Mach) (s : List Int) (o q cp j : Nat) (most : Int) (w : World) (x bo t : Int) (rg tt : Rg) (pl cx : Int) (ld won : Bool) (got err : Int) (h : Pre w b M s o q cp most ⟨1, 1, x, bo, t, rg, tt, pl, cx, ld, won, 0, got, err⟩ j)  :
    Calls Try.prog 18 #[.pointer (some ⟨o, 0, none⟩), .pointer (some ⟨b.m, 0, none⟩), .int .i64 j] w (OKPost b M s o q cp most ⟨1, 1, x, bo, t, rg, tt, pl, cx, ld, won, 0, got, err⟩ j w) := by
  obtain ⟨⟨sep, kk, hO, rep⟩, hM, hj, ⟨hu, hin, hs⟩, hbd, hl⟩ := h
  have hq := sep.bq
  obtain ⟨f, hB, he, hgx, hr⟩ : RepO w q most _ := by
    rcases rep with ⟨_, ⟨k, _⟩ | ⟨_, hU⟩ | ⟨k, _⟩⟩ | ⟨k, _⟩
    · exact absurd k (by simp)
    · exact hU
    all_goals exact absurd k (by simp)
  obtain ⟨hf, hwn⟩ := hr rfl
  have hf' : f = 53 := hf
  subst hf'
  simp only at hs hbd
  unfold OpB at hbd
  simp only at hbd
  refine (step_pop (.pointer (some ⟨b.m, 0, none⟩)) j 0 0 0 o q _ _ _ (And_ (b.own) q) (fun w => IsM w b (MO (M) (stp s j))) w (.inr ⟨_, rfl⟩) (fun _ _ => by kernel_rfl) hO hB rfl rfl rfl ?_ rfl (fun w1 F1 => po_seeBottom (.pointer (some ⟨b.m, 0, none⟩)) j (rd M 1) 0 most b.own _ q _ w1 (.inr ⟨_, rfl⟩) (hB.keep F1 id) rfl rfl ⟨_, rfl⟩ ⟨_, rfl⟩ hq (stays_m hq _) ((does_load hM hq hj 1 (by simp) (by omega)).later (fr_no1 q F1)))).mono ?_
  · rfl
  rintro e w' ⟨rfl, hB2, hM2, hF⟩
  refine fin_op sep hO ⟨1, 2, x, rd M 1, t, rg, tt, pl, cx, ld, won, 0, got, err⟩ (M) rfl rfl kk (by simp) ?_ hM2 (fr_om hF)
  exact .inr (.inl ⟨rfl, _, hB2, he, fun a => absurd a (by simp), fun _ => ⟨rfl, fun _ => hwn (by simp)⟩⟩)

set_option maxRecDepth 10000 in
set_option maxHeartbeats 1000000 in
theorem ok_o2 (b : MB) (M : Mach) (s : List Int) (o q cp j : Nat) (most : Int) (w : World) (x bo t : Int) (rg tt : Rg) (pl cx : Int) (ld won : Bool) (got err : Int) (h : Pre w b M s o q cp most ⟨1, 2, x, bo, t, rg, tt, pl, cx, ld, won, 0, got, err⟩ j)  :
    Calls Try.prog 18 #[.pointer (some ⟨o, 0, none⟩), .pointer (some ⟨b.m, 0, none⟩), .int .i64 j] w (OKPost b M s o q cp most ⟨1, 2, x, bo, t, rg, tt, pl, cx, ld, won, 0, got, err⟩ j w) := by
  obtain ⟨⟨sep, kk, hO, rep⟩, hM, hj, ⟨hu, hin, hs⟩, hbd, hl⟩ := h
  have hq := sep.bq
  obtain ⟨f, hB, he, hgx, hr⟩ : RepO w q most _ := by
    rcases rep with ⟨_, ⟨k, _⟩ | ⟨_, hU⟩ | ⟨k, _⟩⟩ | ⟨k, _⟩
    · exact absurd k (by simp)
    · exact hU
    all_goals exact absurd k (by simp)
  obtain ⟨hf, hwn⟩ := hr rfl
  have hf' : f = 82 := hf
  subst hf'
  simp only at hs hbd
  unfold OpB at hbd
  simp only at hbd
  obtain ⟨R, hR, hwd⟩ := hs
  have er : rgOf (rd M 2) = R := by rw [hwd, rgOf_word hR]
  have hsz := size_eq hR
  have hpb := pow_le R.l hR.2.1
  have hp0 := pow_pos R.l
  refine (step_pop (.pointer (some ⟨b.m, 0, none⟩)) j 0 0 0 o q _ _ _ (And_ (b.own) q) (fun w => IsM w b (MO (M) (stp s j))) w (.inr ⟨_, rfl⟩) (fun _ _ => by kernel_rfl) hO hB rfl rfl rfl ?_ rfl (fun w1 F1 => po_seeRing (.pointer (some ⟨b.m, 0, none⟩)) j most b.own _ q _ w1 R hR (.inr ⟨_, rfl⟩) (hB.keep F1 id) rfl rfl ⟨_, rfl⟩ ⟨_, rfl⟩ ⟨_, rfl⟩ hq (stays_m hq _) (by have h9 := does_load hM hq hj 2 (by simp) (by omega); rw [hwd] at h9; exact h9.later (fr_no1 q F1)))).mono ?_
  · rfl
  rintro e w' ⟨rfl, hB2, hM2, hF⟩
  refine fin_op sep hO ⟨1, 3, x, bo, t, R, tt, pl, cx, ld, won, 0, got, err⟩ (M) (by show DOp.pop2 _ M = _; unfold DOp.pop2; simp only [er]) rfl kk (by simp) ?_ hM2 (fr_om hF)
  exact .inr (.inl ⟨rfl, _, hB2, he, fun a => absurd a (by simp), fun _ => ⟨rfl, fun _ => hwn (by simp)⟩⟩)

set_option maxRecDepth 10000 in
set_option maxHeartbeats 1000000 in
theorem ok_o3 (b : MB) (M : Mach) (s : List Int) (o q cp j : Nat) (most : Int) (w : World) (x bo t : Int) (rg tt : Rg) (pl cx : Int) (ld won : Bool) (got err : Int) (h : Pre w b M s o q cp most ⟨1, 3, x, bo, t, rg, tt, pl, cx, ld, won, 0, got, err⟩ j)  :
    Calls Try.prog 18 #[.pointer (some ⟨o, 0, none⟩), .pointer (some ⟨b.m, 0, none⟩), .int .i64 j] w (OKPost b M s o q cp most ⟨1, 3, x, bo, t, rg, tt, pl, cx, ld, won, 0, got, err⟩ j w) := by
  obtain ⟨⟨sep, kk, hO, rep⟩, hM, hj, ⟨hu, hin, hs⟩, hbd, hl⟩ := h
  have hq := sep.bq
  obtain ⟨f, hB, he, hgx, hr⟩ : RepO w q most _ := by
    rcases rep with ⟨_, ⟨k, _⟩ | ⟨_, hU⟩ | ⟨k, _⟩⟩ | ⟨k, _⟩
    · exact absurd k (by simp)
    · exact hU
    all_goals exact absurd k (by simp)
  obtain ⟨hf, hwn⟩ := hr rfl
  have hf' : f = 89 := hf
  subst hf'
  simp only at hs hbd
  unfold OpB at hbd
  simp only at hbd
  refine (step_pop (.pointer (some ⟨b.m, 0, none⟩)) j 0 0 0 o q _ _ _ (And_ (b.own) q) (fun w => IsM w b (MO (wrc M 1 (bo - 1)) (stp s j))) w (.inr ⟨_, rfl⟩) (fun _ _ => by kernel_rfl) hO hB rfl rfl rfl ?_ rfl (fun w1 F1 => po_lower (.pointer (some ⟨b.m, 0, none⟩)) j 0 most b.own _ q _ w1 bo (bo - 1) (.inr ⟨_, rfl⟩) (hB.keep F1 id) rfl rfl rfl ⟨_, rfl⟩ hq (stays_m hq _) (wrap_in _ (by omega) (by omega)) ((does_store hM hq hj 1 (bo - 1) (by simp) (by omega)).later (fr_no1 q F1)))).mono ?_
  · rfl
  rintro e w' ⟨rfl, hB2, hM2, hF⟩
  refine fin_op sep hO ⟨1, 4, x, bo, t, rg, tt, pl, cx, ld, won, 0, got, err⟩ (wrc M 1 (bo - 1)) rfl rfl kk (by simp) ?_ hM2 (fr_om hF)
  exact .inr (.inl ⟨rfl, _, hB2, he, fun a => absurd a (by simp), fun _ => ⟨rfl, fun _ => hwn (by simp)⟩⟩)

set_option maxRecDepth 10000 in
set_option maxHeartbeats 1000000 in
theorem ok_o4_hi (b : MB) (M : Mach) (s : List Int) (o q cp j : Nat) (most : Int) (w : World) (x bo t : Int) (rg tt : Rg) (pl cx : Int) (ld won : Bool) (got err : Int) (h : Pre w b M s o q cp most ⟨1, 4, x, bo, t, rg, tt, pl, cx, ld, won, 0, got, err⟩ j) (hc : bo - 1 < rd M 0) :
    Calls Try.prog 18 #[.pointer (some ⟨o, 0, none⟩), .pointer (some ⟨b.m, 0, none⟩), .int .i64 j] w (OKPost b M s o q cp most ⟨1, 4, x, bo, t, rg, tt, pl, cx, ld, won, 0, got, err⟩ j w) := by
  obtain ⟨⟨sep, kk, hO, rep⟩, hM, hj, ⟨hu, hin, hs⟩, hbd, hl⟩ := h
  have hq := sep.bq
  obtain ⟨f, hB, he, hgx, hr⟩ : RepO w q most _ := by
    rcases rep with ⟨_, ⟨k, _⟩ | ⟨_, hU⟩ | ⟨k, _⟩⟩ | ⟨k, _⟩
    · exact absurd k (by simp)
    · exact hU
    all_goals exact absurd k (by simp)
  obtain ⟨hf, hwn⟩ := hr rfl
  have hf' : f = 95 := hf
  subst hf'
  simp only at hs hbd
  unfold OpB at hbd
  simp only at hbd
  refine (step_pop (.pointer (some ⟨b.m, 0, none⟩)) j 0 0 0 o q _ _ _ (And_ (b.own) q) (fun w => IsM w b (MO (M) (stp s j))) w (.inr ⟨_, rfl⟩) (fun _ _ => by kernel_rfl) hO hB rfl rfl rfl ?_ rfl (fun w1 F1 => po_seeTop_hi (.pointer (some ⟨b.m, 0, none⟩)) j (rd M 0) 0 most b.own _ q _ w1 bo (bo - 1) (.inr ⟨_, rfl⟩) (hB.keep F1 id) rfl rfl rfl ⟨_, rfl⟩ ⟨_, rfl⟩ hq (stays_m hq _) (wrap_in _ (by omega) (by omega)) (by simpa using hc) ((does_load hM hq hj 0 (by simp) (by omega)).later (fr_no1 q F1)))).mono ?_
  · rfl
  rintro e w' ⟨rfl, hB2, hM2, hF⟩
  refine fin_op sep hO ⟨1, 5, x, bo, rd M 0, rg, tt, pl, cx, ld, won, 0, got, err⟩ (M) (by show DOp.pop4 _ M = _; unfold DOp.pop4; simp only; rw [if_pos hc]) rfl kk (by simp) ?_ hM2 (fr_om hF)
  exact .inr (.inl ⟨rfl, _, hB2, he, fun a => absurd a (by simp), fun _ => ⟨rfl, fun _ => hwn (by simp)⟩⟩)

set_option maxRecDepth 10000 in
set_option maxHeartbeats 1000000 in
theorem ok_o4_lo (b : MB) (M : Mach) (s : List Int) (o q cp j : Nat) (most : Int) (w : World) (x bo t : Int) (rg tt : Rg) (pl cx : Int) (ld won : Bool) (got err : Int) (h : Pre w b M s o q cp most ⟨1, 4, x, bo, t, rg, tt, pl, cx, ld, won, 0, got, err⟩ j) (hc : ¬ bo - 1 < rd M 0) :
    Calls Try.prog 18 #[.pointer (some ⟨o, 0, none⟩), .pointer (some ⟨b.m, 0, none⟩), .int .i64 j] w (OKPost b M s o q cp most ⟨1, 4, x, bo, t, rg, tt, pl, cx, ld, won, 0, got, err⟩ j w) := by
  obtain ⟨⟨sep, kk, hO, rep⟩, hM, hj, ⟨hu, hin, hs⟩, hbd, hl⟩ := h
  have hq := sep.bq
  obtain ⟨f, hB, he, hgx, hr⟩ : RepO w q most _ := by
    rcases rep with ⟨_, ⟨k, _⟩ | ⟨_, hU⟩ | ⟨k, _⟩⟩ | ⟨k, _⟩
    · exact absurd k (by simp)
    · exact hU
    all_goals exact absurd k (by simp)
  obtain ⟨hf, hwn⟩ := hr rfl
  have hf' : f = 95 := hf
  subst hf'
  simp only at hs hbd
  unfold OpB at hbd
  simp only at hbd
  refine (step_pop (.pointer (some ⟨b.m, 0, none⟩)) j 0 0 0 o q _ _ _ (And_ (b.own) q) (fun w => IsM w b (MO (M) (stp s j))) w (.inr ⟨_, rfl⟩) (fun _ _ => by kernel_rfl) hO hB rfl rfl rfl ?_ rfl (fun w1 F1 => po_seeTop_lo (.pointer (some ⟨b.m, 0, none⟩)) j (rd M 0) 0 most b.own _ q _ w1 bo (bo - 1) (.inr ⟨_, rfl⟩) (hB.keep F1 id) rfl rfl rfl ⟨_, rfl⟩ ⟨_, rfl⟩ hq (stays_m hq _) (wrap_in _ (by omega) (by omega)) (by simpa using hc) ((does_load hM hq hj 0 (by simp) (by omega)).later (fr_no1 q F1)))).mono ?_
  · rfl
  rintro e w' ⟨rfl, hB2, hM2, hF⟩
  refine fin_op sep hO ⟨1, 6, x, bo, rd M 0, rg, tt, pl, cx, ld, won, 0, got, err⟩ (M) (by show DOp.pop4 _ M = _; unfold DOp.pop4; simp only; rw [if_neg hc]) rfl kk (by simp) ?_ hM2 (fr_om hF)
  exact .inr (.inl ⟨rfl, _, hB2, he, fun a => absurd a (by simp), fun _ => ⟨rfl, fun _ => hwn (by simp)⟩⟩)

set_option maxRecDepth 10000 in
set_option maxHeartbeats 1000000 in
theorem ok_o5 (b : MB) (M : Mach) (s : List Int) (o q cp j : Nat) (most : Int) (w : World) (x bo t : Int) (rg tt : Rg) (pl cx : Int) (ld won : Bool) (got err : Int) (h : Pre w b M s o q cp most ⟨1, 5, x, bo, t, rg, tt, pl, cx, ld, won, 0, got, err⟩ j)  :
    Calls Try.prog 18 #[.pointer (some ⟨o, 0, none⟩), .pointer (some ⟨b.m, 0, none⟩), .int .i64 j] w (OKPost b M s o q cp most ⟨1, 5, x, bo, t, rg, tt, pl, cx, ld, won, 0, got, err⟩ j w) := by
  obtain ⟨⟨sep, kk, hO, rep⟩, hM, hj, ⟨hu, hin, hs⟩, hbd, hl⟩ := h
  have hq := sep.bq
  obtain ⟨f, hB, he, hgx, hr⟩ : RepO w q most _ := by
    rcases rep with ⟨_, ⟨k, _⟩ | ⟨_, hU⟩ | ⟨k, _⟩⟩ | ⟨k, _⟩
    · exact absurd k (by simp)
    · exact hU
    all_goals exact absurd k (by simp)
  obtain ⟨hf, hwn⟩ := hr rfl
  have hf' : f = 101 := hf
  subst hf'
  simp only at hs hbd
  unfold OpB at hbd
  simp only at hbd
  have hwn0 : won = false := hwn (by simp)
  subst hwn0
  refine (step_pop (.pointer (some ⟨b.m, 0, none⟩)) j 0 0 3 o q _ _ _ (And_ (b.own) q) (fun w => IsM w b (MO (wrc M 1 bo) (stp s j))) w (.inr ⟨_, rfl⟩) (fun _ _ => by kernel_rfl) hO hB rfl rfl rfl ?_ rfl (fun w1 F1 => po_raise_not (.pointer (some ⟨b.m, 0, none⟩)) j 0 most b.own _ q _ w1 bo (.inr ⟨_, rfl⟩) (hB.keep F1 id) rfl rfl rfl rfl ⟨_, rfl⟩ hq (stays_m hq _) ((does_store hM hq hj 1 bo (by simp) (by omega)).later (fr_no1 q F1)))).mono ?_
  · rfl
  rintro e w' ⟨rfl, hB2, hM2, hF⟩
  refine fin_op sep hO ⟨1, 5, x, bo, t, rg, tt, pl, cx, ld, false, 3, got, err⟩ (wrc M 1 bo) rfl rfl kk (by simp) ?_ hM2 (fr_om hF)
  exact .inr (.inl ⟨rfl, _, hB2, he, fun a => absurd a (by simp), fun a => absurd a (by simp)⟩)

set_option maxRecDepth 10000 in
set_option maxHeartbeats 1000000 in
theorem ok_o6_far (b : MB) (M : Mach) (s : List Int) (o q cp j : Nat) (most : Int) (w : World) (x bo t : Int) (rg tt : Rg) (pl cx : Int) (ld won : Bool) (got err : Int) (h : Pre w b M s o q cp most ⟨1, 6, x, bo, t, rg, tt, pl, cx, ld, won, 0, got, err⟩ j) (hc : t < bo - 1) :
    Calls Try.prog 18 #[.pointer (some ⟨o, 0, none⟩), .pointer (some ⟨b.m, 0, none⟩), .int .i64 j] w (OKPost b M s o q cp most ⟨1, 6, x, bo, t, rg, tt, pl, cx, ld, won, 0, got, err⟩ j w) := by
  obtain ⟨⟨sep, kk, hO, rep⟩, hM, hj, ⟨hu, hin, hs⟩, hbd, hl⟩ := h
  have hq := sep.bq
  obtain ⟨f, hB, he, hgx, hr⟩ : RepO w q most _ := by
    rcases rep with ⟨_, ⟨k, _⟩ | ⟨_, hU⟩ | ⟨k, _⟩⟩ | ⟨k, _⟩
    · exact absurd k (by simp)
    · exact hU
    all_goals exact absurd k (by simp)
  obtain ⟨hf, hwn⟩ := hr rfl
  have hf' : f = 100 := hf
  subst hf'
  simp only at hs hbd
  unfold OpB at hbd
  simp only at hbd
  have hp0 : 0 ≤ rg.place (bo - 1) := by have := (place_in hs.1 (bo - 1)).1; have := hs.1.2.2.1; omega
  refine (step_pop (.pointer (some ⟨b.m, 0, none⟩)) j 0 0 1 o q _ _ _ (And_ (b.own) q) (fun w => IsM w b (MO (M) (stp s j))) w (.inr ⟨_, rfl⟩) (fun _ _ => by kernel_rfl) hO hB rfl rfl rfl ?_ rfl (fun w1 F1 => po_take_far (.pointer (some ⟨b.m, 0, none⟩)) j (rd M (rg.place (bo - 1))) 0 b.own _ q _ w1 t bo (bo - 1) rg.a rg.l (rg.place (bo - 1)) (.inr ⟨_, rfl⟩) (hB.keep F1 id) rfl rfl rfl rfl ⟨_, rfl⟩ ⟨_, rfl⟩ ⟨_, rfl⟩ hq (stays_m hq _) (wrap_in _ (by omega) (by omega)) rfl (by simpa using hc) ((does_load hM hq hj (rg.place (bo - 1)) hp0 hs.2).later (fr_no1 q F1)))).mono ?_
  · rfl
  rintro e w' ⟨rfl, hB2, hM2, hF⟩
  refine fin_op sep hO ⟨1, 7, rd M (rg.place (bo - 1)), bo, t, rg, tt, pl, cx, ld, won, 1, rd M (rg.place (bo - 1)), err⟩ (M) (by show DOp.pop6 _ M = _; unfold DOp.pop6; simp only; rw [if_pos hc]) rfl kk (by simp) ?_ hM2 (fr_om hF)
  exact .inr (.inl ⟨rfl, _, hB2, he, fun _ => rfl, fun a => absurd a (by simp)⟩)

set_option maxRecDepth 10000 in
set_option maxHeartbeats 1000000 in
theorem ok_o6_last (b : MB) (M : Mach) (s : List Int) (o q cp j : Nat) (most : Int) (w : World) (x bo t : Int) (rg tt : Rg) (pl cx : Int) (ld won : Bool) (got err : Int) (h : Pre w b M s o q cp most ⟨1, 6, x, bo, t, rg, tt, pl, cx, ld, won, 0, got, err⟩ j) (hc : ¬ t < bo - 1) :
    Calls Try.prog 18 #[.pointer (some ⟨o, 0, none⟩), .pointer (some ⟨b.m, 0, none⟩), .int .i64 j] w (OKPost b M s o q cp most ⟨1, 6, x, bo, t, rg, tt, pl, cx, ld, won, 0, got, err⟩ j w) := by
  obtain ⟨⟨sep, kk, hO, rep⟩, hM, hj, ⟨hu, hin, hs⟩, hbd, hl⟩ := h
  have hq := sep.bq
  obtain ⟨f, hB, he, hgx, hr⟩ : RepO w q most _ := by
    rcases rep with ⟨_, ⟨k, _⟩ | ⟨_, hU⟩ | ⟨k, _⟩⟩ | ⟨k, _⟩
    · exact absurd k (by simp)
    · exact hU
    all_goals exact absurd k (by simp)
  obtain ⟨hf, hwn⟩ := hr rfl
  have hf' : f = 100 := hf
  subst hf'
  simp only at hs hbd
  unfold OpB at hbd
  simp only at hbd
  have hp0 : 0 ≤ rg.place (bo - 1) := by have := (place_in hs.1 (bo - 1)).1; have := hs.1.2.2.1; omega
  refine (step_pop (.pointer (some ⟨b.m, 0, none⟩)) j 0 0 0 o q _ _ _ (And_ (b.own) q) (fun w => IsM w b (MO (M) (stp s j))) w (.inr ⟨_, rfl⟩) (fun _ _ => by kernel_rfl) hO hB rfl rfl rfl ?_ rfl (fun w1 F1 => po_take_last (.pointer (some ⟨b.m, 0, none⟩)) j (rd M (rg.place (bo - 1))) 0 b.own _ q _ w1 t bo (bo - 1) rg.a rg.l (rg.place (bo - 1)) (.inr ⟨_, rfl⟩) (hB.keep F1 id) rfl rfl rfl rfl ⟨_, rfl⟩ ⟨_, rfl⟩ ⟨_, rfl⟩ hq (stays_m hq _) (wrap_in _ (by omega) (by omega)) rfl (by simpa using hc) ((does_load hM hq hj (rg.place (bo - 1)) hp0 hs.2).later (fr_no1 q F1)))).mono ?_
  · rfl
  rintro e w' ⟨rfl, hB2, hM2, hF⟩
  refine fin_op sep hO ⟨1, 7, rd M (rg.place (bo - 1)), bo, t, rg, tt, pl, cx, ld, won, 0, got, err⟩ (M) (by show DOp.pop6 _ M = _; unfold DOp.pop6; simp only; rw [if_neg hc]) rfl kk (by simp) ?_ hM2 (fr_om hF)
  exact .inr (.inl ⟨rfl, _, hB2, he, fun a => absurd a (by simp), fun _ => ⟨rfl, fun _ => hwn (by simp)⟩⟩)

set_option maxRecDepth 10000 in
set_option maxHeartbeats 1000000 in
theorem ok_o7_won (b : MB) (M : Mach) (s : List Int) (o q cp j : Nat) (most : Int) (w : World) (x bo t : Int) (rg tt : Rg) (pl cx : Int) (ld won : Bool) (got err : Int) (h : Pre w b M s o q cp most ⟨1, 7, x, bo, t, rg, tt, pl, cx, ld, won, 0, got, err⟩ j) (hc : rd M 0 = t) :
    Calls Try.prog 18 #[.pointer (some ⟨o, 0, none⟩), .pointer (some ⟨b.m, 0, none⟩), .int .i64 j] w (OKPost b M s o q cp most ⟨1, 7, x, bo, t, rg, tt, pl, cx, ld, won, 0, got, err⟩ j w) := by
  obtain ⟨⟨sep, kk, hO, rep⟩, hM, hj, ⟨hu, hin, hs⟩, hbd, hl⟩ := h
  have hq := sep.bq
  obtain ⟨f, hB, he, hgx, hr⟩ : RepO w q most _ := by
    rcases rep with ⟨_, ⟨k, _⟩ | ⟨_, hU⟩ | ⟨k, _⟩⟩ | ⟨k, _⟩
    · exact absurd k (by simp)
    · exact hU
    all_goals exact absurd k (by simp)
  obtain ⟨hf, hwn⟩ := hr rfl
  have hf' : f = 105 := hf
  subst hf'
  simp only at hs hbd
  unfold OpB at hbd
  simp only at hbd
  refine (step_pop (.pointer (some ⟨b.m, 0, none⟩)) j 0 0 0 o q _ _ _ (And_ (b.own) q) (fun w => IsM w b (MO (wrc M 0 (t + 1)) (stp s j))) w (.inr ⟨_, rfl⟩) (fun _ _ => by kernel_rfl) hO hB rfl rfl rfl ?_ rfl (fun w1 F1 => po_race (.pointer (some ⟨b.m, 0, none⟩)) j 0 most b.own _ q _ w1 t (t + 1) true (.inr ⟨_, rfl⟩) (hB.keep F1 id) rfl rfl rfl ⟨_, rfl⟩ ⟨_, rfl⟩ hq (stays_m hq _) (wrap_in _ (by omega) (by omega)) ((does_cas_yes hM hq hj t (t + 1) (by omega) hc).later (fr_no1 q F1)))).mono ?_
  · rfl
  rintro e w' ⟨rfl, hB2, hM2, hF⟩
  refine fin_op sep hO ⟨1, 8, x, bo, t, rg, tt, pl, cx, ld, true, 0, got, err⟩ (wrc M 0 (t + 1)) (by show DOp.pop7 _ M = _; unfold DOp.pop7; rw [if_pos hc]) rfl kk (by simp) ?_ hM2 (fr_om hF)
  exact .inr (.inl ⟨rfl, _, hB2, he, fun a => absurd a (by simp), fun _ => ⟨rfl, fun a => absurd a (by simp)⟩⟩)

set_option maxRecDepth 10000 in
set_option maxHeartbeats 1000000 in
theorem ok_o7_not (b : MB) (M : Mach) (s : List Int) (o q cp j : Nat) (most : Int) (w : World) (x bo t : Int) (rg tt : Rg) (pl cx : Int) (ld won : Bool) (got err : Int) (h : Pre w b M s o q cp most ⟨1, 7, x, bo, t, rg, tt, pl, cx, ld, won, 0, got, err⟩ j) (hc : rd M 0 ≠ t) :
    Calls Try.prog 18 #[.pointer (some ⟨o, 0, none⟩), .pointer (some ⟨b.m, 0, none⟩), .int .i64 j] w (OKPost b M s o q cp most ⟨1, 7, x, bo, t, rg, tt, pl, cx, ld, won, 0, got, err⟩ j w) := by
  obtain ⟨⟨sep, kk, hO, rep⟩, hM, hj, ⟨hu, hin, hs⟩, hbd, hl⟩ := h
  have hq := sep.bq
  obtain ⟨f, hB, he, hgx, hr⟩ : RepO w q most _ := by
    rcases rep with ⟨_, ⟨k, _⟩ | ⟨_, hU⟩ | ⟨k, _⟩⟩ | ⟨k, _⟩
    · exact absurd k (by simp)
    · exact hU
    all_goals exact absurd k (by simp)
  obtain ⟨hf, hwn⟩ := hr rfl
  have hf' : f = 105 := hf
  subst hf'
  simp only at hs hbd
  unfold OpB at hbd
  simp only at hbd
  have hwon : won = false := hwn (by simp)
  subst hwon
  refine (step_pop (.pointer (some ⟨b.m, 0, none⟩)) j 0 0 0 o q _ _ _ (And_ (b.own) q) (fun w => IsM w b (MO (M) (stp s j))) w (.inr ⟨_, rfl⟩) (fun _ _ => by kernel_rfl) hO hB rfl rfl rfl ?_ rfl (fun w1 F1 => po_race (.pointer (some ⟨b.m, 0, none⟩)) j 0 most b.own _ q _ w1 t (t + 1) false (.inr ⟨_, rfl⟩) (hB.keep F1 id) rfl rfl rfl ⟨_, rfl⟩ ⟨_, rfl⟩ hq (stays_m hq _) (wrap_in _ (by omega) (by omega)) ((does_cas_not hM hq hj t (t + 1) (by omega) hc).later (fr_no1 q F1)))).mono ?_
  · rfl
  rintro e w' ⟨rfl, hB2, hM2, hF⟩
  refine fin_op sep hO ⟨1, 8, x, bo, t, rg, tt, pl, cx, ld, false, 0, got, err⟩ (M) (by show DOp.pop7 _ M = _; unfold DOp.pop7; rw [if_neg hc]) rfl kk (by simp) ?_ hM2 (fr_om hF)
  exact .inr (.inl ⟨rfl, _, hB2, he, fun a => absurd a (by simp), fun _ => ⟨rfl, fun a => absurd a (by simp)⟩⟩)

set_option maxRecDepth 10000 in
set_option maxHeartbeats 1000000 in
theorem ok_o8_won (b : MB) (M : Mach) (s : List Int) (o q cp j : Nat) (most : Int) (w : World) (x bo t : Int) (rg tt : Rg) (pl cx : Int) (ld won : Bool) (got err : Int) (h : Pre w b M s o q cp most ⟨1, 8, x, bo, t, rg, tt, pl, cx, ld, won, 0, got, err⟩ j) (hc : won = true) :
    Calls Try.prog 18 #[.pointer (some ⟨o, 0, none⟩), .pointer (some ⟨b.m, 0, none⟩), .int .i64 j] w (OKPost b M s o q cp most ⟨1, 8, x, bo, t, rg, tt, pl, cx, ld, won, 0, got, err⟩ j w) := by
  obtain ⟨⟨sep, kk, hO, rep⟩, hM, hj, ⟨hu, hin, hs⟩, hbd, hl⟩ := h
  have hq := sep.bq
  obtain ⟨f, hB, he, hgx, hr⟩ : RepO w q most _ := by
    rcases rep with ⟨_, ⟨k, _⟩ | ⟨_, hU⟩ | ⟨k, _⟩⟩ | ⟨k, _⟩
    · exact absurd k (by simp)
    · exact hU
    all_goals exact absurd k (by simp)
  obtain ⟨hf, hwn⟩ := hr rfl
  have hf' : f = 101 := hf
  subst hf'
  simp only at hs hbd
  unfold OpB at hbd
  simp only at hbd
  subst hc
  refine (step_pop (.pointer (some ⟨b.m, 0, none⟩)) j 0 0 1 o q _ _ _ (And_ (b.own) q) (fun w => IsM w b (MO (wrc M 1 bo) (stp s j))) w (.inr ⟨_, rfl⟩) (fun _ _ => by kernel_rfl) hO hB rfl rfl rfl ?_ rfl (fun w1 F1 => po_raise_won (.pointer (some ⟨b.m, 0, none⟩)) j 0 most b.own _ q _ w1 bo (.inr ⟨_, rfl⟩) (hB.keep F1 id) rfl rfl rfl rfl ⟨_, rfl⟩ hq (stays_m hq _) ((does_store hM hq hj 1 bo (by simp) (by omega)).later (fr_no1 q F1)))).mono ?_
  · rfl
  rintro e w' ⟨rfl, hB2, hM2, hF⟩
  refine fin_op sep hO ⟨1, 8, x, bo, t, rg, tt, pl, cx, ld, true, 1, x, err⟩ (wrc M 1 bo) rfl rfl kk (by simp) ?_ hM2 (fr_om hF)
  exact .inr (.inl ⟨rfl, _, hB2, he, fun _ => rfl, fun a => absurd a (by simp)⟩)

set_option maxRecDepth 10000 in
set_option maxHeartbeats 1000000 in
theorem ok_o8_not (b : MB) (M : Mach) (s : List Int) (o q cp j : Nat) (most : Int) (w : World) (x bo t : Int) (rg tt : Rg) (pl cx : Int) (ld won : Bool) (got err : Int) (h : Pre w b M s o q cp most ⟨1, 8, x, bo, t, rg, tt, pl, cx, ld, won, 0, got, err⟩ j) (hc : won = false) :
    Calls Try.prog 18 #[.pointer (some ⟨o, 0, none⟩), .pointer (some ⟨b.m, 0, none⟩), .int .i64 j] w (OKPost b M s o q cp most ⟨1, 8, x, bo, t, rg, tt, pl, cx, ld, won, 0, got, err⟩ j w) := by
  obtain ⟨⟨sep, kk, hO, rep⟩, hM, hj, ⟨hu, hin, hs⟩, hbd, hl⟩ := h
  have hq := sep.bq
  obtain ⟨f, hB, he, hgx, hr⟩ : RepO w q most _ := by
    rcases rep with ⟨_, ⟨k, _⟩ | ⟨_, hU⟩ | ⟨k, _⟩⟩ | ⟨k, _⟩
    · exact absurd k (by simp)
    · exact hU
    all_goals exact absurd k (by simp)
  obtain ⟨hf, hwn⟩ := hr rfl
  have hf' : f = 101 := hf
  subst hf'
  simp only at hs hbd
  unfold OpB at hbd
  simp only at hbd
  subst hc
  refine (step_pop (.pointer (some ⟨b.m, 0, none⟩)) j 0 0 3 o q _ _ _ (And_ (b.own) q) (fun w => IsM w b (MO (wrc M 1 bo) (stp s j))) w (.inr ⟨_, rfl⟩) (fun _ _ => by kernel_rfl) hO hB rfl rfl rfl ?_ rfl (fun w1 F1 => po_raise_not (.pointer (some ⟨b.m, 0, none⟩)) j 0 most b.own _ q _ w1 bo (.inr ⟨_, rfl⟩) (hB.keep F1 id) rfl rfl rfl rfl ⟨_, rfl⟩ hq (stays_m hq _) ((does_store hM hq hj 1 bo (by simp) (by omega)).later (fr_no1 q F1)))).mono ?_
  · rfl
  rintro e w' ⟨rfl, hB2, hM2, hF⟩
  refine fin_op sep hO ⟨1, 8, x, bo, t, rg, tt, pl, cx, ld, false, 3, got, err⟩ (wrc M 1 bo) rfl rfl kk (by simp) ?_ hM2 (fr_om hF)
  exact .inr (.inl ⟨rfl, _, hB2, he, fun a => absurd a (by simp), fun a => absurd a (by simp)⟩)

end Go.Proofs.Ytiofdfgcghiibaa
