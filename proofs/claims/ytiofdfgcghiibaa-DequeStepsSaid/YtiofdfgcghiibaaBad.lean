/-
  Steps of operations that the machine refuses.
-/
import Derived.Test.YtiofdfgcghiibaaAllU
import Derived.Test.YtiofdfgcghiibaaAllV
import Derived.Test.YtiofdfgcghiibaaAllO
import Derived.Test.YtiofdfgcghiibaaAllT
namespace Go.Proofs.Ytiofdfgcghiibaa
open Go.RowKit
set_option linter.unusedVariables false

def DOp.brk (o : DOp) (e : Int) : DOp := { o with how := 6, err := e, got := 0 }

/-- What holds ahead of a step that is refused. -/
structure PreB (w : World) (b : MB) (M : Mach) (s : List Int) (o q cp : Nat) (most : Int) (op : DOp) : Prop where
  hI : IsOp w b o q cp most op
  hM : IsM w b (MO M s)
  hin : op.InR
  h4 : op.kind = 0 → op.nx = 4 → 0 ≤ op.rg.l ∧ op.rg.l + 1 ≤ 8
  h5 : op.kind = 0 → op.nx = 5 → op.safe M ∧ OpB 100000 op
  hl : op.Live

def BadPost (b : MB) (M : Mach) (s : List Int) (o q cp : Nat) (most : Int) (op : DOp) (er : Int) (w : World) (e : Ending) (w' : World) : Prop :=
  ∃ cp', (cp' = cp ∨ w.heap.size ≤ cp') ∧ e = .returned (.int .i64 6) ∧ IsOp w' b o q cp' most (op.brk er) ∧ IsM w' b (MO M s) ∧ Fr (OM b q cp) w w'

theorem fin_bad {w w' : World} {b : MB} {M : Mach} {s : List Int} {o q cp : Nat} {most : Int} {op : DOp} {er : Int} (sep : Sep b o q cp) (hO : Blk w o #[.iface (KT op.kind) (.pointer (some ⟨q, 0, none⟩))]) (kk : op.kind ≤ 2) (c : Array Value)
    (hB : Blk w' q ((c.setIfInBounds 6 (.int .i64 6)).setIfInBounds 8 (.int .i64 er))) (hc : 8 < c.size) (hM' : IsM w' b (MO M s)) (hF : Fr (OM b q cp) w w') : BadPost b M s o q cp most op er w (.returned (.int .i64 6)) w' := by
  refine ⟨cp, .inl rfl, rfl, ⟨sep, kk, ?_, .inr ⟨rfl, _, hB, get_set (show (c.setIfInBounds 6 (.int .i64 6))[6]? = some (.int .i64 6) by rw [Array.getElem?_setIfInBounds_self_of_lt (by omega)]) (by decide), by show ((c.setIfInBounds 6 (.int .i64 6)).setIfInBounds 8 (.int .i64 er))[8]? = _; rw [Array.getElem?_setIfInBounds_self_of_lt (by simpa using hc)]; rfl⟩⟩, hM', hF⟩
  refine hO.keep hF ?_
  rintro ((h | h) | h)
  · exact sep.bo h
  · exact sep.oc h
  · exact sep.oq h

set_option maxRecDepth 10000 in
set_option maxHeartbeats 1000000 in
theorem bad_u1 (b : MB) (M : Mach) (s : List Int) (o q cp j : Nat) (most : Int) (w : World) (x bo t : Int) (rg tt : Rg) (pl cx : Int) (ld won : Bool) (got err : Int) (e0 : Int) (he0 : e0 < 0 ∨ (s.length : Int) ≤ e0) (h : PreB w b M s o q cp most ⟨0, 1, x, bo, t, rg, tt, pl, cx, ld, won, 0, got, err⟩)  :
    Calls Try.prog 18 #[.pointer (some ⟨o, 0, none⟩), .pointer (some ⟨b.m, 0, none⟩), .int .i64 e0] w (BadPost b M s o q cp most ⟨0, 1, x, bo, t, rg, tt, pl, cx, ld, won, 0, got, err⟩ 10 w) := by
  obtain ⟨⟨sep, kk, hO, rep⟩, hM, hin, h4, h5, hl⟩ := h
  have hq := sep.bq
  obtain ⟨wa, wl, cv, f, hB, hg, he, hr⟩ : RepU w q cp most _ := by
    rcases rep with ⟨_, ⟨_, hU⟩ | ⟨k, _⟩ | ⟨k, _⟩⟩ | ⟨k, _⟩
    · exact hU
    all_goals exact absurd k (by simp)
  obtain ⟨hf, hto, hcp, hcx, htp⟩ := hr rfl
  have hf' : f = 52 := hf
  subst hf'
  refine (broke_push (.pointer (some ⟨b.m, 0, none⟩)) e0 10 0 o q _ _ _ (b.own) (fun w => IsM w b (MO M s)) w (.inr ⟨_, rfl⟩) (fun _ _ => by kernel_rfl) hO hB rfl rfl rfl ⟨_, rfl⟩ ⟨_, rfl⟩ rfl (stays_m hq _) (fun w1 F1 => pu_seeBottom (.pointer (some ⟨b.m, 0, none⟩)) e0 0 10 most b.own _ q _ w1 (.inr ⟨_, rfl⟩) (hB.keep F1 id) rfl rfl ⟨_, rfl⟩ ⟨_, rfl⟩ hq (stays_m hq _) ((no_load hM hq e0 he0 _).later (fr_no1 q F1)))).mono ?_
  rintro e w' ⟨rfl, hB2, hM2, hF⟩
  exact fin_bad sep hO kk _ hB2 (by simp [pushC]) hM2 (fr_om hF)

set_option maxRecDepth 10000 in
set_option maxHeartbeats 1000000 in
theorem bad_u2 (b : MB) (M : Mach) (s : List Int) (o q cp j : Nat) (most : Int) (w : World) (x bo t : Int) (rg tt : Rg) (pl cx : Int) (ld won : Bool) (got err : Int) (e0 : Int) (he0 : e0 < 0 ∨ (s.length : Int) ≤ e0) (h : PreB w b M s o q cp most ⟨0, 2, x, bo, t, rg, tt, pl, cx, ld, won, 0, got, err⟩)  :
    Calls Try.prog 18 #[.pointer (some ⟨o, 0, none⟩), .pointer (some ⟨b.m, 0, none⟩), .int .i64 e0] w (BadPost b M s o q cp most ⟨0, 2, x, bo, t, rg, tt, pl, cx, ld, won, 0, got, err⟩ 10 w) := by
  obtain ⟨⟨sep, kk, hO, rep⟩, hM, hin, h4, h5, hl⟩ := h
  have hq := sep.bq
  obtain ⟨wa, wl, cv, f, hB, hg, he, hr⟩ : RepU w q cp most _ := by
    rcases rep with ⟨_, ⟨_, hU⟩ | ⟨k, _⟩ | ⟨k, _⟩⟩ | ⟨k, _⟩
    · exact hU
    all_goals exact absurd k (by simp)
  obtain ⟨hf, hto, hcp, hcx, htp⟩ := hr rfl
  have hf' : f = 80 := hf
  subst hf'
  refine (broke_push (.pointer (some ⟨b.m, 0, none⟩)) e0 10 0 o q _ _ _ (b.own) (fun w => IsM w b (MO M s)) w (.inr ⟨_, rfl⟩) (fun _ _ => by kernel_rfl) hO hB rfl rfl rfl ⟨_, rfl⟩ ⟨_, rfl⟩ rfl (stays_m hq _) (fun w1 F1 => pu_seeTop (.pointer (some ⟨b.m, 0, none⟩)) e0 0 10 most b.own _ q _ w1 (.inr ⟨_, rfl⟩) (hB.keep F1 id) rfl rfl ⟨_, rfl⟩ ⟨_, rfl⟩ hq (stays_m hq _) ((no_load hM hq e0 he0 _).later (fr_no1 q F1)))).mono ?_
  rintro e w' ⟨rfl, hB2, hM2, hF⟩
  exact fin_bad sep hO kk _ hB2 (by simp [pushC]) hM2 (fr_om hF)

set_option maxRecDepth 10000 in
set_option maxHeartbeats 1000000 in
theorem bad_u3 (b : MB) (M : Mach) (s : List Int) (o q cp j : Nat) (most : Int) (w : World) (x bo t : Int) (rg tt : Rg) (pl cx : Int) (ld won : Bool) (got err : Int) (e0 : Int) (he0 : e0 < 0 ∨ (s.length : Int) ≤ e0) (h : PreB w b M s o q cp most ⟨0, 3, x, bo, t, rg, tt, pl, cx, ld, won, 0, got, err⟩)  :
    Calls Try.prog 18 #[.pointer (some ⟨o, 0, none⟩), .pointer (some ⟨b.m, 0, none⟩), .int .i64 e0] w (BadPost b M s o q cp most ⟨0, 3, x, bo, t, rg, tt, pl, cx, ld, won, 0, got, err⟩ 10 w) := by
  obtain ⟨⟨sep, kk, hO, rep⟩, hM, hin, h4, h5, hl⟩ := h
  have hq := sep.bq
  obtain ⟨wa, wl, cv, f, hB, hg, he, hr⟩ : RepU w q cp most _ := by
    rcases rep with ⟨_, ⟨_, hU⟩ | ⟨k, _⟩ | ⟨k, _⟩⟩ | ⟨k, _⟩
    · exact hU
    all_goals exact absurd k (by simp)
  obtain ⟨hf, hto, hcp, hcx, htp⟩ := hr rfl
  have hf' : f = 88 := hf
  subst hf'
  refine (broke_push (.pointer (some ⟨b.m, 0, none⟩)) e0 10 0 o q _ _ _ (b.own) (fun w => IsM w b (MO M s)) w (.inr ⟨_, rfl⟩) (fun _ _ => by kernel_rfl) hO hB rfl rfl rfl ⟨_, rfl⟩ ⟨_, rfl⟩ rfl (stays_m hq _) (fun w1 F1 => pu_seeRing_no (.pointer (some ⟨b.m, 0, none⟩)) e0 0 10 most b.own _ q _ w1 rfl (.inr ⟨_, rfl⟩) (hB.keep F1 id) rfl rfl hq ((no_load hM hq e0 he0 _).later (fr_no1 q F1)))).mono ?_
  rintro e w' ⟨rfl, hB2, hM2, hF⟩
  exact fin_bad sep hO kk _ hB2 (by simp [pushC]) hM2 (fr_om hF)

set_option maxRecDepth 10000 in
set_option maxHeartbeats 1000000 in
theorem bad_u4 (b : MB) (M : Mach) (s : List Int) (o q cp j : Nat) (most : Int) (w : World) (x bo t : Int) (rg tt : Rg) (pl cx : Int) (ld won : Bool) (got err : Int) (e0 : Int) (he0 : e0 < 0 ∨ (s.length : Int) ≤ e0) (h : PreB w b M s o q cp most ⟨0, 4, x, bo, t, rg, tt, pl, cx, ld, won, 0, got, err⟩)  :
    Calls Try.prog 18 #[.pointer (some ⟨o, 0, none⟩), .pointer (some ⟨b.m, 0, none⟩), .int .i64 e0] w (BadPost b M s o q cp most ⟨0, 4, x, bo, t, rg, tt, pl, cx, ld, won, 0, got, err⟩ 10 w) := by
  obtain ⟨⟨sep, kk, hO, rep⟩, hM, hin, h4, h5, hl⟩ := h
  have hq := sep.bq
  obtain ⟨wa, wl, cv, f, hB, hg, he, hr⟩ : RepU w q cp most _ := by
    rcases rep with ⟨_, ⟨_, hU⟩ | ⟨k, _⟩ | ⟨k, _⟩⟩ | ⟨k, _⟩
    · exact hU
    all_goals exact absurd k (by simp)
  obtain ⟨hf, hto, hcp, hcx, htp⟩ := hr rfl
  have hf' : f = 94 := hf
  subst hf'
  refine (broke_push (.pointer (some ⟨b.m, 0, none⟩)) e0 10 0 o q _ _ _ (b.own) (fun w => IsM w b (MO M s)) w (.inr ⟨_, rfl⟩) (fun _ _ => by kernel_rfl) hO hB rfl rfl rfl ⟨_, rfl⟩ ⟨_, rfl⟩ rfl (stays_m hq _) (fun w1 F1 => pu_grow (.pointer (some ⟨b.m, 0, none⟩)) e0 10 b.own _ q _ w1 rg.l 0 0 (.inr ⟨_, rfl⟩) (hB.keep F1 id) rfl ⟨_, rfl⟩ ⟨_, rfl⟩ ⟨_, rfl⟩ hq (stays_m hq _) (h4 rfl rfl).1 (by have := (h4 rfl rfl).2; simp only at this; omega) ((no_rnew hM hq e0 he0 (rg.l + 1) (by have := (h4 rfl rfl).1; simp only at this; omega) (h4 rfl rfl).2).later (fr_no1 q F1)))).mono ?_
  rintro e w' ⟨rfl, hB2, hM2, hF⟩
  exact fin_bad sep hO kk _ hB2 (by simp [pushC]) hM2 (fr_om hF)

set_option maxRecDepth 10000 in
set_option maxHeartbeats 1000000 in
theorem bad_u4_full (b : MB) (M : Mach) (s : List Int) (o q cp j : Nat) (most : Int) (w : World) (x bo t : Int) (rg tt : Rg) (pl cx : Int) (ld won : Bool) (got err : Int)  (h : PreB w b M s o q cp most ⟨0, 4, x, bo, t, rg, tt, pl, cx, ld, won, 0, got, err⟩) (hj : j < s.length) (hn : (M.all.length : Int) - M.used < pow (rg.l + 1)) :
    Calls Try.prog 18 #[.pointer (some ⟨o, 0, none⟩), .pointer (some ⟨b.m, 0, none⟩), .int .i64 j] w (BadPost b M s o q cp most ⟨0, 4, x, bo, t, rg, tt, pl, cx, ld, won, 0, got, err⟩ 21 w) := by
  obtain ⟨⟨sep, kk, hO, rep⟩, hM, hin, h4, h5, hl⟩ := h
  have hq := sep.bq
  obtain ⟨wa, wl, cv, f, hB, hg, he, hr⟩ : RepU w q cp most _ := by
    rcases rep with ⟨_, ⟨_, hU⟩ | ⟨k, _⟩ | ⟨k, _⟩⟩ | ⟨k, _⟩
    · exact hU
    all_goals exact absurd k (by simp)
  obtain ⟨hf, hto, hcp, hcx, htp⟩ := hr rfl
  have hf' : f = 94 := hf
  subst hf'
  refine (broke_push (.pointer (some ⟨b.m, 0, none⟩)) j 21 0 o q _ _ _ (b.own) (fun w => IsM w b (MO M s)) w (.inr ⟨_, rfl⟩) (fun _ _ => by kernel_rfl) hO hB rfl rfl rfl ⟨_, rfl⟩ ⟨_, rfl⟩ rfl (stays_m hq _) (fun w1 F1 => pu_grow (.pointer (some ⟨b.m, 0, none⟩)) j 21 b.own _ q _ w1 rg.l 0 0 (.inr ⟨_, rfl⟩) (hB.keep F1 id) rfl ⟨_, rfl⟩ ⟨_, rfl⟩ ⟨_, rfl⟩ hq (stays_m hq _) (h4 rfl rfl).1 (by have := (h4 rfl rfl).2; simp only at this; omega) ((full_rnew hM hq hj (rg.l + 1) (by have := (h4 rfl rfl).1; simp only at this; omega) (h4 rfl rfl).2 hn).later (fr_no1 q F1)))).mono ?_
  rintro e w' ⟨rfl, hB2, hM2, hF⟩
  exact fin_bad sep hO kk _ hB2 (by simp [pushC]) hM2 (fr_om hF)

set_option maxRecDepth 10000 in
set_option maxHeartbeats 1000000 in
theorem bad_u5_more (b : MB) (M : Mach) (s : List Int) (o q cp j : Nat) (most : Int) (w : World) (x bo t : Int) (rg tt : Rg) (pl cx : Int) (ld won : Bool) (got err : Int) (e0 : Int) (he0 : e0 < 0 ∨ (s.length : Int) ≤ e0) (h : PreB w b M s o q cp most ⟨0, 5, x, bo, t, rg, tt, pl, cx, ld, won, 0, got, err⟩) (hfr : fresh ⟨0, 5, x, bo, t, rg, tt, pl, cx, ld, won, 0, got, err⟩ = false) :
    Calls Try.prog 18 #[.pointer (some ⟨o, 0, none⟩), .pointer (some ⟨b.m, 0, none⟩), .int .i64 e0] w (BadPost b M s o q cp most ⟨0, 5, x, bo, t, rg, tt, pl, cx, ld, won, 0, got, err⟩ 10 w) := by
  obtain ⟨⟨sep, kk, hO, rep⟩, hM, hin, h4, h5, hl⟩ := h
  have hq := sep.bq
  obtain ⟨wa, wl, cv, f, hB, hg, he, hr⟩ : RepU w q cp most _ := by
    rcases rep with ⟨_, ⟨_, hU⟩ | ⟨k, _⟩ | ⟨k, _⟩⟩ | ⟨k, _⟩
    · exact hU
    all_goals exact absurd k (by simp)
  obtain ⟨hf, hto, hcp, hcx, htp⟩ := hr rfl
  have hf' : f = 104 := by rw [hf]; simp [pushF, hfr]
  subst hf'
  obtain ⟨rfl, hC⟩ := hcp rfl hfr
  obtain ⟨⟨_, _, hs⟩, hbd⟩ := h5 rfl rfl
  simp only at hs
  have hd := no_cstep (q := q) hM hq sep.bc sep.qc e0 he0 _ hC (by show pl ≠ bo; omega)
  refine (broke_push (.pointer (some ⟨b.m, 0, none⟩)) e0 10 0 o q _ _ _ (fun k => b.own k ∨ k = cp) (fun w => IsM w b (MO M s)) w (.inr ⟨_, rfl⟩) (fun _ _ => by kernel_rfl) hO hB rfl rfl rfl ⟨_, rfl⟩ ⟨_, rfl⟩ rfl (stays_m hq _) (fun w1 F1 => pu_move_more (.pointer (some ⟨b.m, 0, none⟩)) e0 10 (fun k => b.own k ∨ k = cp) _ q _ w1 cp (.inr ⟨_, rfl⟩) (hB.keep F1 id) rfl (fun hh => hh.elim hq sep.qc) (hd.later (fr_no1 q F1)))).mono ?_
  rintro e w' ⟨rfl, hB2, hM2, hF⟩
  exact fin_bad sep hO kk _ hB2 (by simp [pushC]) hM2 (fr_om2 hF)

set_option maxRecDepth 10000 in
set_option maxHeartbeats 1000000 in
theorem bad_u6 (b : MB) (M : Mach) (s : List Int) (o q cp j : Nat) (most : Int) (w : World) (x bo t : Int) (rg tt : Rg) (pl cx : Int) (ld won : Bool) (got err : Int) (e0 : Int) (he0 : e0 < 0 ∨ (s.length : Int) ≤ e0) (h : PreB w b M s o q cp most ⟨0, 6, x, bo, t, rg, tt, pl, cx, ld, won, 0, got, err⟩)  :
    Calls Try.prog 18 #[.pointer (some ⟨o, 0, none⟩), .pointer (some ⟨b.m, 0, none⟩), .int .i64 e0] w (BadPost b M s o q cp most ⟨0, 6, x, bo, t, rg, tt, pl, cx, ld, won, 0, got, err⟩ 10 w) := by
  obtain ⟨⟨sep, kk, hO, rep⟩, hM, hin, h4, h5, hl⟩ := h
  have hq := sep.bq
  obtain ⟨wa, wl, cv, f, hB, hg, he, hr⟩ : RepU w q cp most _ := by
    rcases rep with ⟨_, ⟨_, hU⟩ | ⟨k, _⟩ | ⟨k, _⟩⟩ | ⟨k, _⟩
    · exact hU
    all_goals exact absurd k (by simp)
  obtain ⟨hf, hto, hcp, hcx, htp⟩ := hr rfl
  have hf' : f = 108 := hf
  subst hf'
  refine (broke_push (.pointer (some ⟨b.m, 0, none⟩)) e0 10 0 o q _ _ _ (b.own) (fun w => IsM w b (MO M s)) w (.inr ⟨_, rfl⟩) (fun _ _ => by kernel_rfl) hO hB rfl rfl rfl ⟨_, rfl⟩ ⟨_, rfl⟩ rfl (stays_m hq _) (fun w1 F1 => pu_turn (.pointer (some ⟨b.m, 0, none⟩)) e0 10 most b.own _ q _ w1 wa wl _ (.inr ⟨_, rfl⟩) (hB.keep F1 id) rfl rfl rfl rfl ⟨_, rfl⟩ ⟨_, rfl⟩ ⟨_, rfl⟩ ⟨_, rfl⟩ hq (stays_m hq _) rfl ((no_store hM hq e0 he0 _ _).later (fr_no1 q F1)))).mono ?_
  rintro e w' ⟨rfl, hB2, hM2, hF⟩
  exact fin_bad sep hO kk _ hB2 (by simp [pushC]) hM2 (fr_om hF)

set_option maxRecDepth 10000 in
set_option maxHeartbeats 1000000 in
theorem bad_u7 (b : MB) (M : Mach) (s : List Int) (o q cp j : Nat) (most : Int) (w : World) (x bo t : Int) (rg tt : Rg) (pl cx : Int) (ld won : Bool) (got err : Int) (e0 : Int) (he0 : e0 < 0 ∨ (s.length : Int) ≤ e0) (h : PreB w b M s o q cp most ⟨0, 7, x, bo, t, rg, tt, pl, cx, ld, won, 0, got, err⟩)  :
    Calls Try.prog 18 #[.pointer (some ⟨o, 0, none⟩), .pointer (some ⟨b.m, 0, none⟩), .int .i64 e0] w (BadPost b M s o q cp most ⟨0, 7, x, bo, t, rg, tt, pl, cx, ld, won, 0, got, err⟩ 10 w) := by
  obtain ⟨⟨sep, kk, hO, rep⟩, hM, hin, h4, h5, hl⟩ := h
  have hq := sep.bq
  obtain ⟨wa, wl, cv, f, hB, hg, he, hr⟩ : RepU w q cp most _ := by
    rcases rep with ⟨_, ⟨_, hU⟩ | ⟨k, _⟩ | ⟨k, _⟩⟩ | ⟨k, _⟩
    · exact hU
    all_goals exact absurd k (by simp)
  obtain ⟨hf, hto, hcp, hcx, htp⟩ := hr rfl
  have hf' : f = 93 := hf
  subst hf'
  refine (broke_push (.pointer (some ⟨b.m, 0, none⟩)) e0 10 0 o q _ _ _ (b.own) (fun w => IsM w b (MO M s)) w (.inr ⟨_, rfl⟩) (fun _ _ => by kernel_rfl) hO hB rfl rfl rfl ⟨_, rfl⟩ ⟨_, rfl⟩ rfl (stays_m hq _) (fun w1 F1 => pu_put (.pointer (some ⟨b.m, 0, none⟩)) e0 10 b.own _ q _ w1 rg.a rg.l bo x (rg.place bo) (.inr ⟨_, rfl⟩) (hB.keep F1 id) rfl rfl rfl rfl ⟨_, rfl⟩ hq (stays_m hq _) rfl ((no_store hM hq e0 he0 _ _).later (fr_no1 q F1)))).mono ?_
  rintro e w' ⟨rfl, hB2, hM2, hF⟩
  exact fin_bad sep hO kk _ hB2 (by simp [pushC]) hM2 (fr_om hF)

set_option maxRecDepth 10000 in
set_option maxHeartbeats 1000000 in
theorem bad_u8 (b : MB) (M : Mach) (s : List Int) (o q cp j : Nat) (most : Int) (w : World) (x bo t : Int) (rg tt : Rg) (pl cx : Int) (ld won : Bool) (got err : Int) (e0 : Int) (he0 : e0 < 0 ∨ (s.length : Int) ≤ e0) (h : PreB w b M s o q cp most ⟨0, 8, x, bo, t, rg, tt, pl, cx, ld, won, 0, got, err⟩)  :
    Calls Try.prog 18 #[.pointer (some ⟨o, 0, none⟩), .pointer (some ⟨b.m, 0, none⟩), .int .i64 e0] w (BadPost b M s o q cp most ⟨0, 8, x, bo, t, rg, tt, pl, cx, ld, won, 0, got, err⟩ 10 w) := by
  obtain ⟨⟨sep, kk, hO, rep⟩, hM, hin, h4, h5, hl⟩ := h
  have hq := sep.bq
  obtain ⟨wa, wl, cv, f, hB, hg, he, hr⟩ : RepU w q cp most _ := by
    rcases rep with ⟨_, ⟨_, hU⟩ | ⟨k, _⟩ | ⟨k, _⟩⟩ | ⟨k, _⟩
    · exact hU
    all_goals exact absurd k (by simp)
  obtain ⟨hf, hto, hcp, hcx, htp⟩ := hr rfl
  have hf' : f = 97 := hf
  subst hf'
  refine (broke_push (.pointer (some ⟨b.m, 0, none⟩)) e0 10 0 o q _ _ _ (b.own) (fun w => IsM w b (MO M s)) w (.inr ⟨_, rfl⟩) (fun _ _ => by kernel_rfl) hO hB rfl rfl rfl ⟨_, rfl⟩ ⟨_, rfl⟩ rfl (stays_m hq _) (fun w1 F1 => pu_raise (.pointer (some ⟨b.m, 0, none⟩)) e0 10 most b.own _ q _ w1 bo _ (.inr ⟨_, rfl⟩) (hB.keep F1 id) rfl rfl rfl ⟨_, rfl⟩ hq (stays_m hq _) rfl ((no_store hM hq e0 he0 _ _).later (fr_no1 q F1)))).mono ?_
  rintro e w' ⟨rfl, hB2, hM2, hF⟩
  exact fin_bad sep hO kk _ hB2 (by simp [pushC]) hM2 (fr_om hF)

set_option maxRecDepth 10000 in
set_option maxHeartbeats 1000000 in
theorem bad_o1 (b : MB) (M : Mach) (s : List Int) (o q cp j : Nat) (most : Int) (w : World) (x bo t : Int) (rg tt : Rg) (pl cx : Int) (ld won : Bool) (got err : Int) (e0 : Int) (he0 : e0 < 0 ∨ (s.length : Int) ≤ e0) (h : PreB w b M s o q cp most ⟨1, 1, x, bo, t, rg, tt, pl, cx, ld, won, 0, got, err⟩)  :
    Calls Try.prog 18 #[.pointer (some ⟨o, 0, none⟩), .pointer (some ⟨b.m, 0, none⟩), .int .i64 e0] w (BadPost b M s o q cp most ⟨1, 1, x, bo, t, rg, tt, pl, cx, ld, won, 0, got, err⟩ 10 w) := by
  obtain ⟨⟨sep, kk, hO, rep⟩, hM, hin, h4, h5, hl⟩ := h
  have hq := sep.bq
  obtain ⟨f, hB, he, hgx, hr⟩ : RepO w q most _ := by
    rcases rep with ⟨_, ⟨k, _⟩ | ⟨_, hU⟩ | ⟨k, _⟩⟩ | ⟨k, _⟩
    · exact absurd k (by simp)
    · exact hU
    all_goals exact absurd k (by simp)
  obtain ⟨hf, hwn⟩ := hr rfl
  have hf' : f = 53 := hf
  subst hf'
  refine (broke_pop (.pointer (some ⟨b.m, 0, none⟩)) e0 10 0 o q _ _ _ (b.own) (fun w => IsM w b (MO M s)) w (.inr ⟨_, rfl⟩) (fun _ _ => by kernel_rfl) hO hB rfl rfl rfl ⟨_, rfl⟩ ⟨_, rfl⟩ rfl (stays_m hq _) (fun w1 F1 => po_seeBottom (.pointer (some ⟨b.m, 0, none⟩)) e0 0 10 most b.own _ q _ w1 (.inr ⟨_, rfl⟩) (hB.keep F1 id) rfl rfl ⟨_, rfl⟩ ⟨_, rfl⟩ hq (stays_m hq _) ((no_load hM hq e0 he0 _).later (fr_no1 q F1)))).mono ?_
  rintro e w' ⟨rfl, hB2, hM2, hF⟩
  exact fin_bad sep hO kk _ hB2 (by simp [popC]) hM2 (fr_om hF)

set_option maxRecDepth 10000 in
set_option maxHeartbeats 1000000 in
theorem bad_o2 (b : MB) (M : Mach) (s : List Int) (o q cp j : Nat) (most : Int) (w : World) (x bo t : Int) (rg tt : Rg) (pl cx : Int) (ld won : Bool) (got err : Int) (e0 : Int) (he0 : e0 < 0 ∨ (s.length : Int) ≤ e0) (h : PreB w b M s o q cp most ⟨1, 2, x, bo, t, rg, tt, pl, cx, ld, won, 0, got, err⟩)  :
    Calls Try.prog 18 #[.pointer (some ⟨o, 0, none⟩), .pointer (some ⟨b.m, 0, none⟩), .int .i64 e0] w (BadPost b M s o q cp most ⟨1, 2, x, bo, t, rg, tt, pl, cx, ld, won, 0, got, err⟩ 10 w) := by
  obtain ⟨⟨sep, kk, hO, rep⟩, hM, hin, h4, h5, hl⟩ := h
  have hq := sep.bq
  obtain ⟨f, hB, he, hgx, hr⟩ : RepO w q most _ := by
    rcases rep with ⟨_, ⟨k, _⟩ | ⟨_, hU⟩ | ⟨k, _⟩⟩ | ⟨k, _⟩
    · exact absurd k (by simp)
    · exact hU
    all_goals exact absurd k (by simp)
  obtain ⟨hf, hwn⟩ := hr rfl
  have hf' : f = 82 := hf
  subst hf'
  refine (broke_pop (.pointer (some ⟨b.m, 0, none⟩)) e0 10 0 o q _ _ _ (b.own) (fun w => IsM w b (MO M s)) w (.inr ⟨_, rfl⟩) (fun _ _ => by kernel_rfl) hO hB rfl rfl rfl ⟨_, rfl⟩ ⟨_, rfl⟩ rfl (stays_m hq _) (fun w1 F1 => po_seeRing_no (.pointer (some ⟨b.m, 0, none⟩)) e0 0 10 most b.own _ q _ w1 rfl (.inr ⟨_, rfl⟩) (hB.keep F1 id) rfl rfl ⟨_, rfl⟩ hq ((no_load hM hq e0 he0 _).later (fr_no1 q F1)))).mono ?_
  rintro e w' ⟨rfl, hB2, hM2, hF⟩
  exact fin_bad sep hO kk _ hB2 (by simp [popC]) hM2 (fr_om hF)

set_option maxRecDepth 10000 in
set_option maxHeartbeats 1000000 in
theorem bad_o3 (b : MB) (M : Mach) (s : List Int) (o q cp j : Nat) (most : Int) (w : World) (x bo t : Int) (rg tt : Rg) (pl cx : Int) (ld won : Bool) (got err : Int) (e0 : Int) (he0 : e0 < 0 ∨ (s.length : Int) ≤ e0) (h : PreB w b M s o q cp most ⟨1, 3, x, bo, t, rg, tt, pl, cx, ld, won, 0, got, err⟩)  :
    Calls Try.prog 18 #[.pointer (some ⟨o, 0, none⟩), .pointer (some ⟨b.m, 0, none⟩), .int .i64 e0] w (BadPost b M s o q cp most ⟨1, 3, x, bo, t, rg, tt, pl, cx, ld, won, 0, got, err⟩ 10 w) := by
  obtain ⟨⟨sep, kk, hO, rep⟩, hM, hin, h4, h5, hl⟩ := h
  have hq := sep.bq
  obtain ⟨f, hB, he, hgx, hr⟩ : RepO w q most _ := by
    rcases rep with ⟨_, ⟨k, _⟩ | ⟨_, hU⟩ | ⟨k, _⟩⟩ | ⟨k, _⟩
    · exact absurd k (by simp)
    · exact hU
    all_goals exact absurd k (by simp)
  obtain ⟨hf, hwn⟩ := hr rfl
  have hf' : f = 89 := hf
  subst hf'
  refine (broke_pop (.pointer (some ⟨b.m, 0, none⟩)) e0 10 0 o q _ _ _ (b.own) (fun w => IsM w b (MO M s)) w (.inr ⟨_, rfl⟩) (fun _ _ => by kernel_rfl) hO hB rfl rfl rfl ⟨_, rfl⟩ ⟨_, rfl⟩ rfl (stays_m hq _) (fun w1 F1 => po_lower (.pointer (some ⟨b.m, 0, none⟩)) e0 10 most b.own _ q _ w1 bo _ (.inr ⟨_, rfl⟩) (hB.keep F1 id) rfl rfl rfl ⟨_, rfl⟩ hq (stays_m hq _) rfl ((no_store hM hq e0 he0 _ _).later (fr_no1 q F1)))).mono ?_
  rintro e w' ⟨rfl, hB2, hM2, hF⟩
  exact fin_bad sep hO kk _ hB2 (by simp [popC]) hM2 (fr_om hF)

set_option maxRecDepth 10000 in
set_option maxHeartbeats 1000000 in
theorem bad_o4_hi (b : MB) (M : Mach) (s : List Int) (o q cp j : Nat) (most : Int) (w : World) (x bo t : Int) (rg tt : Rg) (pl cx : Int) (ld won : Bool) (got err : Int) (e0 : Int) (he0 : e0 < 0 ∨ (s.length : Int) ≤ e0) (h : PreB w b M s o q cp most ⟨1, 4, x, bo, t, rg, tt, pl, cx, ld, won, 0, got, err⟩) (hc : decide (IntKind.i64.wrap (bo - 1) < 0) = true) :
    Calls Try.prog 18 #[.pointer (some ⟨o, 0, none⟩), .pointer (some ⟨b.m, 0, none⟩), .int .i64 e0] w (BadPost b M s o q cp most ⟨1, 4, x, bo, t, rg, tt, pl, cx, ld, won, 0, got, err⟩ 10 w) := by
  obtain ⟨⟨sep, kk, hO, rep⟩, hM, hin, h4, h5, hl⟩ := h
  have hq := sep.bq
  obtain ⟨f, hB, he, hgx, hr⟩ : RepO w q most _ := by
    rcases rep with ⟨_, ⟨k, _⟩ | ⟨_, hU⟩ | ⟨k, _⟩⟩ | ⟨k, _⟩
    · exact absurd k (by simp)
    · exact hU
    all_goals exact absurd k (by simp)
  obtain ⟨hf, hwn⟩ := hr rfl
  have hf' : f = 95 := hf
  subst hf'
  refine (broke_pop (.pointer (some ⟨b.m, 0, none⟩)) e0 10 0 o q _ _ _ (b.own) (fun w => IsM w b (MO M s)) w (.inr ⟨_, rfl⟩) (fun _ _ => by kernel_rfl) hO hB rfl rfl rfl ⟨_, rfl⟩ ⟨_, rfl⟩ rfl (stays_m hq _) (fun w1 F1 => po_seeTop_hi (.pointer (some ⟨b.m, 0, none⟩)) e0 0 10 most b.own _ q _ w1 bo _ (.inr ⟨_, rfl⟩) (hB.keep F1 id) rfl rfl rfl ⟨_, rfl⟩ ⟨_, rfl⟩ hq (stays_m hq _) rfl hc ((no_load hM hq e0 he0 _).later (fr_no1 q F1)))).mono ?_
  rintro e w' ⟨rfl, hB2, hM2, hF⟩
  exact fin_bad sep hO kk _ hB2 (by simp [popC]) hM2 (fr_om hF)

set_option maxRecDepth 10000 in
set_option maxHeartbeats 1000000 in
theorem bad_o4_lo (b : MB) (M : Mach) (s : List Int) (o q cp j : Nat) (most : Int) (w : World) (x bo t : Int) (rg tt : Rg) (pl cx : Int) (ld won : Bool) (got err : Int) (e0 : Int) (he0 : e0 < 0 ∨ (s.length : Int) ≤ e0) (h : PreB w b M s o q cp most ⟨1, 4, x, bo, t, rg, tt, pl, cx, ld, won, 0, got, err⟩) (hc : decide (IntKind.i64.wrap (bo - 1) < 0) = false) :
    Calls Try.prog 18 #[.pointer (some ⟨o, 0, none⟩), .pointer (some ⟨b.m, 0, none⟩), .int .i64 e0] w (BadPost b M s o q cp most ⟨1, 4, x, bo, t, rg, tt, pl, cx, ld, won, 0, got, err⟩ 10 w) := by
  obtain ⟨⟨sep, kk, hO, rep⟩, hM, hin, h4, h5, hl⟩ := h
  have hq := sep.bq
  obtain ⟨f, hB, he, hgx, hr⟩ : RepO w q most _ := by
    rcases rep with ⟨_, ⟨k, _⟩ | ⟨_, hU⟩ | ⟨k, _⟩⟩ | ⟨k, _⟩
    · exact absurd k (by simp)
    · exact hU
    all_goals exact absurd k (by simp)
  obtain ⟨hf, hwn⟩ := hr rfl
  have hf' : f = 95 := hf
  subst hf'
  refine (broke_pop (.pointer (some ⟨b.m, 0, none⟩)) e0 10 0 o q _ _ _ (b.own) (fun w => IsM w b (MO M s)) w (.inr ⟨_, rfl⟩) (fun _ _ => by kernel_rfl) hO hB rfl rfl rfl ⟨_, rfl⟩ ⟨_, rfl⟩ rfl (stays_m hq _) (fun w1 F1 => po_seeTop_lo (.pointer (some ⟨b.m, 0, none⟩)) e0 0 10 most b.own _ q _ w1 bo _ (.inr ⟨_, rfl⟩) (hB.keep F1 id) rfl rfl rfl ⟨_, rfl⟩ ⟨_, rfl⟩ hq (stays_m hq _) rfl hc ((no_load hM hq e0 he0 _).later (fr_no1 q F1)))).mono ?_
  rintro e w' ⟨rfl, hB2, hM2, hF⟩
  exact fin_bad sep hO kk _ hB2 (by simp [popC]) hM2 (fr_om hF)

set_option maxRecDepth 10000 in
set_option maxHeartbeats 1000000 in
theorem bad_o5 (b : MB) (M : Mach) (s : List Int) (o q cp j : Nat) (most : Int) (w : World) (x bo t : Int) (rg tt : Rg) (pl cx : Int) (ld won : Bool) (got err : Int) (e0 : Int) (he0 : e0 < 0 ∨ (s.length : Int) ≤ e0) (h : PreB w b M s o q cp most ⟨1, 5, x, bo, t, rg, tt, pl, cx, ld, won, 0, got, err⟩)  :
    Calls Try.prog 18 #[.pointer (some ⟨o, 0, none⟩), .pointer (some ⟨b.m, 0, none⟩), .int .i64 e0] w (BadPost b M s o q cp most ⟨1, 5, x, bo, t, rg, tt, pl, cx, ld, won, 0, got, err⟩ 10 w) := by
  obtain ⟨⟨sep, kk, hO, rep⟩, hM, hin, h4, h5, hl⟩ := h
  have hq := sep.bq
  obtain ⟨f, hB, he, hgx, hr⟩ : RepO w q most _ := by
    rcases rep with ⟨_, ⟨k, _⟩ | ⟨_, hU⟩ | ⟨k, _⟩⟩ | ⟨k, _⟩
    · exact absurd k (by simp)
    · exact hU
    all_goals exact absurd k (by simp)
  obtain ⟨hf, hwn⟩ := hr rfl
  have hwn0 : won = false := hwn (by simp)
  subst hwn0
  have hf' : f = 101 := hf
  subst hf'
  refine (broke_pop (.pointer (some ⟨b.m, 0, none⟩)) e0 10 0 o q _ _ _ (b.own) (fun w => IsM w b (MO M s)) w (.inr ⟨_, rfl⟩) (fun _ _ => by kernel_rfl) hO hB rfl rfl rfl ⟨_, rfl⟩ ⟨_, rfl⟩ rfl (stays_m hq _) (fun w1 F1 => po_raise_not (.pointer (some ⟨b.m, 0, none⟩)) e0 10 most b.own _ q _ w1 bo (.inr ⟨_, rfl⟩) (hB.keep F1 id) rfl rfl rfl rfl ⟨_, rfl⟩ hq (stays_m hq _) ((no_store hM hq e0 he0 _ _).later (fr_no1 q F1)))).mono ?_
  rintro e w' ⟨rfl, hB2, hM2, hF⟩
  exact fin_bad sep hO kk _ hB2 (by simp [popC]) hM2 (fr_om hF)

set_option maxRecDepth 10000 in
set_option maxHeartbeats 1000000 in
theorem bad_o6_far (b : MB) (M : Mach) (s : List Int) (o q cp j : Nat) (most : Int) (w : World) (x bo t : Int) (rg tt : Rg) (pl cx : Int) (ld won : Bool) (got err : Int) (e0 : Int) (he0 : e0 < 0 ∨ (s.length : Int) ≤ e0) (h : PreB w b M s o q cp most ⟨1, 6, x, bo, t, rg, tt, pl, cx, ld, won, 0, got, err⟩) (hc : decide (t < IntKind.i64.wrap (bo - 1)) = true) :
    Calls Try.prog 18 #[.pointer (some ⟨o, 0, none⟩), .pointer (some ⟨b.m, 0, none⟩), .int .i64 e0] w (BadPost b M s o q cp most ⟨1, 6, x, bo, t, rg, tt, pl, cx, ld, won, 0, got, err⟩ 10 w) := by
  obtain ⟨⟨sep, kk, hO, rep⟩, hM, hin, h4, h5, hl⟩ := h
  have hq := sep.bq
  obtain ⟨f, hB, he, hgx, hr⟩ : RepO w q most _ := by
    rcases rep with ⟨_, ⟨k, _⟩ | ⟨_, hU⟩ | ⟨k, _⟩⟩ | ⟨k, _⟩
    · exact absurd k (by simp)
    · exact hU
    all_goals exact absurd k (by simp)
  obtain ⟨hf, hwn⟩ := hr rfl
  have hf' : f = 100 := hf
  subst hf'
  refine (broke_pop (.pointer (some ⟨b.m, 0, none⟩)) e0 10 0 o q _ _ _ (b.own) (fun w => IsM w b (MO M s)) w (.inr ⟨_, rfl⟩) (fun _ _ => by kernel_rfl) hO hB rfl rfl rfl ⟨_, rfl⟩ ⟨_, rfl⟩ rfl (stays_m hq _) (fun w1 F1 => po_take_far (.pointer (some ⟨b.m, 0, none⟩)) e0 0 10 b.own _ q _ w1 t bo _ rg.a rg.l _ (.inr ⟨_, rfl⟩) (hB.keep F1 id) rfl rfl rfl rfl ⟨_, rfl⟩ ⟨_, rfl⟩ ⟨_, rfl⟩ hq (stays_m hq _) rfl rfl hc ((no_load hM hq e0 he0 _).later (fr_no1 q F1)))).mono ?_
  rintro e w' ⟨rfl, hB2, hM2, hF⟩
  exact fin_bad sep hO kk _ hB2 (by simp [popC]) hM2 (fr_om hF)

set_option maxRecDepth 10000 in
set_option maxHeartbeats 1000000 in
theorem bad_o6_last (b : MB) (M : Mach) (s : List Int) (o q cp j : Nat) (most : Int) (w : World) (x bo t : Int) (rg tt : Rg) (pl cx : Int) (ld won : Bool) (got err : Int) (e0 : Int) (he0 : e0 < 0 ∨ (s.length : Int) ≤ e0) (h : PreB w b M s o q cp most ⟨1, 6, x, bo, t, rg, tt, pl, cx, ld, won, 0, got, err⟩) (hc : decide (t < IntKind.i64.wrap (bo - 1)) = false) :
    Calls Try.prog 18 #[.pointer (some ⟨o, 0, none⟩), .pointer (some ⟨b.m, 0, none⟩), .int .i64 e0] w (BadPost b M s o q cp most ⟨1, 6, x, bo, t, rg, tt, pl, cx, ld, won, 0, got, err⟩ 10 w) := by
  obtain ⟨⟨sep, kk, hO, rep⟩, hM, hin, h4, h5, hl⟩ := h
  have hq := sep.bq
  obtain ⟨f, hB, he, hgx, hr⟩ : RepO w q most _ := by
    rcases rep with ⟨_, ⟨k, _⟩ | ⟨_, hU⟩ | ⟨k, _⟩⟩ | ⟨k, _⟩
    · exact absurd k (by simp)
    · exact hU
    all_goals exact absurd k (by simp)
  obtain ⟨hf, hwn⟩ := hr rfl
  have hf' : f = 100 := hf
  subst hf'
  refine (broke_pop (.pointer (some ⟨b.m, 0, none⟩)) e0 10 0 o q _ _ _ (b.own) (fun w => IsM w b (MO M s)) w (.inr ⟨_, rfl⟩) (fun _ _ => by kernel_rfl) hO hB rfl rfl rfl ⟨_, rfl⟩ ⟨_, rfl⟩ rfl (stays_m hq _) (fun w1 F1 => po_take_last (.pointer (some ⟨b.m, 0, none⟩)) e0 0 10 b.own _ q _ w1 t bo _ rg.a rg.l _ (.inr ⟨_, rfl⟩) (hB.keep F1 id) rfl rfl rfl rfl ⟨_, rfl⟩ ⟨_, rfl⟩ ⟨_, rfl⟩ hq (stays_m hq _) rfl rfl hc ((no_load hM hq e0 he0 _).later (fr_no1 q F1)))).mono ?_
  rintro e w' ⟨rfl, hB2, hM2, hF⟩
  exact fin_bad sep hO kk _ hB2 (by simp [popC]) hM2 (fr_om hF)

set_option maxRecDepth 10000 in
set_option maxHeartbeats 1000000 in
theorem bad_o7 (b : MB) (M : Mach) (s : List Int) (o q cp j : Nat) (most : Int) (w : World) (x bo t : Int) (rg tt : Rg) (pl cx : Int) (ld won : Bool) (got err : Int) (e0 : Int) (he0 : e0 < 0 ∨ (s.length : Int) ≤ e0) (h : PreB w b M s o q cp most ⟨1, 7, x, bo, t, rg, tt, pl, cx, ld, won, 0, got, err⟩)  :
    Calls Try.prog 18 #[.pointer (some ⟨o, 0, none⟩), .pointer (some ⟨b.m, 0, none⟩), .int .i64 e0] w (BadPost b M s o q cp most ⟨1, 7, x, bo, t, rg, tt, pl, cx, ld, won, 0, got, err⟩ 10 w) := by
  obtain ⟨⟨sep, kk, hO, rep⟩, hM, hin, h4, h5, hl⟩ := h
  have hq := sep.bq
  obtain ⟨f, hB, he, hgx, hr⟩ : RepO w q most _ := by
    rcases rep with ⟨_, ⟨k, _⟩ | ⟨_, hU⟩ | ⟨k, _⟩⟩ | ⟨k, _⟩
    · exact absurd k (by simp)
    · exact hU
    all_goals exact absurd k (by simp)
  obtain ⟨hf, hwn⟩ := hr rfl
  have hf' : f = 105 := hf
  subst hf'
  refine (broke_pop (.pointer (some ⟨b.m, 0, none⟩)) e0 10 0 o q _ _ _ (b.own) (fun w => IsM w b (MO M s)) w (.inr ⟨_, rfl⟩) (fun _ _ => by kernel_rfl) hO hB rfl rfl rfl ⟨_, rfl⟩ ⟨_, rfl⟩ rfl (stays_m hq _) (fun w1 F1 => po_race (.pointer (some ⟨b.m, 0, none⟩)) e0 10 most b.own _ q _ w1 t _ false (.inr ⟨_, rfl⟩) (hB.keep F1 id) rfl rfl rfl ⟨_, rfl⟩ ⟨_, rfl⟩ hq (stays_m hq _) rfl ((no_cas hM hq e0 he0 _ _ _).later (fr_no1 q F1)))).mono ?_
  rintro e w' ⟨rfl, hB2, hM2, hF⟩
  exact fin_bad sep hO kk _ hB2 (by simp [popC]) hM2 (fr_om hF)

set_option maxRecDepth 10000 in
set_option maxHeartbeats 1000000 in
theorem bad_o8_won (b : MB) (M : Mach) (s : List Int) (o q cp j : Nat) (most : Int) (w : World) (x bo t : Int) (rg tt : Rg) (pl cx : Int) (ld won : Bool) (got err : Int) (e0 : Int) (he0 : e0 < 0 ∨ (s.length : Int) ≤ e0) (h : PreB w b M s o q cp most ⟨1, 8, x, bo, t, rg, tt, pl, cx, ld, won, 0, got, err⟩) (hc : won = true) :
    Calls Try.prog 18 #[.pointer (some ⟨o, 0, none⟩), .pointer (some ⟨b.m, 0, none⟩), .int .i64 e0] w (BadPost b M s o q cp most ⟨1, 8, x, bo, t, rg, tt, pl, cx, ld, won, 0, got, err⟩ 10 w) := by
  obtain ⟨⟨sep, kk, hO, rep⟩, hM, hin, h4, h5, hl⟩ := h
  have hq := sep.bq
  obtain ⟨f, hB, he, hgx, hr⟩ : RepO w q most _ := by
    rcases rep with ⟨_, ⟨k, _⟩ | ⟨_, hU⟩ | ⟨k, _⟩⟩ | ⟨k, _⟩
    · exact absurd k (by simp)
    · exact hU
    all_goals exact absurd k (by simp)
  obtain ⟨hf, hwn⟩ := hr rfl
  subst hc
  have hf' : f = 101 := hf
  subst hf'
  refine (broke_pop (.pointer (some ⟨b.m, 0, none⟩)) e0 10 0 o q _ _ _ (b.own) (fun w => IsM w b (MO M s)) w (.inr ⟨_, rfl⟩) (fun _ _ => by kernel_rfl) hO hB rfl rfl rfl ⟨_, rfl⟩ ⟨_, rfl⟩ rfl (stays_m hq _) (fun w1 F1 => po_raise_won (.pointer (some ⟨b.m, 0, none⟩)) e0 10 most b.own _ q _ w1 bo (.inr ⟨_, rfl⟩) (hB.keep F1 id) rfl rfl rfl rfl ⟨_, rfl⟩ hq (stays_m hq _) ((no_store hM hq e0 he0 _ _).later (fr_no1 q F1)))).mono ?_
  rintro e w' ⟨rfl, hB2, hM2, hF⟩
  exact fin_bad sep hO kk _ hB2 (by simp [popC]) hM2 (fr_om hF)

set_option maxRecDepth 10000 in
set_option maxHeartbeats 1000000 in
theorem bad_o8_not (b : MB) (M : Mach) (s : List Int) (o q cp j : Nat) (most : Int) (w : World) (x bo t : Int) (rg tt : Rg) (pl cx : Int) (ld won : Bool) (got err : Int) (e0 : Int) (he0 : e0 < 0 ∨ (s.length : Int) ≤ e0) (h : PreB w b M s o q cp most ⟨1, 8, x, bo, t, rg, tt, pl, cx, ld, won, 0, got, err⟩) (hc : won = false) :
    Calls Try.prog 18 #[.pointer (some ⟨o, 0, none⟩), .pointer (some ⟨b.m, 0, none⟩), .int .i64 e0] w (BadPost b M s o q cp most ⟨1, 8, x, bo, t, rg, tt, pl, cx, ld, won, 0, got, err⟩ 10 w) := by
  obtain ⟨⟨sep, kk, hO, rep⟩, hM, hin, h4, h5, hl⟩ := h
  have hq := sep.bq
  obtain ⟨f, hB, he, hgx, hr⟩ : RepO w q most _ := by
    rcases rep with ⟨_, ⟨k, _⟩ | ⟨_, hU⟩ | ⟨k, _⟩⟩ | ⟨k, _⟩
    · exact absurd k (by simp)
    · exact hU
    all_goals exact absurd k (by simp)
  obtain ⟨hf, hwn⟩ := hr rfl
  subst hc
  have hf' : f = 101 := hf
  subst hf'
  refine (broke_pop (.pointer (some ⟨b.m, 0, none⟩)) e0 10 0 o q _ _ _ (b.own) (fun w => IsM w b (MO M s)) w (.inr ⟨_, rfl⟩) (fun _ _ => by kernel_rfl) hO hB rfl rfl rfl ⟨_, rfl⟩ ⟨_, rfl⟩ rfl (stays_m hq _) (fun w1 F1 => po_raise_not (.pointer (some ⟨b.m, 0, none⟩)) e0 10 most b.own _ q _ w1 bo (.inr ⟨_, rfl⟩) (hB.keep F1 id) rfl rfl rfl rfl ⟨_, rfl⟩ hq (stays_m hq _) ((no_store hM hq e0 he0 _ _).later (fr_no1 q F1)))).mono ?_
  rintro e w' ⟨rfl, hB2, hM2, hF⟩
  exact fin_bad sep hO kk _ hB2 (by simp [popC]) hM2 (fr_om hF)

set_option maxRecDepth 10000 in
set_option maxHeartbeats 1000000 in
theorem bad_t1 (b : MB) (M : Mach) (s : List Int) (o q cp j : Nat) (most : Int) (w : World) (x bo t : Int) (rg tt : Rg) (pl cx : Int) (ld won : Bool) (got err : Int) (e0 : Int) (he0 : e0 < 0 ∨ (s.length : Int) ≤ e0) (h : PreB w b M s o q cp most ⟨2, 1, x, bo, t, rg, tt, pl, cx, ld, won, 0, got, err⟩)  :
    Calls Try.prog 18 #[.pointer (some ⟨o, 0, none⟩), .pointer (some ⟨b.m, 0, none⟩), .int .i64 e0] w (BadPost b M s o q cp most ⟨2, 1, x, bo, t, rg, tt, pl, cx, ld, won, 0, got, err⟩ 10 w) := by
  obtain ⟨⟨sep, kk, hO, rep⟩, hM, hin, h4, h5, hl⟩ := h
  have hq := sep.bq
  obtain ⟨gv, f, hB, he, hgv, hr⟩ : RepT w q most _ := by
    rcases rep with ⟨_, ⟨k, _⟩ | ⟨k, _⟩ | ⟨_, hU⟩⟩ | ⟨k, _⟩
    · exact absurd k (by simp)
    · exact absurd k (by simp)
    · exact hU
    · exact absurd k (by simp)
  have hf := hr (by simp)
  have hf' : f = 51 := hf
  subst hf'
  refine (broke_steal (.pointer (some ⟨b.m, 0, none⟩)) e0 10 0 o q _ _ _ (b.own) (fun w => IsM w b (MO M s)) w (.inr ⟨_, rfl⟩) (fun _ _ => by kernel_rfl) hO hB rfl rfl rfl ⟨_, rfl⟩ ⟨_, rfl⟩ rfl (stays_m hq _) (fun w1 F1 => st_seeTop (.pointer (some ⟨b.m, 0, none⟩)) e0 0 10 most b.own _ q _ w1 (.inr ⟨_, rfl⟩) (hB.keep F1 id) rfl rfl ⟨_, rfl⟩ ⟨_, rfl⟩ hq (stays_m hq _) ((no_load hM hq e0 he0 _).later (fr_no1 q F1)))).mono ?_
  rintro e w' ⟨rfl, hB2, hM2, hF⟩
  exact fin_bad sep hO kk _ hB2 (by simp [stealC]) hM2 (fr_om hF)

set_option maxRecDepth 10000 in
set_option maxHeartbeats 1000000 in
theorem bad_t2_no (b : MB) (M : Mach) (s : List Int) (o q cp j : Nat) (most : Int) (w : World) (x bo t : Int) (rg tt : Rg) (pl cx : Int) (ld won : Bool) (got err : Int) (e0 : Int) (he0 : e0 < 0 ∨ (s.length : Int) ≤ e0) (h : PreB w b M s o q cp most ⟨2, 2, x, bo, t, rg, tt, pl, cx, ld, won, 0, got, err⟩) (hc : decide (0 ≤ t) = true) :
    Calls Try.prog 18 #[.pointer (some ⟨o, 0, none⟩), .pointer (some ⟨b.m, 0, none⟩), .int .i64 e0] w (BadPost b M s o q cp most ⟨2, 2, x, bo, t, rg, tt, pl, cx, ld, won, 0, got, err⟩ 10 w) := by
  obtain ⟨⟨sep, kk, hO, rep⟩, hM, hin, h4, h5, hl⟩ := h
  have hq := sep.bq
  obtain ⟨gv, f, hB, he, hgv, hr⟩ : RepT w q most _ := by
    rcases rep with ⟨_, ⟨k, _⟩ | ⟨k, _⟩ | ⟨_, hU⟩⟩ | ⟨k, _⟩
    · exact absurd k (by simp)
    · exact absurd k (by simp)
    · exact hU
    · exact absurd k (by simp)
  have hf := hr (by simp)
  have hf' : f = 78 := hf
  subst hf'
  refine (broke_steal (.pointer (some ⟨b.m, 0, none⟩)) e0 10 0 o q _ _ _ (b.own) (fun w => IsM w b (MO M s)) w (.inr ⟨_, rfl⟩) (fun _ _ => by kernel_rfl) hO hB rfl rfl rfl ⟨_, rfl⟩ ⟨_, rfl⟩ rfl (stays_m hq _) (fun w1 F1 => st_seeBottom_no (.pointer (some ⟨b.m, 0, none⟩)) e0 0 10 most b.own _ q _ w1 t (.inr ⟨_, rfl⟩) (hB.keep F1 id) rfl rfl rfl ⟨_, rfl⟩ ⟨_, rfl⟩ ⟨_, rfl⟩ hq (stays_m hq _) hc ((no_load hM hq e0 he0 _).later (fr_no1 q F1)))).mono ?_
  rintro e w' ⟨rfl, hB2, hM2, hF⟩
  exact fin_bad sep hO kk _ hB2 (by simp [stealC]) hM2 (fr_om hF)

set_option maxRecDepth 10000 in
set_option maxHeartbeats 1000000 in
theorem bad_t2_in (b : MB) (M : Mach) (s : List Int) (o q cp j : Nat) (most : Int) (w : World) (x bo t : Int) (rg tt : Rg) (pl cx : Int) (ld won : Bool) (got err : Int) (e0 : Int) (he0 : e0 < 0 ∨ (s.length : Int) ≤ e0) (h : PreB w b M s o q cp most ⟨2, 2, x, bo, t, rg, tt, pl, cx, ld, won, 0, got, err⟩) (hc : decide (0 ≤ t) = false) :
    Calls Try.prog 18 #[.pointer (some ⟨o, 0, none⟩), .pointer (some ⟨b.m, 0, none⟩), .int .i64 e0] w (BadPost b M s o q cp most ⟨2, 2, x, bo, t, rg, tt, pl, cx, ld, won, 0, got, err⟩ 10 w) := by
  obtain ⟨⟨sep, kk, hO, rep⟩, hM, hin, h4, h5, hl⟩ := h
  have hq := sep.bq
  obtain ⟨gv, f, hB, he, hgv, hr⟩ : RepT w q most _ := by
    rcases rep with ⟨_, ⟨k, _⟩ | ⟨k, _⟩ | ⟨_, hU⟩⟩ | ⟨k, _⟩
    · exact absurd k (by simp)
    · exact absurd k (by simp)
    · exact hU
    · exact absurd k (by simp)
  have hf := hr (by simp)
  have hf' : f = 78 := hf
  subst hf'
  refine (broke_steal (.pointer (some ⟨b.m, 0, none⟩)) e0 10 0 o q _ _ _ (b.own) (fun w => IsM w b (MO M s)) w (.inr ⟨_, rfl⟩) (fun _ _ => by kernel_rfl) hO hB rfl rfl rfl ⟨_, rfl⟩ ⟨_, rfl⟩ rfl (stays_m hq _) (fun w1 F1 => st_seeBottom_in (.pointer (some ⟨b.m, 0, none⟩)) e0 0 10 most b.own _ q _ w1 t (.inr ⟨_, rfl⟩) (hB.keep F1 id) rfl rfl rfl ⟨_, rfl⟩ ⟨_, rfl⟩ hq (stays_m hq _) hc ((no_load hM hq e0 he0 _).later (fr_no1 q F1)))).mono ?_
  rintro e w' ⟨rfl, hB2, hM2, hF⟩
  exact fin_bad sep hO kk _ hB2 (by simp [stealC]) hM2 (fr_om hF)

set_option maxRecDepth 10000 in
set_option maxHeartbeats 1000000 in
theorem bad_t3 (b : MB) (M : Mach) (s : List Int) (o q cp j : Nat) (most : Int) (w : World) (x bo t : Int) (rg tt : Rg) (pl cx : Int) (ld won : Bool) (got err : Int) (e0 : Int) (he0 : e0 < 0 ∨ (s.length : Int) ≤ e0) (h : PreB w b M s o q cp most ⟨2, 3, x, bo, t, rg, tt, pl, cx, ld, won, 0, got, err⟩)  :
    Calls Try.prog 18 #[.pointer (some ⟨o, 0, none⟩), .pointer (some ⟨b.m, 0, none⟩), .int .i64 e0] w (BadPost b M s o q cp most ⟨2, 3, x, bo, t, rg, tt, pl, cx, ld, won, 0, got, err⟩ 10 w) := by
  obtain ⟨⟨sep, kk, hO, rep⟩, hM, hin, h4, h5, hl⟩ := h
  have hq := sep.bq
  obtain ⟨gv, f, hB, he, hgv, hr⟩ : RepT w q most _ := by
    rcases rep with ⟨_, ⟨k, _⟩ | ⟨k, _⟩ | ⟨_, hU⟩⟩ | ⟨k, _⟩
    · exact absurd k (by simp)
    · exact absurd k (by simp)
    · exact hU
    · exact absurd k (by simp)
  have hf := hr (by simp)
  have hf' : f = 87 := hf
  subst hf'
  refine (broke_steal (.pointer (some ⟨b.m, 0, none⟩)) e0 10 0 o q _ _ _ (b.own) (fun w => IsM w b (MO M s)) w (.inr ⟨_, rfl⟩) (fun _ _ => by kernel_rfl) hO hB rfl rfl rfl ⟨_, rfl⟩ ⟨_, rfl⟩ rfl (stays_m hq _) (fun w1 F1 => st_seeRing_no (.pointer (some ⟨b.m, 0, none⟩)) e0 0 10 most b.own _ q _ w1 rfl (.inr ⟨_, rfl⟩) (hB.keep F1 id) rfl rfl ⟨_, rfl⟩ hq ((no_load hM hq e0 he0 _).later (fr_no1 q F1)))).mono ?_
  rintro e w' ⟨rfl, hB2, hM2, hF⟩
  exact fin_bad sep hO kk _ hB2 (by simp [stealC]) hM2 (fr_om hF)

set_option maxRecDepth 10000 in
set_option maxHeartbeats 1000000 in
theorem bad_t4 (b : MB) (M : Mach) (s : List Int) (o q cp j : Nat) (most : Int) (w : World) (x bo t : Int) (rg tt : Rg) (pl cx : Int) (ld won : Bool) (got err : Int) (e0 : Int) (he0 : e0 < 0 ∨ (s.length : Int) ≤ e0) (h : PreB w b M s o q cp most ⟨2, 4, x, bo, t, rg, tt, pl, cx, ld, won, 0, got, err⟩)  :
    Calls Try.prog 18 #[.pointer (some ⟨o, 0, none⟩), .pointer (some ⟨b.m, 0, none⟩), .int .i64 e0] w (BadPost b M s o q cp most ⟨2, 4, x, bo, t, rg, tt, pl, cx, ld, won, 0, got, err⟩ 10 w) := by
  obtain ⟨⟨sep, kk, hO, rep⟩, hM, hin, h4, h5, hl⟩ := h
  have hq := sep.bq
  obtain ⟨gv, f, hB, he, hgv, hr⟩ : RepT w q most _ := by
    rcases rep with ⟨_, ⟨k, _⟩ | ⟨k, _⟩ | ⟨_, hU⟩⟩ | ⟨k, _⟩
    · exact absurd k (by simp)
    · exact absurd k (by simp)
    · exact hU
    · exact absurd k (by simp)
  have hf := hr (by simp)
  have hf' : f = 92 := hf
  subst hf'
  refine (broke_steal (.pointer (some ⟨b.m, 0, none⟩)) e0 10 0 o q _ _ _ (b.own) (fun w => IsM w b (MO M s)) w (.inr ⟨_, rfl⟩) (fun _ _ => by kernel_rfl) hO hB rfl rfl rfl ⟨_, rfl⟩ ⟨_, rfl⟩ rfl (stays_m hq _) (fun w1 F1 => st_see (.pointer (some ⟨b.m, 0, none⟩)) e0 0 10 b.own _ q _ w1 t rg.a rg.l _ (.inr ⟨_, rfl⟩) (hB.keep F1 id) rfl rfl rfl ⟨_, rfl⟩ ⟨_, rfl⟩ ⟨_, rfl⟩ hq (stays_m hq _) rfl ((no_load hM hq e0 he0 _).later (fr_no1 q F1)))).mono ?_
  rintro e w' ⟨rfl, hB2, hM2, hF⟩
  exact fin_bad sep hO kk _ hB2 (by simp [stealC]) hM2 (fr_om hF)

set_option maxRecDepth 10000 in
set_option maxHeartbeats 1000000 in
theorem bad_t5_2 (b : MB) (M : Mach) (s : List Int) (o q cp j : Nat) (most : Int) (w : World) (x bo t : Int) (rg tt : Rg) (pl cx : Int) (ld won : Bool) (got err : Int) (e0 : Int) (he0 : e0 < 0 ∨ (s.length : Int) ≤ e0) (h : PreB w b M s o q cp most ⟨2, 5, x, bo, t, rg, tt, pl, cx, ld, won, 2, got, err⟩)  :
    Calls Try.prog 18 #[.pointer (some ⟨o, 0, none⟩), .pointer (some ⟨b.m, 0, none⟩), .int .i64 e0] w (BadPost b M s o q cp most ⟨2, 5, x, bo, t, rg, tt, pl, cx, ld, won, 2, got, err⟩ 10 w) := by
  obtain ⟨⟨sep, kk, hO, rep⟩, hM, hin, h4, h5, hl⟩ := h
  have hq := sep.bq
  obtain ⟨gv, f, hB, he, hgv, hr⟩ : RepT w q most _ := by
    rcases rep with ⟨_, ⟨k, _⟩ | ⟨k, _⟩ | ⟨_, hU⟩⟩ | ⟨k, _⟩
    · exact absurd k (by simp)
    · exact absurd k (by simp)
    · exact hU
    · exact absurd k (by simp)
  have hf := hr (by simp)
  have hf' : f = 96 := hf
  subst hf'
  refine (broke_steal (.pointer (some ⟨b.m, 0, none⟩)) e0 10 2 o q _ _ _ (b.own) (fun w => IsM w b (MO M s)) w (.inr ⟨_, rfl⟩) (fun _ _ => by kernel_rfl) hO hB rfl rfl rfl ⟨_, rfl⟩ ⟨_, rfl⟩ rfl (stays_m hq _) (fun w1 F1 => st_take_not (.pointer (some ⟨b.m, 0, none⟩)) e0 10 most b.own _ q _ w1 t _ (.inr ⟨_, rfl⟩) (hB.keep F1 id) rfl rfl rfl ⟨_, rfl⟩ hq (stays_m hq _) rfl ((no_cas hM hq e0 he0 _ _ _).later (fr_no1 q F1)))).mono ?_
  rintro e w' ⟨rfl, hB2, hM2, hF⟩
  exact fin_bad sep hO kk _ hB2 (by simp [stealC]) hM2 (fr_om hF)

set_option maxHeartbeats 400000 in
theorem broke_ex (mp : Value) (x er how : Int) (o q f : Nat) (c : Array Value) (R : World → Prop) (w : World) (hmp : mp = .pointer none ∨ ∃ a, mp = .pointer (some a)) (hcf : ∀ args W, (callFunc f args).run Try.prog W = .ok (.enter f args) W) (hO : Blk w o #[.iface 110 (.pointer (some ⟨q, 0, none⟩))]) (hB : Blk w q c) (hf : c[13]? = some (fnv f))
    (h6 : c[6]? = some (.int .i64 how)) (hh : (how != 0 && how != 2) = false) (her : (er != 0) = true) (hR6 : ∀ w', R w' → ∃ c', Blk w' q c' ∧ 8 < c'.size)
    (hN : ∀ w1, Fr (fun _ => False) w w1 → Calls Try.prog f #[.pointer (some ⟨q, 0, none⟩), mp, .int .i64 x] w1 fun e w' => e = .returned (.int .i64 er) ∧ R w') :
    Calls Try.prog 18 #[.pointer (some ⟨o, 0, none⟩), mp, .int .i64 x] w fun e w' => e = .returned (.int .i64 6) ∧ ∃ (w3 : World) (c' : Array Value), R w3 ∧ 8 < c'.size ∧ Blk w' q ((c'.setIfInBounds 6 (.int .i64 6)).setIfInBounds 8 (.int .i64 er)) ∧ Fr (fun k => k = q) w3 w' := by
  have c0 := hO.cell (i := 0) rfl
  have hm := m_do_push q
  have HST := hid (stands_push o q w hO)
  have HEN := hid (ended_is q c how w hB h6)
  rw [hh] at HEN
  have HDO := hid (fun w1 (F : Fr (fun _ => False) w w1) => do_ex mp x er q f c R w1 hmp hcf (hB.keep F id) hf (hN w1 F))
  have HO := hid hO
  have H6 := hid hR6
  clear hO hB h6 hh hN hR6 hf hcf
  rcases hmp with rfl | ⟨a, rfl⟩ <;>
  · go_enter Try.func18, Try.ntmps18
    go_wp2_with fail
    refine HST.out.mono ?_
    rintro e w1 ⟨rfl, rfl⟩
    go_wp2_with fail
    refine HEN.out.mono ?_
    rintro e w2 ⟨rfl, he2⟩
    have hF2 : Fr (fun _ => False) w w2 := Fr.of_eq he2
    clear he2
    have d0 := (HO.out.keep hF2 id).cell (i := 0) rfl
    have HF2 := hid hF2
    clear hF2
    go_wp2_with fail
    refine (HDO.out _ HF2.out).mono ?_
    rintro e w3 ⟨rfl, hR⟩
    obtain ⟨c', hB3, hsz⟩ := H6.out _ hR
    obtain ⟨y6, hy6⟩ : ∃ y, c'[6]? = some y := ⟨_, Array.getElem?_eq_getElem (by omega)⟩
    obtain ⟨y8, hy8⟩ : ∃ y, c'[8]? = some y := ⟨_, Array.getElem?_eq_getElem hsz⟩
    have d6 := hB3.cell hy6
    have g6 := hB3.frozen 6
    have d8 := hB3.cell hy8
    have g8 := hB3.frozen 8
    have HB3 := hid hB3
    have HSZ := hid hsz
    have HR := hid hR
    clear hB3 hR
    have e6 : (w3.setCell ⟨q, 6, none⟩ (.int .i64 6)).cell? ⟨q, 6, none⟩ = some (.int .i64 6) := (HB3.out.set 6 _).cell (by rw [Array.getElem?_setIfInBounds_self_of_lt (by omega)])
    clear hsz hy6 hy8
    go_wp2_with fail
    go_ret
    exact ⟨rfl, w3, c', HR.out, HSZ.out, (HB3.out.set 6 _).set 8 _, (fr_cell _ _ _ _).trans (fr_cell _ _ _ _)⟩

set_option maxRecDepth 10000 in
set_option maxHeartbeats 1000000 in
theorem bad_u5_begin (b : MB) (M : Mach) (s : List Int) (o q cp : Nat) (most : Int) (w : World) (x bo t : Int) (rg tt : Rg) (cx : Int) (won : Bool) (got err : Int) (e0 : Int) (he0 : e0 < 0 ∨ (s.length : Int) ≤ e0)
    (h : PreB w b M s o q cp most ⟨0, 5, x, bo, t, rg, tt, t, cx, false, won, 0, got, err⟩) :
    Calls Try.prog 18 #[.pointer (some ⟨o, 0, none⟩), .pointer (some ⟨b.m, 0, none⟩), .int .i64 e0] w (BadPost b M s o q cp most ⟨0, 5, x, bo, t, rg, tt, t, cx, false, won, 0, got, err⟩ 10 w) := by
  obtain ⟨⟨sep, kk, hO, rep⟩, hM, hin, h4, h5, hl⟩ := h
  have hq := sep.bq
  obtain ⟨wa, wl, cv, f, hB, hg, he, hr⟩ : RepU w q cp most _ := by
    rcases rep with ⟨_, ⟨_, hU⟩ | ⟨k, _⟩ | ⟨k, _⟩⟩ | ⟨k, _⟩
    · exact hU
    all_goals exact absurd k (by simp)
  obtain ⟨hf, hto, hcp, hcx, htp⟩ := hr rfl
  have hfr : fresh ⟨0, 5, x, bo, t, rg, tt, t, cx, false, won, 0, got, err⟩ = true := by simp [fresh]
  have hf' : f = 98 := by rw [hf]; simp [pushF, hfr]
  subst hf'
  have hcx0 : cx = 0 := hcx rfl hfr
  subst hcx0
  obtain ⟨rfl, rfl⟩ := hto (by simp) (by simp)
  obtain ⟨⟨hu, _, hs⟩, hbd⟩ := h5 rfl rfl
  simp only at hs hbd
  unfold OpB at hbd
  simp only at hbd
  have hpl2 := pow_succ rg.l hs.1.1
  have hp0 := pow_pos rg.l
  have hqlt := hB.lt
  have holt := hO.lt
  have hown := hM.own_lt
  refine (broke_ex (.pointer (some ⟨b.m, 0, none⟩)) e0 10 0 o q _ _ (fun w' => ∃ cc, w.heap.size ≤ cc ∧ Blk w' q ((pushC most ⟨0, 5, x, bo, t, rg, tt, t, 0, false, won, 0, got, err⟩ tt.a tt.l (.pointer (some ⟨cc, 0, none⟩)) 104)) ∧ IsM w' b (MO M s) ∧ Fr (And_ b.own q) w w') w (.inr ⟨_, rfl⟩) (fun _ _ => by kernel_rfl) hO hB rfl rfl rfl rfl
    (fun w' ⟨cc, _, hB', _⟩ => ⟨_, hB', by simp [pushC]⟩) (fun w1 F1 => ?_)).mono ?_
  · refine (pu_begin (.pointer (some ⟨b.m, 0, none⟩)) e0 10 b.own q _ w1 (fun cc w' => IsM w' b (MO M s)) rg.a rg.l tt.a tt.l t bo (.inr ⟨_, rfl⟩) (hB.keep F1 id) rfl rfl rfl rfl rfl rfl ⟨_, rfl⟩ ⟨_, rfl⟩ hq hs.1 hs.2.1 (by unfold Fits; omega) (by unfold Fits; omega) ⟨by omega, by omega, by rw [hs.2.2.2.2.2.2.2]; omega⟩ ?_).mono ?_
    · intro cc w' hcc hC hF
      have hF0 : Fr (fun k => k = q) w w' := (fr_no1 q F1).trans hF
      have hs1 := F1.size
      have hcq : q ≠ cc := by omega
      have hco : ¬ b.own cc := fun hh => by have := hown _ hh; omega
      have hd := no_cstep (q := q) (hM.keep hF0 (fun k hk e => hq (e ▸ hk))) hq hco hcq e0 he0 _ hC (by show t ≠ bo; omega)
      exact hd w' (Fr.refl _ _)
    · rintro e w' ⟨cc, rfl, hcc, hB', hQ', hF'⟩
      exact ⟨rfl, cc, Nat.le_trans F1.size hcc, hB', hQ', (fr_no b.own q F1).trans hF'⟩
  rintro e w' ⟨rfl, w3, c', ⟨cc, hcc, hB3, hM3, hF3⟩, hsz, hB2, hF⟩
  exact fin_bad sep hO kk _ hB2 hsz (hM3.keep hF (fun k hk e => hq (e ▸ hk))) (fr_om (hF3.trans (fr_to b.own q hF)))
end Go.Proofs.Ytiofdfgcghiibaa
