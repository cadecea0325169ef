/-
  Steps of a push in memory that copy.
-/
import Derived.Test.YtiofdfgcghiibaaAll0
namespace Go.Proofs.Ytiofdfgcghiibaa
open Go.RowKit
set_option linter.unusedVariables false

set_option maxHeartbeats 400000 in
theorem do_ex (mp : Value) (x er : Int) (q f : Nat) (c : Array Value) (R : World → Prop) (w : World) (hmp : mp = .pointer none ∨ ∃ a, mp = .pointer (some a)) (hcf : ∀ args W, (callFunc f args).run Try.prog W = .ok (.enter f args) W) (hB : Blk w q c) (hf : c[13]? = some (fnv f))
    (hN : Calls Try.prog f #[.pointer (some ⟨q, 0, none⟩), mp, .int .i64 x] w fun e w' => e = .returned (.int .i64 er) ∧ R w') :
    Calls Try.prog 129 #[.pointer (some ⟨q, 0, none⟩), mp, .int .i64 x] w fun e w' => e = .returned (.int .i64 er) ∧ R w' := by
  have cn := hB.cell hf
  unfold fnv at cn
  have HN := hid hN
  clear hN hB hf
  rcases hmp with rfl | ⟨a, rfl⟩ <;>
  · go_enter Try.func129, Try.ntmps129
    go_wp2_with fail
    refine HN.out.mono ?_
    rintro e w1 ⟨rfl, hR⟩
    go_wp2_with fail
    go_ret
    exact ⟨rfl, hR⟩

set_option maxHeartbeats 400000 in
theorem step_ex (mp : Value) (x er how how' : Int) (o q f : Nat) (c : Array Value) (R : World → Prop) (w : World) (hmp : mp = .pointer none ∨ ∃ a, mp = .pointer (some a)) (hcf : ∀ args W, (callFunc f args).run Try.prog W = .ok (.enter f args) W) (hO : Blk w o #[.iface 110 (.pointer (some ⟨q, 0, none⟩))]) (hB : Blk w q c) (hf : c[13]? = some (fnv f))
    (h6 : c[6]? = some (.int .i64 how)) (hh : (how != 0 && how != 2) = false) (her : (er != 0) = false) (h6' : ∀ w', R w' → w'.cell? ⟨q, 6, none⟩ = some (.int .i64 how'))
    (hN : ∀ w1, Fr (fun _ => False) w w1 → Calls Try.prog f #[.pointer (some ⟨q, 0, none⟩), mp, .int .i64 x] w1 fun e w' => e = .returned (.int .i64 er) ∧ R w') :
    Calls Try.prog 18 #[.pointer (some ⟨o, 0, none⟩), mp, .int .i64 x] w fun e w' => e = .returned (.int .i64 how') ∧ R w' := by
  have c0 := hO.cell (i := 0) rfl
  have hm := m_do_push q
  have HST := hid (stands_push o q w hO)
  have HEN := hid (ended_is q c how w hB h6)
  rw [hh] at HEN
  have HDO := hid (fun w1 (F : Fr (fun _ => False) w w1) => do_ex mp x er q f c R w1 hmp hcf (hB.keep F id) hf (hN w1 F))
  have HO := hid hO
  have H6 := hid h6'
  clear hO hB h6 hh hN h6' hf hcf
  rcases hmp with rfl | ⟨a, rfl⟩ <;>
  · go_enter Try.func18, Try.ntmps18
    go_wp2_with fail
    refine HST.out.mono ?_
    rintro e w1 ⟨rfl, rfl⟩
    go_wp2_with fail
    refine HEN.out.mono ?_
    rintro e w2 ⟨rfl, he2⟩
    have hF2 : Fr (fun _ => False) w w2 := Fr.of_eq he2
    clear he2
    have d0 := (HO.out.keep hF2 id).cell (i := 0) rfl
    have HF2 := hid hF2
    clear hF2
    go_wp2_with fail
    refine (HDO.out _ HF2.out).mono ?_
    rintro e w3 ⟨rfl, hR⟩
    have d6 := H6.out _ hR
    have HR := hid hR
    clear hR
    go_wp2_with fail
    go_ret
    exact ⟨rfl, HR.out⟩

theorem stays_mc {b : MB} {q cp : Nat} (hq : ¬ b.own q) (hc : q ≠ cp) (M : Mach) (C : Cp) : Stays q (fun w => IsM w b M ∧ IsC w cp C) :=
  fun v v' h F => ⟨h.1.keep F (fun k hk e => hq (e ▸ hk)), h.2.keep F (fun e => hc e.symm)⟩

section
variable {b : MB} {M : Mach} {s : List Int} {w : World} {j q cp : Nat}

theorem does_cload (hM : IsM w b (MO M s)) (hq : ¬ b.own q) (hc : ¬ b.own cp) (hqc : q ≠ cp) (hj : j < s.length) (C : Cp) (hC : IsC w cp C) (hO : C.Ok) (hd : C.pl ≠ C.til) (hl : C.loaded = false) (h0 : 0 ≤ Rg.place ⟨C.a, C.l⟩ C.pl) (hk : Rg.place ⟨C.a, C.l⟩ C.pl < M.used) :
    Does 107 #[.pointer (some ⟨cp, 0, none⟩), .pointer (some ⟨b.m, 0, none⟩), .int .i64 j] w q (fun k => b.own k ∨ k = cp) (.tuple #[.bool false, .int .i64 0])
      (fun w => IsM w b (MO M (stp s j)) ∧ IsC w cp { C with x := rd M (Rg.place ⟨C.a, C.l⟩ C.pl), loaded := true }) := by
  obtain ⟨n, hn⟩ := Int.eq_ofNat_of_zero_le h0
  intro w' F
  refine (step_load b (MO M s) cp C j n w' (hM.keep F (fun i hi e => hq (e ▸ hi))) (hC.keep F (fun e => hqc e.symm)) hO hd hl hc hj hn (by show n < M.used; omega)).mono ?_
  rintro e w1 ⟨rfl, h1, h2, h3⟩
  rw [hn]
  exact ⟨rfl, ⟨h2, h1⟩, h3⟩

theorem does_cstore (hM : IsM w b (MO M s)) (hq : ¬ b.own q) (hc : ¬ b.own cp) (hqc : q ≠ cp) (hj : j < s.length) (C : Cp) (hC : IsC w cp C) (hO : C.Ok) (hd : C.pl ≠ C.til) (hl : C.loaded = true) (h0 : 0 ≤ Rg.place ⟨C.b, C.k⟩ C.pl) (hk : Rg.place ⟨C.b, C.k⟩ C.pl < M.used) :
    Does 107 #[.pointer (some ⟨cp, 0, none⟩), .pointer (some ⟨b.m, 0, none⟩), .int .i64 j] w q (fun k => b.own k ∨ k = cp) (.tuple #[.bool (C.pl + 1 == C.til), .int .i64 0])
      (fun w => IsM w b (MO (wrc M (Rg.place ⟨C.b, C.k⟩ C.pl) C.x) (stp s j)) ∧ IsC w cp { C with pl := C.pl + 1, loaded := false }) := by
  obtain ⟨n, hn⟩ := Int.eq_ofNat_of_zero_le h0
  intro w' F
  refine (step_store b (MO M s) cp C j n w' (hM.keep F (fun i hi e => hq (e ▸ hi))) (hC.keep F (fun e => hqc e.symm)) hO hd hl hc hj hn (by show n < M.used; omega)).mono ?_
  rintro e w1 ⟨rfl, h1, h2, h3⟩
  rw [hn]
  exact ⟨rfl, ⟨h2, h1⟩, h3⟩

theorem no_cstep (hM : IsM w b (MO M s)) (hq : ¬ b.own q) (hc : ¬ b.own cp) (hqc : q ≠ cp) (x : Int) (hx : x < 0 ∨ (s.length : Int) ≤ x) (C : Cp) (hC : IsC w cp C) (hd : C.pl ≠ C.til) :
    Does 107 #[.pointer (some ⟨cp, 0, none⟩), .pointer (some ⟨b.m, 0, none⟩), .int .i64 x] w q (fun k => b.own k ∨ k = cp) (.tuple #[.bool false, .int .i64 10]) (fun w => IsM w b (MO M s)) := by
  intro w' F
  have hM' := hM.keep F (fun i hi e => hq (e ▸ hi))
  have hC' := hC.keep F (fun e => hqc e.symm)
  have hno : ∀ y, ¬ (0 ≤ x ∧ x < (MO M s).steps.length ∧ 0 ≤ y ∧ y < ((MO M s).used : Int)) := fun y hh => by
    have : x < s.length := hh.2.1
    omega
  cases hl : C.loaded
  · refine (step_loadno b (MO M s) cp C x w' hM' hC' hd hl hc (hno _)).mono ?_
    rintro e w1 ⟨rfl, h1⟩
    exact ⟨rfl, hM'.same h1, h1.mono (fun _ h => h.elim)⟩
  · refine (step_storeno b (MO M s) cp C x w' hM' hC' hd hl hc (hno _)).mono ?_
    rintro e w1 ⟨rfl, h1⟩
    exact ⟨rfl, hM'.same h1, h1.mono (fun _ h => h.elim)⟩
end

section
variable (b : MB) (M : Mach) (s : List Int) (o q cp j : Nat) (most : Int) (w : World) (x bo t : Int) (rg tt : Rg) (pl cx : Int) (ld won : Bool) (got err : Int)

set_option maxRecDepth 10000 in
set_option maxHeartbeats 1000000 in
theorem ok_u5_more (h : Pre w b M s o q cp most ⟨0, 5, x, bo, t, rg, tt, pl, cx, false, won, 0, got, err⟩ j) (hne : pl ≠ t) :
    Calls Try.prog 18 #[.pointer (some ⟨o, 0, none⟩), .pointer (some ⟨b.m, 0, none⟩), .int .i64 j] w (OKPost b M s o q cp most ⟨0, 5, x, bo, t, rg, tt, pl, cx, false, won, 0, got, err⟩ j w) := by
  obtain ⟨⟨sep, kk, hO, rep⟩, hM, hj, ⟨hu, hin, hs⟩, hbd, hl⟩ := h
  have hq := sep.bq
  obtain ⟨wa, wl, cv, f, hB, hg, he, hr⟩ : RepU w q cp most _ := by
    rcases rep with ⟨_, ⟨_, hU⟩ | ⟨k, _⟩ | ⟨k, _⟩⟩ | ⟨k, _⟩
    · exact hU
    all_goals exact absurd k (by simp)
  obtain ⟨hf, hto, hcp, hcx, htp⟩ := hr rfl
  have hfr : fresh ⟨0, 5, x, bo, t, rg, tt, pl, cx, false, won, 0, got, err⟩ = false := by simp [fresh, hne]
  have hf' : f = 104 := by rw [hf]; simp [pushF, hfr]
  subst hf'
  obtain ⟨rfl, hC⟩ := hcp rfl hfr
  obtain ⟨rfl, rfl⟩ := hto (by simp) (by simp)
  simp only at hs hbd htp
  unfold OpB at hbd
  simp only at hbd
  have h0 : 0 ≤ rg.place pl := by have := (place_in hs.1 pl).1; have := hs.1.2.2.1; omega
  have hd := does_cload hM hq sep.bc sep.qc hj (cpOf _) hC ⟨hs.1, hs.2.1, Int.le_of_lt hs.2.2.1, by show -9223372036854775808 ≤ pl; omega, by show bo ≤ 9223372036854775807; omega⟩ (by show pl ≠ bo; omega) rfl h0 hs.2.2.2.1
  refine (step_push (.pointer (some ⟨b.m, 0, none⟩)) j 0 0 0 o q _ _ (pushC most ⟨0, 5, x, bo, t, rg, tt, pl, cx, false, won, 0, got, err⟩ _ _ _ _) (And_ (fun k => b.own k ∨ k = cp) q) _ w (.inr ⟨_, rfl⟩) (fun _ _ => by kernel_rfl) hO hB rfl rfl rfl rfl rfl
    (fun w1 F1 => pu_move_more _ j 0 _ _ q _ w1 cp (.inr ⟨_, rfl⟩) (hB.keep F1 id) rfl (fun hh => hh.elim hq sep.qc) (hd.later (fr_no1 q F1)))).mono ?_
  rintro e w' ⟨rfl, hB2, ⟨hM2, hC2⟩, hF⟩
  refine fin_op sep hO ⟨0, 5, x, bo, t, rg, tt, pl, rd M (rg.place pl), true, won, 0, got, err⟩ M rfl rfl kk (by simp) ?_ hM2 (fr_om2 hF)
  exact .inl ⟨rfl, _, _, _, _, hB2, hg, he, fun _ => ⟨by simp [pushF, fresh], fun _ _ => ⟨rfl, rfl⟩, fun _ _ => ⟨rfl, hC2⟩, fun _ a => absurd a (by simp [fresh]), fun _ => htp trivial⟩⟩

set_option maxRecDepth 10000 in
set_option maxHeartbeats 1000000 in
theorem ok_u5_store (h : Pre w b M s o q cp most ⟨0, 5, x, bo, t, rg, tt, pl, cx, true, won, 0, got, err⟩ j) :
    Calls Try.prog 18 #[.pointer (some ⟨o, 0, none⟩), .pointer (some ⟨b.m, 0, none⟩), .int .i64 j] w (OKPost b M s o q cp most ⟨0, 5, x, bo, t, rg, tt, pl, cx, true, won, 0, got, err⟩ j w) := by
  obtain ⟨⟨sep, kk, hO, rep⟩, hM, hj, ⟨hu, hin, hs⟩, hbd, hl⟩ := h
  have hq := sep.bq
  obtain ⟨wa, wl, cv, f, hB, hg, he, hr⟩ : RepU w q cp most _ := by
    rcases rep with ⟨_, ⟨_, hU⟩ | ⟨k, _⟩ | ⟨k, _⟩⟩ | ⟨k, _⟩
    · exact hU
    all_goals exact absurd k (by simp)
  obtain ⟨hf, hto, hcp, hcx, htp⟩ := hr rfl
  have hfr : fresh ⟨0, 5, x, bo, t, rg, tt, pl, cx, true, won, 0, got, err⟩ = false := by simp [fresh]
  have hf' : f = 104 := by rw [hf]; simp [pushF, hfr]
  subst hf'
  obtain ⟨rfl, hC⟩ := hcp rfl hfr
  obtain ⟨rfl, rfl⟩ := hto (by simp) (by simp)
  simp only at hs hbd htp
  unfold OpB at hbd
  simp only at hbd
  have htp2 := htp trivial
  have h0 : 0 ≤ tt.place pl := by have := hs.2.2.2.2.2.1; omega
  have hd := does_cstore hM hq sep.bc sep.qc hj (cpOf _) hC ⟨hs.1, hs.2.1, Int.le_of_lt hs.2.2.1, by show -9223372036854775808 ≤ pl; omega, by show bo ≤ 9223372036854775807; omega⟩ (by show pl ≠ bo; omega) rfl h0 hs.2.2.2.2.1
  by_cases hlast : pl + 1 = bo
  · have e9 : ((cpOf ⟨0, 5, x, bo, t, rg, tt, pl, cx, true, won, 0, got, err⟩).pl + 1 == (cpOf ⟨0, 5, x, bo, t, rg, tt, pl, cx, true, won, 0, got, err⟩).til) = true := by simp [cpOf, hlast]
    rw [e9] at hd
    refine (step_push (.pointer (some ⟨b.m, 0, none⟩)) j 0 0 0 o q _ _ (pushC most ⟨0, 5, x, bo, t, rg, tt, pl, cx, true, won, 0, got, err⟩ _ _ _ _) (And_ (fun k => b.own k ∨ k = cp) q) _ w (.inr ⟨_, rfl⟩) (fun _ _ => by kernel_rfl) hO hB rfl rfl rfl rfl rfl
      (fun w1 F1 => pu_move_all _ j 0 _ _ q _ w1 cp (.inr ⟨_, rfl⟩) (hB.keep F1 id) rfl ⟨_, rfl⟩ (fun hh => hh.elim hq sep.qc) (stays_mc hq sep.qc _ _) (hd.later (fr_no1 q F1)))).mono ?_
    rintro e w' ⟨rfl, hB2, ⟨hM2, hC2⟩, hF⟩
    refine fin_op sep hO ⟨0, 6, x, bo, t, rg, tt, pl + 1, cx, false, won, 0, got, err⟩ (wrc M (tt.place pl) cx) (by show DOp.push5 _ M = _; unfold DOp.push5; simp [hlast]) rfl kk (by simp) ?_ hM2 (fr_om2 hF)
    exact .inl ⟨rfl, _, _, _, _, hB2, hg, he, fun _ => ⟨rfl, fun _ _ => ⟨rfl, rfl⟩, fun a => absurd a (by simp), fun a => absurd a (by simp), fun a => absurd a (by simp)⟩⟩
  · have e9 : ((cpOf ⟨0, 5, x, bo, t, rg, tt, pl, cx, true, won, 0, got, err⟩).pl + 1 == (cpOf ⟨0, 5, x, bo, t, rg, tt, pl, cx, true, won, 0, got, err⟩).til) = false := by simp [cpOf, hlast]
    rw [e9] at hd
    refine (step_push (.pointer (some ⟨b.m, 0, none⟩)) j 0 0 0 o q _ _ (pushC most ⟨0, 5, x, bo, t, rg, tt, pl, cx, true, won, 0, got, err⟩ _ _ _ _) (And_ (fun k => b.own k ∨ k = cp) q) _ w (.inr ⟨_, rfl⟩) (fun _ _ => by kernel_rfl) hO hB rfl rfl rfl rfl rfl
      (fun w1 F1 => pu_move_more _ j 0 _ _ q _ w1 cp (.inr ⟨_, rfl⟩) (hB.keep F1 id) rfl (fun hh => hh.elim hq sep.qc) (hd.later (fr_no1 q F1)))).mono ?_
    rintro e w' ⟨rfl, hB2, ⟨hM2, hC2⟩, hF⟩
    refine fin_op sep hO ⟨0, 5, x, bo, t, rg, tt, pl + 1, cx, false, won, 0, got, err⟩ (wrc M (tt.place pl) cx) (by show DOp.push5 _ M = _; unfold DOp.push5; simp [hlast]) rfl kk (by simp) ?_ hM2 (fr_om2 hF)
    have hnf : fresh ⟨0, 5, x, bo, t, rg, tt, pl + 1, cx, false, won, 0, got, err⟩ = false := by simp [fresh]; omega
    exact .inl ⟨rfl, _, _, _, _, hB2, hg, he, fun _ => ⟨by simp [pushF, hnf], fun _ _ => ⟨rfl, rfl⟩, fun _ _ => ⟨rfl, hC2⟩, fun _ a => absurd a (by simp [hnf]), fun _ => by show t ≤ pl + 1; omega⟩⟩

set_option maxRecDepth 10000 in
set_option maxHeartbeats 1000000 in
theorem ok_u5_begin (h : Pre w b M s o q cp most ⟨0, 5, x, bo, t, rg, tt, t, cx, false, won, 0, got, err⟩ j) :
    Calls Try.prog 18 #[.pointer (some ⟨o, 0, none⟩), .pointer (some ⟨b.m, 0, none⟩), .int .i64 j] w (OKPost b M s o q cp most ⟨0, 5, x, bo, t, rg, tt, t, cx, false, won, 0, got, err⟩ j w) := by
  obtain ⟨⟨sep, kk, hO, rep⟩, hM, hj, ⟨hu, hin, hs⟩, hbd, hl⟩ := h
  have hq := sep.bq
  obtain ⟨wa, wl, cv, f, hB, hg, he, hr⟩ : RepU w q cp most _ := by
    rcases rep with ⟨_, ⟨_, hU⟩ | ⟨k, _⟩ | ⟨k, _⟩⟩ | ⟨k, _⟩
    · exact hU
    all_goals exact absurd k (by simp)
  obtain ⟨hf, hto, hcp, hcx, htp⟩ := hr rfl
  have hfr : fresh ⟨0, 5, x, bo, t, rg, tt, t, cx, false, won, 0, got, err⟩ = true := by simp [fresh]
  have hf' : f = 98 := by rw [hf]; simp [pushF, hfr]
  subst hf'
  have hcx0 : cx = 0 := hcx rfl hfr
  subst hcx0
  obtain ⟨rfl, rfl⟩ := hto (by simp) (by simp)
  simp only at hs hbd
  unfold OpB at hbd
  simp only at hbd
  have h0 : 0 ≤ rg.place t := by have := (place_in hs.1 t).1; have := hs.1.2.2.1; omega
  have hpl2 := pow_succ rg.l hs.1.1
  have hp0 := pow_pos rg.l
  have hqlt := hB.lt
  have holt := hO.lt
  have hown := hM.own_lt
  refine (step_ex (.pointer (some ⟨b.m, 0, none⟩)) j 0 0 0 o q _ _ (fun w' => ∃ cc, w.heap.size ≤ cc ∧ Blk w' q ((pushC most ⟨0, 5, x, bo, t, rg, tt, t, 0, false, won, 0, got, err⟩ tt.a tt.l (.pointer (some ⟨cc, 0, none⟩)) 104)) ∧ (IsM w' b (MO M (stp s j)) ∧ IsC w' cc ⟨rg.a, rg.l, tt.a, tt.l, t, bo, rd M (rg.place t), true⟩) ∧ Fr (And_ b.own q) w w') w (.inr ⟨_, rfl⟩) (fun _ _ => by kernel_rfl) hO hB rfl rfl rfl rfl
    (fun w' ⟨cc, _, hB', _⟩ => hB'.cell rfl) (fun w1 F1 => ?_)).mono ?_
  · refine (pu_begin (.pointer (some ⟨b.m, 0, none⟩)) j 0 b.own q _ w1 (fun cc w' => IsM w' b (MO M (stp s j)) ∧ IsC w' cc ⟨rg.a, rg.l, tt.a, tt.l, t, bo, rd M (rg.place t), true⟩) rg.a rg.l tt.a tt.l t bo (.inr ⟨_, rfl⟩) (hB.keep F1 id) rfl rfl rfl rfl rfl rfl ⟨_, rfl⟩ ⟨_, rfl⟩ hq hs.1 hs.2.1 (by unfold Fits; omega) (by unfold Fits; omega) ⟨by omega, by omega, by rw [hs.2.2.2.2.2.2.2]; omega⟩ ?_).mono ?_
    · intro cc w' hcc hC hF
      have hF0 : Fr (fun k => k = q) w w' := (fr_no1 q F1).trans hF
      have hs1 := F1.size
      have hcq : q ≠ cc := by omega
      have hco : ¬ b.own cc := fun hh => by have := hown _ hh; omega
      have hd := does_cload (q := q) (hM.keep hF0 (fun k hk e => hq (e ▸ hk))) hq hco hcq hj _ hC ⟨hs.1, hs.2.1, Int.le_of_lt hs.2.2.1, by show -9223372036854775808 ≤ t; omega, by show bo ≤ 9223372036854775807; omega⟩ (by show t ≠ bo; omega) rfl h0 hs.2.2.2.1
      exact hd w' (Fr.refl _ _)
    · rintro e w' ⟨cc, rfl, hcc, hB', hQ', hF'⟩
      exact ⟨rfl, cc, Nat.le_trans F1.size hcc, hB', hQ', (fr_no b.own q F1).trans hF'⟩
  rintro e w' ⟨rfl, cc, hcc, hB2, ⟨hM2, hC2⟩, hF⟩
  refine ⟨cc, .inr hcc, rfl, ⟨⟨sep.oq, by omega, by omega, sep.bo, sep.bq, fun hh => by have := hown _ hh; omega⟩, kk, ?_, .inl ⟨by show ¬ (0 : Nat) = 6; simp, .inl ⟨rfl, tt.a, tt.l, _, _, hB2, hg, he, fun _ => ⟨rfl, fun _ _ => ⟨rfl, rfl⟩, fun _ _ => ⟨rfl, hC2⟩, fun _ a => absurd a (by simp [fresh, DOp.act, DOp.push5]), fun _ => Int.le_refl _⟩⟩⟩⟩, hM2, fr_om hF⟩
  refine hO.keep hF ?_
  rintro (h | h)
  · exact sep.bo h
  · exact sep.oq h
end
end Go.Proofs.Ytiofdfgcghiibaa
