/-
  ScopeActs: the program's tree beside the document's; calls, refused or not.
-/
import Derived.Test.YtoajdknhllaoeaaNes
namespace Go.Proofs.Ytoajdknhllaoeaa
open Go.RowKit
set_option linter.unusedVariables false

theorem fV_put (f : Nat → Int) {n k : Nat} (h : k < n) (x : Int) : (fV f n).set k (.int .i64 x) = fV (fun i => if i = k then x else f i) n := by
  apply List.ext_getElem?
  intro i
  rw [List.getElem?_set]
  by_cases hi : i < n
  · rw [fV_at _ hi, fV_len]
    by_cases e : k = i
    · subst e; rw [fV_at _ hi]; simp [hi]
    · rw [if_neg e, fV_at _ hi, if_neg (fun h => e h.symm)]
  · have e1 : (fV (fun i => if i = k then x else f i) n)[i]? = none := List.getElem?_eq_none (by rw [fV_len]; omega)
    have e2 : (fV f n)[i]? = none := List.getElem?_eq_none (by rw [fV_len]; omega)
    rw [e1, if_neg (by omega), e2]

theorem bV_put (f : Nat → Bool) {n k : Nat} (h : k < n) (x : Bool) : (bV f n).set k (.bool x) = bV (fun i => if i = k then x else f i) n := by
  apply List.ext_getElem?
  intro i
  rw [List.getElem?_set]
  by_cases hi : i < n
  · rw [bV_at _ hi, bV_len]
    by_cases e : k = i
    · subst e; rw [bV_at _ hi]; simp [hi]
    · rw [if_neg e, bV_at _ hi, if_neg (fun h => e h.symm)]
  · have e1 : (bV (fun i => if i = k then x else f i) n)[i]? = none := List.getElem?_eq_none (by rw [bV_len]; omega)
    have e2 : (bV f n)[i]? = none := List.getElem?_eq_none (by rw [bV_len]; omega)
    rw [e1, if_neg (by omega), e2]

theorem OwnR.stored {w : World} {B : Nat} {e : TypeId} {k g n cap : Nat} {xs : List Value} (h : OwnR w B e k (some ⟨g, 0, none⟩) n cap xs) (j : Nat) (u : Value) : OwnR (w.setCell ⟨g, j, none⟩ u) B e k (some ⟨g, 0, none⟩) n cap (xs.set j u) := (World.ownsRow.stored h j u).1

section
variable {w : World} {P : Nat → Prop} {rb : Nat} {R : Sc}

/-- The row of those who live: read, and stored. -/
theorem RfM.live_ (h : RfM w P rb R) {k : Nat} (hk : k < R.n) : ∃ g c, w.cell? ⟨rb, 2, none⟩ = some (.slice (some ⟨g, 0, none⟩) R.n c) ∧ R.n ≤ c ∧ rb < w.heap.size ∧ g < w.heap.size ∧ w.cell? ⟨g, k, none⟩ = some (.int .i64 (R.live k)) ∧ w.frozen? ⟨g, k, none⟩ = false ∧ ∀ x, RfM (w.setCell ⟨g, k, none⟩ (.int .i64 x)) P rb { R with live := fun i => if i = k then x else R.live i } ∧ Fr P w (w.setCell ⟨g, k, none⟩ (.int .i64 x)) := by
  obtain ⟨A1, c1, A2, c2, A3, c3, h1, h2, h3, h4, h5, h6, h7, h8⟩ := h.ex
  obtain ⟨g, rfl, hc, hg, hcl⟩ := h4.at_ hk
  obtain ⟨g', hA, _, _, hz, _⟩ := h4.cell (by omega)
  injection hA with hA
  injection hA with hA
  subst hA
  refine ⟨g, c3, h1.cell rfl, hc, h1.lt, hg, hcl, hz k, fun x => ?_⟩
  have F : Fr (fun j => j = g) w (w.setCell ⟨g, k, none⟩ (.int .i64 x)) := Fr.setCell _ _ _ rfl
  have hgb : ∀ j, j = g → ownB (some ⟨g, 0, none⟩) j := fun j e => ⟨_, rfl, e.symm⟩
  have n1 : rb ≠ g := fun e => OwnR.ne h4 h1 (by decide) (e ▸ hgb g rfl)
  have h4' := h4.stored k (.int .i64 x)
  rw [fV_put _ hk] at h4'
  exact ⟨⟨⟨A1, c1, A2, c2, _, c3, h1.keep F n1, OwnR.keep h2 F (fun j hj e => OwnR.apart h2 h4 (by decide) j hj (hgb j e)), OwnR.keep h3 F (fun j hj e => OwnR.apart h3 h4 (by decide) j hj (hgb j e)), h4', h5, h6, h7, h8⟩, h.ok, fun j hj => Nat.lt_of_lt_of_le (h.lt j hj) F.size⟩, F.mono (fun j e => h8 j (hgb j e))⟩

/-- The row of those asked: read, and stored. -/
theorem RfM.ask_ (h : RfM w P rb R) {k : Nat} (hk : k < R.n) : ∃ g c, w.cell? ⟨rb, 1, none⟩ = some (.slice (some ⟨g, 0, none⟩) R.n c) ∧ R.n ≤ c ∧ rb < w.heap.size ∧ g < w.heap.size ∧ w.cell? ⟨g, k, none⟩ = some (.bool (R.asked k)) ∧ w.frozen? ⟨g, k, none⟩ = false ∧ ∀ x, RfM (w.setCell ⟨g, k, none⟩ (.bool x)) P rb { R with asked := fun i => if i = k then x else R.asked i } ∧ Fr P w (w.setCell ⟨g, k, none⟩ (.bool x)) := by
  obtain ⟨A1, c1, A2, c2, A3, c3, h1, h2, h3, h4, h5, h6, h7, h8⟩ := h.ex
  obtain ⟨g, hA, _, hg, hz, hcl⟩ := h3.cell (by omega)
  subst hA
  have hc : R.n ≤ c2 := by
    rcases h3.2 with ⟨h3, h4⟩ | ⟨g', c', cur, hv, _, _, h5, _⟩
    · omega
    · injection hv with _ _ hv; omega
  refine ⟨g, c2, h1.cell rfl, hc, h1.lt, hg, hcl k _ (bV_at _ hk), hz k, fun x => ?_⟩
  have F : Fr (fun j => j = g) w (w.setCell ⟨g, k, none⟩ (.bool x)) := Fr.setCell _ _ _ rfl
  have hgb : ∀ j, j = g → ownB (some ⟨g, 0, none⟩) j := fun j e => ⟨_, rfl, e.symm⟩
  have n1 : rb ≠ g := fun e => OwnR.ne h3 h1 (by decide) (e ▸ hgb g rfl)
  have h3' := h3.stored k (.bool x)
  rw [bV_put _ hk] at h3'
  exact ⟨⟨⟨A1, c1, _, c2, A3, c3, h1.keep F n1, OwnR.keep h2 F (fun j hj e => OwnR.apart h2 h3 (by decide) j hj (hgb j e)), h3', OwnR.keep h4 F (fun j hj e => OwnR.apart h4 h3 (by decide) j hj (hgb j e)), h5, h6, h7, h8⟩, h.ok, fun j hj => Nat.lt_of_lt_of_le (h.lt j hj) F.size⟩, F.mono (fun j e => h7 j (hgb j e))⟩
end

structure AcM (w0 : World) (b : MB) (tb rb : Nat) (T R : Sc) (w : World) : Prop where
  ex : ∃ O P, Trm w O b tb T ∧ RfM w P rb R ∧ (∀ k, O k → w0.heap.size ≤ k) ∧ (∀ k, P k → w0.heap.size ≤ k) ∧ ∀ k, O k → ¬ P k
  fr : Fr (fun _ => False) w0 w

section
variable {w0 : World} {b : MB} {tb rb : Nat} {T R : Sc}

theorem AcM.same {w w' : World} (h : AcM w0 b tb rb T R w) (F : Fr (fun _ => False) w w') : AcM w0 b tb rb T R w' := by
  obtain ⟨O, P, h1, h2, h3⟩ := h.ex
  exact ⟨⟨O, P, h1.same F, h2.same F, h3⟩, h.fr.trans F⟩

/-- The program's has turned. -/
theorem AcM.turn {w w' : World} {O P : Nat → Prop} {T' : Sc} (h : AcM w0 b tb rb T R w) (h2 : RfM w P rb R) (h3 : ∀ k, O k → w0.heap.size ≤ k) (h4 : ∀ k, P k → w0.heap.size ≤ k) (h5 : ∀ k, O k → ¬ P k) (hT : Trm w' O b tb T') (F : Fr O w w') : AcM w0 b tb rb T' R w' :=
  ⟨⟨O, P, hT, h2.keep F (fun k hk ho => h5 k ho hk), h3, h4, h5⟩, h.fr.since F (fun i hi hl => by have := h3 i hi; omega)⟩

theorem AcM.post {w w' : World} {O P : Nat → Prop} {T' : Sc} (h : AcM w0 b tb rb T R w) (h1 : Trm w O b tb T) (h2 : RfM w P rb R) (h3 : ∀ k, O k → w0.heap.size ≤ k) (h4 : ∀ k, P k → w0.heap.size ≤ k) (h5 : ∀ k, O k → ¬ P k) (p : TrPost O b tb T' w w') : AcM w0 b tb rb T' R w' := by
  obtain ⟨O', k1, k2, k3⟩ := p
  have hs := h.fr.size
  refine ⟨⟨O', P, k1, h2.keep k2 (fun k hk ho => h5 k ho hk), fun k hk => ?_, h4, fun k hk hp => ?_⟩, h.fr.since k2 (fun i hi hl => by have := h3 i hi; omega)⟩
  · rcases k3 k hk with h6 | h6; exact h3 k h6; omega
  · rcases k3 k hk with h6 | h6
    · exact h5 k h6 hp
    · have := h2.lt k hp; omega

/-- The document's has turned. -/
theorem AcM.rturn {w w' : World} {O P : Nat → Prop} {R' : Sc} (h : AcM w0 b tb rb T R w) (h1 : Trm w O b tb T) (h3 : ∀ k, O k → w0.heap.size ≤ k) (h4 : ∀ k, P k → w0.heap.size ≤ k) (h5 : ∀ k, O k → ¬ P k) (hR : RfM w' P rb R') (F : Fr P w w') : AcM w0 b tb rb T R' w' :=
  ⟨⟨O, P, h1.keep F h5, hR, h3, h4, h5⟩, h.fr.since F (fun i hi hl => by have := h4 i hi; omega)⟩

theorem AcM.rpost {w w' : World} {O P : Nat → Prop} {R' : Sc} (h : AcM w0 b tb rb T R w) (h1 : Trm w O b tb T) (h2 : RfM w P rb R) (h3 : ∀ k, O k → w0.heap.size ≤ k) (h4 : ∀ k, P k → w0.heap.size ≤ k) (h5 : ∀ k, O k → ¬ P k) (p : RfP P rb R' w w') : AcM w0 b tb rb T R' w' := by
  obtain ⟨P', k1, k2, k3⟩ := p
  have hs := h.fr.size
  refine ⟨⟨O, P', h1.keep k2 h5, k1, h3, fun k hk => ?_, fun k hk hp => ?_⟩, h.fr.since k2 (fun i hi hl => by have := h4 i hi; omega)⟩
  · rcases k3 k hk with h6 | h6; exact h4 k h6; omega
  · rcases k3 k hp with h6 | h6
    · exact h5 k hk h6
    · have := h1.lt k hk; omega

theorem mayE_ok {n : Nat} {x s : Int} (h : mayE n 2 x s = 0) : ∃ k j : Nat, s = k ∧ k < n ∧ x = j ∧ j < 3 := by
  unfold mayE at h
  cases hb : isB n s with
  | false => rw [hb] at h; cases h
  | true =>
    obtain ⟨k, rfl, hk⟩ := isB_of hb
    rw [hb] at h
    simp only [cond_true] at h
    by_cases h1 : x < 0
    · rw [decide_eq_true h1] at h; cases h
    · by_cases h2 : 2 < x
      · rw [decide_eq_true h2, Bool.or_true] at h; cases h
      · obtain ⟨j, rfl⟩ := Int.eq_ofNat_of_zero_le (show 0 ≤ x by omega)
        exact ⟨k, j, rfl, hk, rfl, by omega⟩

theorem mayE_in {n k j : Nat} (hk : k < n) (hj : j < 3) : mayE n 2 j k = 0 := by
  unfold mayE
  rw [isB_yes hk, decide_eq_false (show ¬ ((j : Int) < 0) by omega), decide_eq_false (show ¬ ((2 : Int) < (j : Int)) by omega)]
  rfl

theorem mayE_no {n : Nat} {x s : Int} (h : mayE n 2 x s ≠ 0) : (isB n s = false ∧ mayE n 2 x s = 17) ∨ (∃ k : Nat, s = k ∧ k < n ∧ (x < 0 ∨ (3 : Int) ≤ x) ∧ mayE n 2 x s = 10) := by
  unfold mayE at h ⊢
  cases hb : isB n s with
  | false => exact .inl ⟨rfl, rfl⟩
  | true =>
    obtain ⟨k, rfl, hk⟩ := isB_of hb
    rw [hb] at h
    refine .inr ⟨k, rfl, hk, ?_⟩
    simp only [cond_true] at h ⊢
    by_cases h1 : x < 0
    · rw [decide_eq_true h1]; exact ⟨.inl h1, rfl⟩
    · by_cases h2 : 2 < x
      · rw [decide_eq_true h2, Bool.or_true]; exact ⟨.inr (by omega), rfl⟩
      · rw [decide_eq_false h1, decide_eq_false h2] at h; exact absurd rfl h

variable (w : World)

theorem ac_may (x s e0 : Int) (he : mayE R.n 2 x s = e0) (h : AcM w0 b tb rb T R w) : Calls Try.prog 13 #[.pointer (some ⟨rb, 0, none⟩), .int .i64 x, .int .i64 2, .int .i64 s] w fun e w' => e = .returned (.int .i64 e0) ∧ w = w' := by
  subst he
  obtain ⟨O, P, _, h2, _⟩ := h.ex
  exact r_may w x 2 s h2

theorem ac_enter_no (x s er : Int) (he : mayE T.n 2 x s = er) (h0 : er ≠ 0) (HZ : T.z ≤ 4000000) (h3 : T.s.length = 3) (h : AcM w0 b tb rb T R w) : Calls Try.prog 16 #[.pointer (some ⟨tb, 0, none⟩), .pointer (some ⟨b.m, 0, none⟩), .int .i64 x, .int .i64 s] w fun e w' => e = .returned (.int .i64 er) ∧ AcM w0 b tb rb T R w' := by
  obtain ⟨O, P, h1, h2, k3, k4, k5⟩ := h.ex
  rcases mayE_no (n := T.n) (x := x) (s := s) (by rw [he]; exact h0) with ⟨hb, e1⟩ | ⟨k, rfl, hk, hx, e1⟩
  · have e2 : er = 17 := he.symm.trans e1
    subst e2
    exact (enter_err _ _ x s 17 w (ferr_none w s hb h1)).mono fun e w' ⟨he, hF⟩ => ⟨he, h.same hF⟩
  · have e2 : er = 10 := he.symm.trans e1
    subst e2
    exact (enter_who w k x (by rw [h3]; exact hx) hk HZ h1).mono fun e w' ⟨he, hT, hF⟩ => ⟨he, h.turn h2 k3 k4 k5 hT hF⟩

theorem ac_leave_no (x s er : Int) (he : mayE T.n 2 x s = er) (h0 : er ≠ 0) (HZ : T.z ≤ 4000000) (h3 : T.s.length = 3) (h : AcM w0 b tb rb T R w) : Calls Try.prog 17 #[.pointer (some ⟨tb, 0, none⟩), .pointer (some ⟨b.m, 0, none⟩), .int .i64 x, .int .i64 s] w fun e w' => e = .returned (.tuple #[.bool false, .int .i64 er]) ∧ AcM w0 b tb rb T R w' := by
  obtain ⟨O, P, h1, h2, k3, k4, k5⟩ := h.ex
  rcases mayE_no (n := T.n) (x := x) (s := s) (by rw [he]; exact h0) with ⟨hb, e1⟩ | ⟨k, rfl, hk, hx, e1⟩
  · have e2 : er = 17 := he.symm.trans e1
    subst e2
    exact (leave_err _ _ x s 17 w (ferr_none w s hb h1)).mono fun e w' ⟨he, hF⟩ => ⟨he, h.same hF⟩
  · have e2 : er = 10 := he.symm.trans e1
    subst e2
    exact (leave_who w k x (by rw [h3]; exact hx) hk HZ h1).mono fun e w' ⟨he, hT, hF⟩ => ⟨he, h.turn h2 k3 k4 k5 hT hF⟩

theorem ac_live_no (x s er : Int) (he : mayE T.n 2 x s = er) (h0 : er ≠ 0) (HZ : T.z ≤ 4000000) (h3 : T.s.length = 3) (h : AcM w0 b tb rb T R w) : Calls Try.prog 18 #[.pointer (some ⟨tb, 0, none⟩), .pointer (some ⟨b.m, 0, none⟩), .int .i64 x, .int .i64 s] w fun e w' => e = .returned (.tuple #[.int .i64 0, .int .i64 er]) ∧ AcM w0 b tb rb T R w' := by
  obtain ⟨O, P, h1, h2, k3, k4, k5⟩ := h.ex
  rcases mayE_no (n := T.n) (x := x) (s := s) (by rw [he]; exact h0) with ⟨hb, e1⟩ | ⟨k, rfl, hk, hx, e1⟩
  · have e2 : er = 17 := he.symm.trans e1
    subst e2
    exact (live_err _ _ x s 17 w (ferr_none w s hb h1)).mono fun e w' ⟨he, hF⟩ => ⟨he, h.same hF⟩
  · have e2 : er = 10 := he.symm.trans e1
    subst e2
    exact (live_who w k x (by rw [h3]; exact hx) hk HZ h1).mono fun e w' ⟨he, hT, hF⟩ => ⟨he, h.turn h2 k3 k4 k5 hT hF⟩

theorem ac_ask_no (x s er : Int) (he : mayE T.n 2 x s = er) (h0 : er ≠ 0) (HZ : T.z ≤ 4000000) (h3 : T.s.length = 3) (h : AcM w0 b tb rb T R w) : Calls Try.prog 19 #[.pointer (some ⟨tb, 0, none⟩), .pointer (some ⟨b.m, 0, none⟩), .int .i64 x, .int .i64 s] w fun e w' => e = .returned (.tuple #[.bool false, .int .i64 er]) ∧ AcM w0 b tb rb T R w' := by
  obtain ⟨O, P, h1, h2, k3, k4, k5⟩ := h.ex
  rcases mayE_no (n := T.n) (x := x) (s := s) (by rw [he]; exact h0) with ⟨hb, e1⟩ | ⟨k, rfl, hk, hx, e1⟩
  · have e2 : er = 17 := he.symm.trans e1
    subst e2
    exact (ask_err _ _ x s 17 w (ferr_none w s hb h1)).mono fun e w' ⟨he, hF⟩ => ⟨he, h.same hF⟩
  · have e2 : er = 10 := he.symm.trans e1
    subst e2
    exact (ask_who w k x (by rw [h3]; exact hx) hk h1).mono fun e w' ⟨he, hT, hF⟩ => ⟨he, h.turn h2 k3 k4 k5 hT hF⟩

theorem ac_asked_no (x s er : Int) (he : mayE T.n 2 x s = er) (h0 : er ≠ 0) (HZ : T.z ≤ 4000000) (h3 : T.s.length = 3) (h : AcM w0 b tb rb T R w) : Calls Try.prog 20 #[.pointer (some ⟨tb, 0, none⟩), .pointer (some ⟨b.m, 0, none⟩), .int .i64 x, .int .i64 s] w fun e w' => e = .returned (.tuple #[.bool false, .int .i64 er]) ∧ AcM w0 b tb rb T R w' := by
  obtain ⟨O, P, h1, h2, k3, k4, k5⟩ := h.ex
  rcases mayE_no (n := T.n) (x := x) (s := s) (by rw [he]; exact h0) with ⟨hb, e1⟩ | ⟨k, rfl, hk, hx, e1⟩
  · have e2 : er = 17 := he.symm.trans e1
    subst e2
    exact (asked_err _ _ x s 17 w (ferr_none w s hb h1)).mono fun e w' ⟨he, hF⟩ => ⟨he, h.same hF⟩
  · have e2 : er = 10 := he.symm.trans e1
    subst e2
    exact (asked_who w k x (by rw [h3]; exact hx) hk h1).mono fun e w' ⟨he, hT, hF⟩ => ⟨he, h.turn h2 k3 k4 k5 hT hF⟩

theorem ac_enter (j k : Nat) (x : Int) (hx : x = j)  (hj : j < 3) (hk : k < T.n) (HZ : T.z ≤ 4000000) (h3 : T.s.length = 3) (h : AcM w0 b tb rb T R w) : Calls Try.prog 16 #[.pointer (some ⟨tb, 0, none⟩), .pointer (some ⟨b.m, 0, none⟩), .int .i64 x, .int .i64 k] w fun e w' => e = .returned (.int .i64 0) ∧ AcM w0 b tb rb ((T.step j).add k 1) R w' := by
  obtain ⟨O, P, h1, h2, k3, k4, k5⟩ := h.ex
  exact (enter_ok w j k x hx (by rw [h3]; exact hj) hk HZ h1).mono fun e w' ⟨he, hT, hF⟩ => ⟨he, h.turn h2 k3 k4 k5 hT hF⟩

theorem ac_leave (j k : Nat) (x : Int) (hx : x = j) (r : Bool) (hr : (T.live k == 1) = r) (hj : j < 3) (hk : k < T.n) (HZ : T.z ≤ 4000000) (h3 : T.s.length = 3) (h : AcM w0 b tb rb T R w) : Calls Try.prog 17 #[.pointer (some ⟨tb, 0, none⟩), .pointer (some ⟨b.m, 0, none⟩), .int .i64 x, .int .i64 k] w fun e w' => e = .returned (.tuple #[.bool r, .int .i64 0]) ∧ AcM w0 b tb rb ((T.step j).add k (-1)) R w' := by
  obtain ⟨O, P, h1, h2, k3, k4, k5⟩ := h.ex
  exact (leave_ok w j k x hx (by rw [h3]; exact hj) hk HZ r hr h1).mono fun e w' ⟨he, hT, hF⟩ => ⟨he, h.turn h2 k3 k4 k5 hT hF⟩

theorem ac_live (j k : Nat) (x : Int) (hx : x = j)  (hj : j < 3) (hk : k < T.n) (HZ : T.z ≤ 4000000) (h3 : T.s.length = 3) (h : AcM w0 b tb rb T R w) : Calls Try.prog 18 #[.pointer (some ⟨tb, 0, none⟩), .pointer (some ⟨b.m, 0, none⟩), .int .i64 x, .int .i64 k] w fun e w' => e = .returned (.tuple #[.int .i64 (T.live k), .int .i64 0]) ∧ AcM w0 b tb rb (T.step j) R w' := by
  obtain ⟨O, P, h1, h2, k3, k4, k5⟩ := h.ex
  exact (live_ok w j k x hx (by rw [h3]; exact hj) hk HZ h1).mono fun e w' ⟨he, hT, hF⟩ => ⟨he, h.turn h2 k3 k4 k5 hT hF⟩

theorem ac_ask (j k : Nat) (x : Int) (hx : x = j) (r : Bool) (hr : (!T.asked k) = r) (hj : j < 3) (hk : k < T.n) (HZ : T.z ≤ 4000000) (h3 : T.s.length = 3) (h : AcM w0 b tb rb T R w) : Calls Try.prog 19 #[.pointer (some ⟨tb, 0, none⟩), .pointer (some ⟨b.m, 0, none⟩), .int .i64 x, .int .i64 k] w fun e w' => e = .returned (.tuple #[.bool r, .int .i64 0]) ∧ AcM w0 b tb rb ((T.step j).ask k) R w' := by
  obtain ⟨O, P, h1, h2, k3, k4, k5⟩ := h.ex
  exact (ask_ok w j k x hx (by rw [h3]; exact hj) hk r hr h1).mono fun e w' ⟨he, hT, hF⟩ => ⟨he, h.turn h2 k3 k4 k5 hT hF⟩

theorem ac_asked (j k : Nat) (x : Int) (hx : x = j) (r : Bool) (hr : T.asked k = r) (hj : j < 3) (hk : k < T.n) (HZ : T.z ≤ 4000000) (h3 : T.s.length = 3) (h : AcM w0 b tb rb T R w) : Calls Try.prog 20 #[.pointer (some ⟨tb, 0, none⟩), .pointer (some ⟨b.m, 0, none⟩), .int .i64 x, .int .i64 k] w fun e w' => e = .returned (.tuple #[.bool r, .int .i64 0]) ∧ AcM w0 b tb rb (T.step j) R w' := by
  obtain ⟨O, P, h1, h2, k3, k4, k5⟩ := h.ex
  exact (asked_ok w j k x hx (by rw [h3]; exact hj) hk r hr h1).mono fun e w' ⟨he, hT, hF⟩ => ⟨he, h.turn h2 k3 k4 k5 hT hF⟩


/-- What the error of an Open is. -/
def openE (T : Sc) (x lf p : Int) : Int := bif isB T.n p then (bif decide (32 ≤ nestV T p) then 23 else bif decide (x < 0) || decide (2 < x) then 10 else bif decide (lf < 2) then 21 else 0) else 17

theorem ac_open_ok (j p : Nat) (x : Int) (hx : x = j) (hj : j < 3) (hp : p < T.n) (hd : T.nst p ≠ 32) (hz : 2 * T.n + 2 ≤ T.z) (h3 : T.s.length = 3) (h : AcM w0 b tb rb T R w) :
    Calls Try.prog 14 #[.pointer (some ⟨tb, 0, none⟩), .pointer (some ⟨b.m, 0, none⟩), .int .i64 x, .int .i64 p] w fun e w' => e = .returned (.tuple #[.int .i64 (T.n : Nat), .int .i64 0]) ∧ AcM w0 b tb rb ((T.step j).opn p) R w' := by
  obtain ⟨O, P, h1, h2, k3, k4, k5⟩ := h.ex
  exact (open_ok w j p x hx (by rw [h3]; exact hj) hp hd hz h1).mono fun e w' ⟨he, hp⟩ => ⟨he, h.post h1 h2 k3 k4 k5 hp⟩

theorem ac_open_no (x p er : Int) (he : openE T x ((T.z : Int) - 2 * T.n) p = er) (h0 : er ≠ 0) (hd : ∀ k, k < T.n → T.nst k ≤ 32) (h3 : T.s.length = 3) (h : AcM w0 b tb rb T R w) :
    Calls Try.prog 14 #[.pointer (some ⟨tb, 0, none⟩), .pointer (some ⟨b.m, 0, none⟩), .int .i64 x, .int .i64 p] w fun e w' => e = .returned (.tuple #[.int .i64 0, .int .i64 er]) ∧ AcM w0 b tb rb T R w' := by
  obtain ⟨O, P, h1, h2, k3, k4, k5⟩ := h.ex
  unfold openE at he
  cases hb : isB T.n p with
  | false =>
    rw [hb] at he
    simp only [cond_false] at he
    subst he
    exact (open_err _ _ x p 17 w (ferr_none w p hb h1)).mono fun e w' ⟨he, hF⟩ => ⟨he, h.same hF⟩
  | true =>
    rw [hb] at he
    obtain ⟨k, rfl, hk⟩ := isB_of hb
    rw [nestV_in T hk] at he
    simp only [cond_true] at he
    by_cases h5 : T.nst k = 32
    · rw [decide_eq_true (show (32 : Int) ≤ (T.nst k : Nat) by omega)] at he
      simp only [cond_true] at he
      subst he
      exact (open_deep w k x hk h5 h1).mono fun e w' ⟨he, hF⟩ => ⟨he, h.same hF⟩
    · have h6 := hd k hk
      rw [decide_eq_false (show ¬ (32 : Int) ≤ (T.nst k : Nat) by omega)] at he
      simp only [cond_false] at he
      by_cases h7 : x < 0 ∨ 2 < x
      · have e1 : (decide (x < 0) || decide (2 < x)) = true := by simpa using h7
        rw [e1] at he
        simp only [cond_true] at he
        subst he
        exact (open_who w k x (by rw [h3]; omega) hk h5 h1).mono fun e w' ⟨he, hT, hF⟩ => ⟨he, h.turn h2 k3 k4 k5 hT hF⟩
      · have e1 : (decide (x < 0) || decide (2 < x)) = false := by simp; omega
        rw [e1] at he
        simp only [cond_false] at he
        by_cases h8 : (T.z : Int) - 2 * T.n < 2
        · rw [decide_eq_true h8] at he
          simp only [cond_true] at he
          subst he
          obtain ⟨j, rfl⟩ := Int.eq_ofNat_of_zero_le (show 0 ≤ x by omega)
          exact (open_full w j k j rfl (by rw [h3]; omega) hk h5 (by omega) h1).mono fun e w' ⟨he, hT, hF⟩ => ⟨he, h.turn h2 k3 k4 k5 hT hF⟩
        · rw [decide_eq_false h8] at he
          exact absurd he.symm h0

theorem ac_ropen_ok (x lf y : Int) (p : Nat) (hy : y = p) (hp : p < R.n) (hd : R.nst p < 32) (hx0 : 0 ≤ x) (hx1 : x ≤ 2) (hlf : 2 ≤ lf) (hs : R.n < 1000000) (h : AcM w0 b tb rb T R w) :
    Calls Try.prog 15 #[.pointer (some ⟨rb, 0, none⟩), .int .i64 x, .int .i64 2, .int .i64 lf, .int .i64 y] w fun e w' => e = .returned (.tuple #[.int .i64 (R.n : Nat), .int .i64 0]) ∧ AcM w0 b tb rb T (R.opn p) w' := by
  obtain ⟨O, P, h1, h2, k3, k4, k5⟩ := h.ex
  exact (r_open_ok w x 2 lf y p hy hp hd hx0 hx1 hlf hs h2).mono fun e w' ⟨he, hp⟩ => ⟨he, h.rpost h1 h2 k3 k4 k5 hp⟩

theorem ac_ropen_no (x lf p er : Int) (he : openE R x lf p = er) (h0 : er ≠ 0) (hs : R.n < 1000000) (h : AcM w0 b tb rb T R w) :
    Calls Try.prog 15 #[.pointer (some ⟨rb, 0, none⟩), .int .i64 x, .int .i64 2, .int .i64 lf, .int .i64 p] w fun e w' => e = .returned (.tuple #[.int .i64 0, .int .i64 er]) ∧ w = w' := by
  obtain ⟨O, P, h1, h2, k3, k4, k5⟩ := h.ex
  exact r_open_err w x 2 lf p er he.symm h0 hs h2

theorem ac_steps (j : Nat) (x v : Int) (hx : x = j) (hj : j < T.s.length) (hv : T.s.getD j 0 = v) (h : AcM w0 b tb rb T R w) :
    Calls Try.prog 21 #[.pointer (some ⟨b.m, 0, none⟩), .int .i64 x] w fun e w' => e = .returned (.int .i64 v) ∧ w = w' := by
  subst hx hv
  obtain ⟨O, P, h1, _⟩ := h.ex
  obtain ⟨A, cap, l, k1, _⟩ := h1.ex
  exact steps_in b ⟨l, 2 * T.n, T.s⟩ j w k1.m hj

theorem ac_used (n : Int) (hn : n = ((2 * T.n : Nat) : Int)) (h : AcM w0 b tb rb T R w) :
    Calls Try.prog 23 #[.pointer (some ⟨b.m, 0, none⟩)] w fun e w' => e = .returned (.int .i64 n) ∧ w = w' := by
  subst hn
  obtain ⟨O, P, h1, _⟩ := h.ex
  obtain ⟨A, cap, l, k1, _⟩ := h1.ex
  exact used_ok b ⟨l, 2 * T.n, T.s⟩ w k1.m

theorem ac_len (h : AcM w0 b tb rb T R w) : Calls Try.prog 22 #[.pointer (some ⟨tb, 0, none⟩)] w fun e w' => e = .returned (.int .i64 T.n) ∧ w = w' := by
  obtain ⟨O, P, h1, _⟩ := h.ex
  exact len_ok w h1

theorem ac_peek (k : Nat) (hk : k < T.n) (HZ : T.z ≤ 4000000) (r : Bool) (v : Int) (hr : T.asked k = r) (hv : T.live k = v) (h : AcM w0 b tb rb T R w) : Calls Try.prog 24 #[.pointer (some ⟨tb, 0, none⟩), .pointer (some ⟨b.m, 0, none⟩), .int .i64 k] w fun e w' => e = .returned (.tuple #[.bool r, .int .i64 v]) ∧ Fr (fun _ => False) w w' := by
  subst hv
  obtain ⟨O, P, h1, _⟩ := h.ex
  exact peek_ok w k hk HZ r hr h1


/-- They tell the same of all that the document's bears. -/
theorem AcM.to {w : World} (h : AcM w0 b tb rb T R w) (e1 : T.n = R.n) (e2 : T.par = R.par) (e4 : ∀ k, k < T.n → T.asked k = R.asked k) (e5 : ∀ k, k < T.n → T.live k = R.live k) : AcM w0 b tb rb T T w := by
  obtain ⟨O, P, h1, h2, k⟩ := h.ex
  obtain ⟨A1, c1, A2, c2, A3, c3, g1, g2, g3, g4, g5⟩ := h2.ex
  refine ⟨⟨O, P, h1, ⟨⟨A1, c1, A2, c2, A3, c3, ?_, ?_, ?_, ?_, g5⟩, h1.ok, h2.lt⟩, k⟩, h.fr⟩
  · rw [e1]; exact g1
  · rw [e1, e2]; exact g2
  · rw [bV_cong e4, e1]; exact g3
  · rw [fV_cong e5, e1]; exact g4

/-- Rows of the document's that are read, and stored. -/
theorem AcM.live_ {w : World} (h : AcM w0 b tb rb T R w) {k : Nat} (hk : k < R.n) : ∃ g c, w.cell? ⟨rb, 2, none⟩ = some (.slice (some ⟨g, 0, none⟩) R.n c) ∧ R.n ≤ c ∧ rb < w.heap.size ∧ g < w.heap.size ∧ w.cell? ⟨g, k, none⟩ = some (.int .i64 (R.live k)) ∧ w.frozen? ⟨g, k, none⟩ = false ∧ ∀ x, AcM w0 b tb rb T { R with live := fun i => if i = k then x else R.live i } (w.setCell ⟨g, k, none⟩ (.int .i64 x)) := by
  obtain ⟨O, P, h1, h2, k3, k4, k5⟩ := h.ex
  obtain ⟨g, c, a1, a2, a3, a4, a5, a6, a7⟩ := h2.live_ hk
  exact ⟨g, c, a1, a2, a3, a4, a5, a6, fun x => h.rturn h1 k3 k4 k5 (a7 x).1 (a7 x).2⟩
theorem AcM.ask_ {w : World} (h : AcM w0 b tb rb T R w) {k : Nat} (hk : k < R.n) : ∃ g c, w.cell? ⟨rb, 1, none⟩ = some (.slice (some ⟨g, 0, none⟩) R.n c) ∧ R.n ≤ c ∧ rb < w.heap.size ∧ g < w.heap.size ∧ w.cell? ⟨g, k, none⟩ = some (.bool (R.asked k)) ∧ w.frozen? ⟨g, k, none⟩ = false ∧ ∀ x, AcM w0 b tb rb T { R with asked := fun i => if i = k then x else R.asked i } (w.setCell ⟨g, k, none⟩ (.bool x)) := by
  obtain ⟨O, P, h1, h2, k3, k4, k5⟩ := h.ex
  obtain ⟨g, c, a1, a2, a3, a4, a5, a6, a7⟩ := h2.ask_ hk
  exact ⟨g, c, a1, a2, a3, a4, a5, a6, fun x => h.rturn h1 k3 k4 k5 (a7 x).1 (a7 x).2⟩
theorem AcM.rpar {w : World} (h : AcM w0 b tb rb T R w) : ∃ g c, w.cell? ⟨rb, 0, none⟩ = some (.slice (some ⟨g, 0, none⟩) R.n c) ∧ R.n ≤ c ∧ rb < w.heap.size := by
  obtain ⟨O, P, h1, h2, k3, k4, k5⟩ := h.ex
  obtain ⟨g, c, q, r, a1, a2, a3, _⟩ := h2.par_
  exact ⟨g, c, a1, a2, a3⟩
theorem AcM.pos {w : World} (h : AcM w0 b tb rb T R w) : 0 < T.n := by
  obtain ⟨O, P, h1, _⟩ := h.ex
  exact h1.pos

/-- What holds between acts. -/
structure AcP (T : Sc) (i K sz : Nat) : Prop where
  did : Did T.s 3 K
  le : K ≤ i + 1
  z : T.z = sz
  d : ∀ k, k < T.n → T.nst k ≤ 32
  lv : ∀ k, k < T.n → -(i : Int) ≤ T.live k ∧ T.live k ≤ i
  n : T.n ≤ i + 1
  nz : 2 * T.n ≤ T.z

theorem AcP.on {T : Sc} {i K sz : Nat} (h : AcP T i K sz) : AcP T (i + 1) K sz :=
  ⟨h.did, by have := h.le; omega, h.z, h.d, fun k hk => by have := h.lv k hk; omega, by have := h.n; omega, h.nz⟩
theorem AcP.step {T : Sc} {i K sz j : Nat} (h : AcP T i K sz) (hj : j < 3) (hi : i ≤ 200) : AcP (T.step j) (i + 1) (K + 1) sz :=
  ⟨h.did.stp hj (by have := h.le; omega), by have := h.le; omega, h.z, h.d, fun k hk => by have := h.lv k hk; show -((i + 1 : Nat) : Int) ≤ T.live k ∧ T.live k ≤ ((i + 1 : Nat) : Int); omega, by have := h.n; show T.n ≤ i + 1 + 1; omega, h.nz⟩
theorem AcP.ask {T : Sc} {i K sz j k : Nat} (h : AcP T i K sz) (hj : j < 3) (hi : i ≤ 200) : AcP ((T.step j).ask k) (i + 1) (K + 1) sz :=
  let h' := h.step hj hi
  ⟨h'.did, h'.le, h'.z, h'.d, h'.lv, h'.n, h'.nz⟩
theorem AcP.add {T : Sc} {i K sz j k : Nat} {v : Int} (h : AcP T i K sz) (hj : j < 3) (hi : i ≤ 200) (hk : k < T.n) (hv : v = 1 ∨ v = -1) : AcP ((T.step j).add k v) (i + 1) (K + 1) sz := by
  have h' := h.step hj hi
  refine ⟨h'.did, h'.le, h'.z, h'.d, fun q hq => ?_, h'.n, h'.nz⟩
  show -((i + 1 : Nat) : Int) ≤ (if q = k then wrap64 (T.live k + v) else T.live q) ∧ (if q = k then wrap64 (T.live k + v) else T.live q) ≤ ((i + 1 : Nat) : Int)
  have h1 := h.lv k hk
  by_cases e : q = k
  · rw [if_pos e]
    unfold wrap64
    omega
  · rw [if_neg e]
    have := h.lv q hq
    omega
theorem AcP.opn {T : Sc} {i K sz j p : Nat} (h : AcP T i K sz) (hj : j < 3) (hi : i ≤ 200) (hp : p < T.n) (hd : T.nst p < 32) (hz : 2 * T.n + 2 ≤ T.z) : AcP ((T.step j).opn p) (i + 1) (K + 1) sz := by
  have h' := h.step hj hi
  refine ⟨h'.did, h'.le, h'.z, fun k hk => ?_, fun k hk => ?_, by have := h.n; show T.n + 1 ≤ i + 1 + 1; omega, by show 2 * (T.n + 1) ≤ T.z; omega⟩
  · have hk' : k < T.n + 1 := hk
    show (if k = T.n then T.nst p + 1 else T.nst k) ≤ 32
    split
    · omega
    · exact h.d k (by omega)
  · have hk' : k < T.n + 1 := hk
    show -((i + 1 : Nat) : Int) ≤ (if k = T.n then 0 else T.live k) ∧ (if k = T.n then 0 else T.live k) ≤ ((i + 1 : Nat) : Int)
    split
    · omega
    · have := h.lv k (by omega); omega
end
end Go.Proofs.Ytoajdknhllaoeaa
