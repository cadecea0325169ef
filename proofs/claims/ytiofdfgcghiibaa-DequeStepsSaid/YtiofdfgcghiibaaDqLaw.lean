/-
  An owner and three thieves, in any order: what each step leaves, and what it may tell.
-/
import Derived.Test.YtiofdfgcghiibaaDqPush
import Derived.Test.YtiofdfgcghiibaaDqPop
import Derived.Test.YtiofdfgcghiibaaDqIn
namespace Go.Proofs.Ytiofdfgcghiibaa
open Go.RowKit
set_option linter.unusedVariables false

def upd {α : Type} (f : Nat → α) (w : Nat) (x : α) (k : Nat) : α := if k = w then x else f k
theorem upd_same {α : Type} (f : Nat → α) (w : Nat) (x : α) : upd f w x w = x := if_pos rfl
theorem upd_ne {α : Type} (f : Nat → α) (w : Nat) (x : α) (k : Nat) (h : k ≠ w) : upd f w x k = f k := if_neg h

structure LI (most : Int) (M : Mach) (ops : Nat → DOp) (busy : Nat → Bool) (top : Nat → Int) (pushes : Bool) (had : Nat) (inn : List Bool) (nxt : Nat) (g : Int → Int) (R : Rg) (lb hi a : Int) : Prop where
  d : DS most M g nxt R lb hi
  th : ∀ w, 1 ≤ w → w < 4 → busy w = true → Th M R g lb (ops w) (top w)
  idl : busy 0 = false → Id M R lb hi ∧ a = rd M 0
  pu : busy 0 = true → pushes = true → Pu most M nxt R lb hi (ops 0) (top 0) ∧ a = rd M 0 ∧ (had : Int) = hi - top 0
  po : busy 0 = true → pushes = false → Po M g R lb hi (ops 0) ∧ a = (if (ops 0).nx = 8 ∧ (ops 0).won = true then hi - 1 else rd M 0)
  io : In inn g a hi
  nv : ∀ i, a ≤ i → i < hi → 1 ≤ g i ∧ g i < nxt
  nl : nxt < inn.length

theorem In.void {l : List Bool} {g : Int → Int} {a b : Int} (h : In l g a a) : In l g b b :=
  ⟨Int.le_refl _, fun n => ⟨fun hh => by obtain ⟨i, i1, i2, _⟩ := (h.io n).1 hh; omega, fun ⟨i, i1, i2, _⟩ => by omega⟩, fun i j i1 _ j2 => by omega, fun i i1 i2 => by omega⟩

section
variable {most : Int} {M : Mach} {ops : Nat → DOp} {busy : Nat → Bool} {top : Nat → Int} {pushes : Bool} {had : Nat} {inn : List Bool} {nxt : Nat} {g : Int → Int} {R : Rg} {lb hi a : Int}

/-- A thief begins. -/
theorem LI.begin2 (h : LI most M ops busy top pushes had inn nxt g R lb hi a) (w : Nat) (h1 : 1 ≤ w) :
    LI most M (upd ops w (beginOp 2 0)) (upd busy w true) (upd top w (rd M 0)) pushes had inn nxt g R lb hi a := by
  have w0 : 0 ≠ w := by omega
  refine ⟨h.d, ?_, ?_, ?_, ?_, h.io, h.nv, h.nl⟩
  · intro v v1 v4 hb
    by_cases hv : v = w
    · subst hv
      rw [upd_same, upd_same]
      constructor
      all_goals (try dsimp only [beginOp])
      all_goals first
        | (intro x1 x2; exfalso; omega)
        | (intro x1; exfalso; omega)
        | rfl
        | (intro _; rfl)
        | omega
    · rw [upd_ne _ _ _ _ hv] at hb
      rw [upd_ne _ _ _ _ hv, upd_ne _ _ _ _ hv]
      exact h.th v v1 v4 hb
  · rw [upd_ne _ _ _ _ w0]
    exact h.idl
  · rw [upd_ne _ _ _ _ w0, upd_ne _ _ _ _ w0, upd_ne _ _ _ _ w0]
    exact h.pu
  · rw [upd_ne _ _ _ _ w0, upd_ne _ _ _ _ w0]
    exact h.po

/-- The owner begins a Push, or a Pop. -/
theorem LI.begin0 (h : LI most M ops busy top pushes had inn nxt g R lb hi a) (hb : busy 0 = false) :
    LI most M (upd ops 0 (beginOp 0 nxt)) (upd busy 0 true) (upd top 0 (rd M 0)) true (cb inn inn.length) inn nxt g R lb hi a := by
  obtain ⟨hI, ha⟩ := h.idl hb
  refine ⟨h.d, ?_, ?_, ?_, ?_, h.io, h.nv, h.nl⟩
  · intro v v1 v4 hbv
    have hv : v ≠ 0 := by omega
    rw [upd_ne _ _ _ _ hv] at hbv
    rw [upd_ne _ _ _ _ hv, upd_ne _ _ _ _ hv]
    exact h.th v v1 v4 hbv
  · intro hh
    rw [upd_same] at hh
    cases hh
  · intro _ _
    rw [upd_same, upd_same]
    refine ⟨?_, ha, by rw [h.io.count, ha]⟩
    have hs := h.d.hs
    have lh := hI.lh
    have hbb := hI.hb
    have us := hI.us
    constructor
    all_goals (try dsimp only [beginOp])
    all_goals first
      | (intro x1 x2; exfalso; omega)
      | (intro x1; exfalso; omega)
      | rfl
      | omega
  · intro _ hh
    cases hh

theorem LI.begin1 (h : LI most M ops busy top pushes had inn nxt g R lb hi a) (hb : busy 0 = false) (t : Int) (k : Nat) :
    LI most M (upd ops 0 (beginOp 1 0)) (upd busy 0 true) (upd top 0 t) false k inn nxt g R lb hi a := by
  obtain ⟨hI, ha⟩ := h.idl hb
  refine ⟨h.d, ?_, ?_, ?_, ?_, h.io, h.nv, h.nl⟩
  · intro v v1 v4 hbv
    have hv : v ≠ 0 := by omega
    rw [upd_ne _ _ _ _ hv] at hbv
    rw [upd_ne _ _ _ _ hv, upd_ne _ _ _ _ hv]
    exact h.th v v1 v4 hbv
  · intro hh
    rw [upd_same] at hh
    cases hh
  · intro _ hh
    cases hh
  · intro _ _
    rw [upd_same]
    refine ⟨?_, by rw [if_neg (by simp [beginOp])]; exact ha⟩
    have lh := hI.lh
    have hbb := hI.hb
    have us := hI.us
    constructor
    all_goals (try dsimp only [beginOp])
    all_goals first
      | (intro x1 x2; exfalso; omega)
      | (intro x1; exfalso; omega)
      | rfl
      | (intro _; rfl)
      | omega

/-- A thief goes no further. -/
theorem LI.quit (h : LI most M ops busy top pushes had inn nxt g R lb hi a) (w : Nat) (h1 : 1 ≤ w) (o : DOp) :
    LI most M (upd ops w o) (upd busy w false) top pushes had inn nxt g R lb hi a := by
  have w0 : 0 ≠ w := by omega
  refine ⟨h.d, ?_, ?_, ?_, ?_, h.io, h.nv, h.nl⟩
  · intro v v1 v4 hb
    by_cases hv : v = w
    · subst hv
      rw [upd_same] at hb
      cases hb
    · rw [upd_ne _ _ _ _ hv] at hb
      rw [upd_ne _ _ _ _ hv]
      exact h.th v v1 v4 hb
  · rw [upd_ne _ _ _ _ w0]
    exact h.idl
  · rw [upd_ne _ _ _ _ w0, upd_ne _ _ _ _ w0]
    exact h.pu
  · rw [upd_ne _ _ _ _ w0, upd_ne _ _ _ _ w0]
    exact h.po

theorem LI.thOp (h : LI most M ops busy top pushes had inn nxt g R lb hi a) (w : Nat) (h1 : 1 ≤ w) (o : DOp) (ho : Th M R g lb o (top w)) :
    LI most M (upd ops w o) busy top pushes had inn nxt g R lb hi a := by
  have w0 : 0 ≠ w := by omega
  refine ⟨h.d, ?_, h.idl, ?_, ?_, h.io, h.nv, h.nl⟩
  · intro v v1 v4 hb
    by_cases hv : v = w
    · subst hv
      rw [upd_same]
      exact ho
    · rw [upd_ne _ _ _ _ hv]
      exact h.th v v1 v4 hb
  · rw [upd_ne _ _ _ _ w0]
    exact h.pu
  · rw [upd_ne _ _ _ _ w0]
    exact h.po

theorem LI.bot_le (h : LI most M ops busy top pushes had inn nxt g R lb hi a) : rd M 1 ≤ lb := by
  cases hb : busy 0
  · obtain ⟨hI, _⟩ := h.idl hb
    have := hI.lh
    have := hI.hb
    omega
  · cases hp : pushes
    · obtain ⟨hP, _⟩ := h.po hb hp
      have hn := hP.n
      have tl := h.d.tl
      by_cases h3 : (ops 0).nx ≤ 3
      · have := hP.b3 h3
        have := hP.l5 (by omega)
        omega
      · have b4 := hP.b4 (by omega)
        by_cases h5 : (ops 0).nx ≤ 5
        · have := hP.l5 h5
          omega
        · by_cases h6 : (ops 0).nx = 6
          · by_cases h7 : (ops 0).t < hi - 1
            · have := hP.l6 h6 h7
              omega
            · have := hP.l6' h6 (by have := hP.t6 (by omega); omega)
              omega
          · have := (hP.l7 (by omega)).1
            omega
    · obtain ⟨hP, _⟩ := h.pu hb hp
      have := hP.lh
      have := hP.hb
      omega

/-- A thief has taken the first one. -/
theorem LI.took (h : LI most M ops busy top pushes had inn nxt g R lb hi a) (w : Nat) (h1 : 1 ≤ w) (o : DOp) (hl : rd M 0 < lb) (ds : DS most (wrc M 0 (rd M 0 + 1)) g nxt R lb hi) (e0 : rd (wrc M 0 (rd M 0 + 1)) 0 = rd M 0 + 1) :
    1 ≤ g (rd M 0) ∧ g (rd M 0) < nxt ∧ inn.getD (g (rd M 0)).toNat false = true ∧ cb (inn.set (g (rd M 0)).toNat false) (g (rd M 0)).toNat = 0
      ∧ LI most (wrc M 0 (rd M 0 + 1)) (upd ops w o) (upd busy w false) top pushes had (inn.set (g (rd M 0)).toNat false) nxt g R lb hi (a + 1) := by
  have lh := h.d.lh
  have w0 : 0 ≠ w := by omega
  have ha : a = rd M 0 := by
    cases hb : busy 0
    · exact (h.idl hb).2
    · cases hp : pushes
      · obtain ⟨hP, e⟩ := h.po hb hp
        rw [e]
        refine if_neg (fun hh => ?_)
        have := hP.t8 hh.1
        omega
      · exact (h.pu hb hp).2.1
  have hin := h.io
  rw [ha] at hin
  obtain ⟨f1, f2, f3⟩ := hin.first (by omega)
  have vl := h.nv (rd M 0) (by omega) (by omega)
  refine ⟨vl.1, vl.2, f1, f3, ⟨ds, ?_, ?_, ?_, ?_, by rw [ha]; exact f2, fun i i1 i2 => h.nv i (by omega) i2, by rw [List.length_set]; exact h.nl⟩⟩
  · intro v v1 v4 hb
    by_cases hv : v = w
    · subst hv
      rw [upd_same] at hb
      cases hb
    · rw [upd_ne _ _ _ _ hv] at hb
      rw [upd_ne _ _ _ _ hv]
      exact (h.th v v1 v4 hb).late (by omega) (Nat.le_refl _)
  · rw [upd_ne _ _ _ _ w0]
    intro hb
    obtain ⟨hI, e⟩ := h.idl hb
    exact ⟨hI.top h.d, by omega⟩
  · rw [upd_ne _ _ _ _ w0, upd_ne _ _ _ _ w0]
    intro hb hp
    obtain ⟨hP, e, e3⟩ := h.pu hb hp
    exact ⟨hP.top h.d hl, by omega, e3⟩
  · rw [upd_ne _ _ _ _ w0, upd_ne _ _ _ _ w0]
    intro hb hp
    obtain ⟨hP, e⟩ := h.po hb hp
    refine ⟨hP.top h.d hl, ?_⟩
    rw [if_neg (fun hh => by have := hP.t8 hh.1; omega)]
    omega

/-- A step of a thief's. -/
theorem LI.thief (h : LI most M ops busy top pushes had inn nxt g R lb hi a) (w : Nat) (h1 : 1 ≤ w) (h4 : w < 4) (hb : busy w = true) :
    let r := (ops w).act most M
    (r.1.how = 0 ∧ r.2 = M ∧ LI most M (upd ops w r.1) busy top pushes had inn nxt g R lb hi a)
      ∨ (r.1.how = 2 ∧ r.2 = M ∧ LI most M (upd ops w r.1) busy top pushes had inn nxt g R lb hi a)
      ∨ (r.1.how = 3 ∧ r.2 = M)
      ∨ (r.1.how = 5 ∧ r.2 = M ∧ top w < rd M 0)
      ∨ (r.1.how = 1 ∧ ∃ n : Nat, r.1.got = n ∧ 1 ≤ n ∧ n < nxt ∧ inn.getD n false = true ∧ cb (inn.set n false) n = 0
          ∧ LI most r.2 (upd ops w r.1) (upd busy w false) top pushes had (inn.set n false) nxt g R lb hi (a + 1)) := by
  have T := h.th w h1 h4 hb
  have hn := T.n
  have hk := T.k
  intro r
  by_cases n1 : (ops w).nx = 1
  · have e : r = (ops w).steal1 M := by show DOp.act most (ops w) M = _; unfold DOp.act; simp only [hk, n1]
    rw [e]
    exact .inl ⟨T.hw (by omega), rfl, h.thOp w h1 _ (T.s1 h.d n1)⟩
  by_cases n2 : (ops w).nx = 2
  · have e : r = (ops w).steal2 M := by show DOp.act most (ops w) M = _; unfold DOp.act; simp only [hk, n2]
    rw [e]
    obtain ⟨e2, e3⟩ := T.s2 h.d n2 h.bot_le
    rcases e3 with e3 | ⟨e3, e4⟩
    · exact .inr (.inr (.inl ⟨e3, e2⟩))
    · exact .inl ⟨e4.trans (T.hw (by omega)), e2, h.thOp w h1 _ e3⟩
  by_cases n3 : (ops w).nx = 3
  · have e : r = (ops w).steal3 M := by show DOp.act most (ops w) M = _; unfold DOp.act; simp only [hk, n3]
    rw [e]
    exact .inl ⟨T.hw (by omega), rfl, h.thOp w h1 _ (T.s3 h.d n3)⟩
  by_cases n4 : (ops w).nx = 4
  · have e : r = (ops w).steal4 M := by show DOp.act most (ops w) M = _; unfold DOp.act; simp only [hk, n4]
    rw [e]
    obtain ⟨e2, e3⟩ := T.s4 h.d n4
    exact .inr (.inl ⟨e3, rfl, h.thOp w h1 _ e2⟩)
  have n5 : (ops w).nx = 5 := by omega
  have e : r = (ops w).steal5 M := by show DOp.act most (ops w) M = _; unfold DOp.act; simp only [hk, n5]
  rw [e]
  rcases T.s5 h.d n5 with ⟨e1, e2, e3, e4, e5, e6⟩ | ⟨e1, e2, e3⟩
  · obtain ⟨f1, f2, f3, f4, f5⟩ := h.took w h1 ((ops w).steal5 M).1 e3 e5 e6
    refine .inr (.inr (.inr (.inr ⟨e1, (g (rd M 0)).toNat, by rw [e2]; omega, by omega, by omega, f3, f4, ?_⟩)))
    rw [e4]
    exact f5
  · exact .inr (.inr (.inr (.inl ⟨e1, e3, e2⟩)))

/-- The owner's operation goes on. -/
theorem LI.puOp (h : LI most M ops busy top pushes had inn nxt g R lb hi a) (hb : busy 0 = true) (hp : pushes = true) (o : DOp) (M' : Mach) (R' : Rg)
    (ho : Pu most M' nxt R' lb hi o (top 0)) (hd : DS most M' g nxt R' lb hi) (hk : Kp M M' R R' g g lb lb) : LI most M' (upd ops 0 o) busy top pushes had inn nxt g R' lb hi a := by
  obtain ⟨_, e2, e3⟩ := h.pu hb hp
  refine ⟨hd, ?_, ?_, ?_, ?_, h.io, h.nv, h.nl⟩
  · intro v v1 v4 hbv
    rw [upd_ne _ _ _ _ (by omega)]
    exact (h.th v v1 v4 hbv).keep hk
  · intro hh
    rw [hb] at hh
    cases hh
  · intro _ _
    rw [upd_same]
    exact ⟨ho, by rw [hk.top]; exact e2, e3⟩
  · intro _ hh
    rw [hp] at hh
    cases hh

/-- The owner's operation is over. -/
theorem LI.over (h : LI most M ops busy top pushes had inn nxt g R lb hi a) (o : DOp) {M' : Mach} {inn' : List Bool} {nxt' : Nat} {g' : Int → Int} {lb' hi' a' : Int}
    (hd : DS most M' g' nxt' R lb' hi') (hI : Id M' R lb' hi') (hk : Kp M M' R R g g' lb lb') (ha : a' = rd M' 0) (hi : In inn' g' a' hi') (hv : ∀ i, a' ≤ i → i < hi' → 1 ≤ g' i ∧ g' i < nxt') (hn : nxt' < inn'.length) :
    LI most M' (upd ops 0 o) (upd busy 0 false) top pushes had inn' nxt' g' R lb' hi' a' := by
  refine ⟨hd, ?_, fun _ => ⟨hI, ha⟩, ?_, ?_, hi, hv, hn⟩
  · intro v v1 v4 hbv
    have hv : v ≠ 0 := by omega
    rw [upd_ne _ _ _ _ hv] at hbv
    rw [upd_ne _ _ _ _ hv]
    exact (h.th v v1 v4 hbv).keep hk
  · intro hh
    rw [upd_same] at hh
    cases hh
  · intro hh
    rw [upd_same] at hh
    cases hh

/-- A step of the owner's Push. -/
theorem LI.push (h : LI most M ops busy top pushes had inn nxt g R lb hi a) (hb : busy 0 = true) (hp : pushes = true) (hnl : nxt + 1 < inn.length) :
    let r := (ops 0).act most M
    (r.1.how = 0 ∧ ∃ R', LI most r.2 (upd ops 0 r.1) busy top pushes had inn nxt g R' lb hi a)
      ∨ (r.1.how = 4 ∧ (had : Int) = pow most ∧ LI most r.2 (upd ops 0 r.1) (upd busy 0 false) top pushes had inn nxt g R lb hi a)
      ∨ (r.1.how = 1 ∧ (pow most ≤ had → top 0 < rd r.2 0) ∧ LI most r.2 (upd ops 0 r.1) (upd busy 0 false) top pushes had (inn.set nxt true) (nxt + 1) (put g hi nxt) R (hi + 1) (hi + 1) a) := by
  obtain ⟨P, e2, e3⟩ := h.pu hb hp
  have hn := P.n
  have hk := P.k
  have hw := P.hw
  intro r
  by_cases n1 : (ops 0).nx = 1
  · have e : r = (ops 0).push1 M := by show DOp.act most (ops 0) M = _; unfold DOp.act; simp only [hk, n1]
    rw [e]
    exact .inl ⟨hw, R, h.puOp hb hp _ _ _ (P.s1 h.d n1) h.d (Kp.refl _ _ _ _)⟩
  by_cases n2 : (ops 0).nx = 2
  · have e : r = (ops 0).push2 M := by show DOp.act most (ops 0) M = _; unfold DOp.act; simp only [hk, n2]
    rw [e]
    exact .inl ⟨hw, R, h.puOp hb hp _ _ _ (P.s2 h.d n2) h.d (Kp.refl _ _ _ _)⟩
  by_cases n3 : (ops 0).nx = 3
  · have e : r = (ops 0).push3 most M := by show DOp.act most (ops 0) M = _; unfold DOp.act; simp only [hk, n3]
    rw [e]
    rcases P.s3 h.d n3 with ⟨f1, f2, f3⟩ | ⟨f1, f2, f3⟩
    · refine .inr (.inl ⟨f1, by omega, ?_⟩)
      rw [f3]
      exact h.over _ h.d ⟨P.lh, P.hb, P.us (by omega)⟩ (Kp.refl _ _ _ _) e2 h.io h.nv h.nl
    · rw [f2]
      exact .inl ⟨f3, R, h.puOp hb hp _ _ _ f1 h.d (Kp.refl _ _ _ _)⟩
  by_cases n4 : (ops 0).nx = 4
  · have e : r = (ops 0).push4 M := by show DOp.act most (ops 0) M = _; unfold DOp.act; simp only [hk, n4]
    rw [e]
    obtain ⟨f1, f2, f3⟩ := P.s4 h.d n4
    exact .inl ⟨hw, R, h.puOp hb hp _ _ _ f1 f2 f3⟩
  by_cases n5 : (ops 0).nx = 5
  · have e : r = (ops 0).push5 M := by show DOp.act most (ops 0) M = _; unfold DOp.act; simp only [hk, n5]
    rw [e]
    obtain ⟨f1, f2, f3, f4⟩ := P.s5 h.d n5
    exact .inl ⟨f4, R, h.puOp hb hp _ _ _ f1 f2 f3⟩
  by_cases n6 : (ops 0).nx = 6
  · have e : r = (ops 0).push6 M := by show DOp.act most (ops 0) M = _; unfold DOp.act; simp only [hk, n6]
    rw [e]
    obtain ⟨f1, f2, f3⟩ := P.s6 h.d n6
    exact .inl ⟨hw, _, h.puOp hb hp _ _ _ f1 f2 f3⟩
  by_cases n7 : (ops 0).nx = 7
  · have e : r = (ops 0).push7 M := by show DOp.act most (ops 0) M = _; unfold DOp.act; simp only [hk, n7]
    rw [e]
    obtain ⟨f1, f2, f3⟩ := P.s7 h.d n7
    exact .inl ⟨hw, R, h.puOp hb hp _ _ _ f1 f2 f3⟩
  have n8 : (ops 0).nx = 8 := by omega
  have e : r = (ops 0).push8 M := by show DOp.act most (ops 0) M = _; unfold DOp.act; simp only [hk, n8]
  rw [e]
  obtain ⟨f1, f2, f3, f4, f5⟩ := P.s8 h.d n8
  have e0 : rd ((ops 0).push8 M).2 0 = rd M 0 := f4.top
  refine .inr (.inr ⟨f1, ?_, ?_⟩)
  · intro hh
    rw [e0]
    have rl := h.d.rl
    have hs := h.d.hs
    have r0 := h.d.rt.1
    by_cases hm : R.l = most
    · have := f5 hm
      rw [hm] at this
      omega
    · have ps := pow_succ R.l r0
      have pm : pow (R.l + 1) ≤ pow most := pow_mono (by omega) (by omega)
      have := pow_pos R.l
      omega
  · have hin := h.io.more nxt h.nl h.io.ab (fun i i1 i2 => (h.nv i i1 i2).2)
    refine h.over _ (nxt' := nxt + 1) (by exact f3) f2 f4 (by rw [e0]; exact e2) hin (fun i i1 i2 => by
      unfold put
      by_cases hh : i = hi
      · rw [if_pos hh]
        have := h.d.hn
        have := h.d.t0
        have := h.d.tl
        have := h.d.lh
        omega
      · rw [if_neg hh]
        have := h.nv i i1 (by omega)
        omega) (by rw [List.length_set]; exact hnl)

/-- The owner's Pop goes on. -/
theorem LI.poOp (h : LI most M ops busy top pushes had inn nxt g R lb hi a) (hb : busy 0 = true) (hp : pushes = false) (o : DOp) (M' : Mach) (lb' : Int)
    (ho : Po M' g R lb' hi o) (hd : DS most M' g nxt R lb' hi) (hth : ∀ w, 1 ≤ w → w < 4 → busy w = true → Th M' R g lb' (ops w) (top w)) (ha : a = (if o.nx = 8 ∧ o.won = true then hi - 1 else rd M' 0)) :
    LI most M' (upd ops 0 o) busy top pushes had inn nxt g R lb' hi a := by
  refine ⟨hd, ?_, ?_, ?_, ?_, h.io, h.nv, h.nl⟩
  · intro v v1 v4 hbv
    rw [upd_ne _ _ _ _ (by omega)]
    exact hth v v1 v4 hbv
  · intro hh
    rw [hb] at hh
    cases hh
  · intro _ hh
    rw [hp] at hh
    cases hh
  · intro _ _
    rw [upd_same]
    exact ⟨ho, ha⟩

/-- A step of the owner's Pop. -/
theorem LI.pop (h : LI most M ops busy top pushes had inn nxt g R lb hi a) (hb : busy 0 = true) (hp : pushes = false) :
    let r := (ops 0).act most M
    (r.1.how = 0 ∧ ∃ lb', LI most r.2 (upd ops 0 r.1) busy top pushes had inn nxt g R lb' hi a)
      ∨ (r.1.how = 3 ∧ cb inn inn.length = 0 ∧ ∃ lb' a', LI most r.2 (upd ops 0 r.1) (upd busy 0 false) top pushes had inn nxt g R lb' hi a')
      ∨ (r.1.how = 1 ∧ ∃ n : Nat, r.1.got = n ∧ 1 ≤ n ∧ n < nxt ∧ inn.getD n false = true ∧ cb (inn.set n false) (inn.set n false).length = cb (inn.set n false) n
          ∧ ∃ lb' hi' a', LI most r.2 (upd ops 0 r.1) (upd busy 0 false) top pushes had (inn.set n false) nxt g R lb' hi' a') := by
  obtain ⟨P, e2⟩ := h.po hb hp
  have hn := P.n
  have hk := P.k
  have hw := P.hw
  intro r
  have a7 : (ops 0).nx ≠ 8 → a = rd M 0 := fun hh => by rw [e2, if_neg (fun h8 => hh h8.1)]
  by_cases n1 : (ops 0).nx = 1
  · have e : r = (ops 0).pop1 M := by show DOp.act most (ops 0) M = _; unfold DOp.act; simp only [hk, n1]
    rw [e]
    exact .inl ⟨hw, lb, h.poOp hb hp _ _ _ (P.s1 h.d n1) h.d h.th (by rw [if_neg (by simp [DOp.pop1])]; exact a7 (by omega))⟩
  by_cases n2 : (ops 0).nx = 2
  · have e : r = (ops 0).pop2 M := by show DOp.act most (ops 0) M = _; unfold DOp.act; simp only [hk, n2]
    rw [e]
    exact .inl ⟨hw, lb, h.poOp hb hp _ _ _ (P.s2 h.d n2) h.d h.th (by rw [if_neg (by simp [DOp.pop2])]; exact a7 (by omega))⟩
  by_cases n3 : (ops 0).nx = 3
  · have e : r = (ops 0).pop3 M := by show DOp.act most (ops 0) M = _; unfold DOp.act; simp only [hk, n3]
    rw [e]
    obtain ⟨f1, f2, f3⟩ := P.s3 h.d n3
    exact .inl ⟨hw, lb, h.poOp hb hp _ _ _ f1 f2 (fun v v1 v4 hv => (h.th v v1 v4 hv).keep f3) (by rw [if_neg (by simp [DOp.pop3]), f3.top]; exact a7 (by omega))⟩
  by_cases n4 : (ops 0).nx = 4
  · have e : r = (ops 0).pop4 M := by show DOp.act most (ops 0) M = _; unfold DOp.act; simp only [hk, n4]
    rw [e]
    obtain ⟨lb', f1, f2, f3, f4⟩ := P.s4 h.d n4
    rw [f2]
    refine .inl ⟨hw, lb', h.poOp hb hp _ _ _ f1 f3 (fun v v1 v4 hv => (h.th v v1 v4 hv).keep f4) ?_⟩
    rw [if_neg (fun hh => by have := f1.wf; have h8 := hh.1; unfold DOp.pop4 at h8; dsimp only at h8; split at h8 <;> omega)]
    exact a7 (by omega)
  by_cases n5 : (ops 0).nx = 5
  · have e : r = (ops 0).pop5 M := by show DOp.act most (ops 0) M = _; unfold DOp.act; simp only [hk, n5]
    rw [e]
    obtain ⟨f1, f2, f3, f4, f5⟩ := P.s5 h.d n5
    have ha := a7 (by omega)
    have e0 := f4.top
    refine .inr (.inl ⟨f1, ?_, lb, a, h.over _ f3 f2 f4 (by omega) h.io h.nv h.nl⟩)
    have := h.io.count
    omega
  by_cases n6 : (ops 0).nx = 6
  · have e : r = (ops 0).pop6 M := by show DOp.act most (ops 0) M = _; unfold DOp.act; simp only [hk, n6]
    rw [e]
    have ha := a7 (by omega)
    have nv := h.nv (hi - 1)
    obtain ⟨f0, f | f⟩ := P.s6 h.d n6
    · obtain ⟨f1, f2, f3, f4, f5, f6⟩ := f
      obtain ⟨g1, g2, g3⟩ := h.io.last (by omega)
      refine .inr (.inr ⟨f1, (g (hi - 1)).toNat, by rw [f2]; omega, by omega, by omega, g1, g3, hi - 1, hi - 1, a, ?_⟩)
      rw [f0]
      refine h.over _ f5 f4 ?_ ha g2 (fun i i1 i2 => h.nv i i1 (by omega)) (by rw [List.length_set]; exact h.nl)
      rw [← f6]
      exact Kp.refl _ _ _ _
    · rw [f0]
      refine .inl ⟨f.1, lb, h.poOp hb hp _ _ _ f.2 h.d h.th ?_⟩
      rw [if_neg (fun hh => by have h8 := hh.1; unfold DOp.pop6 at h8; dsimp only at h8; split at h8 <;> simp at h8)]
      exact ha
  by_cases n7 : (ops 0).nx = 7
  · have e : r = (ops 0).pop7 M := by show DOp.act most (ops 0) M = _; unfold DOp.act; simp only [hk, n7]
    rw [e]
    have ha := a7 (by omega)
    obtain ⟨f1, f2, f3, f4, f5⟩ := P.s7 h.d n7
    have nx8 : ((ops 0).pop7 M).1.nx = 8 := by unfold DOp.pop7; split <;> rfl
    rcases f4 with ⟨w1, w2, w3⟩ | ⟨w1, w2, w3⟩
    · refine .inl ⟨f3, lb, h.poOp hb hp _ _ _ f1 f2 (fun v v1 v4 hv => (h.th v v1 v4 hv).late (by omega) f5) ?_⟩
      rw [if_pos ⟨nx8, w3⟩]
      omega
    · refine .inl ⟨f3, lb, h.poOp hb hp _ _ _ f1 f2 (fun v v1 v4 hv => by rw [w2]; exact h.th v v1 v4 hv) ?_⟩
      rw [if_neg (fun hh => by rw [w3] at hh; cases hh.2), w2]
      exact ha
  have n8 : (ops 0).nx = 8 := by omega
  have e : r = (ops 0).pop8 M := by show DOp.act most (ops 0) M = _; unfold DOp.act; simp only [hk, n8]
  rw [e]
  obtain ⟨f1, f2, f3, f4, f5, f6, f7⟩ := P.s8 h.d n8
  have l7 := P.l7 (by omega)
  have nv := h.nv (hi - 1)
  cases hwn : (ops 0).won
  · rw [hwn, if_neg (fun hh => by cases hh.2)] at e2
    refine .inr (.inl ⟨f7 hwn, ?_, lb, a, h.over _ f2 f1 f3 (by omega) h.io h.nv h.nl⟩)
    have := h.io.count
    omega
  · rw [hwn, if_pos ⟨n8, rfl⟩] at e2
    obtain ⟨k1, k2⟩ := f6 hwn
    obtain ⟨g1, g2, g3⟩ := h.io.last (by omega)
    refine .inr (.inr ⟨k1, (g (hi - 1)).toNat, by rw [k2]; omega, by omega, by omega, g1, g3, lb, hi, hi, h.over _ f2 f1 f3 (by omega) ?_ (fun i i1 i2 => by omega) (by rw [List.length_set]; exact h.nl)⟩)
    rw [e2] at g2
    exact g2.void

/-- While the owner has nothing under way, what is in the deque are the truths, in order. -/
theorem LI.lies (h : LI most M ops busy top pushes had inn nxt g R lb hi a) (hb : busy 0 = false) : rd M 1 = hi ∧ In inn g (rd M 0) hi ∧ (∀ i, rd M 0 ≤ i → i < hi → rd M (R.place i) = g i) ∧ rd M 2 = R.word ∧ R.Right := by
  obtain ⟨hI, ha⟩ := h.idl hb
  exact ⟨hI.hb.symm, ha ▸ h.io, h.d.ct, h.d.wd, h.d.rt⟩
end
end Go.Proofs.Ytiofdfgcghiibaa
