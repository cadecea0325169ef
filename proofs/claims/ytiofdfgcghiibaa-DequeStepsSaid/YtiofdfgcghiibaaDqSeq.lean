/-
  Operations that nobody disturbs: how many steps they take, and what they leave.
-/
import Derived.Test.YtiofdfgcghiibaaDqLaw
namespace Go.Proofs.Ytiofdfgcghiibaa
open Go.RowKit
set_option linter.unusedVariables false

/-- A step that the table has. -/
def DOp.InR (o : DOp) : Prop := 1 ≤ o.nx ∧ (o.kind = 0 ∧ o.nx ≤ 8 ∨ o.kind = 1 ∧ o.nx ≤ 8 ∨ o.kind = 2 ∧ o.nx ≤ 5)

/-- The machine refuses nothing of what the next step asks. -/
def DOp.safe (o : DOp) (M : Mach) : Prop :=
  3 ≤ M.used ∧ o.InR ∧ match o.kind, o.nx with
  | 0, 3 => ∃ R : Rg, R.Right ∧ rd M 2 = R.word
  | 1, 2 => ∃ R : Rg, R.Right ∧ rd M 2 = R.word
  | 2, 3 => ∃ R : Rg, R.Right ∧ rd M 2 = R.word
  | 0, 4 => o.rg.Right ∧ 1 ≤ pow (o.rg.l + 1) ∧ 0 ≤ o.rg.l + 1 ∧ o.rg.l + 1 ≤ 8 ∧ (M.used : Int) + pow (o.rg.l + 1) ≤ M.all.length ∧ M.used ≤ 600 ∧ o.t < o.b ∧ o.b - o.t = pow o.rg.l
  | 0, 5 => o.rg.Right ∧ o.to.Right ∧ o.pl < o.b ∧ o.rg.place o.pl < M.used ∧ o.to.place o.pl < M.used ∧ 3 ≤ o.to.place o.pl ∧ o.b - o.t = pow o.rg.l ∧ o.to.l = o.rg.l + 1
  | 0, 6 => o.to.Right
  | 0, 7 => o.rg.Right ∧ o.rg.place o.b < M.used ∧ 3 ≤ o.rg.place o.b
  | 1, 6 => o.rg.Right ∧ o.rg.place (o.b - 1) < M.used
  | 2, 4 => o.rg.Right ∧ o.rg.place o.t < M.used
  | _, _ => True

section
variable {most x0 : Int} {M : Mach} {g : Int → Int} {nxt : Int} {R : Rg} {lb hi : Int} {o : DOp} {T0 : Int}

theorem DS.u3 (d : DS most M g nxt R lb hi) : 3 ≤ M.used := by
  have := d.ra
  have := d.ru
  have := pow_pos R.l
  omega

theorem Pu.safe (d : DS most M g nxt R lb hi) (h : Pu most M x0 R lb hi o T0) : o.safe M := by
  refine ⟨d.u3, ⟨h.n.1, .inl ⟨h.k, h.n.2⟩⟩, ?_⟩
  have hk := h.k
  have hn := h.n
  by_cases n1 : o.nx = 1
  · simp only [hk, n1]
  by_cases n2 : o.nx = 2
  · simp only [hk, n2]
  by_cases n3 : o.nx = 3
  · simp only [hk, n3]
    exact ⟨R, d.rt, d.wd⟩
  by_cases n4 : o.nx = 4
  · have r := h.room d n4
    have hr := h.rg (by omega)
    have hf := h.fu (by omega) (by omega)
    have hlen := d.len
    have us := d.us
    have hp := pow_pos R.l
    simp only [hk, n4]
    rw [hr] at r ⊢
    exact ⟨d.rt, r.1, r.2.2.1, r.2.2.2, by rw [hlen]; omega, us, by omega, hf.1⟩
  by_cases n5 : o.nx = 5
  · have hr := h.rg (by omega)
    have ht := h.to (by omega) (by omega)
    have hp := h.pl n5
    have p1 := d.pin o.pl
    have p2 := place_in ht.1 o.pl
    have hf := h.fu (by omega) (by omega)
    have ra := d.ra
    have hpw := pow_pos R.l
    simp only [hk, n5]
    rw [hr]
    exact ⟨d.rt, ht.1, hp.2, p1.2.2.1, by omega, by omega, hf.1, ht.2.1⟩
  by_cases n6 : o.nx = 6
  · have ht := h.to (by omega) (by omega)
    simp only [hk, n6]
    exact ht.1
  by_cases n7 : o.nx = 7
  · have hr := h.rg (by omega)
    have p1 := d.pin o.b
    simp only [hk, n7]
    rw [hr]
    exact ⟨d.rt, p1.2.2.1, p1.1⟩
  have n8 : o.nx = 8 := by omega
  simp only [hk, n8]

theorem Po.safe (d : DS most M g nxt R lb hi) (h : Po M g R lb hi o) : o.safe M := by
  refine ⟨d.u3, ⟨h.n.1, .inr (.inl ⟨h.k, h.n.2⟩)⟩, ?_⟩
  have hk := h.k
  have hn := h.n
  by_cases n2 : o.nx = 2
  · simp only [hk, n2]
    exact ⟨R, d.rt, d.wd⟩
  by_cases n6 : o.nx = 6
  · have hr := h.rg (by omega)
    have p1 := d.pin (o.b - 1)
    simp only [hk, n6]
    rw [hr]
    exact ⟨d.rt, p1.2.2.1⟩
  have h2 : o.nx = 1 ∨ o.nx = 3 ∨ o.nx = 4 ∨ o.nx = 5 ∨ o.nx = 7 ∨ o.nx = 8 := by omega
  rcases h2 with e | e | e | e | e | e <;> simp only [hk, e]

theorem Th.safe (d : DS most M g nxt R lb hi) (h : Th M R g lb o T0) : o.safe M := by
  refine ⟨d.u3, ⟨h.n.1, .inr (.inr ⟨h.k, h.n.2⟩)⟩, ?_⟩
  have hk := h.k
  have hn := h.n
  by_cases n3 : o.nx = 3
  · simp only [hk, n3]
    exact ⟨R, d.rt, d.wd⟩
  by_cases n4 : o.nx = 4
  · obtain ⟨a, b, c⟩ := h.rr n4
    have p := place_in a o.t
    simp only [hk, n4]
    exact ⟨a, by omega⟩
  have h2 : o.nx = 1 ∨ o.nx = 2 ∨ o.nx = 5 := by omega
  rcases h2 with e | e | e <;> simp only [hk, e]

/-- A step of a Push, whoever steals. -/
theorem Pu.step (d : DS most M g nxt R lb hi) (h : Pu most M x0 R lb hi o T0) :
    let r := o.act most M
    (r.1.how = 0 ∧ ∃ R', Pu most r.2 x0 R' lb hi r.1 T0 ∧ DS most r.2 g nxt R' lb hi ∧ Kp M r.2 R R' g g lb lb)
      ∨ (r.1.how = 4 ∧ o.nx = 3 ∧ hi - T0 = pow most ∧ r.2 = M ∧ Id M R lb hi)
      ∨ (r.1.how = 1 ∧ o.nx = 8 ∧ Id r.2 R (hi + 1) (hi + 1) ∧ DS most r.2 (put g hi x0) (nxt + 1) R (hi + 1) (hi + 1) ∧ Kp M r.2 R R g (put g hi x0) lb (hi + 1)) := by
  have hn := h.n
  have hk := h.k
  have hw := h.hw
  intro r
  by_cases n1 : o.nx = 1
  · have e : r = o.push1 M := by show DOp.act most o M = _; unfold DOp.act; simp only [hk, n1]
    rw [e]
    exact .inl ⟨hw, R, h.s1 d n1, d, Kp.refl _ _ _ _⟩
  by_cases n2 : o.nx = 2
  · have e : r = o.push2 M := by show DOp.act most o M = _; unfold DOp.act; simp only [hk, n2]
    rw [e]
    exact .inl ⟨hw, R, h.s2 d n2, d, Kp.refl _ _ _ _⟩
  by_cases n3 : o.nx = 3
  · have e : r = o.push3 most M := by show DOp.act most o M = _; unfold DOp.act; simp only [hk, n3]
    rw [e]
    rcases h.s3 d n3 with ⟨f1, f2, f3⟩ | ⟨f1, f2, f3⟩
    · exact .inr (.inl ⟨f1, n3, f2, f3, h.lh, h.hb, h.us (by omega)⟩)
    · rw [f2]
      exact .inl ⟨f3, R, f1, d, Kp.refl _ _ _ _⟩
  by_cases n4 : o.nx = 4
  · have e : r = o.push4 M := by show DOp.act most o M = _; unfold DOp.act; simp only [hk, n4]
    rw [e]
    obtain ⟨f1, f2, f3⟩ := h.s4 d n4
    exact .inl ⟨hw, R, f1, f2, f3⟩
  by_cases n5 : o.nx = 5
  · have e : r = o.push5 M := by show DOp.act most o M = _; unfold DOp.act; simp only [hk, n5]
    rw [e]
    obtain ⟨f1, f2, f3, f4⟩ := h.s5 d n5
    exact .inl ⟨f4, R, f1, f2, f3⟩
  by_cases n6 : o.nx = 6
  · have e : r = o.push6 M := by show DOp.act most o M = _; unfold DOp.act; simp only [hk, n6]
    rw [e]
    obtain ⟨f1, f2, f3⟩ := h.s6 d n6
    exact .inl ⟨hw, _, f1, f2, f3⟩
  by_cases n7 : o.nx = 7
  · have e : r = o.push7 M := by show DOp.act most o M = _; unfold DOp.act; simp only [hk, n7]
    rw [e]
    obtain ⟨f1, f2, f3⟩ := h.s7 d n7
    exact .inl ⟨hw, R, f1, f2, f3⟩
  have n8 : o.nx = 8 := by omega
  have e : r = o.push8 M := by show DOp.act most o M = _; unfold DOp.act; simp only [hk, n8]
  rw [e]
  obtain ⟨f1, f2, f3, f4, f5⟩ := h.s8 d n8
  exact .inr (.inr ⟨f1, n8, f2, f3, f4⟩)

/-- An operation done to its end: n steps, all of which the machine bears. -/
inductive Run (most : Int) : DOp → Mach → Nat → DOp → Mach → Prop
  | last (o : DOp) (M : Mach) (hs : o.safe M) (hb : o.how = 0 ∨ o.how = 2) (he : (o.act most M).1.how ≠ 0 ∧ (o.act most M).1.how ≠ 2) : Run most o M 1 (o.act most M).1 (o.act most M).2
  | step (o : DOp) (M : Mach) (n : Nat) (o' : DOp) (M' : Mach) (hs : o.safe M) (hb : o.how = 0 ∨ o.how = 2) (he : (o.act most M).1.how = 0 ∨ (o.act most M).1.how = 2) (hr : Run most (o.act most M).1 (o.act most M).2 n o' M') : Run most o M (n + 1) o' M'

/-- How many steps a Push has still to do, if nobody steals: n things are in it; whether the ring is doubled. -/
def leftP (grow : Bool) (n : Int) (o : DOp) : Int :=
  match o.nx with
  | 1 => if grow then 7 + 2 * n else 5
  | 2 => if grow then 6 + 2 * n else 4
  | 3 => if grow then 5 + 2 * n else 3
  | 4 => 4 + 2 * n
  | 5 => 3 + 2 * (o.b - o.pl) - (if o.ld then 1 else 0)
  | 6 => 3
  | 7 => 2
  | _ => 1

/-- A Push that nobody disturbs: each step but the last one takes one from what is left. -/
theorem Pu.less (d : DS most M g nxt R lb hi) (h : Pu most M x0 R lb hi o T0) (hT : rd M 0 = T0) (grow : Bool) (hg : o.nx ≤ 3 → grow = decide (pow R.l ≤ hi - T0)) (hg4 : 4 ≤ o.nx → o.nx ≤ 6 → grow = true) (h0 : (o.act most M).1.how = 0) :
    leftP grow (hi - T0) (o.act most M).1 + 1 = leftP grow (hi - T0) o ∧ ((o.act most M).1.nx ≤ 3 → o.nx ≤ 2) ∧ (4 ≤ (o.act most M).1.nx → (o.act most M).1.nx ≤ 6 → grow = true) ∧ (o.nx ≤ 2 → (o.act most M).2 = M) := by
  have hn := h.n
  have hk := h.k
  by_cases n1 : o.nx = 1
  · have e : o.act most M = o.push1 M := by unfold DOp.act; simp only [hk, n1]
    rw [e]
    unfold DOp.push1 leftP
    simp only [n1]
    cases grow <;> simp <;> omega
  by_cases n2 : o.nx = 2
  · have e : o.act most M = o.push2 M := by unfold DOp.act; simp only [hk, n2]
    rw [e]
    unfold DOp.push2 leftP
    simp only [n2]
    cases grow <;> simp <;> omega
  by_cases n3 : o.nx = 3
  · have e : o.act most M = o.push3 most M := by unfold DOp.act; simp only [hk, n3]
    have hg3 := hg (by omega)
    have ht := h.t (by omega)
    have hb := h.b (by omega)
    have er : rgOf (rd M 2) = R := by rw [d.wd, rgOf_word d.rt]
    rw [e] at h0 ⊢
    unfold DOp.push3 at h0 ⊢
    rw [er] at h0 ⊢
    dsimp only at h0 ⊢
    rw [size_eq d.rt] at h0 ⊢
    have et : o.t = T0 := by omega
    rw [hb, et] at h0 ⊢
    by_cases h1 : hi - T0 < pow R.l
    · have hgf : grow = false := by rw [hg3]; simp; omega
      rw [if_pos h1]
      unfold leftP
      simp only [n3, hgf]
      simp
    · rw [if_neg h1] at h0 ⊢
      have hgt : grow = true := by rw [hg3]; simp; omega
      by_cases h2 : most ≤ R.l
      · rw [if_pos h2] at h0
        simp at h0
      · rw [if_neg h2]
        unfold leftP
        simp only [n3, hgt]
        simp
        try omega
  by_cases n4 : o.nx = 4
  · have e : o.act most M = o.push4 M := by unfold DOp.act; simp only [hk, n4]
    have ht := h.t (by omega)
    have hb := h.b (by omega)
    have hgt := hg4 (by omega) (by omega)
    rw [e]
    unfold DOp.push4 leftP
    simp only [n4, hgt]
    simp
    try omega
  by_cases n5 : o.nx = 5
  · have e : o.act most M = o.push5 M := by unfold DOp.act; simp only [hk, n5]
    have hgt := hg4 (by omega) (by omega)
    have hp := h.pl n5
    rw [e]
    unfold DOp.push5
    by_cases hl : o.ld = true
    · rw [if_pos hl]
      by_cases hlast : o.pl + 1 = o.b
      · unfold leftP
        simp only [n5, hl, if_pos hlast, hgt]
        simp
        try omega
      · unfold leftP
        simp only [n5, hl, if_neg hlast, hgt]
        simp
        try omega
    · rw [if_neg hl]
      have hl' : o.ld = false := by simpa using hl
      unfold leftP
      simp only [n5, hl', hgt]
      simp
      try omega
  by_cases n6 : o.nx = 6
  · have e : o.act most M = o.push6 M := by unfold DOp.act; simp only [hk, n6]
    rw [e]
    unfold DOp.push6 leftP
    simp only [n6]
    simp
  by_cases n7 : o.nx = 7
  · have e : o.act most M = o.push7 M := by unfold DOp.act; simp only [hk, n7]
    rw [e]
    unfold DOp.push7 leftP
    simp only [n7]
    simp
  have n8 : o.nx = 8 := by omega
  have e : o.act most M = o.push8 M := by unfold DOp.act; simp only [hk, n8]
  rw [e] at h0
  unfold DOp.push8 at h0
  simp at h0

/-- A Push that nobody disturbs, from any step of it on. -/
theorem Pu.runs : ∀ (k : Nat) (M : Mach) (R : Rg) (o : DOp) (lb : Int), DS most M g nxt R lb hi → Pu most M x0 R lb hi o T0 → rd M 0 = T0 → ∀ grow : Bool, (o.nx ≤ 3 → grow = decide (pow R.l ≤ hi - T0)) → (4 ≤ o.nx → o.nx ≤ 6 → grow = true) →
    (o.nx ≤ 3 → hi - T0 < pow most) → leftP grow (hi - T0) o = k →
    ∃ o' M' R', Run most o M k o' M' ∧ o'.how = 1 ∧ DS most M' (put g hi x0) (nxt + 1) R' (hi + 1) (hi + 1) ∧ Id M' R' (hi + 1) (hi + 1) ∧ rd M' 0 = T0 := by
  intro k
  induction k with
  | zero =>
    intro M R o lb d h hT grow hg hg4 hr hk
    exfalso
    have hn := h.n
    have hs := d.hs
    have hp := h.pl
    have tl := d.tl
    have lh := d.lh
    unfold leftP at hk
    by_cases n1 : o.nx = 1
    · simp only [n1] at hk; split at hk <;> omega
    by_cases n2 : o.nx = 2
    · simp only [n2] at hk; split at hk <;> omega
    by_cases n3 : o.nx = 3
    · simp only [n3] at hk; split at hk <;> omega
    by_cases n4 : o.nx = 4
    · simp only [n4] at hk; omega
    by_cases n5 : o.nx = 5
    · have := hp n5
      simp only [n5] at hk; split at hk <;> omega
    have h6 : o.nx = 6 ∨ o.nx = 7 ∨ o.nx = 8 := by omega
    rcases h6 with e | e | e <;> simp only [e] at hk <;> omega
  | succ k ih =>
    intro M R o lb d h hT grow hg hg4 hr hk
    have hw := h.hw
    rcases h.step d with ⟨f1, R', f2, f3, f4⟩ | ⟨f1, f2, f3, f4, f5⟩ | ⟨f1, f2, f3, f4, f5⟩
    · obtain ⟨l1, l2, l3, l4⟩ := h.less d hT grow hg hg4 f1
      have hT' : rd (o.act most M).2 0 = T0 := by rw [f4.top]; exact hT
      have hR : o.nx ≤ 2 → R' = R := fun h2 => by
        have e := l4 h2
        have w1 := f3.wd
        rw [e, d.wd] at w1
        have := rgOf_word d.rt
        rw [w1, rgOf_word f3.rt] at this
        exact this
      obtain ⟨o', M', R'', r1, r2, r3, r4, r5⟩ := ih (o.act most M).2 R' (o.act most M).1 lb f3 f2 hT' grow
        (fun h3 => by have h2 := l2 h3; rw [hR h2]; exact hg (by omega)) (fun h4 h6 => l3 h4 h6) (fun h3 => hr (by have := l2 h3; omega)) (by omega)
      exact ⟨o', M', R'', .step o M k o' M' (h.safe d) (.inl hw) (.inl f1) r1, r2, r3, r4, r5⟩
    · have := hr (by omega)
      omega
    · have hk0 : k = 0 := by
        unfold leftP at hk
        simp only [f2] at hk
        omega
      subst hk0
      exact ⟨_, _, R, .last o M (h.safe d) (.inl hw) ⟨by rw [f1]; decide, by rw [f1]; decide⟩, f1, f4, f3, by rw [f5.top]; exact hT⟩
end
end Go.Proofs.Ytiofdfgcghiibaa
