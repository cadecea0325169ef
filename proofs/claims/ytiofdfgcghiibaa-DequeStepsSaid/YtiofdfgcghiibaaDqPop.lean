/-
  A Pop and a Steal, step by step.
-/
import Derived.Test.YtiofdfgcghiibaaDqInv
namespace Go.Proofs.Ytiofdfgcghiibaa
open Go.RowKit
set_option linter.unusedVariables false

section
variable {most x0 : Int} {M : Mach} {g : Int → Int} {nxt : Int} {R : Rg} {lb hi : Int} {o : DOp} {T0 : Int}

theorem Po.s1 (d : DS most M g nxt R lb hi) (h : Po M g R lb hi o) (hk : o.nx = 1) : Po M g R lb hi (o.pop1 M).1 := by
  have b3 := h.b3 (by omega)
  have l5 := h.l5 (by omega)
  have wf := h.wf (by omega)
  unfold DOp.pop1
  constructor
  all_goals (try dsimp only)
  all_goals first
    | (intro h1 h2; exfalso; omega)
    | (intro h1; exfalso; omega)
    | exact h.k
    | exact h.hw
    | exact h.us
    | (intro _; exact wf)
    | omega

theorem Po.s2 (d : DS most M g nxt R lb hi) (h : Po M g R lb hi o) (hk : o.nx = 2) : Po M g R lb hi (o.pop2 M).1 := by
  have b3 := h.b3 (by omega)
  have l5 := h.l5 (by omega)
  have wf := h.wf (by omega)
  have b := h.b (by omega)
  have e : rgOf (rd M 2) = R := by rw [d.wd, rgOf_word d.rt]
  unfold DOp.pop2
  rw [e]
  constructor
  all_goals (try dsimp only)
  all_goals first
    | (intro h1 h2; exfalso; omega)
    | (intro h1; exfalso; omega)
    | exact h.k
    | exact h.hw
    | exact h.us
    | (intro _; exact wf)
    | (intro _; rfl)
    | omega

theorem Po.s3 (d : DS most M g nxt R lb hi) (h : Po M g R lb hi o) (hk : o.nx = 3) :
    Po (o.pop3 M).2 g R lb hi (o.pop3 M).1 ∧ DS most (o.pop3 M).2 g nxt R lb hi ∧ Kp M (o.pop3 M).2 R R g g lb lb := by
  have b3 := h.b3 (by omega)
  have l5 := h.l5 (by omega)
  have wf := h.wf (by omega)
  have b := h.b (by omega)
  have rg := h.rg (by omega)
  have hlen := d.len
  have us := h.us
  unfold DOp.pop3
  dsimp only
  rw [b]
  have e1 : rd (wrc M 1 (hi - 1)) 1 = hi - 1 := rd_wr_same _ _ _ (by omega) (by rw [hlen]; omega)
  refine ⟨?_, d.wr1 _, Kp.wr1 M R g g lb lb _ (fun _ => rfl) id⟩
  constructor
  all_goals (try dsimp only)
  all_goals first
    | (intro h1 h2; exfalso; omega)
    | (intro h1; exfalso; omega)
    | exact h.k
    | exact h.hw
    | exact us
    | (intro _; exact wf)
    | (intro _; exact rg)
    | (intro _; exact e1)
    | omega

/-- The fourth step: there is nothing, or the last one is the owner's, or it is to be fought for. -/
theorem Po.s4 (d : DS most M g nxt R lb hi) (h : Po M g R lb hi o) (hk : o.nx = 4) :
    ∃ lb', Po M g R lb' hi (o.pop4 M).1 ∧ (o.pop4 M).2 = M ∧ DS most M g nxt R lb' hi ∧ Kp M M R R g g lb lb' := by
  have b4 := h.b4 (by omega)
  have l5 := h.l5 (by omega)
  have wf := h.wf (by omega)
  have b := h.b (by omega)
  have rg := h.rg (by omega)
  have us := h.us
  have tl := d.tl
  have ct := fun h1 => d.ct (hi - 1) h1 (by omega)
  unfold DOp.pop4
  dsimp only
  rw [b]
  by_cases h5 : hi - 1 < rd M 0
  · refine ⟨lb, ?_, rfl, d, Kp.refl _ _ _ _⟩
    rw [if_pos h5]
    constructor
    all_goals (try dsimp only)
    all_goals first
      | (intro h1 h2; exfalso; omega)
      | (intro h1; exfalso; omega)
      | exact h.k
      | exact h.hw
      | exact us
      | (intro _; exact wf)
      | (intro _; exact rg)
      | (intro _; exact b)
      | omega
  · rw [if_neg h5]
    by_cases h6 : rd M 0 < hi - 1
    · refine ⟨hi - 1, ?_, rfl, d.low (by omega) (by omega) (Int.le_refl _), Kp.low _ _ _ _ _ (fun _ => h6)⟩
      constructor
      all_goals (try dsimp only)
      all_goals first
        | (intro h1 h2; exfalso; omega)
        | (intro h1; exfalso; omega)
        | exact h.k
        | exact h.hw
        | exact us
        | (intro _; exact wf)
        | (intro _; exact rg)
        | (intro _; exact b)
        | (intro _; exact ct (by omega))
        | omega
        | (intro _ _; rfl)
    · refine ⟨lb, ?_, rfl, d, Kp.refl _ _ _ _⟩
      constructor
      all_goals (try dsimp only)
      all_goals first
        | (intro h1 h2; exfalso; omega)
        | (intro h1; exfalso; omega)
        | exact h.k
        | exact h.hw
        | exact us
        | (intro _; exact wf)
        | (intro _; exact rg)
        | (intro _; exact b)
        | (intro _; exact ct (by omega))
        | omega

/-- There was nothing. -/
theorem Po.s5 (d : DS most M g nxt R lb hi) (h : Po M g R lb hi o) (hk : o.nx = 5) :
    (o.pop5 M).1.how = 3 ∧ Id (o.pop5 M).2 R lb hi ∧ DS most (o.pop5 M).2 g nxt R lb hi ∧ Kp M (o.pop5 M).2 R R g g lb lb ∧ rd (o.pop5 M).2 0 = hi := by
  have l5 := h.l5 (by omega)
  have b := h.b (by omega)
  have t5 := h.t5 hk
  have hlen := d.len
  unfold DOp.pop5
  dsimp only
  rw [b]
  exact ⟨rfl, ⟨l5, (rd_wr_same _ _ _ (by omega) (by rw [hlen]; omega)).symm, h.us⟩, d.wr1 _, Kp.wr1 M R g g lb lb _ (fun _ => rfl) id, (rd_wr1 _ _ _ (by omega) (by omega)).trans t5⟩

/-- The sixth step: it is the owner's, or to be fought for. -/
theorem Po.s6 (d : DS most M g nxt R lb hi) (h : Po M g R lb hi o) (hk : o.nx = 6) :
    (o.pop6 M).2 = M ∧ (((o.pop6 M).1.how = 1 ∧ (o.pop6 M).1.got = g (hi - 1) ∧ rd M 0 ≤ hi - 1 ∧ Id M R (hi - 1) (hi - 1) ∧ DS most M g nxt R (hi - 1) (hi - 1) ∧ lb = hi - 1)
      ∨ ((o.pop6 M).1.how = 0 ∧ Po M g R lb hi (o.pop6 M).1)) := by
  have b4 := h.b4 (by omega)
  have b := h.b (by omega)
  have rg := h.rg (by omega)
  have us := h.us
  have t6 := h.t6 (by omega)
  have l6 := h.l6 hk
  have l6' := h.l6' hk
  have c6 := h.c6 hk
  have wf := h.wf (by omega)
  have hw := h.hw
  have tl := d.tl
  unfold DOp.pop6
  dsimp only
  rw [b, rg, c6]
  by_cases h1 : o.t < hi - 1
  · rw [if_pos h1]
    have e := l6 h1
    exact ⟨rfl, .inl ⟨rfl, rfl, by omega, ⟨rfl, by omega, us⟩, d.low (by omega) (Int.le_refl _) (by omega), e⟩⟩
  · rw [if_neg h1]
    refine ⟨rfl, .inr ⟨hw, ?_⟩⟩
    have e := l6' (by omega)
    constructor
    all_goals (try dsimp only)
    all_goals first
      | (intro h1 h2; exfalso; omega)
      | (intro h1; exfalso; omega)
      | exact h.k
      | exact hw
      | exact us
      | (intro _; exact wf)
      | (intro _; exact rg)
      | (intro _; exact b)
      | (intro _; exact ⟨e, by omega, rfl⟩)
      | (intro _; rfl)
      | omega

/-- The seventh step: whoever is first. -/
theorem Po.s7 (d : DS most M g nxt R lb hi) (h : Po M g R lb hi o) (hk : o.nx = 7) :
    Po (o.pop7 M).2 g R lb hi (o.pop7 M).1 ∧ DS most (o.pop7 M).2 g nxt R lb hi ∧ (o.pop7 M).1.how = 0
      ∧ ((rd M 0 = hi - 1 ∧ rd (o.pop7 M).2 0 = hi ∧ (o.pop7 M).1.won = true) ∨ (rd M 0 = hi ∧ (o.pop7 M).2 = M ∧ (o.pop7 M).1.won = false)) ∧ M.used ≤ (o.pop7 M).2.used := by
  have b4 := h.b4 (by omega)
  have b := h.b (by omega)
  have rg := h.rg (by omega)
  have us := h.us
  have t6 := h.t6 (by omega)
  have l7 := h.l7 (by omega)
  have wf := h.wf (by omega)
  have hw := h.hw
  have tl := d.tl
  have lh := d.lh
  have hlen := d.len
  unfold DOp.pop7
  by_cases h1 : rd M 0 = o.t
  · rw [if_pos h1]
    dsimp only
    have e : o.t + 1 = hi := by omega
    rw [e]
    have e0 : rd (wrc M 0 hi) 0 = hi := rd_wr_same _ _ _ (by omega) (by rw [hlen]; omega)
    have e1 : rd (wrc M 0 hi) 1 = rd M 1 := rd_wr0 _ _ _ (by omega)
    refine ⟨?_, d.wr0 hi (by omega) (by omega) (by omega), hw, .inl ⟨by omega, e0, rfl⟩, Nat.le_refl _⟩
    constructor
    all_goals (try dsimp only)
    all_goals first
      | (intro h1 h2; exfalso; omega)
      | (intro h1; exfalso; omega)
      | exact h.k
      | exact hw
      | exact us
      | (intro _; exact rg)
      | (intro _; exact b)
      | (intro _; exact l7)
      | (intro _; exact e0)
      | (rw [e1]; intro _; exact b4)
      | omega
  · rw [if_neg h1]
    refine ⟨?_, d, hw, .inr ⟨by omega, rfl, wf⟩, Nat.le_refl _⟩
    constructor
    all_goals (try dsimp only)
    all_goals first
      | (intro h1 h2; exfalso; omega)
      | (intro h1; exfalso; omega)
      | exact h.k
      | exact hw
      | exact us
      | (intro _; exact rg)
      | (intro _; exact b)
      | (intro _; exact l7)
      | (intro _; exact b4)
      | omega

/-- The last step. -/
theorem Po.s8 (d : DS most M g nxt R lb hi) (h : Po M g R lb hi o) (hk : o.nx = 8) :
    Id (o.pop8 M).2 R lb hi ∧ DS most (o.pop8 M).2 g nxt R lb hi ∧ Kp M (o.pop8 M).2 R R g g lb lb ∧ rd M 0 = hi ∧ rd (o.pop8 M).2 0 = hi
      ∧ (o.won = true → (o.pop8 M).1.how = 1 ∧ (o.pop8 M).1.got = g (hi - 1)) ∧ (o.won = false → (o.pop8 M).1.how = 3) := by
  have b := h.b (by omega)
  have l7 := h.l7 (by omega)
  have t8 := h.t8 hk
  have hlen := d.len
  have us := h.us
  unfold DOp.pop8
  have key : Id (wrc M 1 o.b) R lb hi ∧ DS most (wrc M 1 o.b) g nxt R lb hi ∧ Kp M (wrc M 1 o.b) R R g g lb lb ∧ rd M 0 = hi ∧ rd (wrc M 1 o.b) 0 = hi := by
    rw [b]
    exact ⟨⟨l7.1, (rd_wr_same _ _ _ (by omega) (by rw [hlen]; omega)).symm, us⟩, d.wr1 _, Kp.wr1 M R g g lb lb _ (fun _ => rfl) id, t8, (rd_wr1 _ _ _ (by omega) (by omega)).trans t8⟩
  obtain ⟨k1, k2, k3, k4, k5⟩ := key
  cases hwn : o.won
  · exact ⟨k1, k2, k3, k4, k5, (fun hh => by cases hh), fun _ => rfl⟩
  · exact ⟨k1, k2, k3, k4, k5, fun _ => ⟨rfl, l7.2.2⟩, fun hh => by cases hh⟩

/-! ### Thieves -/

theorem Th.s1 (d : DS most M g nxt R lb hi) (h : Th M R g lb o T0) (hk : o.nx = 1) : Th M R g lb (o.steal1 M).1 T0 := by
  have tt := h.tt
  have hw := h.hw (by omega)
  unfold DOp.steal1
  constructor
  all_goals (try dsimp only)
  all_goals first
    | (intro h1 h2; exfalso; omega)
    | (intro h1; exfalso; omega)
    | exact h.k
    | (intro _; exact hw)
    | exact tt
    | omega

theorem Th.s2 (d : DS most M g nxt R lb hi) (h : Th M R g lb o T0) (hk : o.nx = 2) (hB : rd M 1 ≤ lb) : (o.steal2 M).2 = M ∧ ((o.steal2 M).1.how = 3 ∨ Th M R g lb (o.steal2 M).1 T0 ∧ (o.steal2 M).1.how = o.how) := by
  have tt := h.tt
  have hw := h.hw (by omega)
  have le := h.le (by omega)
  unfold DOp.steal2
  by_cases h1 : o.t < rd M 1
  · rw [if_pos h1]
    refine ⟨rfl, .inr ⟨?_, rfl⟩⟩
    constructor
    all_goals (try dsimp only)
    all_goals first
      | (intro h1 h2; exfalso; omega)
      | (intro h1; exfalso; omega)
      | exact h.k
      | (intro _; exact hw)
      | exact tt
      | omega
      | (intro _; exact le)
  · rw [if_neg h1]
    exact ⟨rfl, .inl rfl⟩

theorem Th.s3 (d : DS most M g nxt R lb hi) (h : Th M R g lb o T0) (hk : o.nx = 3) : Th M R g lb (o.steal3 M).1 T0 := by
  have tt := h.tt
  have hw := h.hw (by omega)
  have le := h.le (by omega)
  have lt := h.lt (by omega)
  have lh := d.lh
  have e : rgOf (rd M 2) = R := by rw [d.wd, rgOf_word d.rt]
  unfold DOp.steal3
  rw [e]
  constructor
  all_goals (try dsimp only)
  all_goals first
    | (intro h1 h2; exfalso; omega)
    | (intro h1; exfalso; omega)
    | exact h.k
    | (intro _; exact hw)
    | exact tt
    | (intro _; exact le)
    | (intro _; exact lt)
    | (intro _; exact ⟨d.rt, d.ra, d.ru⟩)
    | (intro _; exact .inl rfl)
    | (intro _ ht; exact d.ct _ (by omega) (by have := lt ht; omega))
    | omega

theorem Th.s4 (d : DS most M g nxt R lb hi) (h : Th M R g lb o T0) (hk : o.nx = 4) : Th M R g lb (o.steal4 M).1 T0 ∧ (o.steal4 M).1.how = 2 := by
  have tt := h.tt
  have hw := h.hw (by omega)
  have le := h.le (by omega)
  have lt := h.lt (by omega)
  have ce := h.ce hk
  unfold DOp.steal4
  refine ⟨?_, rfl⟩
  constructor
  all_goals (try dsimp only)
  all_goals first
    | (intro h1 h2; exfalso; omega)
    | (intro h1; exfalso; omega)
    | exact h.k
    | (intro _; rfl)
    | exact tt
    | (intro _; exact le)
    | (intro _; exact lt)
    | (intro _; exact ce)
    | omega

/-- The last step: it has taken what was first, or it is late. -/
theorem Th.s5 (d : DS most M g nxt R lb hi) (h : Th M R g lb o T0) (hk : o.nx = 5) :
    ((o.steal5 M).1.how = 1 ∧ (o.steal5 M).1.got = g (rd M 0) ∧ rd M 0 < lb ∧ (o.steal5 M).2 = wrc M 0 (rd M 0 + 1) ∧ DS most (wrc M 0 (rd M 0 + 1)) g nxt R lb hi ∧ rd (wrc M 0 (rd M 0 + 1)) 0 = rd M 0 + 1)
      ∨ ((o.steal5 M).1.how = 5 ∧ T0 < rd M 0 ∧ (o.steal5 M).2 = M) := by
  have tt := h.tt
  have hw := h.hw
  have le := h.le (by omega)
  have lt := h.lt (by omega)
  have go := h.go hk
  have lh := d.lh
  have t0 := d.t0
  have hlen := d.len
  unfold DOp.steal5
  by_cases h1 : rd M 0 = o.t
  · rw [if_pos h1]
    left
    have l := lt h1.symm
    dsimp only
    rw [h1]
    exact ⟨rfl, go h1.symm, l, rfl, by rw [← h1]; exact d.wr0 _ (by omega) (by omega) lh, rd_wr_same _ _ _ (by omega) (by rw [hlen]; omega)⟩
  · rw [if_neg h1]
    exact .inr ⟨rfl, by omega, rfl⟩

/-- What the owner does bears that the top goes on below what thieves may take. -/
theorem Pu.top (h : Pu most M x0 R lb hi o T0) (d : DS most M g nxt R lb hi) (hl : rd M 0 < lb) : Pu most (wrc M 0 (rd M 0 + 1)) x0 R lb hi o T0 := by
  have t0 := d.t0
  have hlen := d.len
  have e0 : rd (wrc M 0 (rd M 0 + 1)) 0 = rd M 0 + 1 := rd_wr_same _ _ _ (by omega) (by rw [hlen]; omega)
  have e1 : rd (wrc M 0 (rd M 0 + 1)) 1 = rd M 1 := rd_wr0 _ _ _ (by omega)
  have eR : ∀ i, rd (wrc M 0 (rd M 0 + 1)) (R.place i) = rd M (R.place i) := fun i => by
    have := d.pin i
    exact rd_wr0 _ _ _ (by omega)
  have eT : 5 ≤ o.nx → o.nx ≤ 6 → ∀ i, rd (wrc M 0 (rd M 0 + 1)) (o.to.place i) = rd M (o.to.place i) := fun h5 h6 i => by
    obtain ⟨a, b, c, e⟩ := h.to h5 h6
    have := place_in a i
    have := d.ra
    have := pow_pos R.l
    exact rd_wr0 _ _ _ (by omega)
  exact ⟨h.k, h.hw, h.x, h.n, h.lh, by rw [e1]; exact h.hb, by rw [e0]; have := h.tt; omega, h.had, h.b, fun h3 => by rw [e0]; have := h.t h3; omega, h.t3, h.rg, h.fu, h.to, h.pl,
    fun h5 i a b => by rw [eT (by omega) (by omega), eR]; exact h.cp h5 i a b, fun h5 l => by rw [eR]; exact h.cx h5 l, fun h6 i a b => by rw [eT (by omega) (by omega), eR]; exact h.dn h6 i a b, h.fi,
    fun h8 => by rw [eR]; exact h.wr h8, h.us, h.us2, h.us3, h.ful⟩

theorem Po.top (h : Po M g R lb hi o) (d : DS most M g nxt R lb hi) (hl : rd M 0 < lb) : Po (wrc M 0 (rd M 0 + 1)) g R lb hi o := by
  have t0 := d.t0
  have hlen := d.len
  have lh := d.lh
  have e0 : rd (wrc M 0 (rd M 0 + 1)) 0 = rd M 0 + 1 := rd_wr_same _ _ _ (by omega) (by rw [hlen]; omega)
  have e1 : rd (wrc M 0 (rd M 0 + 1)) 1 = rd M 1 := rd_wr0 _ _ _ (by omega)
  have eR : ∀ i, rd (wrc M 0 (rd M 0 + 1)) (R.place i) = rd M (R.place i) := fun i => by
    have := d.pin i
    exact rd_wr0 _ _ _ (by omega)
  exact ⟨h.k, h.hw, h.n, h.b, fun h3 => by rw [e1]; exact h.b3 h3, fun h4 => by rw [e1]; exact h.b4 h4, h.rg, h.l5, fun h5 => by have := h.t5 h5; have := h.l5 (by omega); omega, fun h6 => by rw [e0]; have := h.t6 h6; omega, h.l6, h.l6',
    fun h6 => by rw [eR]; exact h.c6 h6, h.l7, fun h8 => by have := h.t8 h8; omega, h.wf, h.us⟩

theorem Id.top (h : Id M R lb hi) (d : DS most M g nxt R lb hi) : Id (wrc M 0 (rd M 0 + 1)) R lb hi :=
  ⟨h.lh, by rw [rd_wr0 _ _ _ (by omega)]; exact h.hb, h.us⟩
end
end Go.Proofs.Ytiofdfgcghiibaa
