/-
  A Push, step by step.
-/
import Derived.Test.YtiofdfgcghiibaaDqInv
namespace Go.Proofs.Ytiofdfgcghiibaa
open Go.RowKit
set_option linter.unusedVariables false

section
variable {most x0 : Int} {M : Mach} {g : Int → Int} {nxt : Int} {R : Rg} {lb hi : Int} {o : DOp} {T0 : Int}

theorem Pu.s1 (d : DS most M g nxt R lb hi) (h : Pu most M x0 R lb hi o T0) (hk : o.nx = 1) : Pu most M x0 R lb hi (o.push1 M).1 T0 := by
  have hh := h.had
  have hb := h.hb
  have hu := h.us (by omega)
  unfold DOp.push1
  constructor
  all_goals (try dsimp only)
  all_goals first
    | (intro h1 h2; exfalso; omega)
    | (intro h1; exfalso; omega)
    | exact h.k
    | exact h.hw
    | exact h.x
    | exact h.lh
    | exact h.tt
    | omega

theorem Pu.s2 (d : DS most M g nxt R lb hi) (h : Pu most M x0 R lb hi o T0) (hk : o.nx = 2) : Pu most M x0 R lb hi (o.push2 M).1 T0 := by
  have hh := h.had
  have hb := h.hb
  have hu := h.us (by omega)
  have b := h.b (by omega)
  have ht := h.tt
  have hs := d.hs
  unfold DOp.push2
  constructor
  all_goals (try dsimp only)
  all_goals first
    | (intro h1 h2; exfalso; omega)
    | (intro h1; exfalso; omega)
    | exact h.k
    | exact h.hw
    | exact h.x
    | exact h.lh
    | exact h.tt
    | omega

/-- The third step: the ring has room, or it is to be doubled, or the Push is Full. -/
theorem Pu.s3 (d : DS most M g nxt R lb hi) (h : Pu most M x0 R lb hi o T0) (hk : o.nx = 3) :
    ((o.push3 most M).1.how = 4 ∧ hi - T0 = pow most ∧ (o.push3 most M).2 = M) ∨ (Pu most M x0 R lb hi (o.push3 most M).1 T0 ∧ (o.push3 most M).2 = M ∧ (o.push3 most M).1.how = 0) := by
  have hb := h.hb
  have hu := h.us (by omega)
  have b := h.b (by omega)
  have t := h.t (by omega)
  have t3 := h.t3 hk
  have rl := d.rl
  have hx := h.hw
  have e : rgOf (rd M 2) = R := by rw [d.wd, rgOf_word d.rt]
  unfold DOp.push3
  rw [e]
  dsimp only
  rw [size_eq d.rt]
  have hs := d.hs
  have tt := h.tt
  have had := h.had
  by_cases h1 : o.b - o.t < pow R.l
  · right
    rw [if_pos h1]
    refine ⟨?_, rfl, hx⟩
    constructor
    all_goals (try dsimp only)
    all_goals first
      | (intro h1 h2; exfalso; omega)
      | (intro h1; exfalso; omega)
      | exact h.k
      | exact h.hw
      | exact h.x
      | exact h.lh
      | exact h.tt
      | omega
      | (intro _; rfl)
  · rw [if_neg h1]
    by_cases h2 : most ≤ R.l
    · left
      rw [if_pos h2]
      have e2 : R.l = most := by omega
      rw [e2] at had t3 hs h1
      refine ⟨rfl, ?_, rfl⟩
      omega
    · right
      rw [if_neg h2]
      refine ⟨?_, rfl, hx⟩
      constructor
      all_goals (try dsimp only)
      all_goals first
        | (intro h1 h2; exfalso; omega)
        | (intro h1; exfalso; omega)
        | exact h.k
        | exact h.hw
        | exact h.x
        | exact h.lh
        | exact h.tt
        | omega
        | (intro _; rfl)

theorem rd_give' (n : Nat) (k : Int) : rd (M.give n) k = rd M k := rfl

theorem DS.give (d : DS most M g nxt R lb hi) (n : Nat) (h : M.used + n ≤ 600) : DS most (M.give n) g nxt R lb hi :=
  ⟨d.len, h, d.rt, d.ra, by have := d.ru; show R.a + pow R.l ≤ ((M.used + n : Nat) : Int); omega, d.rl, d.m8, d.wd, d.t0, d.tl, d.lh, d.hs, d.hn, d.ct⟩

theorem Kp.give (n : Nat) : Kp M (M.give n) R R g g lb lb := ⟨rfl, Nat.le_add_right _ _, .inl rfl, fun _ => rfl, id, fun _ _ _ _ _ => rfl⟩

/-- There is room for a ring of double size. -/
theorem Pu.room (d : DS most M g nxt R lb hi) (h : Pu most M x0 R lb hi o T0) (hk : o.nx = 4) : 1 ≤ pow (o.rg.l + 1) ∧ (M.used : Int) + pow (o.rg.l + 1) ≤ 600 ∧ 0 ≤ o.rg.l + 1 ∧ o.rg.l + 1 ≤ 8 := by
  have hu := h.us (by omega)
  have hr := h.rg (by omega)
  have hf := h.fu (by omega) (by omega)
  have m8 := d.m8
  have r0 := d.rt.1
  rw [hr, pow_succ _ r0]
  have := pow_pos R.l
  have : pow R.l ≤ pow 7 := pow_mono r0 (by omega)
  have e7 : pow 7 = 128 := rfl
  omega

theorem Pu.s4 (d : DS most M g nxt R lb hi) (h : Pu most M x0 R lb hi o T0) (hk : o.nx = 4) :
    Pu most (o.push4 M).2 x0 R lb hi (o.push4 M).1 T0 ∧ DS most (o.push4 M).2 g nxt R lb hi ∧ Kp M (o.push4 M).2 R R g g lb lb := by
  have hroom := h.room d hk
  have hb := h.hb
  have hu := h.us (by omega)
  have b := h.b (by omega)
  have t := h.t (by omega)
  have hr := h.rg (by omega)
  have hf := h.fu (by omega) (by omega)
  have r0 := d.rt.1
  have ru := d.ru
  have ra := d.ra
  have had := h.had
  have hp := pow_pos R.l
  have ps := pow_succ R.l r0
  rw [hr] at hroom
  obtain ⟨n, hn⟩ : ∃ n : Nat, pow (R.l + 1) = n := Int.eq_ofNat_of_zero_le (by omega)
  unfold DOp.push4
  dsimp only
  rw [hr]
  rw [hn] at hroom ps ⊢
  simp only [Int.toNat_natCast]
  refine ⟨?_, d.give n (by omega), Kp.give n⟩
  have hus : ((M.give n).used : Int) = M.used + n := by show ((M.used + n : Nat) : Int) = _; omega
  have hto : Rg.Right ⟨(M.used : Int), R.l + 1⟩ := ⟨by simp only; omega, by simp only; omega, by simp only; omega, by simp only; rw [hn]; omega⟩
  constructor
  all_goals (try dsimp only)
  all_goals first
    | (intro h1 h2; exfalso; omega)
    | (intro h1; exfalso; omega)
    | exact h.k
    | exact h.hw
    | exact h.x
    | exact h.lh
    | exact h.tt
    | exact h.hb
    | (intro _; exact t)
    | (intro _; rfl)
    | (intro _; exact hr)
    | (intro _ _; exact hf)
    | (intro _ _; exact ⟨hto, rfl, by omega, by rw [hn]; omega⟩)
    | (intro _ i h1 h2; exfalso; omega)
    | (intro _ _; rw [hn]; omega)
    | omega
    | (intro _ hh; cases hh)

theorem Pu.to_off (d : DS most M g nxt R lb hi) (h : Pu most M x0 R lb hi o T0) (h5 : 5 ≤ o.nx) (h6 : o.nx ≤ 6) (i j : Int) : o.to.place i ≠ R.place j ∧ 3 ≤ o.to.place i ∧ o.to.place i < 600 := by
  obtain ⟨a, b, c, e⟩ := h.to h5 h6
  have := place_in a i
  have := place_in d.rt j
  have := d.ra
  have := pow_pos R.l
  have := d.us
  omega

/-- A turn of a cell of the new ring is none of the deque's. -/
theorem DS.wrTo (d : DS most M g nxt R lb hi) (k x : Int) (h3 : 3 ≤ k) (hk : ∀ i, k ≠ R.place i) : DS most (wrc M k x) g nxt R lb hi := by
  have e0 : rd (wrc M k x) 0 = rd M 0 := rd_wr_far M k 0 x (by omega) (by omega) (by omega)
  have e2 : rd (wrc M k x) 2 = rd M 2 := rd_wr_far M k 2 x (by omega) (by omega) (by omega)
  refine ⟨by rw [wr_len]; exact d.len, d.us, d.rt, d.ra, d.ru, d.rl, d.m8, by rw [e2]; exact d.wd, by rw [e0]; exact d.t0, by rw [e0]; exact d.tl, d.lh, by rw [e0]; exact d.hs, d.hn, ?_⟩
  · intro i hi1 hi2
    rw [e0] at hi1
    have := d.pin i
    rw [rd_wr_far _ _ _ _ (by omega) (by omega) (hk i)]
    exact d.ct i hi1 hi2

theorem Kp.wrTo (k x : Int) (h3 : 3 ≤ k) (hk : R.a + pow R.l ≤ k) : Kp M (wrc M k x) R R g g lb lb := by
  refine ⟨rd_wr_far M k 0 x (by omega) (by omega) (by omega), Nat.le_refl _, .inl rfl, fun _ => rfl, id, fun r hr hR h3' _ => ?_⟩
  have hp := place_in hR (rd M 0)
  have hR0 := pow_pos R.l
  refine rd_wr_far M k _ x (by omega) (by omega) ?_
  rcases hr with rfl | hr
  · omega
  · omega

theorem Pu.s5 (d : DS most M g nxt R lb hi) (h : Pu most M x0 R lb hi o T0) (hk : o.nx = 5) :
    Pu most (o.push5 M).2 x0 R lb hi (o.push5 M).1 T0 ∧ DS most (o.push5 M).2 g nxt R lb hi ∧ Kp M (o.push5 M).2 R R g g lb lb ∧ (o.push5 M).1.how = 0 := by
  have hb := h.hb
  have b := h.b (by omega)
  have t := h.t (by omega)
  have hr := h.rg (by omega)
  have hf := h.fu (by omega) (by omega)
  have hto := h.to (by omega) (by omega)
  have hpl := h.pl hk
  have hcp := h.cp hk
  have hcx := h.cx hk
  have hu2 := h.us2 (by omega) (by omega)
  have hoff := fun i j => h.to_off d (by omega) (by omega) i j
  have hlen := d.len
  have hx := h.hw
  have had := h.had
  have psz : pow o.to.l = 2 * pow R.l := by rw [hto.2.1]; exact pow_succ _ d.rt.1
  unfold DOp.push5
  by_cases hl : o.ld = true
  · rw [if_pos hl]
    have hcx := hcx hl
    dsimp only
    have hp := hoff o.pl 0
    have hpi := place_in hto.1 o.pl
    refine ⟨?_, d.wrTo _ _ hp.2.1 (fun i => (hoff o.pl i).1), Kp.wrTo _ _ hp.2.1 (by omega), hx⟩
    have e1 : rd (wrc M (o.to.place o.pl) o.cx) 1 = rd M 1 := rd_wr_far _ _ _ _ (by omega) (by omega) (by omega)
    have e0 : rd (wrc M (o.to.place o.pl) o.cx) 0 = rd M 0 := rd_wr_far _ _ _ _ (by omega) (by omega) (by omega)
    have eR : ∀ i, rd (wrc M (o.to.place o.pl) o.cx) (R.place i) = rd M (R.place i) := fun i => by
      have := d.pin i
      exact rd_wr_far _ _ _ _ (by omega) (by omega) (hoff o.pl i).1
    have eT : ∀ i, o.t ≤ i → i < o.pl + 1 → rd (wrc M (o.to.place o.pl) o.cx) (o.to.place i) = rd M (R.place i) := fun i h1 h2 => by
      have hpi2 := hoff i 0
      by_cases hi : i = o.pl
      · rw [hi, rd_wr_same _ _ _ (by omega) (by rw [hlen]; omega)]
        exact hcx
      · rw [rd_wr_far _ _ _ _ (by omega) (by omega) (Ne.symm (place_ne hto.1 (show i < o.pl by omega) (by omega)))]
        exact hcp i h1 (by omega)
    by_cases hlast : o.pl + 1 = o.b
    · constructor
      all_goals (try dsimp only)
      all_goals try rw [if_pos hlast]
      all_goals first
        | (intro h1 h2; exfalso; omega)
        | (intro h1; exfalso; omega)
        | exact h.k
        | exact h.hw
        | exact h.x
        | exact h.lh
        | (rw [e0]; exact h.tt)
        | (rw [e1]; exact h.hb)
        | (rw [e0]; intro _; exact t)
        | (intro _; exact hr)
        | (intro _ _; exact hf)
        | (intro _ _; exact hto)
        | (intro _ i h1 h2; rw [eR]; exact eT i h1 (by omega))
        | (intro _ _; exact hu2)
        | omega
    · constructor
      all_goals (try dsimp only)
      all_goals try rw [if_neg hlast]
      all_goals first
        | (intro h1 h2; exfalso; omega)
        | (intro h1; exfalso; omega)
        | exact h.k
        | exact h.hw
        | exact h.x
        | exact h.lh
        | (rw [e0]; exact h.tt)
        | (rw [e1]; exact h.hb)
        | (rw [e0]; intro _; exact t)
        | (intro _; exact hr)
        | (intro _ _; exact hf)
        | (intro _ _; exact hto)
        | (intro _ i h1 h2; rw [eR]; exact eT i h1 (by omega))
        | (intro _ _; exact hu2)
        | omega
        | (intro _ hh; cases hh)
  · rw [if_neg hl]
    refine ⟨?_, d, Kp.refl _ _ _ _, hx⟩
    constructor
    all_goals (try dsimp only)
    all_goals first
      | (intro h1 h2; exfalso; omega)
      | (intro h1; exfalso; omega)
      | exact h.k
      | exact h.hw
      | exact h.x
      | exact h.lh
      | exact h.tt
      | exact h.hb
      | (intro _; exact t)
      | (intro _; exact hr)
      | (intro _ _; exact hf)
      | (intro _ _; exact hto)
      | (intro _; exact hpl)
      | (intro _; exact hcp)
      | (intro _ _; exact hu2)
      | (intro _ _; rw [hr])
      | omega

theorem Pu.s6 (d : DS most M g nxt R lb hi) (h : Pu most M x0 R lb hi o T0) (hk : o.nx = 6) :
    Pu most (o.push6 M).2 x0 o.to lb hi (o.push6 M).1 T0 ∧ DS most (o.push6 M).2 g nxt o.to lb hi ∧ Kp M (o.push6 M).2 R o.to g g lb lb := by
  have hb := h.hb
  have b := h.b (by omega)
  have t := h.t (by omega)
  have hf := h.fu (by omega) (by omega)
  have hto := h.to (by omega) (by omega)
  have hdn := h.dn hk
  have hu2 := h.us2 (by omega) (by omega)
  have hlen := d.len
  have had := h.had
  have lh := h.lh
  have psz : pow o.to.l = 2 * pow R.l := by rw [hto.2.1]; exact pow_succ _ d.rt.1
  have hp := pow_pos R.l
  have ra := d.ra
  have us := d.us
  have m8 := d.m8
  have tl := d.tl
  have hs := d.hs
  unfold DOp.push6
  dsimp only
  have e0 : rd (wrc M 2 o.to.word) 0 = rd M 0 := rd_wr_far _ _ _ _ (by omega) (by omega) (by omega)
  have e1 : rd (wrc M 2 o.to.word) 1 = rd M 1 := rd_wr_far _ _ _ _ (by omega) (by omega) (by omega)
  have eP : ∀ k, 3 ≤ k → rd (wrc M 2 o.to.word) k = rd M k := fun k hk => rd_wr_far _ _ _ _ (by omega) (by omega) (by omega)
  refine ⟨?_, ?_, ?_⟩
  · constructor
    all_goals (try dsimp only)
    all_goals first
      | (intro h1 h2; exfalso; omega)
      | (intro h1; exfalso; omega)
      | exact h.k
      | exact h.hw
      | exact h.x
      | exact h.lh
      | (rw [e0]; exact h.tt)
      | (rw [e1]; exact h.hb)
      | (rw [e0]; intro _; exact t)
      | (intro _; rfl)
      | (intro _; exact hu2)
      | omega
  · refine ⟨by rw [wr_len]; exact d.len, d.us, hto.1, by omega, hto.2.2.2, by omega, m8, rd_wr_same _ _ _ (by omega) (by rw [hlen]; omega), by rw [e0]; exact d.t0, by rw [e0]; exact d.tl, d.lh, by rw [e0]; omega, d.hn, ?_⟩
    · intro i h1 h2
      rw [e0] at h1
      have hpi := place_in hto.1 i
      have hpR := d.pin i
      rw [eP _ (by omega), hdn i (by omega) (by omega)]
      exact d.ct i h1 h2
  · refine ⟨e0, Nat.le_refl _, .inr hto.2.2.1, fun _ => rfl, id, fun r hr hR h3 _ => ?_⟩
    have := place_in hR (rd M 0)
    exact eP _ (by omega)

theorem Pu.s7 (d : DS most M g nxt R lb hi) (h : Pu most M x0 R lb hi o T0) (hk : o.nx = 7) :
    Pu most (o.push7 M).2 x0 R lb hi (o.push7 M).1 T0 ∧ DS most (o.push7 M).2 g nxt R lb hi ∧ Kp M (o.push7 M).2 R R g g lb lb := by
  have hb := h.hb
  have b := h.b (by omega)
  have t := h.t (by omega)
  have hr := h.rg (by omega)
  have hfi := h.fi (by omega)
  have hu3 := h.us3 (by omega)
  have hfl := h.ful (by omega)
  have hlen := d.len
  have lh := h.lh
  have hp := d.pin o.b
  have tl := d.tl
  unfold DOp.push7
  dsimp only
  rw [hr]
  have e0 : rd (wrc M (R.place o.b) o.x) 0 = rd M 0 := rd_wr_far _ _ _ _ (by omega) (by omega) (by omega)
  have e1 : rd (wrc M (R.place o.b) o.x) 1 = rd M 1 := rd_wr_far _ _ _ _ (by omega) (by omega) (by omega)
  have e2 : rd (wrc M (R.place o.b) o.x) 2 = rd M 2 := rd_wr_far _ _ _ _ (by omega) (by omega) (by omega)
  have eP : ∀ i, rd M 0 ≤ i → i < o.b → rd (wrc M (R.place o.b) o.x) (R.place i) = rd M (R.place i) := fun i h1 h2 => by
    have := d.pin i
    exact rd_wr_far _ _ _ _ (by omega) (by omega) (Ne.symm (place_ne d.rt h2 (by omega)))
  refine ⟨?_, ?_, ?_⟩
  · constructor
    all_goals (try dsimp only)
    all_goals first
      | (intro h1 h2; exfalso; omega)
      | (intro h1; exfalso; omega)
      | exact h.k
      | exact h.hw
      | exact h.x
      | exact h.lh
      | (rw [e0]; exact h.tt)
      | (rw [e1]; exact h.hb)
      | (rw [e0]; intro _; exact t)
      | (intro _; exact hr)
      | (intro _; rfl)
      | (intro _; exact hfi)
      | (intro _; exact hu3)
      | (intro _; exact hfl)
      | (intro _; exact rd_wr_same _ _ _ (by omega) (by rw [hlen]; omega))
      | omega
  · refine ⟨by rw [wr_len]; exact d.len, d.us, d.rt, d.ra, d.ru, d.rl, d.m8, by rw [e2]; exact d.wd, by rw [e0]; exact d.t0, by rw [e0]; exact d.tl, d.lh, by rw [e0]; exact d.hs, d.hn, ?_⟩
    · intro i h1 h2
      rw [e0] at h1
      rw [eP i h1 (by omega)]
      exact d.ct i h1 h2
  · refine ⟨e0, Nat.le_refl _, .inl rfl, fun _ => rfl, id, fun r hr hR h3 hlt => ?_⟩
    rcases hr with rfl | hr
    · exact eP _ (Int.le_refl _) (by omega)
    · have hpi := place_in hR (rd M 0)
      have hpb := place_in d.rt o.b
      exact rd_wr_far _ _ _ _ (by omega) (by omega) (by omega)

/-- The last step: what was pushed is in it. -/
def put (g : Int → Int) (k x : Int) (i : Int) : Int := if i = k then x else g i

theorem Pu.s8 (d : DS most M g nxt R lb hi) (h : Pu most M x0 R lb hi o T0) (hk : o.nx = 8) :
    (o.push8 M).1.how = 1 ∧ Id (o.push8 M).2 R (hi + 1) (hi + 1) ∧ DS most (o.push8 M).2 (put g hi x0) (nxt + 1) R (hi + 1) (hi + 1) ∧ Kp M (o.push8 M).2 R R g (put g hi x0) lb (hi + 1) ∧ (R.l = most → hi - T0 < pow R.l ∨ T0 < rd M 0) := by
  have hb := h.hb
  have b := h.b (by omega)
  have t := h.t (by omega)
  have hr := h.rg (by omega)
  have hfi := h.fi (by omega)
  have hu3 := h.us3 (by omega)
  have hfl := h.ful (by omega)
  have hw := h.wr hk
  have hx := h.x
  have hlen := d.len
  have lh := h.lh
  have tl := d.tl
  have hn := d.hn
  have t0 := d.t0
  unfold DOp.push8
  dsimp only
  rw [b]
  have e0 : rd (wrc M 1 (hi + 1)) 0 = rd M 0 := rd_wr1 _ _ _ (by omega) (by omega)
  refine ⟨rfl, ⟨rfl, (rd_wr_same _ _ _ (by omega) (by rw [hlen]; omega)).symm, hu3⟩, ?_, ?_, ?_⟩
  · have d1 := d.wr1 (hi + 1)
    refine ⟨d1.len, d1.us, d1.rt, d1.ra, d1.ru, d1.rl, d1.m8, d1.wd, d1.t0, by rw [e0]; omega, Int.le_refl _, by rw [e0]; omega, by omega, ?_⟩
    · intro i h1 h2
      rw [e0] at h1
      have hpi := d.pin i
      rw [rd_wr1 _ _ _ (by omega) (by omega)]
      unfold put
      by_cases hi' : i = hi
      · rw [if_pos hi', hi', ← hx, ← hw, b]
      · rw [if_neg hi']
        exact d.ct i h1 (by omega)
  · refine Kp.wr1 M R g (put g hi x0) lb (hi + 1) (hi + 1) (fun hl => ?_) (fun hl => by omega)
    unfold put
    rw [if_neg (by omega)]
  · intro hm
    rcases hfl hm with h1 | h1
    · exact .inl h1
    · exact .inr (by omega)
end
end Go.Proofs.Ytiofdfgcghiibaa
