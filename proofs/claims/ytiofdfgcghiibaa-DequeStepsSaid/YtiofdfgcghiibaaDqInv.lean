/-
  What holds of a deque, of its owner's operation and of thieves' ones, whatever order their steps come in.
-/
import Derived.Test.YtiofdfgcghiibaaDq
namespace Go.Proofs.Ytiofdfgcghiibaa
open Go.RowKit
set_option linter.unusedVariables false

/-- A deque: its ring, and the numbers g at the places from its top to hi; thieves may take what lies below lb. -/
structure DS (most : Int) (M : Mach) (g : Int → Int) (nxt : Int) (R : Rg) (lb hi : Int) : Prop where
  len : M.all.length = 600
  us : M.used ≤ 600
  rt : R.Right
  ra : 3 ≤ R.a
  ru : R.a + pow R.l ≤ M.used
  rl : R.l ≤ most
  m8 : most ≤ 8
  wd : rd M 2 = R.word
  t0 : 0 ≤ rd M 0
  tl : rd M 0 ≤ lb
  lh : lb ≤ hi
  hs : hi - rd M 0 ≤ pow R.l
  hn : hi < nxt
  ct : ∀ i, rd M 0 ≤ i → i < hi → rd M (R.place i) = g i

theorem DS.pin {most : Int} {M : Mach} {g : Int → Int} {nxt : Int} {R : Rg} {lb hi : Int} (h : DS most M g nxt R lb hi) (i : Int) : 3 ≤ R.place i ∧ R.place i < 600 ∧ R.place i < M.used ∧ R.place i < R.a + pow R.l := by
  have := place_in h.rt i
  have := h.ra
  have := h.ru
  have := h.us
  omega

/-- A thief's operation under way. -/
structure Th (M : Mach) (R : Rg) (g : Int → Int) (lb : Int) (o : DOp) (T0 : Int) : Prop where
  k : o.kind = 2
  hw : o.nx ≤ 4 → o.how = 0
  h5 : o.nx = 5 → o.how = 2
  n : 1 ≤ o.nx ∧ o.nx ≤ 5
  tt : T0 ≤ rd M 0
  le : 2 ≤ o.nx → T0 ≤ o.t ∧ o.t ≤ rd M 0
  lt : 3 ≤ o.nx → o.t = rd M 0 → o.t < lb
  rr : o.nx = 4 → o.rg.Right ∧ 3 ≤ o.rg.a ∧ o.rg.a + pow o.rg.l ≤ M.used
  ro : o.nx = 4 → o.rg = R ∨ o.rg.a + pow o.rg.l ≤ R.a
  ce : o.nx = 4 → o.t = rd M 0 → rd M (o.rg.place o.t) = g o.t
  go : o.nx = 5 → o.t = rd M 0 → o.got = g o.t

/-- What a step of the owner's leaves to thieves. -/
structure Kp (M M' : Mach) (R R' : Rg) (g g' : Int → Int) (lb lb' : Int) : Prop where
  top : rd M' 0 = rd M 0
  us : M.used ≤ M'.used
  rg : R' = R ∨ R.a + pow R.l ≤ R'.a
  gg : rd M 0 < lb → g' (rd M 0) = g (rd M 0)
  lo : rd M 0 < lb → rd M 0 < lb'
  ce : ∀ r : Rg, (r = R ∨ r.a + pow r.l ≤ R.a) → r.Right → 3 ≤ r.a → rd M 0 < lb → rd M' (r.place (rd M 0)) = rd M (r.place (rd M 0))

theorem Th.keep {M M' : Mach} {R R' : Rg} {g g' : Int → Int} {lb lb' : Int} {o : DOp} {T0 : Int} (h : Th M R g lb o T0) (k : Kp M M' R R' g g' lb lb') : Th M' R' g' lb' o T0 := by
  have ht := k.top
  refine ⟨h.k, h.hw, h.h5, h.n, by rw [ht]; exact h.tt, fun hn => by rw [ht]; exact h.le hn, fun hn e => ?_, fun hn => ?_, fun hn => ?_, fun hn e => ?_, fun hn e => ?_⟩
  · rw [ht] at e
    have := h.lt hn e
    rw [e] at this ⊢
    exact k.lo this
  · obtain ⟨a, b, c⟩ := h.rr hn
    exact ⟨a, b, by have := k.us; omega⟩
  · rcases k.rg with e | e
    · rw [e]; exact h.ro hn
    · rcases h.ro hn with e2 | e2
      · right; rw [e2]; exact e
      · right
        have := pow_pos R.l
        omega
  · rw [ht] at e
    have hl := h.lt (by omega) e
    have hc := h.ce hn e
    rw [e] at hl hc ⊢
    obtain ⟨a, b, c⟩ := h.rr hn
    rw [k.ce o.rg (h.ro hn) a b hl, k.gg hl]
    exact hc
  · rw [ht] at e
    have hl := h.lt (by omega) e
    have hc := h.go hn e
    rw [e] at hl hc ⊢
    rw [k.gg hl]
    exact hc

/-- When the top has gone on, a thief that had seen the old one is late. -/
theorem Th.late {M M' : Mach} {R : Rg} {g : Int → Int} {lb lb' : Int} {o : DOp} {T0 : Int} (h : Th M R g lb o T0) (ht : rd M 0 < rd M' 0) (hu : M.used ≤ M'.used) : Th M' R g lb' o T0 := by
  refine ⟨h.k, h.hw, h.h5, h.n, by have := h.tt; omega, fun hn => ?_, fun hn e => ?_, fun hn => ?_, h.ro, fun hn e => ?_, fun hn e => ?_⟩
  · have := h.le hn
    omega
  · have := h.le (by omega)
    omega
  · obtain ⟨a, b, c⟩ := h.rr hn
    exact ⟨a, b, by omega⟩
  · have := h.le (by omega)
    omega
  · have := h.le (by omega)
    omega

/-- The owner's Push under way. -/
structure Pu (most : Int) (M : Mach) (x0 : Int) (R : Rg) (lb hi : Int) (o : DOp) (T0 : Int) : Prop where
  k : o.kind = 0
  hw : o.how = 0
  x : o.x = x0
  n : 1 ≤ o.nx ∧ o.nx ≤ 8
  lh : lb = hi
  hb : hi = rd M 1
  tt : T0 ≤ rd M 0
  had : hi - T0 ≤ pow R.l ∨ R.l < most ∨ 4 ≤ o.nx
  b : 2 ≤ o.nx → o.b = hi
  t : 3 ≤ o.nx → T0 ≤ o.t ∧ o.t ≤ rd M 0
  t3 : o.nx = 3 → o.b - o.t ≤ pow R.l
  rg : 4 ≤ o.nx → o.rg = R
  fu : 4 ≤ o.nx → o.nx ≤ 6 → o.b - o.t = pow R.l ∧ R.l < most
  to : 5 ≤ o.nx → o.nx ≤ 6 → o.to.Right ∧ o.to.l = R.l + 1 ∧ R.a + pow R.l ≤ o.to.a ∧ o.to.a + pow o.to.l ≤ M.used
  pl : o.nx = 5 → o.t ≤ o.pl ∧ o.pl < o.b
  cp : o.nx = 5 → ∀ i, o.t ≤ i → i < o.pl → rd M (o.to.place i) = rd M (R.place i)
  cx : o.nx = 5 → o.ld = true → o.cx = rd M (R.place o.pl)
  dn : o.nx = 6 → ∀ i, o.t ≤ i → i < o.b → rd M (o.to.place i) = rd M (R.place i)
  fi : 7 ≤ o.nx → o.b - o.t < pow R.l
  wr : o.nx = 8 → rd M (R.place o.b) = o.x
  us : o.nx ≤ 4 → (M.used : Int) ≤ 3 + 2 * pow R.l
  us2 : 5 ≤ o.nx → o.nx ≤ 6 → (M.used : Int) ≤ 3 + 2 * pow o.to.l
  us3 : 7 ≤ o.nx → (M.used : Int) ≤ 3 + 2 * pow R.l
  ful : 7 ≤ o.nx → R.l = most → hi - T0 < pow R.l ∨ T0 < o.t

/-- The owner's Pop under way. -/
structure Po (M : Mach) (g : Int → Int) (R : Rg) (lb hi : Int) (o : DOp) : Prop where
  k : o.kind = 1
  hw : o.how = 0
  n : 1 ≤ o.nx ∧ o.nx ≤ 8
  b : 2 ≤ o.nx → o.b = hi
  b3 : o.nx ≤ 3 → rd M 1 = hi
  b4 : 4 ≤ o.nx → rd M 1 = hi - 1
  rg : 3 ≤ o.nx → o.rg = R
  l5 : o.nx ≤ 5 → lb = hi
  t5 : o.nx = 5 → rd M 0 = hi
  t6 : 6 ≤ o.nx → o.t ≤ hi - 1 ∧ o.t ≤ rd M 0
  l6 : o.nx = 6 → o.t < hi - 1 → lb = hi - 1
  l6' : o.nx = 6 → o.t = hi - 1 → lb = hi
  c6 : o.nx = 6 → rd M (R.place (hi - 1)) = g (hi - 1)
  l7 : 7 ≤ o.nx → lb = hi ∧ o.t = hi - 1 ∧ o.x = g (hi - 1)
  t8 : o.nx = 8 → rd M 0 = hi
  wf : o.nx ≤ 7 → o.won = false
  us : (M.used : Int) ≤ 3 + 2 * pow R.l

/-- No operation of the owner's is under way. -/
structure Id (M : Mach) (R : Rg) (lb hi : Int) : Prop where
  lh : lb = hi
  hb : hi = rd M 1
  us : (M.used : Int) ≤ 3 + 2 * pow R.l

/-! ### Worlds in which one cell was turned -/

theorem rd_wr0 (M : Mach) (x k : Int) (hk : 1 ≤ k) : rd (wrc M 0 x) k = rd M k := rd_wr_far M 0 k x (by omega) (by omega) (by omega)
theorem rd_wr1 (M : Mach) (x k : Int) (hk : 0 ≤ k) (h1 : k ≠ 1) : rd (wrc M 1 x) k = rd M k := rd_wr_far M 1 k x (by omega) (by omega) (by omega)

/-- A turn of a cell other than the top, the word and the ring's own cells leaves the deque. -/
theorem DS.wr1 {most : Int} {M : Mach} {g : Int → Int} {nxt : Int} {R : Rg} {lb hi : Int} (h : DS most M g nxt R lb hi) (x : Int) : DS most (wrc M 1 x) g nxt R lb hi := by
  have e0 : rd (wrc M 1 x) 0 = rd M 0 := rd_wr1 M x 0 (by omega) (by omega)
  have e2 : rd (wrc M 1 x) 2 = rd M 2 := rd_wr1 M x 2 (by omega) (by omega)
  refine ⟨by rw [wr_len]; exact h.len, h.us, h.rt, h.ra, h.ru, h.rl, h.m8, by rw [e2]; exact h.wd, by rw [e0]; exact h.t0, by rw [e0]; exact h.tl, h.lh, by rw [e0]; exact h.hs, h.hn, ?_⟩
  · intro i hi1 hi2
    rw [e0] at hi1
    have := h.pin i
    rw [rd_wr1 _ _ _ (by omega) (by omega)]
    exact h.ct i hi1 hi2

/-- The top goes on by one. -/
theorem DS.wr0 {most : Int} {M : Mach} {g : Int → Int} {nxt : Int} {R : Rg} {lb hi lb' : Int} (h : DS most M g nxt R lb hi) (x : Int) (h1 : rd M 0 ≤ x) (h2 : x ≤ lb') (h3 : lb' ≤ hi) : DS most (wrc M 0 x) g nxt R lb' hi := by
  have e0 : rd (wrc M 0 x) 0 = x := rd_wr_same M 0 x (by omega) (by rw [h.len]; omega)
  have e2 : rd (wrc M 0 x) 2 = rd M 2 := rd_wr0 M x 2 (by omega)
  have ht := h.t0
  have hs := h.hs
  refine ⟨by rw [wr_len]; exact h.len, h.us, h.rt, h.ra, h.ru, h.rl, h.m8, by rw [e2]; exact h.wd, by rw [e0]; omega, by rw [e0]; exact h2, h3, by rw [e0]; omega, h.hn, ?_⟩
  · intro i hi1 hi2
    rw [e0] at hi1
    have := h.pin i
    rw [rd_wr0 _ _ _ (by omega)]
    exact h.ct i (by omega) hi2

/-- Fewer may be taken, fewer are in it. -/
theorem DS.low {most : Int} {M : Mach} {g : Int → Int} {nxt : Int} {R : Rg} {lb hi lb' hi' : Int} (h : DS most M g nxt R lb hi) (h1 : rd M 0 ≤ lb') (h2 : lb' ≤ hi') (h3 : hi' ≤ hi) : DS most M g nxt R lb' hi' := by
  have hs := h.hs
  have hn := h.hn
  exact ⟨h.len, h.us, h.rt, h.ra, h.ru, h.rl, h.m8, h.wd, h.t0, h1, h2, by omega, by omega, fun i a b => h.ct i a (by omega)⟩

theorem Kp.refl (M : Mach) (R : Rg) (g : Int → Int) (lb : Int) : Kp M M R R g g lb lb := ⟨rfl, Nat.le_refl _, .inl rfl, fun _ => rfl, id, fun _ _ _ _ _ => rfl⟩
theorem Kp.low (M : Mach) (R : Rg) (g : Int → Int) (lb lb' : Int) (h : rd M 0 < lb → rd M 0 < lb') : Kp M M R R g g lb lb' := ⟨rfl, Nat.le_refl _, .inl rfl, fun _ => rfl, h, fun _ _ _ _ _ => rfl⟩
theorem Kp.wr1 (M : Mach) (R : Rg) (g g' : Int → Int) (lb lb' x : Int) (hg : rd M 0 < lb → g' (rd M 0) = g (rd M 0)) (h : rd M 0 < lb → rd M 0 < lb') : Kp M (wrc M 1 x) R R g g' lb lb' := by
  refine ⟨rd_wr1 M x 0 (by omega) (by omega), Nat.le_refl _, .inl rfl, hg, h, fun r _ hr ha _ => ?_⟩
  have := place_in hr (rd M 0)
  exact rd_wr1 _ _ _ (by omega) (by omega)
end Go.Proofs.Ytiofdfgcghiibaa
