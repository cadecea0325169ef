/-
  A Push, a Pop and a Steal, each done to its end, while nobody else does anything.
-/
import Derived.Test.YtiofdfgcghiibaaDqSeq
namespace Go.Proofs.Ytiofdfgcghiibaa
open Go.RowKit
set_option linter.unusedVariables false

section
variable {most x0 : Int} {M : Mach} {g : Int → Int} {nxt : Int} {R : Rg} {lb hi : Int} {o : DOp} {T0 : Int}

theorem begin_pu (d : DS most M g nxt R lb hi) (hI : Id M R lb hi) (x : Int) : Pu most M x R lb hi (beginOp 0 x) (rd M 0) := by
  have hs := d.hs
  have lh := hI.lh
  have hbb := hI.hb
  have us := hI.us
  constructor
  all_goals (try dsimp only [beginOp])
  all_goals first
    | (intro x1 x2; exfalso; omega)
    | (intro x1; exfalso; omega)
    | rfl
    | omega

theorem begin_po (d : DS most M g nxt R lb hi) (hI : Id M R lb hi) : Po M g R lb hi (beginOp 1 0) := by
  have lh := hI.lh
  have hbb := hI.hb
  have us := hI.us
  constructor
  all_goals (try dsimp only [beginOp])
  all_goals first
    | (intro x1 x2; exfalso; omega)
    | (intro x1; exfalso; omega)
    | rfl
    | (intro _; rfl)
    | omega

theorem begin_th (R : Rg) (lb : Int) : Th M R g lb (beginOp 2 0) (rd M 0) := by
  constructor
  all_goals (try dsimp only [beginOp])
  all_goals first
    | (intro x1 x2; exfalso; omega)
    | (intro x1; exfalso; omega)
    | rfl
    | (intro _; rfl)
    | omega

/-- How many steps a Push takes. -/
def pushN (R : Rg) (n : Int) : Nat := if pow R.l ≤ n then (7 + 2 * n).toNat else 5

theorem push_run (d : DS most M g nxt R lb hi) (hI : Id M R lb hi) (x : Int) (hr : hi - rd M 0 < pow most) :
    ∃ o' M' R', Run most (beginOp 0 x) M (pushN R (hi - rd M 0)) o' M' ∧ o'.how = 1 ∧ DS most M' (put g hi x) (nxt + 1) R' (hi + 1) (hi + 1) ∧ Id M' R' (hi + 1) (hi + 1) ∧ rd M' 0 = rd M 0 := by
  have tl := d.tl
  have lh := d.lh
  refine Pu.runs (g := g) (nxt := nxt) _ M R (beginOp 0 x) lb d (begin_pu d hI x) rfl (decide (pow R.l ≤ hi - rd M 0)) (fun _ => rfl) (fun h4 => by simp [beginOp] at h4) (fun _ => hr) ?_
  unfold leftP pushN
  simp only [beginOp]
  by_cases h : pow R.l ≤ hi - rd M 0
  · rw [if_pos (by simpa using h), if_pos h]
    omega
  · rw [if_neg (by simpa using h), if_neg h]
    rfl

theorem push_full (d : DS most M g nxt R lb hi) (hI : Id M R lb hi) (x : Int) (hr : hi - rd M 0 = pow most) : ∃ o', Run most (beginOp 0 x) M 3 o' M ∧ o'.how = 4 := by
  have h1 := begin_pu d hI x
  have h2 := h1.s1 d rfl
  have h3 := h2.s2 d rfl
  have hs := d.hs
  have rl := d.rl
  have r0 := d.rt.1
  have e1 : (beginOp 0 x).act most M = (beginOp 0 x).push1 M := rfl
  have e2 : ((beginOp 0 x).push1 M).1.act most M = ((beginOp 0 x).push1 M).1.push2 M := rfl
  have e3 : (((beginOp 0 x).push1 M).1.push2 M).1.act most M = (((beginOp 0 x).push1 M).1.push2 M).1.push3 most M := rfl
  have hl : R.l = most := by
    by_cases hh : R.l = most
    · exact hh
    · have := pow_succ R.l r0
      have : pow (R.l + 1) ≤ pow most := pow_mono (by omega) (by omega)
      have := pow_pos R.l
      omega
  obtain ⟨f1, f2⟩ : ((((beginOp 0 x).push1 M).1.push2 M).1.push3 most M).1.how = 4 ∧ ((((beginOp 0 x).push1 M).1.push2 M).1.push3 most M).2 = M := by
    have er : rgOf (rd M 2) = R := by rw [d.wd, rgOf_word d.rt]
    unfold DOp.push3
    rw [er]
    dsimp only
    rw [size_eq d.rt]
    have hb : (((beginOp 0 x).push1 M).1.push2 M).1.b = hi := h3.b (show 2 ≤ 3 by omega)
    have ht : (((beginOp 0 x).push1 M).1.push2 M).1.t = rd M 0 := rfl
    rw [hb, ht, if_neg (by rw [hl]; omega), if_pos (by omega)]
    exact ⟨rfl, rfl⟩
  refine ⟨_, .step _ M 2 _ M (h1.safe d) (.inl rfl) (.inl rfl) (.step _ M 1 _ M (h2.safe d) (.inl rfl) (.inl rfl) ?_), f1⟩
  have hrun := Run.last (most := most) (((beginOp 0 x).push1 M).1.push2 M).1 M (h3.safe d) (.inl rfl) (by rw [e3]; exact ⟨by rw [f1]; decide, by rw [f1]; decide⟩)
  rw [e3, f2] at hrun
  exact hrun

/-- What a Pop leaves that nobody disturbs. -/
def PopEnd (most : Int) (g : Int → Int) (nxt : Int) (R : Rg) (hi T0 : Int) (o' : DOp) (M' : Mach) : Prop :=
  (T0 = hi ∧ o'.how = 3 ∧ DS most M' g nxt R hi hi ∧ Id M' R hi hi ∧ rd M' 0 = hi)
    ∨ (T0 < hi ∧ o'.how = 1 ∧ o'.got = g (hi - 1) ∧ ∃ h', DS most M' g nxt R h' h' ∧ Id M' R h' h' ∧ ((T0 < hi - 1 ∧ h' = hi - 1 ∧ rd M' 0 = T0) ∨ (T0 = hi - 1 ∧ h' = hi ∧ rd M' 0 = hi)))

theorem Po.r8 (d : DS most M g nxt R lb hi) (h : Po M g R lb hi o) (hk : o.nx = 8) (hw : o.won = true) (hT : T0 = hi - 1) : ∃ n o' M', Run most o M n o' M' ∧ n ≤ 1 ∧ PopEnd most g nxt R hi T0 o' M' := by
  obtain ⟨f1, f2, f3, f4, f5, f6, f7⟩ := h.s8 d hk
  obtain ⟨k1, k2⟩ := f6 hw
  have e : o.act most M = o.pop8 M := by unfold DOp.act; simp only [h.k, hk]
  have hr := Run.last (most := most) o M (h.safe d) (.inl h.hw) (by rw [e]; exact ⟨by rw [k1]; decide, by rw [k1]; decide⟩)
  rw [e] at hr
  have hl := f1.lh
  rw [hl] at f1 f2
  exact ⟨1, _, _, hr, Nat.le_refl _, .inr ⟨by omega, k1, k2, hi, f2, f1, .inr ⟨hT, rfl, f5⟩⟩⟩

theorem Po.r7 (d : DS most M g nxt R lb hi) (h : Po M g R lb hi o) (hk : o.nx = 7) (hT : rd M 0 = T0) (h2 : o.t = T0) : ∃ n o' M', Run most o M n o' M' ∧ n ≤ 2 ∧ PopEnd most g nxt R hi T0 o' M' := by
  obtain ⟨f1, f2, f3, f4, f5⟩ := h.s7 d hk
  have l7 := h.l7 (by omega)
  have e : o.act most M = o.pop7 M := by unfold DOp.act; simp only [h.k, hk]
  have nx8 : (o.pop7 M).1.nx = 8 := by unfold DOp.pop7; split <;> rfl
  rcases f4 with ⟨w1, w2, w3⟩ | ⟨w1, w2, w3⟩
  · obtain ⟨n, o', M', r1, r2, r3⟩ := f1.r8 f2 nx8 w3 (T0 := T0) (by omega)
    rw [← e] at r1 f3
    exact ⟨n + 1, o', M', .step o M n o' M' (h.safe d) (.inl h.hw) (.inl f3) r1, by omega, r3⟩
  · omega

theorem Po.r6 (d : DS most M g nxt R lb hi) (h : Po M g R lb hi o) (hk : o.nx = 6) (hT : rd M 0 = T0) (h2 : o.t = T0) : ∃ n o' M', Run most o M n o' M' ∧ n ≤ 3 ∧ PopEnd most g nxt R hi T0 o' M' := by
  have t6 := h.t6 (by omega)
  have e : o.act most M = o.pop6 M := by unfold DOp.act; simp only [h.k, hk]
  have hx := h.hw
  obtain ⟨f0, f | f⟩ := h.s6 d hk
  · obtain ⟨f1, f2, f3, f4, f5, f6⟩ := f
    have hr := Run.last (most := most) o M (h.safe d) (.inl h.hw) (by rw [e]; exact ⟨by rw [f1]; decide, by rw [f1]; decide⟩)
    rw [e, f0] at hr
    refine ⟨1, _, M, hr, by omega, .inr ⟨by omega, f1, f2, hi - 1, f5, f4, .inl ⟨?_, rfl, hT⟩⟩⟩
    by_cases hh : o.t < hi - 1
    · omega
    · exfalso
      have e6 : (o.pop6 M).1.how = 0 := by
        have hb := h.b (by omega)
        unfold DOp.pop6
        dsimp only
        rw [hb, if_neg hh]
        exact hx
      omega
  · have t7 : (o.pop6 M).1.nx = 7 := by unfold DOp.pop6; dsimp only; split <;> rfl
    have tt : (o.pop6 M).1.t = T0 := by rw [← h2]; unfold DOp.pop6; dsimp only; split <;> rfl
    obtain ⟨n, o', M', r1, r2, r3⟩ := f.2.r7 d t7 hT tt
    have h0 := f.1
    rw [← e] at r1 h0
    rw [← e] at f0
    have r1' : Run most (o.act most M).1 (o.act most M).2 n o' M' := by rw [f0]; exact r1
    exact ⟨n + 1, o', M', .step o M n o' M' (h.safe d) (.inl h.hw) (.inl h0) r1', by omega, r3⟩

theorem Po.r4 (d : DS most M g nxt R lb hi) (h : Po M g R lb hi o) (hk : o.nx = 4) (hT : rd M 0 = T0) : ∃ n o' M', Run most o M n o' M' ∧ n ≤ 4 ∧ PopEnd most g nxt R hi T0 o' M' := by
  obtain ⟨lb', f1, f2, f3, f4⟩ := h.s4 d hk
  have e : o.act most M = o.pop4 M := by unfold DOp.act; simp only [h.k, hk]
  have hw : (o.pop4 M).1.how = 0 := h.hw
  have ht : (o.pop4 M).1.t = rd M 0 := rfl
  have tl := d.tl
  have lh := d.lh
  have b := h.b (by omega)
  by_cases h5 : hi - 1 < rd M 0
  · have n5 : (o.pop4 M).1.nx = 5 := by unfold DOp.pop4; dsimp only; rw [b, if_pos h5]
    obtain ⟨g1, g2, g3, g4, g5⟩ := f1.s5 f3 n5
    have e5 : (o.pop4 M).1.act most M = (o.pop4 M).1.pop5 M := by unfold DOp.act; simp only [f1.k, n5]
    have hr := Run.last (most := most) (o.pop4 M).1 M (f1.safe f3) (.inl hw) (by rw [e5]; exact ⟨by rw [g1]; decide, by rw [g1]; decide⟩)
    rw [e5] at hr
    have hl := g2.lh
    rw [hl] at g2 g3
    rw [← f2, ← e] at hr
    have hw' : (o.act most M).1.how = 0 := by rw [e]; exact hw
    have hr' : Run most (o.act most M).1 (o.act most M).2 1 ((o.pop4 M).1.pop5 M).1 ((o.pop4 M).1.pop5 M).2 := by
      rw [e, f2]
      rw [e, f2] at hr
      exact hr
    exact ⟨2, _, _, .step o M 1 _ _ (h.safe d) (.inl h.hw) (.inl hw') hr', by omega, .inl ⟨by omega, g1, g3, g2, g5⟩⟩
  · have n6 : (o.pop4 M).1.nx = 6 := by unfold DOp.pop4; dsimp only; rw [b, if_neg h5]
    obtain ⟨n, o', M', r1, r2, r3⟩ := f1.r6 f3 n6 hT (by rw [ht]; exact hT)
    have hw' : (o.act most M).1.how = 0 := by rw [e]; exact hw
    have r1' : Run most (o.act most M).1 (o.act most M).2 n o' M' := by rw [e, f2]; exact r1
    exact ⟨n + 1, o', M', .step o M n o' M' (h.safe d) (.inl h.hw) (.inl hw') r1', by omega, r3⟩

theorem pop_run (d : DS most M g nxt R lb hi) (hI : Id M R lb hi) : ∃ n o' M', Run most (beginOp 1 0) M n o' M' ∧ n ≤ 8 ∧ PopEnd most g nxt R hi (rd M 0) o' M' := by
  have h1 := begin_po d hI
  have h2 := h1.s1 d rfl
  have h3 := h2.s2 d rfl
  obtain ⟨h4, d4, k4⟩ := h3.s3 d rfl
  obtain ⟨n, o', M', r1, r2, r3⟩ := h4.r4 d4 rfl (T0 := rd M 0) k4.top
  refine ⟨n + 3, o', M', ?_, by omega, r3⟩
  exact .step _ M (n + 2) o' M' (h1.safe d) (.inl rfl) (.inl rfl) (.step _ M (n + 1) o' M' (h2.safe d) (.inl rfl) (.inl rfl) (.step _ M n o' M' (h3.safe d) (.inl rfl) (.inl rfl) r1))

/-- A thief behind its fourth step: it has seen what is first. -/
theorem steal_seen (d : DS most M g nxt R lb hi) (hI : Id M R lb hi) (hT : rd M 0 < hi) (o0 : DOp) (h0 : Th M R g lb o0 (rd M 0)) (e0 : o0.nx = 1) :
    let o1 := (o0.steal1 M).1; let o2 := (o1.steal2 M).1; let o3 := (o2.steal3 M).1; let o4 := (o3.steal4 M).1
    (o0.act most M = (o1, M)) ∧ o1.how = 0 ∧ (o1.act most M = (o2, M)) ∧ o2.how = 0 ∧ (o2.act most M = (o3, M)) ∧ o3.how = 0 ∧ (o3.act most M = (o4, M)) ∧ o4.how = 2 ∧ o4.nx = 5 ∧ o4.got = g (rd M 0)
      ∧ Th M R g lb o0 (rd M 0) ∧ Th M R g lb o1 (rd M 0) ∧ Th M R g lb o2 (rd M 0) ∧ Th M R g lb o3 (rd M 0) ∧ Th M R g lb o4 (rd M 0) := by
  intro o1 o2 o3 o4
  have lh := hI.lh
  have hb := hI.hb
  have k0 := h0.k
  have t1 := h0.s1 d e0
  have b1 : o1.t < rd M 1 := by show rd M 0 < rd M 1; omega
  have q2 : o1.steal2 M = (o2, M) := by
    show o1.steal2 M = ((o1.steal2 M).1, M)
    unfold DOp.steal2
    rw [if_pos b1]
  have t2 : Th M R g lb o2 (rd M 0) := by
    obtain ⟨f1, f2⟩ := t1.s2 d rfl (by omega)
    rcases f2 with f2 | f2
    · exfalso
      have : o2.how = o1.how := by
        show (o1.steal2 M).1.how = o1.how
        unfold DOp.steal2
        rw [if_pos b1]
      have h1 : o1.how = 0 := t1.hw (show 2 ≤ 4 by omega)
      have : o2.how = 3 := f2
      omega
    · exact f2.1
  have n2 : o2.nx = 3 := by
    show (o1.steal2 M).1.nx = 3
    unfold DOp.steal2
    rw [if_pos b1]
  have t3 := t2.s3 d n2
  have n3 : o3.nx = 4 := rfl
  obtain ⟨t4, w4⟩ := t3.s4 d n3
  have n4 : o4.nx = 5 := rfl
  have tt4 : o4.t = rd M 0 := by
    show o2.t = rd M 0
    show (o1.steal2 M).1.t = rd M 0
    unfold DOp.steal2
    rw [if_pos b1]
    rfl
  have c1 : ∀ o : DOp, o.kind = 2 → o.nx = 1 → o.act most M = o.steal1 M := fun o hk hn => by unfold DOp.act; simp only [hk, hn]
  have c2 : ∀ o : DOp, o.kind = 2 → o.nx = 2 → o.act most M = o.steal2 M := fun o hk hn => by unfold DOp.act; simp only [hk, hn]
  have c3 : ∀ o : DOp, o.kind = 2 → o.nx = 3 → o.act most M = o.steal3 M := fun o hk hn => by unfold DOp.act; simp only [hk, hn]
  have c4 : ∀ o : DOp, o.kind = 2 → o.nx = 4 → o.act most M = o.steal4 M := fun o hk hn => by unfold DOp.act; simp only [hk, hn]
  refine ⟨c1 _ k0 e0, t1.hw (show 2 ≤ 4 by omega), (c2 _ t1.k rfl).trans q2, t2.hw (by omega), c3 _ t2.k n2, t3.hw (show 4 ≤ 4 by omega), c4 _ t3.k n3, w4, n4, ?_, h0, t1, t2, t3, t4⟩
  · have := t4.go n4 tt4
    rw [tt4] at this
    exact this

theorem steal_run (d : DS most M g nxt R lb hi) (hI : Id M R lb hi) (hT : rd M 0 < hi) :
    ∃ o', Run most (beginOp 2 0) M 5 o' (wrc M 0 (rd M 0 + 1)) ∧ o'.how = 1 ∧ o'.got = g (rd M 0) ∧ DS most (wrc M 0 (rd M 0 + 1)) g nxt R hi hi ∧ Id (wrc M 0 (rd M 0 + 1)) R hi hi ∧ rd (wrc M 0 (rd M 0 + 1)) 0 = rd M 0 + 1 := by
  obtain ⟨a1, w1, a2, w2, a3, w3, a4, w4, n5, g4, t0, t1, t2, t3, t4⟩ := steal_seen d hI hT (beginOp 2 0) (begin_th R lb) rfl
  have hl := hI.lh
  rcases t4.s5 d n5 with ⟨e1, e2, e3, e4, e5, e6⟩ | ⟨e1, e2, e3⟩
  · have e := (show ∀ o : DOp, o.kind = 2 → o.nx = 5 → o.act most M = o.steal5 M from fun o hk hn => by unfold DOp.act; simp only [hk, hn]) _ t4.k n5
    have hr := Run.last (most := most) _ M (t4.safe d) (.inr w4) (by rw [e]; exact ⟨by rw [e1]; decide, by rw [e1]; decide⟩)
    rw [e, e4] at hr
    have hI' := hI.top d
    rw [hl] at e5 hI'
    refine ⟨_, .step _ M 4 _ _ (t0.safe d) (.inl rfl) (by rw [a1]; exact .inl w1) ?_, e1, e2, e5, hI', e6⟩
    rw [a1]
    refine .step _ M 3 _ _ (t1.safe d) (.inl w1) (by rw [a2]; exact .inl w2) ?_
    rw [a2]
    refine .step _ M 2 _ _ (t2.safe d) (.inl w2) (by rw [a3]; exact .inl w3) ?_
    rw [a3]
    refine .step _ M 1 _ _ (t3.safe d) (.inl w3) (by rw [a4]; exact .inr w4) ?_
    rw [a4]
    exact hr
  · omega

theorem steal_none (d : DS most M g nxt R lb hi) (hI : Id M R lb hi) (hT : rd M 0 = hi) : ∃ o', Run most (beginOp 2 0) M 2 o' M ∧ o'.how = 3 := by
  have hl := hI.lh
  have hb := hI.hb
  have t0 : Th M R g lb (beginOp 2 0) (rd M 0) := begin_th R lb
  have t1 := t0.s1 d rfl
  have f : (((beginOp 2 0).steal1 M).1.steal2 M).1.how = 3 ∧ (((beginOp 2 0).steal1 M).1.steal2 M).2 = M := by
    unfold DOp.steal2
    rw [if_neg (show ¬ ((beginOp 2 0).steal1 M).1.t < rd M 1 from by show ¬ rd M 0 < rd M 1; omega)]
    exact ⟨rfl, rfl⟩
  have e2 : ((beginOp 2 0).steal1 M).1.act most M = ((beginOp 2 0).steal1 M).1.steal2 M := rfl
  have hr := Run.last (most := most) ((beginOp 2 0).steal1 M).1 M (t1.safe d) (.inl rfl) (by rw [e2]; exact ⟨by rw [f.1]; decide, by rw [f.1]; decide⟩)
  rw [e2, f.2] at hr
  exact ⟨_, .step _ M 1 _ M (t0.safe d) (.inl rfl) (.inl rfl) hr, f.1⟩
end
end Go.Proofs.Ytiofdfgcghiibaa
