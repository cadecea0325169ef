/-
  A Push into a full ring that may grow, step by step, if nobody steals.
-/
import Derived.Test.YtecpdhfncmlbaaaDqList
namespace Go.Proofs.Ytecpdhfncmlbaaa
open Go.RowKit
set_option linter.unusedVariables false

theorem act_used {most : Int} {o : DOp} {M : Mach} (hk : o.kind = 0) : (o.act most M).2.used = if o.nx = 4 then M.used + (pow (o.rg.l + 1)).toNat else M.used := by
  unfold DOp.act
  split
  all_goals rename_i h1 h2
  all_goals (try (rw [hk] at h1; cases h1))
  all_goals (try (rw [h2]))
  all_goals first
    | rfl
    | (unfold DOp.push3; try simp only
       split
       · rfl
       · split <;> rfl)
    | (unfold DOp.push5
       split <;> rfl)
    | skip
  split
  · rename_i h4
    exact absurd h4 (fun h4 => by simp_all)
  · rfl

theorem act_nx {most : Int} {o : DOp} {M : Mach} (hk : o.kind = 0) (h0 : (o.act most M).1.how = 0) (hw : o.how = 0) (h3 : o.nx = 3 → ¬ o.b - o.t < (rgOf (rd M 2)).size) : (o.nx ≤ 4 → 1 ≤ o.nx → (o.act most M).1.nx = o.nx + 1) ∧ (5 ≤ o.nx → 5 ≤ (o.act most M).1.nx) := by
  constructor
  · intro h4 h1
    have hn : o.nx = 1 ∨ o.nx = 2 ∨ o.nx = 3 ∨ o.nx = 4 := by omega
    rcases hn with n | n | n | n
    · simp only [DOp.act, hk, n]; rfl
    · simp only [DOp.act, hk, n]; rfl
    · simp only [DOp.act, hk, n]
      unfold DOp.push3
      simp only
      rw [if_neg (h3 n)]
      split <;> rfl
    · simp only [DOp.act, hk, n]; rfl
  · intro h5
    by_cases n5 : o.nx = 5
    · simp only [DOp.act, hk, n5]
      unfold DOp.push5
      split
      · dsimp only
        split <;> omega
      · show 5 ≤ o.nx
        omega
    by_cases n6 : o.nx = 6
    · simp only [DOp.act, hk, n6]
      show 5 ≤ 7
      omega
    by_cases n7 : o.nx = 7
    · simp only [DOp.act, hk, n7]
      show 5 ≤ 8
      omega
    by_cases n8 : o.nx = 8
    · simp only [DOp.act, hk, n8]
      show 5 ≤ o.nx
      omega
    have e : (o.act most M).1 = o := by
      unfold DOp.act
      split
      all_goals rename_i h1 h2
      all_goals first
        | rfl
        | (exfalso; omega)
    rw [e]
    exact h5

theorem act_keep {most : Int} {o : DOp} {M : Mach} (hk : o.kind = 0) : (o.act most M).1.kind = 0 ∧ (o.act most M).1.got = o.got ∧ (o.act most M).1.err = o.err := by
  unfold DOp.act
  split
  all_goals rename_i h1 h2
  all_goals (try (rw [hk] at h1; cases h1))
  all_goals first
    | exact ⟨hk, rfl, rfl⟩
    | (unfold DOp.push3; try simp only
       split
       · exact ⟨hk, rfl, rfl⟩
       · split <;> exact ⟨hk, rfl, rfl⟩)
    | (unfold DOp.push5
       split <;> exact ⟨hk, rfl, rfl⟩)

/-- Behind k steps of a Push that grows. -/
structure Gr (most x : Int) (U : Nat) (n : Int) (L : List Int) (k : Nat) (o : DOp) (M : Mach) (R : Rg) : Prop where
  ex : ∃ g nxt lb hi T0, DS most M g nxt R lb hi ∧ Pu most M x R lb hi o T0 ∧ rd M 0 = T0 ∧ hi - T0 = n ∧ (L.length : Int) = n ∧ (∀ i : Nat, i < L.length → g (T0 + i) = L.getD i 0) ∧ leftP true n o + k = 7 + 2 * n ∧ (k ≤ 3 → pow R.l = n)
  nx : k ≤ 3 → o.nx = k + 1
  nx4 : 4 ≤ k → 5 ≤ o.nx
  us : (M.used : Int) = U + (if k ≤ 3 then 0 else 2 * n)
  lt : n < pow most
  n1 : 1 ≤ n

theorem Gr.list {most x : Int} {U : Nat} {n : Int} {L : List Int} {k : Nat} {o : DOp} {M : Mach} {R : Rg} (h : Gr most x U n L k o M R) :
    rd M 2 = R.word ∧ R.Right ∧ 3 ≤ M.used ∧ R.a + pow R.l ≤ M.used ∧ rd M 1 - rd M 0 = L.length ∧ rd M 1 - rd M 0 ≤ pow R.l ∧ (∀ i : Nat, i < L.length → rd M (R.place (rd M 0 + i)) = L.getD i 0) ∧ o.safe M ∧ o.how = 0 := by
  obtain ⟨g, nxt, lb, hi, T0, d, P, hT, hn, hl, hg, hleft, hR⟩ := h.ex
  have hb := P.hb
  have hs := d.hs
  refine ⟨d.wd, d.rt, d.u3, d.ru, by omega, by omega, fun i hi2 => ?_, P.safe d, P.hw⟩
  rw [d.ct _ (by omega) (by omega), hT]
  exact hg i hi2

theorem Gr.step {most x : Int} {U : Nat} {n : Int} {L : List Int} {k : Nat} {o : DOp} {M : Mach} {R : Rg} (h : Gr most x U n L k o M R) (hk : (k : Int) + 1 < 7 + 2 * n) :
    (o.act most M).1.how = 0 ∧ ∃ R', Gr most x U n L (k + 1) (o.act most M).1 (o.act most M).2 R' := by
  obtain ⟨g, nxt, lb, hi, T0, d, P, hT, hn, hl, hg, hleft, hR⟩ := h.ex
  have hkind := P.k
  have hnn := P.n
  have hlt := h.lt
  have n1 := h.n1
  have hgrow : o.nx ≤ 3 → true = decide (pow R.l ≤ hi - T0) := fun h3 => by
    have hk3 : k ≤ 3 := by
      by_cases hk3 : k ≤ 3
      · exact hk3
      · have := h.nx4 (by omega)
        omega
    have := hR hk3
    simp
    omega
  rcases P.step d with ⟨h0, R', f1, f2, f3⟩ | ⟨h4, n3, hh, _⟩ | ⟨h1, n8, _⟩
  · refine ⟨h0, R', ?_, ?_, ?_, ?_, hlt, n1⟩
    · obtain ⟨l1, l2, l3, l4⟩ := P.less d hT true hgrow (fun _ _ => rfl) h0
      have htop : rd (o.act most M).2 0 = T0 := by rw [f3.top]; exact hT
      refine ⟨g, nxt, lb, hi, T0, f2, f1, htop, hn, hl, hg, by rw [hn] at l1; push_cast; omega, fun hk3 => ?_⟩
      have hr := hR (by omega)
      have hnx := h.nx (by omega)
      have he : R' = R := by
        have w1 := f2.wd
        have w2 := d.wd
        have hM : rd (o.act most M).2 2 = rd M 2 := by
          by_cases e1 : o.nx = 1
          · rw [show (o.act most M).2 = M from by simp only [DOp.act, hkind, e1]; rfl]
          by_cases e2 : o.nx = 2
          · rw [show (o.act most M).2 = M from by simp only [DOp.act, hkind, e2]; rfl]
          have e3 : o.nx = 3 := by omega
          rw [show (o.act most M).2 = M from by
            simp only [DOp.act, hkind, e3]
            unfold DOp.push3
            simp only
            split
            · rfl
            · split <;> rfl]
        have hw : R'.word = R.word := by rw [← w1, ← w2, hM]
        have a1 := rgOf_word f2.rt
        have a2 := rgOf_word d.rt
        rw [hw] at a1
        exact a1.symm.trans a2
      rw [he]
      exact hr
    · intro hk3
      have hnx := h.nx (by omega)
      have := (act_nx (M := M) (most := most) hkind h0 P.hw (fun e3 => by
        rw [d.wd, rgOf_word d.rt, size_eq d.rt]
        have hr := hR (by omega)
        have hb := P.b (by omega)
        have ht := P.t (by omega)
        omega)).1 (by omega) (by omega)
      omega
    · intro hk4
      by_cases hk3 : k ≤ 3
      · have hnx := h.nx hk3
        have := (act_nx (M := M) (most := most) hkind h0 P.hw (fun e3 => by omega)).1 (by omega) (by omega)
        omega
      · exact (act_nx (M := M) (most := most) hkind h0 P.hw (fun e3 => by have := h.nx4 (by omega); omega)).2 (h.nx4 (by omega))
    · have hus := h.us
      rw [act_used hkind]
      by_cases hk3 : k + 1 ≤ 3
      · have hnx := h.nx (by omega)
        rw [if_neg (by omega), if_pos hk3]
        rw [if_pos (by omega)] at hus
        exact hus
      · rw [if_neg hk3]
        by_cases hk4 : k = 3
        · have hnx := h.nx (by omega)
          have hr := hR (by omega)
          have hrg := P.rg (by omega)
          rw [if_pos (by omega), hrg]
          rw [if_pos (by omega)] at hus
          have ps := pow_succ R.l d.rt.1
          omega
        · have := h.nx4 (by omega)
          rw [if_neg (by omega)]
          rw [if_neg (by omega)] at hus
          exact hus
  · omega
  · exfalso
    have : leftP true n o = 1 := by unfold leftP; simp only [n8]
    omega

theorem Gr.last {most x : Int} {U : Nat} {n : Int} {L : List Int} {k : Nat} {o : DOp} {M : Mach} {R : Rg} (h : Gr most x U n L k o M R) (hk : (k : Int) + 1 = 7 + 2 * n) :
    (o.act most M).1.how = 1 ∧ ((o.act most M).2.used : Int) = U + 2 * n ∧ ∃ nxt, SeqI most (o.act most M).2 R nxt (L ++ [x]) := by
  obtain ⟨g, nxt, lb, hi, T0, d, P, hT, hn, hl, hg, hleft, hR⟩ := h.ex
  have hnn := P.n
  have n1 := h.n1
  have n4 := h.nx4 (by omega)
  rcases P.step d with ⟨h0, R', f1, f2, f3⟩ | ⟨h4, n3, _⟩ | ⟨h1, n8, hI, d2, hK⟩
  · exfalso
    obtain ⟨l1, _⟩ := P.less d hT true (fun h3 => by omega) (fun _ _ => rfl) h0
    rw [hn] at l1
    have hp := f1.n
    have : 1 ≤ leftP true n (o.act most M).1 := by
      unfold leftP
      split
      all_goals (try simp only [if_true])
      all_goals (try omega)
      rename_i h5
      have hpl := f1.pl h5
      split <;> omega
    omega
  · omega
  · refine ⟨h1, ?_, nxt + 1, ?_⟩
    · rw [act_used P.k, if_neg (by omega)]
      have hus := h.us
      rw [if_neg (by omega)] at hus
      exact hus
    · have htop : rd (o.act most M).2 0 = T0 := by rw [hK.top]; exact hT
      refine SeqI.of d2 hI (by rw [htop]; simp; omega) ?_
      intro i hi2
      rw [htop]
      simp at hi2
      unfold put
      by_cases hil : i = L.length
      · subst hil
        rw [if_pos (by omega)]
        simp
      · rw [if_neg (by omega), hg i (by omega)]
        simp [List.getElem?_append_left (show i < L.length by omega)]

theorem Gr.begin_ {most x : Int} {M : Mach} {R : Rg} {nxt : Int} {L : List Int} (h : SeqI most M R nxt L) (hfull : (L.length : Int) = pow R.l) (hlt : (L.length : Int) < pow most) : Gr most x M.used L.length L 0 (beginOp 0 x) M R := by
  obtain ⟨g, hi, d, hI, hl, hc⟩ := h.ex
  have hp := pow_pos R.l
  refine ⟨⟨g, nxt, hi, hi, rd M 0, d, begin_pu d hI x, rfl, hl, rfl, hc, ?_, fun _ => hfull.symm⟩, fun _ => rfl, fun h4 => by omega, by simp, hlt, by omega⟩
  unfold leftP beginOp
  simp
/-- A Push into a ring that is full and may not grow: three steps. -/
theorem SeqI.full3 {most : Int} {M : Mach} {R : Rg} {nxt : Int} {L : List Int} (h : SeqI most M R nxt L) (x : Int) (hr : (L.length : Int) = pow most) :
    ∃ o1 o2 o3, (beginOp 0 x).act most M = (o1, M) ∧ o1.act most M = (o2, M) ∧ o2.act most M = (o3, M) ∧ (beginOp 0 x).safe M ∧ o1.safe M ∧ o2.safe M ∧ o1.how = 0 ∧ o2.how = 0 ∧ o3.how = 4 ∧ o3.kind = 0 := by
  obtain ⟨g, hi, d, hI, hn, hc⟩ := h.ex
  have hr2 : hi - rd M 0 = pow most := by omega
  have h1 := begin_pu d hI x
  have h2 := h1.s1 d rfl
  have h3 := h2.s2 d rfl
  have hs := d.hs
  have rl := d.rl
  have r0 := d.rt.1
  have e1 : (beginOp 0 x).act most M = (beginOp 0 x).push1 M := rfl
  have e2 : ((beginOp 0 x).push1 M).1.act most M = ((beginOp 0 x).push1 M).1.push2 M := rfl
  have e3 : (((beginOp 0 x).push1 M).1.push2 M).1.act most M = (((beginOp 0 x).push1 M).1.push2 M).1.push3 most M := rfl
  have hl : R.l = most := by
    by_cases hh : R.l = most
    · exact hh
    · have := pow_succ R.l r0
      have : pow (R.l + 1) ≤ pow most := pow_mono (by omega) (by omega)
      have := pow_pos R.l
      omega
  obtain ⟨f1, f2, f3⟩ : ((((beginOp 0 x).push1 M).1.push2 M).1.push3 most M).1.how = 4 ∧ ((((beginOp 0 x).push1 M).1.push2 M).1.push3 most M).2 = M ∧ ((((beginOp 0 x).push1 M).1.push2 M).1.push3 most M).1.kind = 0 := by
    have er : rgOf (rd M 2) = R := by rw [d.wd, rgOf_word d.rt]
    unfold DOp.push3
    rw [er]
    dsimp only
    rw [size_eq d.rt]
    have hb : (((beginOp 0 x).push1 M).1.push2 M).1.b = hi := h3.b (show 2 ≤ 3 by omega)
    have ht : (((beginOp 0 x).push1 M).1.push2 M).1.t = rd M 0 := rfl
    rw [hb, ht, if_neg (by rw [hl]; omega), if_pos (by omega)]
    exact ⟨rfl, rfl, rfl⟩
  exact ⟨((beginOp 0 x).push1 M).1, (((beginOp 0 x).push1 M).1.push2 M).1, ((((beginOp 0 x).push1 M).1.push2 M).1.push3 most M).1, rfl, rfl, e3.trans (Prod.ext rfl f2), h1.safe d, h2.safe d, h3.safe d, rfl, rfl, f1, f3⟩

/-- A Push where there is room, done. -/
theorem push5 {most x : Int} {M M' : Mach} {o' : DOp} (h : Run most (beginOp 0 x) M 5 o' M') (hr : rd M 1 - rd M 0 < (rgOf (rd M 2)).size) : M' = wrc (wrc M ((rgOf (rd M 2)).place (rd M 1)) x) 1 (rd M 1 + 1) := by
  have e3 : ∀ o : DOp, o.kind = 0 → o.nx = 3 → o.b = rd M 1 → o.t = rd M 0 → o.act most M = ({ o with rg := rgOf (rd M 2), nx := 7 }, M) := by
    intro o hk hn hb ht
    simp only [DOp.act, hk, hn]
    unfold DOp.push3
    simp only
    rw [hb, ht, if_pos hr, hk]
  cases h with
  | step _ _ _ _ _ _ _ _ h =>
    cases h with
    | step _ _ _ _ _ _ _ _ h =>
      cases h with
      | step _ _ _ _ _ _ _ _ h =>
        have e := e3 (((beginOp 0 x).push1 M).1.push2 M).1 rfl rfl rfl rfl
        have h9 : Run most ((((beginOp 0 x).push1 M).1.push2 M).1.act most M).1 ((((beginOp 0 x).push1 M).1.push2 M).1.act most M).2 2 o' M' := h
        rw [e] at h9
        cases h9 with
        | step _ _ _ _ _ _ _ _ h =>
          cases h with
          | last _ _ _ _ _ => rfl
          | step _ _ n _ _ _ _ _ h => cases h

theorem SeqI.push5 {most : Int} {M : Mach} {R : Rg} {nxt : Int} {L : List Int} (h : SeqI most M R nxt L) (x : Int) (hlt : (L.length : Int) < pow R.l) :
    ∃ o' M', Run most (beginOp 0 x) M 5 o' M' ∧ o'.how = 1 ∧ SeqI most M' R (nxt + 1) (L ++ [x]) ∧ M'.used = M.used := by
  have hr := h.room
  obtain ⟨o', M', R', r1, r2, r3⟩ := h.push x (by omega)
  have hc := h.cells
  have e5 : pushN R L.length = 5 := by unfold pushN; rw [if_neg (by omega)]
  rw [e5] at r1
  have hM := Go.Proofs.Ytecpdhfncmlbaaa.push5 r1 (by rw [hc.1, rgOf_word hc.2.1, size_eq hc.2.1]; omega)
  have hpl : 3 ≤ (rgOf (rd M 2)).place (rd M 1) := by
    rw [hc.1, rgOf_word hc.2.1]
    have := (place_in hc.2.1 (rd M 1)).1
    omega
  have h2 : rd M' 2 = rd M 2 := by
    rw [hM, rd_wr_far _ _ _ _ (by omega) (by omega) (by omega), rd_wr_far _ _ _ _ (by omega) (by omega) (by omega)]
  have hR : R' = R := by
    have c' := r3.cells
    have a1 := rgOf_word c'.2.1
    have a2 := rgOf_word hc.2.1
    rw [← c'.1, h2, hc.1] at a1
    exact a1.symm.trans a2
  rw [hR] at r3
  exact ⟨o', M', r1, r2, r3, by rw [hM]; rfl⟩
end Go.Proofs.Ytecpdhfncmlbaaa
