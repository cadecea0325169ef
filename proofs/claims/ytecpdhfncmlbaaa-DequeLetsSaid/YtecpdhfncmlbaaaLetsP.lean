/-
  One thief is overtaken by another one: plain.
-/
import Derived.Test.YtecpdhfncmlbaaaTakes
import Derived.Test.YtecpdhfncmlbaaaSeqA
namespace Go.Proofs.Ytecpdhfncmlbaaa
open Go.RowKit
set_option linter.unusedVariables false

theorem act_kind2 {most : Int} {o : DOp} {M : Mach} (hk : o.kind = 2) : (o.act most M).1.kind = 2 := by
  unfold DOp.act
  split
  all_goals rename_i h1 h2
  all_goals (try (rw [hk] at h1; cases h1))
  all_goals first
    | exact hk
    | (unfold DOp.steal2
       split <;> exact hk)
    | (unfold DOp.steal5
       split <;> exact hk)

theorem SeqI.lets {most : Int} {M : Mach} {R : Rg} {nxt : Int} {L : List Int} (h : SeqI most M R nxt L) (hl : 0 < L.length) :
    ∃ o4 o5 M' o', Tk most (beginOp 2 0) M 4 o4 M ∧ o4.how = 2 ∧ o4.got = L.getD 0 0 ∧ o4.kind = 2 ∧ Run most (beginOp 2 0) M 5 o' M' ∧ o'.how = 1 ∧ o'.got = L.getD 0 0 ∧ SeqI most M' R nxt (L.drop 1)
      ∧ o4.safe M' ∧ o4.act most M' = (o5, M') ∧ o5.how = 5 ∧ o5.got = 0 ∧ o5.kind = 2 ∧ o'.kind = 2 := by
  obtain ⟨g, hi, d, hI, hn, hc⟩ := h.ex
  have hT : rd M 0 < hi := by omega
  obtain ⟨a1, w1, a2, w2, a3, w3, a4, w4, n5, g4, t0, t1, t2, t3, t4⟩ := steal_seen d hI hT (beginOp 2 0) (begin_th R hi) rfl
  obtain ⟨o', r1, r2, r3, r4, r5, r6⟩ := steal_run d hI hT
  have hk' : o'.kind = 2 := by
    have hk : ∀ {n : Nat} {o o' : DOp} {M M' : Mach}, Run most o M n o' M' → o.kind = 2 → o'.kind = 2 := by
      intro n o o' M M' hr
      induction hr with
      | last o M hs hb he => exact fun hk => act_kind2 hk
      | step o M n o' M' hs hb he hr ih => exact fun hk => ih (act_kind2 hk)
    exact hk r1 rfl
  have h0 : L.getD 0 0 = g (rd M 0) := by
    rw [← hc 0 hl]
    simp
  generalize ho4 : ((((((((beginOp 2 0).steal1 M).1.steal2 M).1).steal3 M).1).steal4 M).1) = o4 at a4 w4 n5 g4 t4
  have ht : o4.t = rd M 0 := by
    have := t4.le (by omega)
    omega
  have e5 : o4.act most (wrc M 0 (rd M 0 + 1)) = ({ o4 with how := 5, got := 0 }, wrc M 0 (rd M 0 + 1)) := by
    have e : o4.act most (wrc M 0 (rd M 0 + 1)) = o4.steal5 (wrc M 0 (rd M 0 + 1)) := by
      unfold DOp.act
      simp only [t4.k, n5]
    rw [e]
    unfold DOp.steal5
    rw [if_neg (by rw [r6, ht]; omega)]
  refine ⟨o4, { o4 with how := 5, got := 0 }, wrc M 0 (rd M 0 + 1), o', ?_, w4, g4.trans h0.symm, t4.k, r1, r2, r3.trans h0.symm, ?_, ?_, e5, rfl, rfl, t4.k, hk'⟩
  · refine .step _ M 3 _ _ (t0.safe d) (by rw [a1]; exact w1) ?_
    rw [a1]
    refine .step _ M 2 _ _ (t1.safe d) (by rw [a2]; exact w2) ?_
    rw [a2]
    refine .step _ M 1 _ _ (t2.safe d) (by rw [a3]; exact w3) ?_
    rw [a3]
    have hr := Tk.last (most := most) _ M (t3.safe d)
    rw [a4] at hr
    exact hr
  · refine SeqI.of r4 r5 (by rw [r6]; simp; omega) ?_
    intro k hk
    simp at hk
    rw [r6, show rd M 0 + 1 + (k : Int) = rd M 0 + ((k + 1 : Nat) : Int) by omega, hc (k + 1) (by omega)]
    simp
  · unfold DOp.safe
    refine ⟨?_, ?_, ?_⟩
    · have := d.u3
      exact this
    · unfold DOp.InR
      have := t4.n
      have := t4.k
      omega
    · rw [t4.k, n5]
      trivial
end Go.Proofs.Ytecpdhfncmlbaaa
