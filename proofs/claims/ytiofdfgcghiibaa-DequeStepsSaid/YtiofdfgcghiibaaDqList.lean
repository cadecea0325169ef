/-
  A deque that one uses alone is a list.
-/
import Derived.Test.YtiofdfgcghiibaaDqRuns
namespace Go.Proofs.Ytiofdfgcghiibaa
open Go.RowKit
set_option linter.unusedVariables false

/-- What is in a deque, while nobody has anything under way, is a list. -/
structure SeqI (most : Int) (M : Mach) (R : Rg) (nxt : Int) (L : List Int) : Prop where
  ex : ∃ g hi, DS most M g nxt R hi hi ∧ Id M R hi hi ∧ hi - rd M 0 = L.length ∧ ∀ k : Nat, k < L.length → g (rd M 0 + k) = L.getD k 0

theorem SeqI.of {most : Int} {M : Mach} {R : Rg} {nxt : Int} {g : Int → Int} {lb hi : Int} (d : DS most M g nxt R lb hi) (hI : Id M R lb hi) {L : List Int} (hn : hi - rd M 0 = L.length) (hc : ∀ k : Nat, k < L.length → g (rd M 0 + k) = L.getD k 0) : SeqI most M R nxt L := by
  have hl := hI.lh
  subst hl
  exact ⟨⟨g, lb, d, hI, hn, hc⟩⟩

section
variable {most : Int} {M : Mach} {R : Rg} {nxt : Int} {L : List Int}

theorem SeqI.room (h : SeqI most M R nxt L) : (L.length : Int) ≤ pow R.l ∧ pow R.l ≤ pow most := by
  obtain ⟨g, hi, d, hI, hn, hc⟩ := h.ex
  have := d.hs
  exact ⟨by omega, pow_mono d.rt.1 d.rl⟩

/-- The cells that List reads. -/
theorem SeqI.cells (h : SeqI most M R nxt L) : rd M 2 = R.word ∧ R.Right ∧ 0 ≤ rd M 0 ∧ rd M 1 - rd M 0 = L.length ∧ rd M 1 < nxt ∧ (∀ k : Nat, k < L.length → rd M (R.place (rd M 0 + k)) = L.getD k 0) ∧ R.a + pow R.l ≤ M.used ∧ 3 ≤ R.a := by
  obtain ⟨g, hi, d, hI, hn, hc⟩ := h.ex
  have hb := hI.hb
  have hnn := d.hn
  exact ⟨d.wd, d.rt, d.t0, by omega, by omega, fun k hk => by rw [d.ct _ (by omega) (by omega)]; exact hc k hk, d.ru, d.ra⟩

theorem SeqI.pushT (h : SeqI most M R nxt L) (x : Int) (hr : (L.length : Int) < pow most) :
    ∃ o' M' R', Run most (beginOp 0 x) M (pushN R L.length) o' M' ∧ o'.how = 1 ∧ SeqI most M' R' (nxt + 1) (L ++ [x]) ∧ rd M' 0 = rd M 0 := by
  obtain ⟨g, hi, d, hI, hn, hc⟩ := h.ex
  obtain ⟨o', M', R', r1, r2, r3, r4, r5⟩ := push_run d hI x (by omega)
  rw [hn] at r1
  refine ⟨o', M', R', r1, r2, SeqI.of r3 r4 (by rw [r5]; simp; omega) ?_, r5⟩
  intro k hk
  rw [r5]
  simp at hk
  unfold put
  by_cases hkl : k = L.length
  · subst hkl
    rw [if_pos (by omega)]
    simp
  · rw [if_neg (by omega), hc k (by omega)]
    simp [List.getElem?_append_left (show k < L.length by omega)]

theorem SeqI.push (h : SeqI most M R nxt L) (x : Int) (hr : (L.length : Int) < pow most) :
    ∃ o' M' R', Run most (beginOp 0 x) M (pushN R L.length) o' M' ∧ o'.how = 1 ∧ SeqI most M' R' (nxt + 1) (L ++ [x]) := by
  obtain ⟨o', M', R', a, b, c, _⟩ := h.pushT x hr
  exact ⟨o', M', R', a, b, c⟩

theorem SeqI.full (h : SeqI most M R nxt L) (x : Int) (hr : (L.length : Int) = pow most) : ∃ o', Run most (beginOp 0 x) M 3 o' M ∧ o'.how = 4 := by
  obtain ⟨g, hi, d, hI, hn, hc⟩ := h.ex
  exact push_full d hI x (by omega)

theorem SeqI.pop0 (h : SeqI most M R nxt []) : ∃ n o' M', Run most (beginOp 1 0) M n o' M' ∧ n ≤ 8 ∧ o'.how = 3 ∧ SeqI most M' R nxt [] := by
  obtain ⟨g, hi, d, hI, hn, hc⟩ := h.ex
  simp at hn
  obtain ⟨n, o', M', r1, r2, r3⟩ := pop_run d hI
  rcases r3 with ⟨e1, e2, e3, e4, e5⟩ | ⟨e1, _⟩
  · exact ⟨n, o', M', r1, r2, e2, SeqI.of e3 e4 (by rw [e5]; simp) (fun k hk => by simp at hk)⟩
  · omega

theorem SeqI.pop (h : SeqI most M R nxt L) (hl : 0 < L.length) : ∃ n o' M', Run most (beginOp 1 0) M n o' M' ∧ n ≤ 8 ∧ o'.how = 1 ∧ o'.got = L.getD (L.length - 1) 0 ∧ SeqI most M' R nxt (L.take (L.length - 1)) := by
  obtain ⟨g, hi, d, hI, hn, hc⟩ := h.ex
  obtain ⟨n, o', M', r1, r2, r3⟩ := pop_run d hI
  have hlast : g (hi - 1) = L.getD (L.length - 1) 0 := by
    rw [← hc (L.length - 1) (by omega)]
    congr 1
    omega
  rcases r3 with ⟨e1, _⟩ | ⟨e1, e2, e3, h', e4, e5, e6⟩
  · omega
  · refine ⟨n, o', M', r1, r2, e2, e3.trans hlast, ?_⟩
    have hlen : (L.take (L.length - 1)).length = L.length - 1 := by simp
    rcases e6 with ⟨f1, f2, f3⟩ | ⟨f1, f2, f3⟩
    · refine SeqI.of e4 e5 (by rw [f3, hlen]; omega) ?_
      intro k hk
      rw [hlen] at hk
      rw [f3, hc k (by omega), List.getD_eq_getElem?_getD, List.getD_eq_getElem?_getD, List.getElem?_take, if_pos hk]
    · refine SeqI.of e4 e5 (by rw [f3, hlen]; omega) ?_
      intro k hk
      rw [hlen] at hk
      omega

theorem SeqI.steal0 (h : SeqI most M R nxt []) : ∃ o', Run most (beginOp 2 0) M 2 o' M ∧ o'.how = 3 := by
  obtain ⟨g, hi, d, hI, hn, hc⟩ := h.ex
  simp at hn
  exact steal_none d hI (by omega)

theorem SeqI.steal (h : SeqI most M R nxt L) (hl : 0 < L.length) : ∃ o' M', Run most (beginOp 2 0) M 5 o' M' ∧ o'.how = 1 ∧ o'.got = L.getD 0 0 ∧ SeqI most M' R nxt (L.drop 1) := by
  obtain ⟨g, hi, d, hI, hn, hc⟩ := h.ex
  obtain ⟨o', r1, r2, r3, r4, r5, r6⟩ := steal_run d hI (by omega)
  refine ⟨o', _, r1, r2, ?_, SeqI.of r4 r5 (by rw [r6]; simp; omega) ?_⟩
  · rw [r3, ← hc 0 hl]
    simp
  · intro k hk
    simp at hk
    rw [r6, show rd M 0 + 1 + (k : Int) = rd M 0 + ((k + 1 : Nat) : Int) by omega, hc (k + 1) (by omega)]
    simp
end
end Go.Proofs.Ytiofdfgcghiibaa
