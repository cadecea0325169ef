/-
  A new deque is an empty list; what a Push, a Pop and a Steal make of a list, within 300 steps.
-/
import Derived.Test.YtlhpngoplmccjaaAwake
import Derived.Test.YtlhpngoplmccjaaDqList
namespace Go.Proofs.Ytlhpngoplmccjaa
open Go.RowKit
set_option linter.unusedVariables false

theorem z600 (st : List Int) (l : Int) (h0 : 0 ≤ l) (h8 : l ≤ 8) : (newM ⟨List.replicate 600 0, 0, st⟩ l).all.length = 600 ∧ (newM ⟨List.replicate 600 0, 0, st⟩ l).used = 3 + (pow l).toNat ∧ rd (newM ⟨List.replicate 600 0, 0, st⟩ l) 0 = 0 ∧ rd (newM ⟨List.replicate 600 0, 0, st⟩ l) 1 = 0 ∧ rd (newM ⟨List.replicate 600 0, 0, st⟩ l) 2 = (⟨3, l⟩ : Rg).word := by
  have hp := pow_pos l
  have e0 : ∀ k : Int, rd (Mach.give ⟨List.replicate 600 0, 0, st⟩ (3 + pow l).toNat) k = 0 := fun k => rep_free 600 k.toNat
  refine ⟨?_, ?_, ?_, ?_, ?_⟩
  · unfold newM
    rw [wr_len]
    exact List.length_replicate
  · show 0 + (3 + pow l).toNat = _
    omega
  · unfold newM
    rw [rd_wr_far _ _ _ _ (by omega) (by omega) (by omega)]
    exact e0 0
  · unfold newM
    rw [rd_wr_far _ _ _ _ (by omega) (by omega) (by omega)]
    exact e0 1
  · unfold newM
    exact rd_wr_same _ _ _ (by omega) (by show (2 : Int) < ((List.replicate 600 (0 : Int)).length : Nat); rw [List.length_replicate]; omega)

theorem new_right (l : Int) (h0 : 0 ≤ l) (h8 : l ≤ 8) : Rg.Right ⟨3, l⟩ := by
  have := pow_le l h8
  exact ⟨h0, h8, by simp, by simp only; omega⟩

theorem new_ds (st : List Int) (l most : Int) (h0 : 0 ≤ l) (hlm : l ≤ most) (h8 : most ≤ 8) (g : Int → Int) : DS most (newM ⟨List.replicate 600 0, 0, st⟩ l) g 1 ⟨3, l⟩ 0 0 ∧ Id (newM ⟨List.replicate 600 0, 0, st⟩ l) ⟨3, l⟩ 0 0 := by
  obtain ⟨a1, a2, a3, a4, a5⟩ := z600 st l h0 (by omega)
  have hp := pow_pos l
  have hp2 := pow_le l (by omega)
  exact ⟨⟨a1, by rw [a2]; omega, new_right l h0 (by omega), by simp, by rw [a2]; simp only; omega, hlm, h8, a5, by rw [a3]; omega, by rw [a3]; omega, by omega, by rw [a3]; simp only; omega, by omega, fun i h1 h2 => by rw [a3] at h1; omega⟩,
    rfl, by rw [a4], by rw [a2]; simp only; omega⟩

theorem new_seq (st : List Int) (l most : Int) (h0 : 0 ≤ l) (hlm : l ≤ most) (h8 : most ≤ 8) : SeqI most (newM ⟨List.replicate 600 0, 0, st⟩ l) ⟨3, l⟩ 1 [] := by
  obtain ⟨d, hI⟩ := new_ds st l most h0 hlm h8 (fun _ => 0)
  exact ⟨_, _, d, hI, by rw [(z600 st l h0 (by omega)).2.2.1]; simp, fun k hk => by simp at hk⟩

section
variable {most : Int} {M : Mach} {R : Rg} {nxt : Int} {L : List Int}

theorem SeqI.cb (h : SeqI most M R nxt L) (hn : nxt ≤ 1000) : CellB 1000 M ∧ 1 < M.all.length := by
  obtain ⟨a1, a2, a3, a4, a5, a6, a7, a8⟩ := h.cells
  obtain ⟨g, hi, d, _⟩ := h.ex
  refine ⟨?_, by rw [d.len]; omega⟩
  unfold CellB
  omega

theorem SeqI.m8 (h : SeqI most M R nxt L) : most ≤ 8 := by
  obtain ⟨g, hi, d, _⟩ := h.ex
  exact d.m8

/-- What List tells. -/
theorem SeqI.list (h : SeqI most M R nxt L) : dqL M R = L := by
  obtain ⟨a1, a2, a3, a4, a5, a6, a7, a8⟩ := h.cells
  have e : (rd M 1 - rd M 0).toNat = L.length := by omega
  unfold dqL
  rw [e]
  apply List.ext_getElem
  · rw [dqN_len]
  · intro i h1 h2
    have := dqN_at M R L.length i h2
    rw [a6 i h2] at this
    rw [List.getD_eq_getElem?_getD, List.getD_eq_getElem?_getD, List.getElem?_eq_getElem h1, List.getElem?_eq_getElem h2] at this
    exact this

theorem SeqI.up (h : SeqI most M R nxt L) {n' : Int} (hn : nxt ≤ n') : SeqI most M R n' L := by
  obtain ⟨g, hi, d, hI, hl, hc⟩ := h.ex
  exact ⟨g, hi, ⟨d.len, d.us, d.rt, d.ra, d.ru, d.rl, d.m8, d.wd, d.t0, d.tl, d.lh, d.hs, by have := d.hn; omega, d.ct⟩, hI, hl, hc⟩

theorem SeqI.push'' (h : SeqI most M R nxt L) (x : Int) : ∃ n o' M' R', Run most (beginOp 0 x) M n o' M' ∧ n ≤ 300 ∧ rd M' 0 = rd M 0 ∧
    (((L.length : Int) = pow most ∧ o'.how = 4 ∧ SeqI most M' R' (nxt + 1) L) ∨ ((L.length : Int) < pow most ∧ o'.how = 1 ∧ SeqI most M' R' (nxt + 1) (L ++ [x]))) := by
  have hr := h.room
  by_cases hf : (L.length : Int) = pow most
  · obtain ⟨o', r1, r2⟩ := h.full x hf
    refine ⟨3, o', M, R, r1, by omega, rfl, .inl ⟨hf, r2, ?_⟩⟩
    obtain ⟨g, hi, d, hI, hl, hc⟩ := h.ex
    exact ⟨g, hi, ⟨d.len, d.us, d.rt, d.ra, d.ru, d.rl, d.m8, d.wd, d.t0, d.tl, d.lh, d.hs, by have := d.hn; omega, d.ct⟩, hI, hl, hc⟩
  · obtain ⟨o', M', R', r1, r2, r3, r4⟩ := h.pushT x (by omega)
    refine ⟨_, o', M', R', r1, ?_, r4, .inr ⟨by omega, r2, r3⟩⟩
    unfold pushN
    obtain ⟨g, hi, d, _⟩ := h.ex
    have hp := pow_le most d.m8
    have h1 := d.rt.1
    split
    · rename_i hh
      have : R.l < most := by
        by_cases he : R.l = most
        · rw [he] at hr hh
          omega
        · have := d.rl
          omega
      have ps := pow_succ R.l h1
      have pm := pow_mono (a := R.l + 1) (b := most) (by omega) (by omega)
      omega
    · omega
theorem SeqI.push' (h : SeqI most M R nxt L) (x : Int) : ∃ n o' M' R', Run most (beginOp 0 x) M n o' M' ∧ n ≤ 300 ∧
    (((L.length : Int) = pow most ∧ o'.how = 4 ∧ SeqI most M' R' (nxt + 1) L) ∨ ((L.length : Int) < pow most ∧ o'.how = 1 ∧ SeqI most M' R' (nxt + 1) (L ++ [x]))) := by
  obtain ⟨n, o', M', R', a, b, _, c⟩ := h.push'' x
  exact ⟨n, o', M', R', a, b, c⟩

end
end Go.Proofs.Ytlhpngoplmccjaa
