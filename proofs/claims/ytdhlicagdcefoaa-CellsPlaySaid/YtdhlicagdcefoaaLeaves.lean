/-
  What a call leaves as it was: plain facts about Does.
-/
import Derived.Test.YtdhlicagdcefoaaDoes
import Derived.Test.YtdhlicagdcefoaaOnce
namespace Go.Proofs.Ytdhlicagdcefoaa
open Go.RowKit

def keepsB (o : OpD) (r e : Int) : Bool := (e != 0) || (o.kind == 0) || (o.kind == 2 && r == 0)

theorem Mach.peek_step (M : Mach) (j : Nat) (y : Int) : (M.step j).peek y = M.peek y := rfl

theorem Mach.peek_put (M : Mach) (k : Nat) (x y : Int) (h : y ≠ k) : (M.put k x).peek y = M.peek y := by
  unfold Mach.peek Mach.put
  simp only
  split
  · rename_i hy
    obtain ⟨n, rfl⟩ := Int.eq_ofNat_of_zero_le hy.1
    have : k ≠ n := fun e => h (by rw [e])
    show (M.all.set k x).getD n 0 = M.all.getD n 0
    rw [List.getD_eq_getElem?_getD, List.getElem?_set_ne this, ← List.getD_eq_getElem?_getD]
  · rfl

theorem does_good {M : Mach} (g : Good M) (o : OpD) : Good (M.does o).2.2 := by
  unfold Mach.does Mach.load Mach.store Mach.cas Mach.add Mach.alloc
  repeat' split
  all_goals first
    | exact g
    | exact g.step _
    | exact (g.step _).put _ _
    | (exfalso; have := g.2.1; have := g.2.2; omega)

theorem does_err {M : Mach} {o : OpD} (h : (M.does o).2.1 ≠ 0) : (M.does o).2.2 = M := by
  revert h
  unfold Mach.does Mach.load Mach.store Mach.cas Mach.add Mach.alloc
  repeat' split
  all_goals first
    | (intro _; rfl)
    | (intro hh; exact absurd rfl hh)

theorem does_w {M : Mach} (g : Good M) {o : OpD} (h : (M.does o).2.1 = 0) : 0 ≤ o.w ∧ o.w < 4 ∧ (M.does o).2.2.steps = (M.step o.w.toNat).steps := by
  have g1 := g.1
  revert h
  unfold Mach.does Mach.load Mach.store Mach.cas Mach.add Mach.alloc
  repeat' split
  all_goals first
    | (intro hh; exact absurd (show (10 : Int) = 0 from hh) (by decide))
    | (intro hh; exact absurd (show (21 : Int) = 0 from hh) (by decide))
    | (have hs : M.sees o.w o.at_ := by assumption
       unfold Mach.sees at hs
       intro _
       exact ⟨hs.1, by omega, rfl⟩)
    | (exfalso; have := g.2.1; have := g.2.2; omega)

theorem does_peek {M : Mach} (g : Good M) {o : OpD} {y : Int} (h : keepsB o (M.does o).1 (M.does o).2.1 = true ∨ y ≠ o.at_) : (M.does o).2.2.peek y = M.peek y := by
  by_cases he : (M.does o).2.1 = 0
  · revert h he
    unfold keepsB Mach.does Mach.load Mach.store Mach.cas Mach.add Mach.alloc
    repeat' split
    all_goals first
      | (intro _ _; rfl)
      | (have hs : M.sees o.w o.at_ := by assumption
         unfold Mach.sees at hs
         intro hh _
         refine (Mach.peek_put _ _ _ _ ?_).trans rfl
         rcases hh with hh | hh
         · simp_all
         · omega)
      | (exfalso; have := g.2.1; have := g.2.2; omega)
      | (rename_i hq; exact absurd rfl hq)
  · rw [does_err he]

theorem steps_step (M : Mach) (j : Nat) (hj : j < M.steps.length) (z : Int) : (M.step j).stepsOf z = if z = j then wrap64 (M.stepsOf z + 1) else M.stepsOf z := by
  unfold Mach.stepsOf Mach.step
  simp only [List.length_set]
  by_cases hz : z = j
  · subst hz
    rw [if_pos rfl, if_pos ⟨by omega, by omega⟩, if_pos ⟨by omega, by omega⟩]
    simp [hj]
  · rw [if_neg hz]
    split
    · rename_i h
      obtain ⟨n, rfl⟩ := Int.eq_ofNat_of_zero_le h.1
      have : j ≠ n := fun e => hz (by rw [e])
      show (M.steps.set j _).getD n 0 = M.steps.getD n 0
      rw [List.getD_eq_getElem?_getD, List.getElem?_set_ne this, ← List.getD_eq_getElem?_getD]
    · rfl

theorem stepsOf_congr {M N : Mach} (h : M.steps = N.steps) (z : Int) : M.stepsOf z = N.stepsOf z := by unfold Mach.stepsOf; rw [h]

theorem does_steps {M : Mach} (g : Good M) (o : OpD) (z : Int) : (M.does o).2.2.stepsOf z = if (M.does o).2.1 = 0 ∧ z = o.w then wrap64 (M.stepsOf z + 1) else M.stepsOf z := by
  by_cases he : (M.does o).2.1 = 0
  · obtain ⟨h0, h1, h2⟩ := does_w g he
    have g1 := g.1
    rw [stepsOf_congr h2, steps_step M _ (by omega)]
    obtain ⟨j, hj⟩ := Int.eq_ofNat_of_zero_le h0
    rw [hj]
    simp only [Int.toNat_natCast]
    by_cases hz : z = j
    · rw [if_pos hz, if_pos ⟨he, hz⟩]
    · rw [if_neg hz, if_neg (fun hh => hz hh.2)]
  · rw [if_neg (fun hh => he hh.1), does_err he]

/-- A row of numbers of which the first k are filled. -/
def fillTo (g : Nat → Int) (n k : Nat) : List Int := (List.range n).map fun i => if i < k then g i else 0

theorem fillTo_len (g : Nat → Int) (n k : Nat) : (fillTo g n k).length = n := by simp [fillTo]
theorem fillTo_set (g : Nat → Int) (n k : Nat) : (fillTo g n k).set k (g k) = fillTo g n (k + 1) := by
  apply List.ext_getElem
  · simp [fillTo]
  · intro i h1 h2
    simp only [fillTo, List.getElem_set, List.getElem_map, List.getElem_range]
    by_cases hi : k = i
    · subst hi
      rw [if_pos rfl, if_pos (by omega)]
    · rw [if_neg hi]
      by_cases hl : i < k
      · rw [if_pos hl, if_pos (by omega)]
      · rw [if_neg hl, if_neg (by omega)]
theorem fillTo_get (g : Nat → Int) (n k i : Nat) (h : i < n) (hk : i < k) : (fillTo g n k).getD i 0 = g i := by
  simp [fillTo, h, hk]
theorem fillTo_zero (g : Nat → Int) (n : Nat) : fillTo g n 0 = List.replicate n 0 := by
  simp [fillTo, List.map_const']
end Go.Proofs.Ytdhlicagdcefoaa
