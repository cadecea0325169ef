/-
  How far the numbers of a deque may go in so many steps.
-/
import Derived.Test.YtiofdfgcghiibaaDqSafe
namespace Go.Proofs.Ytiofdfgcghiibaa
open Go.RowKit
set_option linter.unusedVariables false

def CellB (B : Int) (M : Mach) : Prop := -B ≤ rd M 0 ∧ rd M 0 ≤ B ∧ -B ≤ rd M 1 ∧ rd M 1 ≤ B
def OpB (B : Int) (o : DOp) : Prop := -B ≤ o.t ∧ o.t ≤ B ∧ -B ≤ o.b ∧ o.b ≤ B ∧ -B ≤ o.pl ∧ o.pl ≤ B

theorem CellB.more {B B' : Int} {M : Mach} (h : CellB B M) (hb : B ≤ B') : CellB B' M := by unfold CellB at *; omega
theorem OpB.more {B B' : Int} {o : DOp} (h : OpB B o) (hb : B ≤ B') : OpB B' o := by unfold OpB at *; omega
theorem OpB.begin_ {B : Int} (kind : Nat) (x : Int) (hb : 0 ≤ B) : OpB B (beginOp kind x) := by unfold OpB beginOp; simp only; omega

theorem CellB.wr3 {B : Int} {M : Mach} (h : CellB B M) (k x : Int) (hk : 3 ≤ k) : CellB B (wrc M k x) := by
  unfold CellB at *
  rw [rd_wr_far _ _ _ _ (by omega) (by omega) (by omega), rd_wr_far _ _ _ _ (by omega) (by omega) (by omega)]
  exact h
theorem CellB.wr2 {B : Int} {M : Mach} (h : CellB B M) (x : Int) : CellB B (wrc M 2 x) := by
  unfold CellB at *
  rw [rd_wr_far _ _ _ _ (by omega) (by omega) (by omega), rd_wr_far _ _ _ _ (by omega) (by omega) (by omega)]
  exact h
theorem CellB.wr1 {B : Int} {M : Mach} (h : CellB B M) (x : Int) (hl : 1 < M.all.length) (h1 : -B ≤ x) (h2 : x ≤ B) : CellB B (wrc M 1 x) := by
  unfold CellB at *
  rw [rd_wr_far M 1 0 x (by omega) (by omega) (by omega), rd_wr_same _ _ _ (by omega) (by omega)]
  omega
theorem CellB.wr0 {B : Int} {M : Mach} (h : CellB B M) (x : Int) (hl : 1 < M.all.length) (h1 : -B ≤ x) (h2 : x ≤ B) : CellB B (wrc M 0 x) := by
  unfold CellB at *
  rw [rd_wr_same _ _ _ (by omega) (by omega), rd_wr_far M 0 1 x (by omega) (by omega) (by omega)]
  omega

theorem act_bd {B most : Int} {o : DOp} {M : Mach} (hl : 1 < M.all.length) (hs : o.safe M) (h0 : 0 ≤ B) (hc : CellB B M) (ho : OpB B o) : CellB (B + 1) (o.act most M).2 ∧ OpB (B + 1) (o.act most M).1 := by
  have hc' := hc.more (show B ≤ B + 1 by omega)
  have ho' := ho.more (show B ≤ B + 1 by omega)
  have hcc := hc
  have hoo := ho
  unfold CellB at hcc
  unfold OpB at hoo
  obtain ⟨kind, nx, x, b, t, rg, to, pl, cx, ld, won, how, got, err⟩ := o
  simp only at hoo
  obtain ⟨hu, _, hs⟩ := hs
  unfold DOp.act
  split
  all_goals rename_i hk hn
  all_goals (try simp only at hk hn)
  all_goals (try subst hk)
  all_goals (try subst hn)
  all_goals (try simp only at hs)
  · exact ⟨hc', by unfold OpB DOp.push1; simp only; omega⟩
  · exact ⟨hc', by unfold OpB DOp.push2; simp only; omega⟩
  · unfold DOp.push3
    simp only
    split
    · exact ⟨hc', by unfold OpB; simp only; omega⟩
    · split
      · exact ⟨hc', by unfold OpB; simp only; omega⟩
      · exact ⟨hc', by unfold OpB; simp only; omega⟩
  · exact ⟨hc', by unfold OpB DOp.push4; simp only; omega⟩
  · unfold DOp.push5
    simp only
    split
    · exact ⟨hc'.wr3 _ _ hs.2.2.2.2.2.1, by unfold OpB; simp only; omega⟩
    · exact ⟨hc', by unfold OpB; simp only; omega⟩
  · exact ⟨hc'.wr2 _, by unfold OpB DOp.push6; simp only; omega⟩
  · exact ⟨hc'.wr3 _ _ hs.2.2, by unfold OpB DOp.push7; simp only; omega⟩
  · exact ⟨hc'.wr1 _ hl (by (try simp only); omega) (by (try simp only); omega), by unfold OpB DOp.push8; simp only; omega⟩
  · exact ⟨hc', by unfold OpB DOp.pop1; simp only; omega⟩
  · exact ⟨hc', by unfold OpB DOp.pop2; simp only; omega⟩
  · exact ⟨hc'.wr1 _ hl (by (try simp only); omega) (by (try simp only); omega), by unfold OpB DOp.pop3; simp only; omega⟩
  · exact ⟨hc', by unfold OpB DOp.pop4; simp only; omega⟩
  · exact ⟨hc'.wr1 _ hl (by (try simp only); omega) (by (try simp only); omega), by unfold OpB DOp.pop5; simp only; omega⟩
  · unfold DOp.pop6
    simp only
    split
    · exact ⟨hc', by unfold OpB; simp only; omega⟩
    · exact ⟨hc', by unfold OpB; simp only; omega⟩
  · unfold DOp.pop7
    simp only
    split
    · exact ⟨hc'.wr0 _ hl (by (try simp only); omega) (by (try simp only); omega), by unfold OpB; simp only; omega⟩
    · exact ⟨hc', by unfold OpB; simp only; omega⟩
  · unfold DOp.pop8
    simp only
    split
    · exact ⟨hc'.wr1 _ hl (by (try simp only); omega) (by (try simp only); omega), by unfold OpB; simp only; omega⟩
    · exact ⟨hc'.wr1 _ hl (by (try simp only); omega) (by (try simp only); omega), by unfold OpB; simp only; omega⟩
  · exact ⟨hc', by unfold OpB DOp.steal1; simp only; omega⟩
  · unfold DOp.steal2
    simp only
    split
    · exact ⟨hc', by unfold OpB; simp only; omega⟩
    · exact ⟨hc', by unfold OpB; simp only; omega⟩
  · exact ⟨hc', by unfold OpB DOp.steal3; simp only; omega⟩
  · exact ⟨hc', by unfold OpB DOp.steal4; simp only; omega⟩
  · unfold DOp.steal5
    simp only
    split
    · exact ⟨hc'.wr0 _ hl (by (try simp only); omega) (by (try simp only); omega), by unfold OpB; simp only; omega⟩
    · exact ⟨hc', by unfold OpB; simp only; omega⟩
  · exact ⟨hc', ho'⟩

theorem act_len {most : Int} {o : DOp} {M : Mach} : (o.act most M).2.all.length = M.all.length := by
  unfold DOp.act
  split
  all_goals first
    | rfl
    | exact wr_len _ _ _
    | (unfold DOp.push3; try simp only
       split
       · rfl
       · split <;> rfl)
    | (unfold DOp.push5
       split
       · exact wr_len _ _ _
       · rfl)
    | (unfold DOp.pop6; try simp only
       split <;> rfl)
    | (unfold DOp.pop7
       split
       · exact wr_len _ _ _
       · rfl)
    | (unfold DOp.pop8
       split <;> exact wr_len _ _ _)
    | (unfold DOp.steal2
       split <;> rfl)
    | (unfold DOp.steal5
       split
       · exact wr_len _ _ _
       · rfl)
end Go.Proofs.Ytiofdfgcghiibaa
