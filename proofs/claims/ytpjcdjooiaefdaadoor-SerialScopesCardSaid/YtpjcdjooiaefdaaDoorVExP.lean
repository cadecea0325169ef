/-
  The chapter's examples, plainly.
-/
import Derived.Test.YtpjcdjooiaefdaaDoorVSerT
namespace Go.Proofs.YtpjcdjooiaefdaaDoor
open Go.RowKit
set_option linter.unusedVariables false

def exFive : List Ins := [⟨0, 2, 0, 0, 5⟩, ⟨16, 2, 0, 0, 0⟩]
def exPc : List Ins := [⟨8, 1, 0, 0, 1⟩, ⟨9, 0, 1, 0, 0⟩, ⟨16, 0, 0, 0, 0⟩]
def exQc : List Ins := [⟨11, 0, 0, 0, 0⟩, ⟨13, 0, 0, 0, 0⟩, ⟨8, 1, 0, 0, 1⟩, ⟨12, 3, 0, 0, 0⟩, ⟨16, 3, 0, 0, 0⟩]
def exP : List Fn := [⟨0, exPc⟩, ⟨0, exFive⟩]
def exQ : List Fn := [⟨0, exQc⟩, ⟨0, exFive⟩]
def exPr : List Rw := [⟨-1, 0, 0, 2, 5, 3, []⟩, ⟨0, 0, 1, 2, 5, 2, []⟩]
def exQr : List Rw := [⟨-1, 0, 0, 2, 1, 5, [true]⟩, ⟨0, 1, 1, 4, 0, 0, []⟩]

theorem exP_run : exec exP 100 10 0 0 rootT rootG = some (.done ⟨exPr, 5⟩) := by kernel_rfl
theorem exQ_run : exec exQ 100 10 0 0 rootT rootG = some (.done ⟨exQr, 5⟩) := by kernel_rfl

theorem two_fns {a b : Fn} {p : Nat → Fn → Prop} (h0 : p 0 a) (h1 : p 1 b) : ∀ (k : Nat) f, ([a, b] : List Fn)[k]? = some f → p k f := by
  intro k f h
  match k, h with
  | 0, h => injection h with h; subst h; exact h0
  | 1, h => injection h with h; subst h; exact h1
  | k + 2, h => cases h

theorem exP_held : (heldN ⟨0, exPc⟩ 1).testBit 1 = true := by
  rw [heldN_bit _ _ (by omega), holds_iff]
  refine .inr fun F => ?_
  have key : ∀ m, Free exPc 1 m → m = 0 := by
    intro m F
    induction F with
    | start _ => rfl
    | go _ hi hf hj ih =>
      subst ih
      simp [exPc] at hi
      subst hi
      exact absurd ⟨rfl, rfl⟩ hf
  have := key 1 F
  omega

theorem less_held {v : Nat} (h : v.testBit 1 = true) (hv : v < 256) : less 2 v = 0 := by
  refine (less_zero (by omega)).2 fun k hk hb => ?_
  have hm : k = 0 ∨ k = 1 ∨ k = 2 ∨ k = 3 ∨ k = 4 ∨ k = 5 ∨ k = 6 ∨ k = 7 := by omega
  rcases hm with rfl | rfl | rfl | rfl | rfl | rfl | rfl | rfl
  · exact absurd hb (by decide)
  · exact h
  all_goals exact absurd hb (by decide)

theorem wrongAt_all {P : List Fn} {f : Fn} {k : Nat} {x : Ins} (h1 : goalW P f x = false) (h2 : endW f k x = false) (h3 : scopeW f k x = false) (h4 : less (takes P x) (heldN f k) = 0) : wrongAt P f k x = 0 := by
  unfold wrongAt handW
  rw [h1, h2, h3, h4]
  rfl

theorem exP_acc : Acc exP := by
  refine ⟨by decide, by decide, two_fns ?_ ?_, ?_, two_fns ?_ ?_⟩
  · refine ⟨by decide, by decide, by decide, by decide, fun j i hi => ?_⟩
    match j, hi with
    | 0, hi => injection hi with hi; subst hi; decide
    | 1, hi => injection hi with hi; subst hi; decide
    | 2, hi => injection hi with hi; subst hi; decide
    | j + 3, hi => cases hi
  · refine ⟨by decide, by decide, by decide, by decide, fun j i hi => ?_⟩
    match j, hi with
    | 0, hi => injection hi with hi; subst hi; decide
    | 1, hi => injection hi with hi; subst hi; decide
    | j + 2, hi => cases hi
  · intro f hf; injection hf with hf; subst hf; rfl
  · intro j i hi
    match j, hi with
    | 0, hi => injection hi with hi; subst hi; exact wrongAt_all rfl rfl rfl (less_zero_left _)
    | 1, hi => injection hi with hi; subst hi; exact wrongAt_all rfl rfl rfl (less_held exP_held (heldN_lt _ _))
    | 2, hi => injection hi with hi; subst hi; exact wrongAt_all rfl rfl rfl (less_zero_left _)
    | j + 3, hi => cases hi
  · intro j i hi
    match j, hi with
    | 0, hi => injection hi with hi; subst hi; exact wrongAt_all rfl rfl rfl (less_zero_left _)
    | 1, hi => injection hi with hi; subst hi; exact wrongAt_all rfl rfl rfl (less_zero_left _)
    | j + 2, hi => cases hi

theorem exQ_acc : Acc exQ := by
  refine ⟨by decide, by decide, two_fns ?_ ?_, ?_, two_fns ?_ ?_⟩
  · refine ⟨by decide, by decide, by decide, by decide, fun j i hi => ?_⟩
    match j, hi with
    | 0, hi => injection hi with hi; subst hi; decide
    | 1, hi => injection hi with hi; subst hi; decide
    | 2, hi => injection hi with hi; subst hi; decide
    | 3, hi => injection hi with hi; subst hi; decide
    | 4, hi => injection hi with hi; subst hi; decide
    | j + 5, hi => cases hi
  · refine ⟨by decide, by decide, by decide, by decide, fun j i hi => ?_⟩
    match j, hi with
    | 0, hi => injection hi with hi; subst hi; decide
    | 1, hi => injection hi with hi; subst hi; decide
    | j + 2, hi => cases hi
  · intro f hf; injection hf with hf; subst hf; rfl
  · intro j i hi
    match j, hi with
    | 0, hi => injection hi with hi; subst hi; exact wrongAt_all rfl rfl rfl (less_zero_left _)
    | 1, hi => injection hi with hi; subst hi; exact wrongAt_all rfl rfl rfl (less_zero_left _)
    | 2, hi => injection hi with hi; subst hi; exact wrongAt_all rfl rfl rfl (less_zero_left _)
    | 3, hi => injection hi with hi; subst hi; exact wrongAt_all rfl rfl rfl (less_zero_left _)
    | 4, hi => injection hi with hi; subst hi; exact wrongAt_all rfl rfl rfl (less_zero_left _)
    | j + 5, hi => cases hi
  · intro j i hi
    match j, hi with
    | 0, hi => injection hi with hi; subst hi; exact wrongAt_all rfl rfl rfl (less_zero_left _)
    | 1, hi => injection hi with hi; subst hi; exact wrongAt_all rfl rfl rfl (less_zero_left _)
    | j + 2, hi => cases hi

end Go.Proofs.YtpjcdjooiaefdaaDoor
