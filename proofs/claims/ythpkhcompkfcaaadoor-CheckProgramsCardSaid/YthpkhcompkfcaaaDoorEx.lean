/-
  The chapter's examples.
-/
import Derived.Test.YthpkhcompkfcaaaDoorMoves
namespace Go.Proofs.YthpkhcompkfcaaaDoor
open Go.RowKit

def exA : List Ins := [⟨8, 1, 0, 0, 0⟩, ⟨9, 0, 1, 0, 0⟩, ⟨16, 0, 0, 0, 0⟩]
def exB : List Ins := [⟨9, 0, 1, 0, 0⟩, ⟨16, 0, 0, 0, 0⟩]
def exC : List Ins := [⟨11, 0, 0, 0, 0⟩, ⟨16, 0, 0, 0, 0⟩]

theorem prgF_one {f : Fn} (h1 : sizeF [f] = Flt.none) (h2 : partsF [f] = Flt.none) (h3 : rootF [f] = Flt.none) : prgF [f] = flowF [f] 0 f := by
  unfold prgF
  rw [if_neg (fun h => h h1), if_neg (fun h => h h2), if_neg (fun h => h h3)]
  unfold flowsF
  simp only [firstW]
  split
  · rename_i h; exact h.symm
  · rfl

theorem hand_none {P : List Fn} {f : Fn} {k : Nat} {x : Ins} (h : takes P x = 0) : handW P f k x = false := by unfold handW; rw [h]; simp [less]

theorem exA_held : (heldN ⟨0, exA⟩ 1).testBit 1 = true := by
  rw [heldN_bit _ _ (by omega), holds_iff]
  refine .inr fun F => ?_
  have key : ∀ m, Free exA 1 m → m = 0 := by
    intro m F
    induction F with
    | start _ => rfl
    | go _ hi hf hj ih =>
      subst ih
      simp [exA] at hi
      subst hi
      exact absurd ⟨rfl, rfl⟩ hf
  have := key 1 F
  omega

theorem prgF_A : prgF [⟨0, exA⟩] = Flt.none := by
  rw [prgF_one (by decide) (by decide) (by decide)]
  unfold flowF
  rw [firstW_none]
  intro k x hk
  rw [flt_none, wrongAt_zero, Nat.zero_add]
  have hm : k = 0 ∨ k = 1 ∨ k = 2 := by have := (List.getElem?_eq_some_iff.1 hk).1; simp [exA] at this; omega
  rcases hm with rfl | rfl | rfl
  · have : x = ⟨8, 1, 0, 0, 0⟩ := by simpa [exA] using hk.symm
    subst this
    exact ⟨by decide, by decide, by decide, hand_none (by decide)⟩
  · have : x = ⟨9, 0, 1, 0, 0⟩ := by simpa [exA] using hk.symm
    subst this
    refine ⟨by decide, by decide, by decide, ?_⟩
    unfold handW
    rw [show takes [⟨0, exA⟩] ⟨9, 0, 1, 0, 0⟩ = 2 by decide]
    rw [(less_zero (by omega)).2 (fun h hh hb => by
      have : h = 1 := by
        have hm : h = 0 ∨ h = 1 ∨ h = 2 ∨ h = 3 ∨ h = 4 ∨ h = 5 ∨ h = 6 ∨ h = 7 := by omega
        rcases hm with rfl | rfl | rfl | rfl | rfl | rfl | rfl | rfl <;> first | rfl | exact absurd hb (by decide)
      subst this
      exact exA_held)]
    rfl
  · have : x = ⟨16, 0, 0, 0, 0⟩ := by simpa [exA] using hk.symm
    subst this
    exact ⟨by decide, by decide, by decide, hand_none (by decide)⟩

theorem prgF_B : prgF [⟨0, exB⟩] = ⟨0, 0, 16⟩ := by
  rw [prgF_one (by decide) (by decide) (by decide)]
  have hw : wrongAt [⟨0, exB⟩] ⟨0, exB⟩ 0 ⟨9, 0, 1, 0, 0⟩ = 16 := by
    unfold wrongAt
    rw [show goalW [⟨0, exB⟩] ⟨0, exB⟩ ⟨9, 0, 1, 0, 0⟩ = false by decide, show endW ⟨0, exB⟩ 0 ⟨9, 0, 1, 0, 0⟩ = false by decide, show scopeW ⟨0, exB⟩ 0 ⟨9, 0, 1, 0, 0⟩ = false by decide]
    have hh : handW [⟨0, exB⟩] ⟨0, exB⟩ 0 ⟨9, 0, 1, 0, 0⟩ = true := by
      unfold handW
      rw [heldN_zero _ (by decide)]
      decide
    rw [hh]
    rfl
  unfold flowF
  have e : flt (0 : Nat) (0 : Nat) (wrongAt [⟨0, exB⟩] ⟨0, exB⟩ 0 ⟨9, 0, 1, 0, 0⟩) = ⟨0, 0, 16⟩ := by rw [hw]; rfl
  exact (firstW_stop (g := fun j i => flt (0 : Nat) (j : Nat) (wrongAt [⟨0, exB⟩] ⟨0, exB⟩ j i)) (k0 := 0) (k := 0) rfl (show exB[0]? = some ⟨9, 0, 1, 0, 0⟩ from rfl) (fun h => by have h2 := e.symm.trans h; exact absurd h2 (by decide))).trans e

theorem prgF_C : prgF [⟨0, exC⟩] = ⟨0, 1, 15⟩ := by
  rw [prgF_one (by decide) (by decide) (by decide)]
  have h0 : wrongAt [⟨0, exC⟩] ⟨0, exC⟩ 0 ⟨11, 0, 0, 0, 0⟩ = 0 := by
    rw [wrongAt_zero]
    exact ⟨by decide, by decide, by decide, hand_none (by decide)⟩
  have h1 : wrongAt [⟨0, exC⟩] ⟨0, exC⟩ 1 ⟨16, 0, 0, 0, 0⟩ = 15 := by
    unfold wrongAt
    rw [show goalW [⟨0, exC⟩] ⟨0, exC⟩ ⟨16, 0, 0, 0, 0⟩ = false by decide, show endW ⟨0, exC⟩ 1 ⟨16, 0, 0, 0, 0⟩ = false by decide, show scopeW ⟨0, exC⟩ 1 ⟨16, 0, 0, 0, 0⟩ = true by decide]
    rfl
  unfold flowF
  have e0 : flt (0 : Nat) (0 : Nat) (wrongAt [⟨0, exC⟩] ⟨0, exC⟩ 0 ⟨11, 0, 0, 0, 0⟩) = Flt.none := by rw [h0]; rfl
  have e : flt (0 : Nat) (1 : Nat) (wrongAt [⟨0, exC⟩] ⟨0, exC⟩ 1 ⟨16, 0, 0, 0, 0⟩) = ⟨0, 1, 15⟩ := by rw [h1]; rfl
  exact (firstW_stop (g := fun j i => flt (0 : Nat) (j : Nat) (wrongAt [⟨0, exC⟩] ⟨0, exC⟩ j i)) (k0 := 0) (k := 1)
    (firstW_snoc (g := fun j i => flt (0 : Nat) (j : Nat) (wrongAt [⟨0, exC⟩] ⟨0, exC⟩ j i)) (k0 := 0) (k := 0) (l := exC) rfl rfl e0) (show exC[1]? = some ⟨16, 0, 0, 0, 0⟩ from rfl) (fun h => by have h2 := e.symm.trans h; exact absurd h2 (by decide))).trans e

end Go.Proofs.YthpkhcompkfcaaaDoor
