/-
  A set of numbers kept as truths: how many there are, which is the first, and which the last.
-/
import Derived.Test.YtiofdfgcghiibaaDqInv
namespace Go.Proofs.Ytiofdfgcghiibaa
open Go.RowKit
set_option linter.unusedVariables false

/-- How many of the first k are true. -/
def cb (l : List Bool) : Nat → Nat
  | 0 => 0
  | k + 1 => cb l k + if l.getD k false then 1 else 0

theorem cb_le (l : List Bool) (k : Nat) : cb l k ≤ k := by
  induction k with
  | zero => exact Nat.le_refl _
  | succ k ih =>
    rw [cb]
    split <;> omega

/-- The truths are those of the numbers g from a to b. -/
structure In (l : List Bool) (g : Int → Int) (a b : Int) : Prop where
  ab : a ≤ b
  io : ∀ n : Nat, l.getD n false = true ↔ ∃ i, a ≤ i ∧ i < b ∧ g i = n
  mo : ∀ i j, a ≤ i → i < j → j < b → g i < g j
  vl : ∀ i, a ≤ i → i < b → 0 ≤ g i ∧ g i < l.length

theorem In.split {l : List Bool} {g : Int → Int} {a b : Int} (h : In l g a b) (K : Nat) :
    ∃ p, a ≤ p ∧ p ≤ b ∧ (cb l K : Int) = p - a ∧ (∀ i, a ≤ i → i < p → g i < K) ∧ (∀ i, p ≤ i → i < b → (K : Int) ≤ g i) := by
  induction K with
  | zero => exact ⟨a, Int.le_refl _, h.ab, by simp [cb], fun i h1 h2 => by omega, fun i h1 h2 => by have := (h.vl i h1 h2).1; omega⟩
  | succ K ih =>
    obtain ⟨p, h1, h2, h3, h4, h5⟩ := ih
    by_cases hk : l.getD K false = true
    · obtain ⟨i, i1, i2, i3⟩ := (h.io K).1 hk
      have hip : p ≤ i := by
        by_cases hh : p ≤ i
        · exact hh
        · have := h4 i i1 (by omega)
          omega
      have hpi : i = p := by
        by_cases hh : i = p
        · exact hh
        · have := h.mo p i h1 (by omega) i2
          have := h5 p (Int.le_refl _) (by omega)
          omega
      subst hpi
      refine ⟨i + 1, by omega, by omega, ?_, ?_, ?_⟩
      · rw [cb, if_pos hk]
        omega
      · intro j j1 j2
        by_cases hj : j = i
        · subst hj; omega
        · have := h4 j j1 (by omega)
          omega
      · intro j j1 j2
        have := h.mo i j h1 (by omega) j2
        omega
    · refine ⟨p, h1, h2, ?_, ?_, ?_⟩
      · rw [cb, if_neg hk]
        omega
      · intro j j1 j2
        have := h4 j j1 j2
        omega
      · intro j j1 j2
        have h6 := h5 j j1 j2
        by_cases hj : g j = (K : Int)
        · exact absurd ((h.io K).2 ⟨j, by omega, j2, hj⟩) hk
        · omega

theorem In.count {l : List Bool} {g : Int → Int} {a b : Int} (h : In l g a b) : (cb l l.length : Int) = b - a := by
  obtain ⟨p, h1, h2, h3, h4, h5⟩ := h.split l.length
  have : p = b := by
    by_cases hh : p = b
    · exact hh
    · have := h5 p (Int.le_refl _) (by omega)
      have := (h.vl p h1 (by omega)).2
      omega
  omega

/-- Who is in it, as the truths come. -/
theorem In.at_ {l : List Bool} {g : Int → Int} {a b : Int} (h : In l g a b) (K : Nat) (hk : l.getD K false = true) : a + cb l K < b ∧ g (a + cb l K) = K := by
  obtain ⟨p, h1, h2, h3, h4, h5⟩ := h.split K
  obtain ⟨i, i1, i2, i3⟩ := (h.io K).1 hk
  have hip : p ≤ i := by
    by_cases hh : p ≤ i
    · exact hh
    · have := h4 i i1 (by omega)
      omega
  have hpi : i = p := by
    by_cases hh : i = p
    · exact hh
    · have := h.mo p i h1 (by omega) i2
      have := h5 p (Int.le_refl _) (by omega)
      omega
  subst hpi
  have e : a + (cb l K : Int) = i := by omega
  rw [e]
  exact ⟨i2, i3⟩

theorem getD_setB (l : List Bool) (k i : Nat) (x : Bool) (hk : k < l.length) : (l.set k x).getD i false = if k = i then x else l.getD i false := by
  by_cases h : k = i
  · subst h
    simp [hk]
  · rw [if_neg h, List.getD_eq_getElem?_getD, List.getElem?_set_ne h, ← List.getD_eq_getElem?_getD]

/-- One more, above all. -/
theorem In.more {l : List Bool} {g : Int → Int} {a b : Int} (h : In l g a b) (n : Nat) (hn : n < l.length) (ha : a ≤ b) (hv : ∀ i, a ≤ i → i < b → g i < n) : In (l.set n true) (fun i => if i = b then (n : Int) else g i) a (b + 1) := by
  refine ⟨by omega, ?_, ?_, ?_⟩
  · intro m
    rw [getD_setB _ _ _ _ hn]
    by_cases hm : n = m
    · subst hm
      rw [if_pos rfl]
      exact ⟨fun _ => ⟨b, ha, by omega, by rw [if_pos rfl]⟩, fun _ => rfl⟩
    · rw [if_neg hm, h.io m]
      constructor
      · rintro ⟨i, i1, i2, i3⟩
        exact ⟨i, i1, by omega, by rw [if_neg (by omega)]; exact i3⟩
      · rintro ⟨i, i1, i2, i3⟩
        by_cases hi : i = b
        · rw [if_pos hi] at i3
          omega
        · rw [if_neg hi] at i3
          exact ⟨i, i1, by omega, i3⟩
  · intro i j i1 ij j2
    rw [if_neg (show ¬ i = b by omega)]
    by_cases hj : j = b
    · rw [if_pos hj]
      exact hv i i1 (by omega)
    · rw [if_neg hj]
      exact h.mo i j i1 ij (by omega)
  · intro i i1 i2
    rw [List.length_set]
    by_cases hi : i = b
    · rw [if_pos hi]
      omega
    · rw [if_neg hi]
      exact h.vl i i1 (by omega)

/-- The last one goes. -/
theorem In.last {l : List Bool} {g : Int → Int} {a b : Int} (h : In l g a b) (hab : a < b) : l.getD (g (b - 1)).toNat false = true ∧ In (l.set (g (b - 1)).toNat false) g a (b - 1)
    ∧ cb (l.set (g (b - 1)).toNat false) (l.set (g (b - 1)).toNat false).length = cb (l.set (g (b - 1)).toNat false) (g (b - 1)).toNat := by
  have hv := h.vl (b - 1) (by omega) (by omega)
  obtain ⟨n, hn⟩ := Int.eq_ofNat_of_zero_le hv.1
  have e : (g (b - 1)).toNat = n := by omega
  rw [e]
  have hnl : n < l.length := by omega
  have hi : In (l.set n false) g a (b - 1) := by
    refine ⟨by omega, ?_, fun i j a1 a2 a3 => h.mo i j a1 a2 (by omega), fun i a1 a2 => by rw [List.length_set]; exact h.vl i a1 (by omega)⟩
    intro m
    rw [getD_setB _ _ _ _ hnl]
    by_cases hm : n = m
    · subst hm
      rw [if_pos rfl]
      constructor
      · intro hh; cases hh
      · rintro ⟨i, i1, i2, i3⟩
        have := h.mo i (b - 1) i1 i2 (by omega)
        omega
    · rw [if_neg hm, h.io m]
      constructor
      · rintro ⟨i, i1, i2, i3⟩
        refine ⟨i, i1, ?_, i3⟩
        by_cases hib : i = b - 1
        · rw [hib] at i3; omega
        · omega
      · rintro ⟨i, i1, i2, i3⟩
        exact ⟨i, i1, by omega, i3⟩
  refine ⟨(h.io n).2 ⟨b - 1, by omega, by omega, hn⟩, hi, ?_⟩
  have hc := hi.count
  obtain ⟨p, h1, h2, h3, h4, h5⟩ := hi.split n
  have : p = b - 1 := by
    by_cases hh : p = b - 1
    · exact hh
    · have := h5 p (Int.le_refl _) (by omega)
      have := h.mo p (b - 1) h1 (by omega) (by omega)
      omega
  omega

/-- The first one goes. -/
theorem In.first {l : List Bool} {g : Int → Int} {a b : Int} (h : In l g a b) (hab : a < b) : l.getD (g a).toNat false = true ∧ In (l.set (g a).toNat false) g (a + 1) b ∧ cb (l.set (g a).toNat false) (g a).toNat = 0 := by
  have hv := h.vl a (by omega) (by omega)
  obtain ⟨n, hn⟩ := Int.eq_ofNat_of_zero_le hv.1
  have e : (g a).toNat = n := by omega
  rw [e]
  have hnl : n < l.length := by omega
  have hi : In (l.set n false) g (a + 1) b := by
    refine ⟨by omega, ?_, fun i j a1 a2 a3 => h.mo i j (by omega) a2 a3, fun i a1 a2 => by rw [List.length_set]; exact h.vl i (by omega) a2⟩
    intro m
    rw [getD_setB _ _ _ _ hnl]
    by_cases hm : n = m
    · subst hm
      rw [if_pos rfl]
      constructor
      · intro hh; cases hh
      · rintro ⟨i, i1, i2, i3⟩
        have := h.mo a i (Int.le_refl _) (by omega) i2
        omega
    · rw [if_neg hm, h.io m]
      constructor
      · rintro ⟨i, i1, i2, i3⟩
        refine ⟨i, ?_, i2, i3⟩
        by_cases hib : i = a
        · rw [hib] at i3; omega
        · omega
      · rintro ⟨i, i1, i2, i3⟩
        exact ⟨i, by omega, i2, i3⟩
  refine ⟨(h.io n).2 ⟨a, by omega, by omega, hn⟩, hi, ?_⟩
  obtain ⟨p, h1, h2, h3, h4, h5⟩ := hi.split n
  have : p = a + 1 := by
    by_cases hh : p = a + 1
    · exact hh
    · have := h4 (a + 1) (by omega) (by omega)
      have := h.mo a (a + 1) (by omega) (by omega) (by omega)
      omega
  omega

/-- Nothing at all. -/
theorem In.none (n : Nat) (g : Int → Int) (a : Int) : In (List.replicate n false) g a a := by
  refine ⟨Int.le_refl _, fun m => ⟨fun hh => ?_, fun ⟨i, i1, i2, _⟩ => by omega⟩, fun i j i1 _ j2 => by omega, fun i i1 i2 => by omega⟩
  rw [List.getD_eq_getElem?_getD, List.getElem?_replicate] at hh
  split at hh <;> cases hh
end Go.Proofs.Ytiofdfgcghiibaa
