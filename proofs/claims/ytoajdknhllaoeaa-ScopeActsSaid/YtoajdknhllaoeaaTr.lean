/-
  Stage 14, plain: a tree of scopes; who is around whom; looks.
-/
import Derived.WalkKit
namespace Go.Proofs.Ytoajdknhllaoeaa
set_option linter.unusedVariables false

/-- n scopes: in which one each was opened, and how many are around it. -/
structure Tre (n : Nat) (par nst : Nat → Nat) : Prop where
  pos : 0 < n
  lt : ∀ k, 0 < k → k < n → par k < k
  zero : nst 0 = 0
  one : ∀ k, 0 < k → k < n → nst k = nst (par k) + 1

/-- The j-th one around s. -/
def up (par : Nat → Nat) (s : Nat) : Nat → Nat
  | 0 => s
  | j + 1 => par (up par s j)

section
variable {n : Nat} {par nst : Nat → Nat}

theorem Tre.nst_pos (h : Tre n par nst) {k : Nat} (h0 : 0 < k) (hk : k < n) : 0 < nst k := by
  rw [h.one k h0 hk]; omega

theorem Tre.nst_zero (h : Tre n par nst) {k : Nat} (hk : k < n) (h0 : nst k = 0) : k = 0 := by
  by_cases e : k = 0
  · exact e
  · have := h.nst_pos (by omega) hk; omega

theorem Tre.nst_le (h : Tre n par nst) : ∀ k, k < n → nst k ≤ k := by
  intro k
  induction k using Nat.strongRecOn with
  | ind k ih =>
    intro hk
    by_cases e : k = 0
    · subst e; rw [h.zero]; exact Nat.le_refl _
    · have h1 := h.lt k (by omega) hk
      have h2 := ih _ h1 (by omega)
      rw [h.one k (by omega) hk]
      omega

theorem Tre.up_in (h : Tre n par nst) {s : Nat} (hs : s < n) : ∀ j, j ≤ nst s → up par s j < n ∧ nst (up par s j) + j = nst s := by
  intro j
  induction j with
  | zero => intro _; exact ⟨hs, rfl⟩
  | succ j ih =>
    intro hj
    obtain ⟨h1, h2⟩ := ih (by omega)
    have h0 : 0 < up par s j := by
      by_cases e : up par s j = 0
      · rw [e, h.zero] at h2; omega
      · omega
    have h3 := h.lt _ h0 h1
    have h4 := h.one _ h0 h1
    exact ⟨by show par (up par s j) < n; omega, by show nst (par (up par s j)) + (j + 1) = nst s; omega⟩

theorem Tre.up_top (h : Tre n par nst) {s : Nat} (hs : s < n) : up par s (nst s) = 0 := by
  obtain ⟨h1, h2⟩ := h.up_in hs (nst s) (Nat.le_refl _)
  exact h.nst_zero h1 (by omega)

theorem Tre.up_pos (h : Tre n par nst) {s : Nat} (hs : s < n) {j : Nat} (hj : j < nst s) : 0 < up par s j := by
  obtain ⟨h1, h2⟩ := h.up_in hs j (by omega)
  by_cases e : up par s j = 0
  · rw [e, h.zero] at h2; omega
  · omega

theorem Tre.up_zero (h : Tre n par nst) {s : Nat} (hs : s < n) {j : Nat} (hj : j ≤ nst s) (e : up par s j = 0) : j = nst s := by
  by_cases hl : j < nst s
  · have := h.up_pos hs hl; omega
  · omega

/-- of is s, or around it. -/
def Ard (par nst : Nat → Nat) (s of : Nat) : Prop := ∃ j, j ≤ nst s ∧ up par s j = of

theorem Tre.ard_self (h : Tre n par nst) (s : Nat) : Ard par nst s s := ⟨0, Nat.zero_le _, rfl⟩
theorem Tre.ard_root (h : Tre n par nst) {s : Nat} (hs : s < n) : Ard par nst s 0 := ⟨nst s, Nat.le_refl _, h.up_top hs⟩

/-- Looking upward from s, where none ahead was it, the t-th one: it, or the next. -/
theorem Tre.ard_at (h : Tre n par nst) {s of t : Nat} (hs : s < n) (ht : t ≤ nst s) (hno : ∀ j, j < t → up par s j ≠ of) :
    (up par s t = of → Ard par nst s of) ∧ (up par s t ≠ of → up par s t = 0 → ¬ Ard par nst s of) ∧ (up par s t ≠ of → up par s t ≠ 0 → t + 1 ≤ nst s ∧ ∀ j, j < t + 1 → up par s j ≠ of) := by
  refine ⟨fun e => ⟨t, ht, e⟩, fun hne e => ?_, fun hne e => ⟨?_, fun j hj => ?_⟩⟩
  · rintro ⟨j, hj, e2⟩
    have h1 := h.up_zero hs ht e
    by_cases hjt : j < t
    · exact hno j hjt e2
    · obtain rfl : j = t := by omega
      exact hne e2
  · by_cases hl : t < nst s
    · exact hl
    · obtain rfl : t = nst s := by omega
      exact absurd (h.up_top hs) e
  · by_cases hjt : j < t
    · exact hno j hjt
    · obtain rfl : j = t := by omega
      exact hne

/-- A scope more. -/
theorem Tre.open (h : Tre n par nst) {p : Nat} (hp : p < n) : Tre (n + 1) (fun k => if k = n then p else par k) (fun k => if k = n then nst p + 1 else nst k) := by
  have h0 := h.pos
  refine ⟨by omega, fun k k0 kn => ?_, ?_, fun k k0 kn => ?_⟩
  · by_cases e : k = n
    · simp only [if_pos e]; omega
    · simp only [if_neg e]; exact h.lt k k0 (by omega)
  · simp only [if_neg (show ¬ 0 = n by omega)]; exact h.zero
  · by_cases e : k = n
    · simp only [if_pos e]
      rw [if_neg (by omega)]
    · have := h.lt k k0 (by omega)
      simp only [if_neg e]
      rw [if_neg (by omega)]
      exact h.one k k0 (by omega)

/-! ### A look at s that has done t steps and not ended; ahead: what was asked ahead of its first -/

structure LkI (par nst : Nat → Nat) (s t : Nat) (asked ahead : Nat → Bool) : Prop where
  le : t ≤ nst s
  sub : ∀ k, ahead k = true → asked k = true
  no : ∀ j, j < t → ahead (up par s j) = false

theorem LkI.start (s : Nat) (asked : Nat → Bool) : LkI par nst s 0 asked asked := ⟨Nat.zero_le _, fun _ h => h, fun j hj => by omega⟩

theorem LkI.ask {s t : Nat} {asked asked' ahead : Nat → Bool} (h : LkI par nst s t asked ahead) (hm : ∀ k, asked k = true → asked' k = true) : LkI par nst s t asked' ahead :=
  ⟨h.le, fun k hk => hm k (h.sub k hk), h.no⟩

theorem LkI.yes {s t : Nat} {asked ahead : Nat → Bool} (h : LkI par nst s t asked ahead) (ha : asked (up par s t) = true) : ∃ of, Ard par nst s of ∧ asked of = true := ⟨_, ⟨t, h.le, rfl⟩, ha⟩

theorem LkI.none (hT : Tre n par nst) {s t : Nat} (hs : s < n) {asked ahead : Nat → Bool} (h : LkI par nst s t asked ahead) (ha : asked (up par s t) = false) (e : up par s t = 0) : ∀ of, Ard par nst s of → ahead of = false := by
  rintro of ⟨j, hj, rfl⟩
  have h1 := hT.up_zero hs h.le e
  by_cases hjt : j < t
  · exact h.no j hjt
  · obtain rfl : j = t := by omega
    cases hh : ahead (up par s j) with
    | false => rfl
    | true => rw [h.sub _ hh] at ha; exact absurd ha (by decide)

theorem LkI.on (hT : Tre n par nst) {s t : Nat} (hs : s < n) {asked ahead : Nat → Bool} (h : LkI par nst s t asked ahead) (ha : asked (up par s t) = false) (e : up par s t ≠ 0) : LkI par nst s (t + 1) asked ahead := by
  refine ⟨?_, h.sub, fun j hj => ?_⟩
  · by_cases hl : t < nst s
    · exact hl
    · obtain rfl : t = nst s := by have := h.le; omega
      exact absurd (hT.up_top hs) e
  · by_cases hjt : j < t
    · exact h.no j hjt
    · obtain rfl : j = t := by omega
      cases hh : ahead (up par s j) with
      | false => rfl
      | true => rw [h.sub _ hh] at ha; exact absurd ha (by decide)
end
end Go.Proofs.Ytoajdknhllaoeaa
