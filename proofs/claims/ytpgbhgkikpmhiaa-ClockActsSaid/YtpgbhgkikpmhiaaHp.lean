/-
  A heap in a list, plain: what container/heap's up and down leave (any strict order that is total).
-/
import Derived.WalkKit
namespace Go.Proofs.Ytpgbhgkikpmhiaa
set_option linter.unusedVariables false

/-- A deadline: its ticks, its id. -/
abbrev Due := Int × Int

def dlt (a b : Due) : Prop := a.1 < b.1 ∨ (a.1 = b.1 ∧ a.2 < b.2)
def dle (a b : Due) : Prop := ¬ dlt b a
instance (a b : Due) : Decidable (dlt a b) := by unfold dlt; infer_instance
instance (a b : Due) : Decidable (dle a b) := by unfold dle; infer_instance

theorem dle_refl (a : Due) : dle a a := by unfold dle dlt; omega
theorem dle_trans {a b c : Due} (h : dle a b) (g : dle b c) : dle a c := by unfold dle dlt at *; omega
theorem dle_of_lt {a b : Due} (h : dlt a b) : dle a b := by unfold dle dlt at *; omega
theorem dle_total (a b : Due) : dle a b ∨ dle b a := by unfold dle dlt; omega
theorem dle_eq {a b : Due} (h : dle a b) (g : dle b a) : a = b := by
  unfold dle dlt at *
  exact Prod.ext (by omega) (by omega)

/-- What lies at a place. -/
def at_ (L : List Due) (i : Nat) : Due := L.getD i (0, 0)

/-- Two places change. -/
def swp (L : List Due) (i j : Nat) : List Due := (L.set i (at_ L j)).set j (at_ L i)

theorem swp_len (L : List Due) (i j : Nat) : (swp L i j).length = L.length := by simp [swp]

theorem swp_at (L : List Due) (i j k : Nat) (hi : i < L.length) (hj : j < L.length) : at_ (swp L i j) k = if k = j then at_ L i else if k = i then at_ L j else at_ L k := by
  unfold swp at_
  rw [List.getD_eq_getElem?_getD, List.getElem?_set]
  by_cases e : j = k
  · subst e
    simp [hj]
  · rw [if_neg e, if_neg (fun h => e h.symm), List.getElem?_set]
    by_cases e2 : i = k
    · subst e2
      simp [hi]
    · rw [if_neg e2, if_neg (fun h => e2 h.symm), ← List.getD_eq_getElem?_getD]

theorem swp_perm (L : List Due) (i j : Nat) (hi : i < L.length) (hj : j < L.length) : (swp L i j).Perm L := by
  have e : swp L i j = (L.set i L[j]).set j L[i] := by
    unfold swp at_
    rw [List.getD_eq_getElem?_getD, List.getD_eq_getElem?_getD, List.getElem?_eq_getElem hi, List.getElem?_eq_getElem hj]
    rfl
  rw [e]
  exact List.set_set_perm hi hj

def par (i : Nat) : Nat := (i - 1) / 2

/-- Each one's parent, of the first n, is not later. -/
def Hp (n : Nat) (L : List Due) : Prop := ∀ i, 0 < i → i < n → dle (at_ L (par i)) (at_ L i)

/-- A heap but for k, which may be sooner than its parent. -/
structure HpU (n : Nat) (L : List Due) (k : Nat) : Prop where
  kn : k < n
  ln : n ≤ L.length
  ot : ∀ i, 0 < i → i < n → i ≠ k → dle (at_ L (par i)) (at_ L i)
  ch : ∀ i, 0 < i → i < n → par i = k → 0 < k → dle (at_ L (par k)) (at_ L i)

theorem HpU.done {n : Nat} {L : List Due} {k : Nat} (h : HpU n L k) (hk : k = 0 ∨ ¬ dlt (at_ L k) (at_ L (par k))) : Hp n L := by
  intro i h0 h1
  by_cases e : i = k
  · subst e
    rcases hk with hk | hk
    · omega
    · exact hk
  · exact h.ot i h0 h1 e

theorem HpU.step {n : Nat} {L : List Due} {k : Nat} (h : HpU n L k) (h0 : 0 < k) (hl : dlt (at_ L k) (at_ L (par k))) : HpU n (swp L (par k) k) (par k) := by
  have hk := h.kn
  have hn := h.ln
  have hp : par k < k := by unfold par; omega
  have sw := fun j => swp_at L (par k) k j (by omega) (by omega)
  refine ⟨by omega, by rw [swp_len]; exact hn, fun i i0 i1 hne => ?_, fun i i0 i1 hpi hp0 => ?_⟩
  · rw [sw, sw]
    have hip : par i < i := by unfold par; omega
    by_cases e1 : i = k
    · subst e1
      rw [if_neg (by omega), if_pos rfl, if_pos rfl]
      exact dle_of_lt hl
    · rw [if_neg e1, if_neg hne]
      by_cases e2 : par i = k
      · rw [if_pos e2]
        exact h.ch i i0 i1 e2 h0
      · rw [if_neg e2]
        by_cases e3 : par i = par k
        · rw [if_pos e3]
          have := h.ot i i0 i1 e1
          rw [e3] at this
          exact dle_trans (dle_of_lt hl) this
        · rw [if_neg e3]
          exact h.ot i i0 i1 e1
  · have hpp : par (par k) < par k := by unfold par at *; omega
    rw [sw, sw, if_neg (by omega), if_neg (by omega)]
    by_cases e1 : i = k
    · subst e1
      rw [if_pos rfl]
      exact h.ot (par i) hp0 (by omega) (by omega)
    · rw [if_neg e1, if_neg (by have : par i < i := by unfold par; omega
                                omega)]
      have h1 := h.ot i i0 i1 e1
      rw [hpi] at h1
      exact dle_trans (h.ot (par k) hp0 (by omega) (by omega)) h1

/-- A heap but for k, which may be later than its children. -/
structure HpD (n : Nat) (L : List Due) (k : Nat) : Prop where
  ln : n ≤ L.length
  ot : ∀ i, 0 < i → i < n → par i ≠ k → dle (at_ L (par i)) (at_ L i)
  ch : ∀ i, 0 < i → i < n → par i = k → 0 < k → dle (at_ L (par k)) (at_ L i)

theorem HpD.done {n : Nat} {L : List Due} {k : Nat} (h : HpD n L k) (hk : ∀ i, 0 < i → i < n → par i = k → dle (at_ L k) (at_ L i)) : Hp n L := by
  intro i h0 h1
  by_cases e : par i = k
  · rw [e]; exact hk i h0 h1 e
  · exact h.ot i h0 h1 e

/-- The children of k: at 2 k + 1 and 2 k + 2. -/
theorem par_is {i k : Nat} (h0 : 0 < i) (h : par i = k) : i = 2 * k + 1 ∨ i = 2 * k + 2 := by unfold par at h; omega
theorem par_1 (k : Nat) : par (2 * k + 1) = k := by unfold par; omega
theorem par_2 (k : Nat) : par (2 * k + 2) = k := by unfold par; omega

/-- k goes down to the sooner child j. -/
theorem HpD.step {n : Nat} {L : List Due} {k j : Nat} (h : HpD n L k) (hj : 0 < j) (hjn : j < n) (hp : par j = k) (hs : ∀ i, 0 < i → i < n → par i = k → dle (at_ L j) (at_ L i)) (hl : dlt (at_ L j) (at_ L k)) : HpD n (swp L k j) j := by
  have hn := h.ln
  have hkj : k < j := by unfold par at hp; omega
  have sw := fun x => swp_at L k j x (by omega) (by omega)
  refine ⟨by rw [swp_len]; exact hn, fun i i0 i1 hne => ?_, fun i i0 i1 hpi hp0 => ?_⟩
  · have hip : par i < i := by unfold par; omega
    rw [sw, sw, if_neg hne]
    by_cases e1 : i = j
    · subst e1
      rw [hp, if_pos rfl, if_pos rfl]
      exact dle_of_lt hl
    · rw [if_neg e1]
      by_cases e2 : i = k
      · subst e2
        rw [if_neg (by omega), if_pos rfl]
        exact h.ch j hj hjn hp i0
      · rw [if_neg e2]
        by_cases e3 : par i = k
        · rw [if_pos e3]; exact hs i i0 i1 e3
        · rw [if_neg e3]; exact h.ot i i0 i1 e3
  · have hip : par i < i := by unfold par; omega
    rw [sw, sw, hp, if_neg (by omega), if_pos rfl, if_neg (by omega), if_neg (by omega)]
    have := h.ot i i0 i1 (by omega)
    rw [hpi] at this
    exact this

/-- The first one of a heap is the soonest. -/
theorem Hp.least {n : Nat} {L : List Due} (h : Hp n L) : ∀ i, i < n → dle (at_ L 0) (at_ L i) := by
  intro i
  induction i using Nat.strongRecOn with
  | _ i ih =>
    intro hi
    by_cases e : i = 0
    · subst e; exact dle_refl _
    · have hp : par i < i := by unfold par; omega
      exact dle_trans (ih (par i) hp (by omega)) (h i (by omega) hi)

/-- One is put behind. -/
theorem Hp.push {L : List Due} (h : Hp L.length L) (x : Due) : HpU (L.length + 1) (L ++ [x]) L.length := by
  have old : ∀ i, i < L.length → at_ (L ++ [x]) i = at_ L i := fun i hi => by
    unfold at_
    rw [List.getD_eq_getElem?_getD, List.getD_eq_getElem?_getD, List.getElem?_append_left hi]
  refine ⟨by omega, by simp, fun i h0 h1 hne => ?_, fun i h0 h1 hp hk => ?_⟩
  · rw [old i (by omega), old (par i) (by unfold par; omega)]
    exact h i h0 (by omega)
  · unfold par at hp; omega

/-- The last one stands in the first one's place, and is left out of the heap's first n. -/
theorem Hp.pop {n : Nat} {L : List Due} (h : Hp (n + 1) L) (hl : n + 1 ≤ L.length) : HpD n (swp L 0 n) 0 := by
  have sw := fun x => swp_at L 0 n x (by omega) (by omega)
  refine ⟨by rw [swp_len]; omega, fun i h0 h1 hne => ?_, fun i h0 h1 hp hk => by omega⟩
  have hip : par i < i := by unfold par; omega
  rw [sw, sw, if_neg (by omega), if_neg hne, if_neg (by omega), if_neg (by omega)]
  exact h i h0 (by omega)

/-- One in the midst changes places with the last one: a heap but for it, either way. -/
theorem Hp.cut {n : Nat} {L : List Due} (h : Hp (n + 1) L) (hl : n + 1 ≤ L.length) (k : Nat) (hk : k < n) (hx : k = 0 ∨ dle (at_ L (par k)) (at_ L n)) : HpD n (swp L k n) k := by
  have sw := fun x => swp_at L k n x (by omega) (by omega)
  refine ⟨by rw [swp_len]; omega, fun i h0 h1 hne => ?_, fun i h0 h1 hp hk0 => ?_⟩
  · have hip : par i < i := by unfold par; omega
    rw [sw, sw, if_neg (by omega), if_neg hne, if_neg (by omega)]
    by_cases e : i = k
    · rw [if_pos e]
      rcases hx with hx | hx
      · omega
      · rw [e]; exact hx
    · rw [if_neg e]
      exact h i h0 (by omega)
  · have hip : par i < i := by unfold par; omega
    have hkp : par k < k := by unfold par; omega
    rw [sw, sw, if_neg (by omega), if_neg (by omega), if_neg (by omega), if_neg (by omega)]
    have h1 := h i h0 (by omega)
    rw [hp] at h1
    exact dle_trans (h k hk0 (by omega)) h1

/-- .. and if what came is sooner than its parent there, it goes up. -/
theorem Hp.cutU {n : Nat} {L : List Due} (h : Hp (n + 1) L) (hl : n + 1 ≤ L.length) (k : Nat) (hk : k < n) (h0 : 0 < k) (hx : dle (at_ L n) (at_ L (par k))) : HpU n (swp L k n) k := by
  have sw := fun x => swp_at L k n x (by omega) (by omega)
  have hkp : par k < k := by unfold par; omega
  have low : ∀ i, 0 < i → i < n → par i = k → dle (at_ L (par k)) (at_ L i) := fun i i0 i1 hp => by
    have h1 := h i i0 (by omega)
    rw [hp] at h1
    exact dle_trans (h k h0 (by omega)) h1
  refine ⟨hk, by rw [swp_len]; omega, fun i i0 h1 hne => ?_, fun i i0 h1 hp _ => ?_⟩
  · have hip : par i < i := by unfold par; omega
    rw [sw, sw]
    by_cases e : par i = k
    · rw [if_neg (by omega), if_pos e, if_neg (by omega), if_neg hne]
      exact dle_trans hx (low i i0 h1 e)
    · rw [if_neg (by omega), if_neg e, if_neg (by omega), if_neg hne]
      exact h i i0 (by omega)
  · have hip : par i < i := by unfold par; omega
    rw [sw, sw, if_neg (by omega), if_neg (by omega), if_neg (by omega), if_neg (by omega)]
    exact low i i0 h1 hp
end Go.Proofs.Ytpgbhgkikpmhiaa
