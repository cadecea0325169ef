/-
  Stage 7, plain: kids, ways, and what each row became.
-/
import Derived.Test.YtnlbellbeepkaaaGreatDoorNest
namespace Go.Proofs.YtnlbellbeepkaaaGreatDoor

/-- The kids among the first rows. -/
def kidsN (l : List Tw) (t : Int) : Nat → List Int
  | 0 => []
  | j + 1 => kidsN l t j ++ (if parAt l j = t then [(j : Int)] else [])

theorem kidsN_len (l : List Tw) (t : Int) (j : Nat) : (kidsN l t j).length ≤ j := by
  induction j with
  | zero => exact Nat.le_refl _
  | succ j ih =>
    simp only [kidsN, List.length_append]
    split <;> simp <;> omega

theorem kidsN_get {l : List Tw} {t : Int} {k : Nat} (hp : parAt l k = t) : ∀ (n : Nat), k < n → (kidsN l t n)[(kidsN l t k).length]? = some (k : Int) := by
  intro n
  induction n with
  | zero => intro h; omega
  | succ n ih =>
    intro h
    simp only [kidsN]
    rcases Nat.lt_or_ge k n with hh | hh
    · have h1 := ih hh
      rw [List.getElem?_append_left (List.getElem?_eq_some_iff.1 h1).1]
      exact h1
    · obtain rfl : k = n := by omega
      rw [List.getElem?_append_right (Nat.le_refl _), if_pos hp]
      simp

theorem kidsN_at {l : List Tw} {t x : Int} {j : Nat} : ∀ (n : Nat), (kidsN l t n)[j]? = some x → ∃ k : Nat, x = k ∧ k < n ∧ parAt l k = t ∧ (kidsN l t k).length = j := by
  intro n
  induction n with
  | zero => intro h; simp [kidsN] at h
  | succ n ih =>
    intro h
    simp only [kidsN] at h
    rcases Nat.lt_or_ge j (kidsN l t n).length with hh | hh
    · rw [List.getElem?_append_left hh] at h
      obtain ⟨k, h1, h2, h3⟩ := ih h
      exact ⟨k, h1, by omega, h3⟩
    · rw [List.getElem?_append_right hh] at h
      by_cases hp : parAt l n = t
      · rw [if_pos hp] at h
        have hj := (List.getElem?_eq_some_iff.1 h).1
        simp at hj
        rw [show j - (kidsN l t n).length = 0 by omega] at h
        simp at h
        exact ⟨n, h.symm, by omega, hp, by omega⟩
      · rw [if_neg hp] at h
        simp at h

theorem kidsN_mono {l : List Tw} {t : Int} {k : Nat} : ∀ (n : Nat), k ≤ n → (kidsN l t k).length ≤ (kidsN l t n).length := by
  intro n
  induction n with
  | zero => intro h; obtain rfl : k = 0 := by omega
            exact Nat.le_refl _
  | succ n ih =>
    intro h
    rcases Nat.lt_or_ge n k with hh | hh
    · obtain rfl : k = n + 1 := by omega
      exact Nat.le_refl _
    · simp only [kidsN, List.length_append]
      have := ih hh
      omega

theorem kidsN_lt {l : List Tw} {t : Int} {k n : Nat} (h : k < n) (hp : parAt l k = t) : (kidsN l t k).length < (kidsN l t n).length :=
  (List.getElem?_eq_some_iff.1 (kidsN_get hp n h)).1

/-- How many kids a row has. -/
def kc (l : List Tw) (t : Int) : Nat := (kidsN l t l.length).length
/-- Which one of its Parent's kids a row is. -/
def kidNo (l : List Tw) (i : Nat) : Nat := (kidsN l (parAt l i) i).length

/-- The way to a row, from the last step on. -/
def wayN (l : List Tw) : Nat → Int → List Nat
  | 0, _ => []
  | f + 1, i => if 0 ≤ parAt l i then kidNo l i.toNat :: wayN l f (parAt l i) else []
/-- The row at the end of a way; below 0: there is none. -/
def findN (m : List Tw) : List Nat → Int
  | [] => 0
  | n :: w => if findN m w < 0 then -1 else ((kidsN m (findN m w) m.length)[n]?).getD (-1)

theorem parAt_neg {l : List Tw} {i : Int} (h : i < 0) : parAt l i = -1 := by
  unfold parAt
  rw [if_neg (by omega)]

theorem parAt_out {l : List Tw} {i : Int} (h : l.length ≤ i) : parAt l i = -1 := by
  unfold parAt
  rw [if_pos (by omega), List.getElem?_eq_none (by rw [List.length_map]; omega)]
  rfl

theorem parAt_low {l : List Tw} (h : Tabl l) {i : Int} (hp : 0 ≤ parAt l i) : 0 < i ∧ i < l.length ∧ parAt l i < i := by
  have h1 : ¬ i < 0 := fun hh => by rw [parAt_neg hh] at hp; omega
  have h2 : ¬ l.length ≤ i := fun hh => by rw [parAt_out hh] at hp; omega
  have h3 : i ≠ 0 := fun hh => by
    rw [hh, h.1 (by rintro rfl; simp at h2; omega)] at hp
    omega
  have := h.2 i (by omega) (by omega)
  omega

theorem wayN_more {l : List Tw} (h : Tabl l) : ∀ (n m : Nat) (i : Int), i < n → i < m → wayN l n i = wayN l m i := by
  intro n
  induction n with
  | zero =>
    intro m i hn _
    cases m with
    | zero => rfl
    | succ m =>
      simp only [wayN]
      rw [parAt_neg (by omega), if_neg (by omega)]
  | succ n ih =>
    intro m i hn hm
    cases m with
    | zero =>
      simp only [wayN]
      rw [parAt_neg (by omega), if_neg (by omega)]
    | succ m =>
      simp only [wayN]
      by_cases hp : 0 ≤ parAt l i
      · have := parAt_low h hp
        rw [if_pos hp, if_pos hp, ih m _ (by omega) (by omega)]
      · rw [if_neg hp, if_neg hp]

/-- What a row of one table is in another one. -/
def img (l m : List Tw) (i : Nat) : Int := findN m (wayN l (i + 1) i)

theorem img_zero {l m : List Tw} (h : Tabl l) : img l m 0 = 0 := by
  unfold img
  simp only [wayN]
  rw [if_neg]
  · rfl
  · intro hp
    have := parAt_low h hp
    omega

theorem img_up {l m : List Tw} (h : Tabl l) {i : Nat} (h0 : 0 < i) (h1 : i < l.length) : img l m i = if img l m (parAt l i).toNat < 0 then -1 else ((kidsN m (img l m (parAt l i).toNat) m.length)[kidNo l i]?).getD (-1) := by
  have hp := h.2 i (by omega) (by omega)
  have e : img l m (parAt l i).toNat = findN m (wayN l i (parAt l i)) := by
    unfold img
    rw [Int.toNat_of_nonneg hp.1, wayN_more h _ i _ (by omega) (by omega)]
  rw [e]
  unfold img
  simp only [wayN]
  rw [if_pos hp.1]
  rfl

/-- A row that is the image of one: the kid of the same number. -/
theorem img_kid {l m : List Tw} (h : Tabl l) {i : Nat} (h0 : 0 < i) (h1 : i < l.length) (hq : 0 ≤ img l m i) :
    0 ≤ img l m (parAt l i).toNat ∧ ∃ k : Nat, img l m i = k ∧ k < m.length ∧ parAt m k = img l m (parAt l i).toNat ∧ kidNo m k = kidNo l i := by
  rw [img_up h h0 h1] at hq ⊢
  by_cases hn : img l m (parAt l i).toNat < 0
  · rw [if_pos hn] at hq
    omega
  · rw [if_neg hn] at hq ⊢
    refine ⟨by omega, ?_⟩
    cases hk : (kidsN m (img l m (parAt l i).toNat) m.length)[kidNo l i]? with
    | none => rw [hk] at hq; simp at hq
    | some x =>
      obtain ⟨k, k1, k2, k3, k4⟩ := kidsN_at _ hk
      exact ⟨k, k1, k2, k3, by unfold kidNo; rw [k3]; exact k4⟩

theorem img_lt {l m : List Tw} (h : Tabl l) (hm : 0 < m.length) {i : Nat} (h1 : i < l.length) (hq : 0 ≤ img l m i) : img l m i < m.length := by
  by_cases h0 : i = 0
  · subst h0
    rw [img_zero h]
    omega
  · obtain ⟨_, k, e, k2, _⟩ := img_kid h (by omega) h1 hq
    omega

/-- A way that is found is the way of what is found. -/
theorem find_way {m : List Tw} (h : Tabl m) : ∀ (w : List Nat) (q : Nat), findN m w = q → wayN m (q + 1) q = w := by
  intro w
  induction w with
  | nil =>
    intro q hq
    simp only [findN] at hq
    obtain rfl : q = 0 := by omega
    simp only [wayN]
    rw [if_neg]
    intro hp
    have := parAt_low h hp
    omega
  | cons n w ih =>
    intro q hq
    simp only [findN] at hq
    by_cases hn : findN m w < 0
    · rw [if_pos hn] at hq
      omega
    · rw [if_neg hn] at hq
      obtain ⟨p, hp⟩ : ∃ p : Nat, findN m w = p := ⟨(findN m w).toNat, by omega⟩
      have h1 := ih p hp
      rw [hp] at hq
      cases hk : (kidsN m p m.length)[n]? with
      | none => rw [hk] at hq; simp at hq
      | some x =>
        rw [hk] at hq
        obtain ⟨k, k1, k2, k3, k4⟩ := kidsN_at _ hk
        simp at hq
        obtain rfl : k = q := by omega
        have h2 := parAt_low h (i := (k : Int)) (by omega)
        simp only [wayN]
        rw [if_pos (by omega), k3, wayN_more h k (p + 1) p (by omega) (by omega), h1]
        unfold kidNo
        simp only [Int.toNat_natCast]
        rw [k3, k4]

theorem img_self {l : List Tw} (h : Tabl l) : ∀ (n i : Nat), i < n → i < l.length → img l l i = i := by
  intro n
  induction n with
  | zero => intro i hi; omega
  | succ n ih =>
    intro i hi h1
    by_cases h0 : i = 0
    · subst h0
      exact img_zero h
    · have hp := h.2 i (by omega) (by omega)
      rw [img_up h (by omega) h1, ih _ (by omega) (by omega), if_neg (by omega), Int.toNat_of_nonneg hp.1]
      have := kidsN_get (l := l) (k := i) rfl l.length h1
      unfold kidNo
      rw [this]
      rfl

/-- What a row became of what it became. -/
theorem img_img {l m n : List Tw} (hm : Tabl m) {i q : Nat} (hq : img l m i = q) : img m n q = img l n i := by
  unfold img at hq ⊢
  rw [find_way hm _ _ hq]

end Go.Proofs.YtnlbellbeepkaaaGreatDoor
