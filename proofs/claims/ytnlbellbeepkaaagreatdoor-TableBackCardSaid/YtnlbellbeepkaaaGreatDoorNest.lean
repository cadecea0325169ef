/-
  Stage 7, plain: what is within a row stands side by side.
-/
import Derived.Test.YtnlbellbeepkaaaGreatDoorChk
namespace Go.Proofs.YtnlbellbeepkaaaGreatDoor

/-- Is a row within another one. -/
def inn (l : List Tw) (t i : Int) : Bool := wth l t (i.toNat + 1) i

theorem inn_of {l : List Tw} (h : Down l) {t i : Int} {n : Nat} (hn : i < n) : wth l t n i = inn l t i := by
  unfold inn
  exact wth_more l h t _ _ _ hn (by omega)

theorem inn_self {l : List Tw} {i : Int} (h0 : 0 ≤ i) (h1 : i < l.length) : inn l i i = true := by
  unfold inn
  simp only [wth]
  rw [if_pos ⟨h0, h1⟩, if_pos trivial]

theorem inn_up {l : List Tw} (h : Down l) {t i : Int} (ht : i ≠ t) : inn l t i = true ↔ (0 ≤ i ∧ i < l.length ∧ inn l t (parAt l i) = true) := by
  constructor
  · intro hi
    unfold inn at hi
    simp only [wth] at hi
    by_cases hc : 0 ≤ i ∧ i < l.length
    · rw [if_pos hc, if_neg ht, inn_of h (by have := h i hc.1 hc.2; omega)] at hi
      exact ⟨hc.1, hc.2, hi⟩
    · rw [if_neg hc] at hi
      cases hi
  · rintro ⟨h0, h1, hi⟩
    unfold inn
    simp only [wth]
    rw [if_pos ⟨h0, h1⟩, if_neg ht, inn_of h (by have := h i h0 h1; omega)]
    exact hi

theorem inn_le {l : List Tw} (h : Down l) {t i : Int} (hi : inn l t i = true) : 0 ≤ t ∧ t ≤ i ∧ i < l.length := wth_le h t _ _ hi

/-- A way up, step by step. -/
theorem inn_trans {l : List Tw} (h : Down l) {a b : Int} (hab : inn l a b = true) : ∀ (n : Nat) (c : Int), c < n → inn l b c = true → inn l a c = true := by
  intro n
  induction n with
  | zero => intro c hc hb; have := inn_le h hb; omega
  | succ n ih =>
    intro c hc hb
    by_cases e : c = b
    · rw [e]; exact hab
    · obtain ⟨h0, h1, h2⟩ := (inn_up h e).1 hb
      have := h c h0 h1
      have h3 := ih _ (by omega) h2
      have h4 := inn_le h h2
      have h5 := inn_le h hab
      exact (inn_up h (by omega)).2 ⟨h0, h1, h3⟩

/-- Rows nest: each one's Parent is one within which the row right ahead is. -/
structure Nest (l : List Tw) : Prop where
  tab : Tabl l
  par : ∀ i : Int, 0 < i → i < l.length → inn l (parAt l i) (i - 1) = true

theorem Nest.of {l : List Tw} (h : RightN l l.length) : Nest l := by
  have ht := h.tabl
  rw [List.take_length] at ht
  refine ⟨ht, fun i h0 h1 => ?_⟩
  obtain ⟨n, rfl⟩ : ∃ n : Nat, i = n := ⟨i.toNat, by omega⟩
  obtain ⟨r, hr⟩ : ∃ r, l[n]? = some r := ⟨_, List.getElem?_eq_getElem (by omega)⟩
  have h2 := (rightE_zero.1 (h n r (by omega) hr)).1
  have h3 := RightN.tabl (l := l) (j := n) (fun i r hi hr => h i r (by omega) hr)
  have h4 := ((parB_doc (by omega) (by omega) h3 r.par).1 h2).2.2
  rw [parAt_of' hr, ← h4]
  exact (inn_of ht.down (by omega)).symm

theorem Nest.down {l : List Tw} (h : Nest l) : Down l := h.tab.down

/-- What is within a row stands side by side. -/
theorem Nest.side {l : List Tw} (h : Nest l) {c : Int} : ∀ (n : Nat) (x y : Int), x - y ≤ n → inn l c x = true → c ≤ y → y ≤ x → inn l c y = true := by
  intro n
  induction n with
  | zero =>
    intro x y hn hx _ hy
    obtain rfl : x = y := by omega
    exact hx
  | succ n ih =>
    intro x y hn hx hc hy
    by_cases e : x = y
    · rw [← e]; exact hx
    · have h1 := inn_le h.down hx
      have h2 := (inn_up h.down (t := c) (i := x) (by omega)).1 hx
      have h3 := h.par x (by omega) h1.2.2
      have h4 := inn_trans h.down h2.2.2 x.toNat (x - 1) (by omega) h3
      exact ih (x - 1) y (by omega) h4 hc (by omega)

/-- The whole is within the first row. -/
theorem Nest.all {l : List Tw} (h : Nest l) : ∀ (n : Nat) (i : Int), i < n → 0 ≤ i → i < l.length → inn l 0 i = true := by
  intro n
  induction n with
  | zero => intro i h0 h1; omega
  | succ n ih =>
    intro i hn h0 h1
    by_cases e : i = 0
    · rw [e]; exact inn_self (by omega) (by omega)
    · have := h.tab.2 i (by omega) h1
      exact (inn_up h.down e).2 ⟨h0, h1, ih _ (by omega) this.1 (by omega)⟩

/-- Below a row: a kid of it leads there. -/
theorem inn_kid {l : List Tw} (h : Tabl l) {p : Int} : ∀ (n : Nat) (i : Int), i < n → inn l p i = true → i = p ∨ ∃ c : Int, 0 < c ∧ c < l.length ∧ parAt l c = p ∧ inn l c i = true := by
  intro n
  induction n with
  | zero => intro i hn hi; have := inn_le h.down hi; omega
  | succ n ih =>
    intro i hn hi
    by_cases e : i = p
    · exact .inl e
    · obtain ⟨h0, h1, h2⟩ := (inn_up h.down e).1 hi
      have h3 := inn_le h.down h2
      have h4 := h.down i h0 h1
      rcases ih _ (by omega) h2 with h5 | ⟨c, c0, c1, c2, c3⟩
      · exact .inr ⟨i, by omega, h1, h5, inn_self h0 h1⟩
      · refine .inr ⟨c, c0, c1, c2, ?_⟩
        have h6 := inn_le h.down c3
        exact (inn_up h.down (by omega)).2 ⟨h0, h1, c3⟩

/-! ### Under -/

/-- A row, as it stands in the part that begins at row i. -/
def shr (i j : Nat) (r : Tw) : Tw := if j = i then { r with par := -1, in_ := 0 } else { r with par := r.par - i }

/-- What is within row i, of so many rows from it on. -/
def undD (l : List Tw) (i : Nat) : Nat → List Tw
  | 0 => []
  | k + 1 => undD l i k ++ (if inn l i (i + k : Nat) = true then ((l[i + k]?).map (shr i (i + k))).toList else [])
def und (l : List Tw) (i : Nat) : List Tw := undD l i (l.length - i)

theorem undD_in {l : List Tw} {i : Nat} : ∀ (k : Nat), i + k ≤ l.length → (∀ j, j < k → inn l i (i + j : Nat) = true) → (undD l i k).length = k ∧ ∀ j, j < k → (undD l i k)[j]? = (l[i + j]?).map (shr i (i + j)) := by
  intro k
  induction k with
  | zero => intro _ _; exact ⟨rfl, fun j hj => by omega⟩
  | succ k ih =>
    intro hk h
    obtain ⟨h1, h2⟩ := ih (by omega) (fun j hj => h j (by omega))
    obtain ⟨r, hr⟩ : ∃ r, l[i + k]? = some r := ⟨_, List.getElem?_eq_getElem (by omega)⟩
    simp only [undD]
    rw [if_pos (h k (by omega)), hr]
    refine ⟨by simp [h1], fun j hj => ?_⟩
    rcases Nat.lt_or_ge j k with hh | hh
    · rw [List.getElem?_append_left (by rw [h1]; exact hh)]
      exact h2 j hh
    · obtain rfl : j = k := by omega
      rw [List.getElem?_append_right (by omega), h1, hr]
      simp

theorem undD_out {l : List Tw} {i k : Nat} : ∀ (n : Nat), (∀ j, k ≤ j → j < k + n → ¬ inn l i (i + j : Nat) = true) → undD l i (k + n) = undD l i k := by
  intro n
  induction n with
  | zero => intro _; rfl
  | succ n ih =>
    intro h
    rw [← Nat.add_assoc]
    simp only [undD]
    rw [if_neg (h (k + n) (by omega) (by omega)), List.append_nil]
    exact ih (fun j h1 h2 => h j h1 (by omega))

/-- What is within a row: the rows from it to an end. -/
theorem und_spec {l : List Tw} (h : Nest l) {i : Nat} (hi : i < l.length) : ∃ e, i < e ∧ e ≤ l.length ∧ (∀ k : Nat, inn l i k = true ↔ i ≤ k ∧ k < e) ∧ (und l i).length = e - i ∧ ∀ j, j < e - i → (und l i)[j]? = (l[i + j]?).map (shr i (i + j)) := by
  obtain ⟨e, h0, h1, h2, h3⟩ : ∃ e, i < e ∧ e ≤ l.length ∧ (∀ k, i ≤ k → k < e → inn l i (k : Nat) = true) ∧ (∀ k : Nat, e ≤ k → ¬ inn l i (k : Nat) = true) := by
    have : ∀ n, i + 1 + n ≤ l.length → ∃ e, i < e ∧ e ≤ i + 1 + n ∧ (∀ k, i ≤ k → k < e → inn l i (k : Nat) = true) ∧ (e = i + 1 + n ∨ ∀ k : Nat, e ≤ k → ¬ inn l i (k : Nat) = true) := by
      intro n
      induction n with
      | zero =>
        intro _
        refine ⟨i + 1, by omega, by omega, fun k a b => ?_, .inl rfl⟩
        obtain rfl : k = i := by omega
        exact inn_self (by omega) (by omega)
      | succ n ih =>
        intro hn
        obtain ⟨e, e0, e1, e2, e3⟩ := ih (by omega)
        rcases e3 with rfl | e3
        · by_cases hk : inn l i (i + 1 + n : Nat) = true
          · refine ⟨i + 1 + (n + 1), by omega, by omega, fun k a b => ?_, .inl rfl⟩
            rcases Nat.lt_or_ge k (i + 1 + n) with hh | hh
            · exact e2 k a hh
            · obtain rfl : k = i + 1 + n := by omega
              exact hk
          · refine ⟨i + 1 + n, by omega, by omega, e2, .inr fun k a hh => hk ?_⟩
            exact h.side (k - (i + 1 + n)) k _ (by omega) hh (by omega) (by omega)
        · exact ⟨e, e0, by omega, e2, .inr e3⟩
    obtain ⟨e, e0, e1, e2, e3⟩ := this (l.length - (i + 1)) (by omega)
    refine ⟨e, e0, by omega, e2, fun k hk hh => ?_⟩
    rcases e3 with e3 | e3
    · have := inn_le h.down hh
      omega
    · exact e3 k hk hh
  have hu : und l i = undD l i (e - i) := by
    unfold und
    rw [show l.length - i = (e - i) + (l.length - e) by omega]
    exact undD_out _ (fun j a b hh => h3 (i + j) (by omega) hh)
  refine ⟨e, h0, h1, fun k => ⟨fun hk => ?_, fun hk => h2 k hk.1 hk.2⟩, ?_⟩
  · have := inn_le h.down hk
    refine ⟨by omega, ?_⟩
    rcases Nat.lt_or_ge k e with hh | hh
    · exact hh
    · exact absurd hk (h3 k hh)
  · rw [hu]
    exact undD_in (e - i) (by omega) (fun j hj => h2 _ (by omega) (by omega))

/-- As long as Parents are not ahead of row i, all is within it. -/
theorem inn_run {l : List Tw} (h : Nest l) {i : Nat} (hi : i < l.length) : ∀ (k : Nat), i + k < l.length → (∀ j, j < k → (i : Int) ≤ parAt l (i + 1 + j : Nat)) → ∀ j, j ≤ k → inn l i (i + j : Nat) = true := by
  intro k
  induction k with
  | zero =>
    intro _ _ j hj
    obtain rfl : j = 0 := by omega
    exact inn_self (by omega) (by omega)
  | succ k ih =>
    intro hk h1 j hj
    have h2 := ih (by omega) (fun j hj => h1 j (by omega))
    rcases Nat.lt_or_ge j (k + 1) with hh | hh
    · exact h2 j (by omega)
    · obtain rfl : j = k + 1 := by omega
      have h3 := h1 k (by omega)
      have h4 := h.tab.2 (i + (k + 1) : Nat) (by omega) (by omega)
      rw [show i + 1 + k = i + (k + 1) by omega] at h3
      refine (inn_up h.down (by omega)).2 ⟨by omega, by omega, ?_⟩
      obtain ⟨p, hp⟩ : ∃ p : Nat, parAt l (i + (k + 1) : Nat) = (i + p : Nat) := ⟨(parAt l (i + (k + 1) : Nat)).toNat - i, by omega⟩
      rw [hp]
      exact h2 p (by omega)

/-- Who comes to a Parent ahead of row i has all that is within it. -/
theorem und_stop {l : List Tw} (h : Nest l) {i k : Nat} (hk : i + 1 + k < l.length) (hp : parAt l (i + 1 + k : Nat) < i) : und l i = undD l i (k + 1) := by
  have h0 : ¬ inn l i (i + 1 + k : Nat) = true := fun hh => by
    have h1 := ((inn_up h.down (by omega)).1 hh).2.2
    have := inn_le h.down h1
    omega
  unfold und
  rw [show l.length - i = (k + 1) + (l.length - i - (k + 1)) by omega]
  refine undD_out _ (fun j a b hh => h0 ?_)
  exact h.side (i + j) _ _ (by omega) hh (by omega) (by omega)

end Go.Proofs.YtnlbellbeepkaaaGreatDoor
