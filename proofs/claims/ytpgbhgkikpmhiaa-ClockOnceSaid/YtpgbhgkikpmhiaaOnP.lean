/-
  ClockOnce, plain: what is due of eight ids.
-/
import Derived.Test.YtpgbhgkikpmhiaaOrP
namespace Go.Proofs.Ytpgbhgkikpmhiaa
open Go.RowKit
set_option linter.unusedVariables false

def dd (D : List Int) (k : Nat) : Int := D.getD k 0

/-- D tells when each of eight is due; 0: it is not. -/
structure OncI (now : Int) (T : List Due) (D : List Int) : Prop where
  len : D.length = 8
  pos : 0 ≤ now
  yes : ∀ x ∈ T, ∃ k : Nat, k < 8 ∧ x.2 = k ∧ dd D k = x.1 ∧ now < x.1
  no : ∀ k : Nat, k < 8 → dd D k ≠ 0 → (dd D k, (k : Int)) ∈ T

theorem OncI.has {now : Int} {T : List Due} {D : List Int} (h : OncI now T D) {k : Nat} (hk : k < 8) : hasId k T = (dd D k != 0) := by
  have hp := h.pos
  cases hh : hasId k T with
  | true =>
    obtain ⟨x, hx, he⟩ := hasId_yes hh
    obtain ⟨k', hk', e1, e2, e3⟩ := h.yes x hx
    have : k' = k := by omega
    subst this
    rw [e2]
    symm
    simp
    omega
  | false =>
    symm
    simp only [bne_eq_false_iff_eq]
    by_cases e : dd D k = 0
    · exact e
    · exact absurd rfl (hasId_no hh _ (h.no k hk e))

theorem dd_set {D : List Int} {k : Nat} (hk : k < D.length) (v : Int) (j : Nat) : dd (D.set k v) j = if j = k then v else dd D j := by
  unfold dd
  rw [List.getD_eq_getElem?_getD, List.getElem?_set]
  by_cases e : k = j
  · subst e; simp [hk]
  · rw [if_neg e, if_neg (fun h => e h.symm), List.getD_eq_getElem?_getD]

theorem OncI.set {now : Int} {T : List Due} {D : List Int} (h : OncI now T D) {k : Nat} (hk : k < 8) {n : Int} (hn : 1 ≤ n) (h0 : hasId k T = false) : OncI now (ins (now + n, (k : Int)) T) (D.set k (now + n)) := by
  have hp := h.pos
  have hl := h.len
  have hz : dd D k = 0 := by
    have := h.has hk
    rw [h0] at this
    simpa using this.symm
  refine ⟨by rw [List.length_set]; exact hl, hp, fun x hx => ?_, fun j hj hd => ?_⟩
  · rcases List.mem_cons.1 ((ins_perm _ _).subset hx) with rfl | hx
    · exact ⟨k, hk, rfl, by rw [dd_set (by omega), if_pos rfl], by simp only; omega⟩
    · obtain ⟨k', hk', e1, e2, e3⟩ := h.yes x hx
      have hne : k' ≠ k := by
        rintro rfl
        rw [hz] at e2
        omega
      exact ⟨k', hk', e1, by rw [dd_set (by omega), if_neg hne]; exact e2, e3⟩
  · rw [dd_set (by omega)] at hd ⊢
    refine (ins_perm _ _).symm.subset ?_
    by_cases e : j = k
    · subst e
      rw [if_pos rfl]
      simp
    · rw [if_neg e] at hd ⊢
      exact List.mem_cons_of_mem _ (h.no j hj hd)

theorem OncI.drop {now : Int} {T : List Due} {D : List Int} (h : OncI now T D) {k : Nat} (hk : k < 8) : OncI now (dropT k T) (D.set k 0) := by
  have hl := h.len
  have hd : ∀ x, x ∈ dropT k T ↔ (x ∈ T ∧ x.2 ≠ (k : Int)) := by
    intro x
    unfold dropT
    cases hh : hasId k T with
    | true => simp [drp]
    | false =>
      rw [cond_false]
      exact ⟨fun hx => ⟨hx, hasId_no hh x hx⟩, fun hx => hx.1⟩
  refine ⟨by rw [List.length_set]; exact hl, h.pos, fun x hx => ?_, fun j hj hj0 => ?_⟩
  · obtain ⟨hx1, hx2⟩ := (hd x).1 hx
    obtain ⟨k', hk', e1, e2, e3⟩ := h.yes x hx1
    exact ⟨k', hk', e1, by rw [dd_set (by omega), if_neg (by omega)]; exact e2, e3⟩
  · rw [dd_set (by omega)] at hj0 ⊢
    by_cases e : j = k
    · rw [if_pos e] at hj0; exact absurd rfl hj0
    · rw [if_neg e] at hj0 ⊢
      refine (hd _).2 ⟨h.no j hj hj0, ?_⟩
      simp only
      omega

/-- While those that came are struck: those of pre are. -/
structure OncA (now t : Int) (T pre : List Due) (D D' : List Int) : Prop where
  len : D'.length = 8
  gone : ∀ k : Nat, k < 8 → dd D' k = if (∃ x ∈ pre, x.2 = k) then 0 else dd D k

theorem OncA.start {now t : Int} {T : List Due} {D : List Int} (h : OncI now T D) : OncA now t T [] D D := ⟨h.len, fun k hk => by rw [if_neg (by simp)]⟩

theorem OncA.step {now t : Int} {T pre rest : List Due} {D D' : List Int} {x : Due} (h : OncI now T D) (hT : due t T = pre ++ x :: rest) (hi : Ids T) (hA : OncA now t T pre D D') :
    ∃ k : Nat, k < 8 ∧ x.2 = k ∧ dd D' k = x.1 ∧ 0 < x.1 ∧ x.1 ≤ t ∧ OncA now t T (pre ++ [x]) D (D'.set k 0) := by
  have hp := h.pos
  have hx : x ∈ due t T := by rw [hT]; simp
  obtain ⟨hxT, hxt⟩ := due_in hx
  obtain ⟨k, hk, e1, e2, e3⟩ := h.yes x hxT
  have hnd : Ids (due t T) := by
    unfold Ids at hi ⊢
    exact hi.sublist ((List.takeWhile_sublist _).map _)
  have hnot : ¬ ∃ y ∈ pre, y.2 = (k : Int) := by
    rintro ⟨y, hy, e⟩
    rw [hT] at hnd
    unfold Ids at hnd
    rw [List.map_append, List.nodup_append] at hnd
    exact hnd.2.2 y.2 (List.mem_map.2 ⟨y, hy, rfl⟩) x.2 (by simp) (by rw [e, e1])
  refine ⟨k, hk, e1, ?_, by omega, hxt, by rw [List.length_set]; exact hA.len, fun j hj => ?_⟩
  · rw [hA.gone k hk, if_neg hnot]; exact e2
  · rw [dd_set (by have := hA.len; omega)]
    by_cases e : j = k
    · subst e
      rw [if_pos rfl, if_pos ⟨x, by simp, e1⟩]
    · rw [if_neg e, hA.gone j hj]
      congr 1
      simp only [List.mem_append, List.mem_singleton, eq_iff_iff]
      constructor
      · rintro ⟨y, hy, ey⟩; exact ⟨y, .inl hy, ey⟩
      · rintro ⟨y, hy | hy, ey⟩
        · exact ⟨y, hy, ey⟩
        · subst hy
          exact absurd (by omega : j = k) e

theorem OncA.done {now t : Int} {T : List Due} {D D' : List Int} (h : OncI now T D) (hs : Srt T) (hi : Ids T) (ht : now ≤ t) (hA : OncA now t T (due t T) D D') : OncI t (lat t T) D' := by
  have hp := h.pos
  have hsub : ∀ x, x ∈ T ↔ (x ∈ due t T ∨ x ∈ lat t T) := fun x => by
    have := due_lat t T
    constructor
    · intro hx; rw [← this] at hx; exact List.mem_append.1 hx
    · intro hx; rw [← this]; exact List.mem_append.2 hx
  refine ⟨hA.len, by omega, fun x hx => ?_, fun k hk hd => ?_⟩
  · obtain ⟨k, hk, e1, e2, e3⟩ := h.yes x ((hsub x).2 (.inr hx))
    have hab := lat_above hs hx
    refine ⟨k, hk, e1, ?_, hab⟩
    rw [hA.gone k hk, if_neg]
    · exact e2
    · rintro ⟨y, hy, ey⟩
      have hyT := (hsub y).2 (.inl hy)
      have := hi.one hyT ((hsub x).2 (.inr hx)) (by rw [ey, e1])
      subst this
      have := (due_in hy).2
      omega
  · rw [hA.gone k hk] at hd ⊢
    by_cases e : ∃ x ∈ due t T, x.2 = (k : Int)
    · rw [if_pos e] at hd; exact absurd rfl hd
    · rw [if_neg e] at hd ⊢
      rcases (hsub _).1 (h.no k hk hd) with h1 | h1
      · exact absurd ⟨_, h1, rfl⟩ e
      · exact h1

/-- How many are due of the first k. -/
def cntD (D : List Int) : Nat → Nat
  | 0 => 0
  | k + 1 => cntD D k + bif dd D k != 0 then 1 else 0

theorem cntD_le (D : List Int) (k : Nat) : cntD D k ≤ k := by
  induction k with
  | zero => exact Nat.le_refl _
  | succ k ih => unfold cntD; cases (dd D k != 0) <;> simp <;> omega

/-- Those of the first k. -/
def lowT (T : List Due) (k : Nat) : List Due := T.filter fun x => decide (x.2 < (k : Int))

theorem lowT_succ {now : Int} {T : List Due} {D : List Int} (h : OncI now T D) (hi : Ids T) (k : Nat) (hk : k < 8) : (lowT T (k + 1)).length = (lowT T k).length + bif dd D k != 0 then 1 else 0 := by
  have hh := h.has hk
  have key : ∀ (S : List Due), Ids S → (S.filter fun x => decide (x.2 < ((k + 1 : Nat) : Int))).length = (S.filter fun x => decide (x.2 < (k : Int))).length + bif hasId k S then 1 else 0 := by
    intro S hS
    induction S with
    | nil => rfl
    | cons y S ih =>
      have h' : y.2 ∉ S.map (·.2) ∧ Ids S := List.nodup_cons.1 hS
      have ih := ih h'.2
      rw [List.filter_cons, List.filter_cons]
      by_cases e : y.2 = (k : Int)
      · have h1 : hasId k (y :: S) = true := by simp [hasId, e]
        have h2 : hasId k S = false := by
          unfold hasId
          rw [List.any_eq_false]
          intro z hz
          simp only [beq_iff_eq]
          intro hz2
          exact h'.1 (List.mem_map.2 ⟨z, hz, by rw [hz2, e]⟩)
        rw [h2] at ih
        rw [h1, if_pos (by simp; omega), if_neg (by simp; omega), List.length_cons, ih]
        simp
      · have h1 : hasId k (y :: S) = hasId k S := by simp [hasId, e]
        rw [h1]
        by_cases e2 : y.2 < (k : Int)
        · rw [if_pos (by simp; omega), if_pos (by simp; omega), List.length_cons, List.length_cons, ih]
          omega
        · rw [if_neg (by simp; omega), if_neg (by simp; omega), ih]
  unfold lowT
  rw [key T hi, hh]

theorem cnt_low {now : Int} {T : List Due} {D : List Int} (h : OncI now T D) (hi : Ids T) : ∀ k, k ≤ 8 → cntD D k = (lowT T k).length := by
  intro k
  induction k with
  | zero =>
    intro _
    unfold lowT
    rw [List.filter_eq_nil_iff.2]
    · rfl
    · intro x hx
      obtain ⟨k, hk, e1, _⟩ := h.yes x hx
      simp
      omega
  | succ k ih =>
    intro hk
    rw [lowT_succ h hi k (by omega), ← ih (by omega)]
    rfl

theorem OncI.count {now : Int} {T : List Due} {D : List Int} (h : OncI now T D) (hi : Ids T) : cntD D 8 = T.length := by
  rw [cnt_low h hi 8 (Nat.le_refl _)]
  unfold lowT
  rw [List.filter_eq_self.2]
  intro x hx
  obtain ⟨k, hk, e1, _⟩ := h.yes x hx
  simp
  omega

/-- Whose turn it is: an id modulo 8. -/
def mod8 (i : Int) : Nat := ((i.tmod 8 + 8).tmod 8).toNat

theorem mod8_is (i : Int) : (wrap64 (i.tmod 8 + 8)).tmod 8 = (mod8 i : Int) ∧ mod8 i < 8 := by
  have h1 : -8 < i.tmod 8 := Int.lt_tmod_of_pos i (by decide)
  have h2 : i.tmod 8 < 8 := Int.tmod_lt_of_pos i (by decide)
  unfold mod8
  generalize i.tmod 8 = z at h1 h2

  have e2 : wrap64 (z + 8) = z + 8 := by unfold wrap64; omega
  have e3 : (z + 8).tmod 8 = (z + 8) % 8 := Int.tmod_eq_emod_of_nonneg (by omega)
  rw [e2, e3]


  omega

theorem setE_18 {now : Int} {T : List Due} {D : List Int} (h : OncI now T D) {m : Nat} (hm : m < 8) (n : Int) (he : setE m n now T ≠ 0) : (setE m n now T == 18) = ((dd D m != 0) && decide (1 ≤ n) && decide (n ≤ 1099511627776)) := by
  rw [← h.has hm]
  unfold setE at he ⊢
  have hb : (decide ((m : Int) < 0) || decide (n < 1) || decide (1099511627776 < n)) = !(decide (1 ≤ n) && decide (n ≤ 1099511627776)) := by
    have e1 : decide ((m : Int) < 0) = false := decide_eq_false (by omega)
    rw [e1, Bool.false_or, Bool.not_and]
    congr 1
    · by_cases e : 1 ≤ n
      · rw [decide_eq_true e, decide_eq_false (by omega)]; rfl
      · rw [decide_eq_false e, decide_eq_true (by omega)]; rfl
    · by_cases e : n ≤ 1099511627776
      · rw [decide_eq_true e, decide_eq_false (by omega)]; rfl
      · rw [decide_eq_false e, decide_eq_true (by omega)]; rfl
  rw [hb] at he ⊢
  rw [Bool.and_assoc]
  cases hv : (decide (1 ≤ n) && decide (n ≤ 1099511627776)) with
  | false => simp
  | true =>
    rw [hv] at he
    cases h2 : hasId (m : Int) T with
    | false => rw [h2] at he; exact absurd rfl he
    | true => rfl
end Go.Proofs.Ytpgbhgkikpmhiaa
