/-
  Scopes that are cancelled: which rows are kids of the first one.
-/
import Derived.Test.YtpjcdjooiaefdaaDoorVTwM
namespace Go.Proofs.YtpjcdjooiaefdaaDoor
open Go.RowKit
set_option linter.unusedVariables false

/-- The kids of the first row, of the first j rows. -/
def kidsR (rows : List Rw) (j : Nat) : List Rw := ((rows.take j).drop 1).filter fun r => r.par == 0

theorem flt_one (rows : List Rw) : kidsR rows 1 = [] := by
  unfold kidsR
  rw [List.drop_eq_nil_of_le (by rw [List.length_take]; omega)]
  rfl

theorem flt_next {rows : List Rw} {j : Nat} {r : Rw} (h : rows[j]? = some r) (h1 : 1 ≤ j) : kidsR rows (j + 1) = kidsR rows j ++ (if r.par = 0 then [r] else []) := by
  unfold kidsR
  have hl := (List.getElem?_eq_some_iff.1 h).1
  rw [take_snoc' h, List.drop_append_of_le_length (by rw [List.length_take]; omega), List.filter_append]
  congr 1
  by_cases h0 : r.par = 0
  · rw [if_pos h0]
    simp [h0]
  · rw [if_neg h0]
    simp [h0]

theorem brood_cons {q i0 : Int} {L : List Rw} (B : Brood q i0 L) : ∃ ra T, L = ra :: T ∧ ra.par = 0 ∧ ra.in_ = i0 ∧ ra.fn = q ∧ (ra.kind = 2 ∨ ra.kind = 3) ∧ ∀ x ∈ T, 1 ≤ x.par := by
  obtain ⟨ra, h0, h1, h2, h3, h4⟩ := B.first
  cases L with
  | nil => cases h0
  | cons x T =>
    simp only [List.getElem?_cons_zero] at h0
    injection h0 with h0
    subst h0
    refine ⟨x, T, rfl, h1, h2, h3, h4, fun y hy => ?_⟩
    obtain ⟨i, hi⟩ := List.getElem?_of_mem hy
    exact (B.more (i + 1) y (by omega) (by rw [List.getElem?_cons_succ]; exact hi)).1

theorem filter_none {T : List Rw} (h : ∀ x ∈ T, x.par ≠ 0) : T.filter (fun r => r.par == 0) = [] := by
  rw [List.filter_eq_nil_iff]
  intro x hx
  simp [h x hx]

/-- The four kids. -/
theorem scopes_flt {q : Int} {L rows : List Rw} {r0 : Rw} (hB : Brood q 1 L) (hrows : rows = r0 :: L ++ [lostR 1 q, lostR 2 q] ++ shL 1 (L.length + 2) (fun _ => 0) L) :
    ∃ ra : Rw, ra.in_ = 1 ∧ (ra.kind = 2 ∨ ra.kind = 3) ∧ kidsR rows rows.length = [ra, lostR 1 q, lostR 2 q, { ra with in_ := 0 }] ∧ rows[0]? = some r0 := by
  obtain ⟨ra, T, rfl, h0, h1, h2, h3, hT⟩ := brood_cons hB
  refine ⟨ra, h1, h3, ?_, by rw [hrows]; rfl⟩
  unfold kidsR
  rw [List.take_length, hrows]
  have e1 : ((r0 :: (ra :: T) ++ [lostR 1 q, lostR 2 q] ++ shL 1 ((ra :: T).length + 2) (fun _ => 0) (ra :: T)).drop 1) = ra :: (T ++ (lostR 1 q :: lostR 2 q :: (ra.sh 1 ((ra :: T).length + 2) (fun _ => 0) :: shL 1 ((ra :: T).length + 2) (fun _ => 0) T))) := by
    simp [shL]
  rw [e1]
  have e2 : ra.sh 1 ((ra :: T).length + 2) (fun _ => 0) = { ra with in_ := 0 } := (brood_sh hB).2 ra rfl
  rw [e2]
  have hS : ∀ x ∈ shL 1 ((ra :: T).length + 2) (fun _ => 0) T, x.par ≠ 0 := by
    intro x hx
    unfold shL at hx
    obtain ⟨y, hy, rfl⟩ := List.mem_map.1 hx
    have := hT y hy
    show shI 1 _ y.par ≠ 0
    rw [shI_big (by omega)]
    omega
  rw [List.filter_cons, if_pos (by simp [h0]), List.filter_append, filter_none (T := T) (fun x hx => by have := hT x hx; omega), List.nil_append, List.filter_cons, if_pos (by simp [lostR]), List.filter_cons, if_pos (by simp [lostR]), List.filter_cons, if_pos (by simp [h0]), filter_none hS]

end Go.Proofs.YtpjcdjooiaefdaaDoor
