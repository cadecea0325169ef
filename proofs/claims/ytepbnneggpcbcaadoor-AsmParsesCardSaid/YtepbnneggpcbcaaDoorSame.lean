/-
  Whether two programs are the same.
-/
import Derived.Test.YtepbnneggpcbcaaDoorPack
namespace Go.Proofs.YtepbnneggpcbcaaDoor
open Go.RowKit

instance fnDec : DecidableEq Fn := fun a b =>
  if h : a.needs = b.needs ∧ a.code = b.code then isTrue (by cases a; cases b; simp only at h; rw [h.1, h.2]) else isFalse (fun e => h (by rw [e]; exact ⟨rfl, rfl⟩))

theorem same_len {α : Type} [DecidableEq α] {l m : List α} (h : l.length ≠ m.length) : decide (l = m) = false := by
  simp only [decide_eq_false_iff_not]
  rintro rfl
  exact h rfl

theorem same_ne {α : Type} [DecidableEq α] {l m : List α} {k : Nat} {x y : α} (hx : l[k]? = some x) (hy : m[k]? = some y) (h : x ≠ y) : decide (l = m) = false := by
  simp only [decide_eq_false_iff_not]
  rintro rfl
  rw [hx] at hy
  exact h (Option.some.inj hy)

theorem same_all {α : Type} [DecidableEq α] {l m : List α} (hl : l.length = m.length) (h : ∀ j, j < l.length → l[j]? = m[j]?) : decide (l = m) = true := by
  simp only [decide_eq_true_eq]
  apply List.ext_getElem?
  intro j
  rcases Nat.lt_or_ge j l.length with hj | hj
  · exact h j hj
  · rw [List.getElem?_eq_none hj, List.getElem?_eq_none (by omega)]

theorem fn_eq (f g : Fn) : decide (f = g) = (decide (f.needs = g.needs) && decide (f.code = g.code)) := by
  by_cases h : f = g
  · subst h
    simp
  · have : ¬ (f.needs = g.needs ∧ f.code = g.code) := fun hh => h (by cases f; cases g; simp only at hh; rw [hh.1, hh.2])
    rw [decide_eq_false h]
    by_cases h1 : f.needs = g.needs
    · by_cases h2 : f.code = g.code
      · exact absurd ⟨h1, h2⟩ this
      · simp [h2]
    · simp [h1]

theorem ins_eq (i j : Ins) : decide (i = j) = (decide (i.op = j.op) && (decide (i.a = j.a) && (decide (i.b = j.b) && (decide (i.c = j.c) && decide (i.n = j.n))))) := by
  obtain ⟨a0, a1, a2, a3, a4⟩ := i
  obtain ⟨b0, b1, b2, b3, b4⟩ := j
  simp only [Ins.mk.injEq, Bool.decide_and]

def RelalikeI (w : World) (l m : List Ins) (d : Nat) (s : Value) (wr : World) : Prop :=
  ∃ k : Nat, k ≤ l.length ∧ d = l.length - k ∧ s = .int .i64 k ∧ (∀ j, j < k → l[j]? = m[j]?) ∧ Fr (fun _ => False) w wr

def RelalikeF (w : World) (l m : List Fn) (d : Nat) (s : Value) (wr : World) : Prop :=
  ∃ k : Nat, k ≤ l.length ∧ d = l.length - k ∧ s = .int .i64 k ∧ (∀ j, j < k → l[j]? = m[j]?) ∧ Fr (fun _ => False) w wr

end Go.Proofs.YtepbnneggpcbcaaDoor
