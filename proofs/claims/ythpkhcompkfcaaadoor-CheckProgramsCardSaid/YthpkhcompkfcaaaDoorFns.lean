/-
  Functions and programs as plain data; what is wrong with them.
-/
import Derived.Test.YthpkhcompkfcaaaDoorPlain
namespace Go.Proofs.YthpkhcompkfcaaaDoor
open Go.RowKit

structure Fn where
  needs : Int
  code : List Ins

/-- What is wrong first with instructions. -/
def codeErr : List Ins → Int
  | [] => 0
  | i :: r => if chk i = 0 then codeErr r else chk i

def fnErr (f : Fn) : Int := if f.needs < 0 ∨ 255 < f.needs then 10 else if f.code.length < 1 ∨ 128 < f.code.length then 12 else codeErr f.code

def prgErr : List Fn → Int
  | [] => 0
  | f :: r => if fnErr f = 0 then prgErr r else fnErr f

def packErr (P : List Fn) : Int := if P.length < 1 ∨ 32 < P.length then 12 else prgErr P

theorem codeErr_take {l : List Ins} {k : Nat} {i : Ins} (h : codeErr (l.take k) = 0) (hk : l[k]? = some i) (hi : chk i ≠ 0) : codeErr l = chk i := by
  induction l generalizing k with
  | nil => simp at hk
  | cons a r ih =>
    cases k with
    | zero =>
      simp at hk
      subst hk
      simp [codeErr, hi]
    | succ k =>
      simp only [List.take_succ_cons, codeErr] at h
      simp only [List.getElem?_cons_succ] at hk
      split at h
      · rename_i ha
        simp only [codeErr, if_pos ha]
        exact ih h hk
      · contradiction

theorem codeErr_snoc {l : List Ins} {k : Nat} {i : Ins} (h : codeErr (l.take k) = 0) (hk : l[k]? = some i) (hi : chk i = 0) : codeErr (l.take (k + 1)) = 0 := by
  induction l generalizing k with
  | nil => simp at hk
  | cons a r ih =>
    cases k with
    | zero =>
      simp at hk
      subst hk
      simp [codeErr, hi]
    | succ k =>
      simp only [List.take_succ_cons, codeErr] at h ⊢
      simp only [List.getElem?_cons_succ] at hk
      split at h
      · rename_i ha
        rw [if_pos ha]
        exact ih h hk
      · contradiction

theorem prgErr_take {l : List Fn} {k : Nat} {i : Fn} (h : prgErr (l.take k) = 0) (hk : l[k]? = some i) (hi : fnErr i ≠ 0) : prgErr l = fnErr i := by
  induction l generalizing k with
  | nil => simp at hk
  | cons a r ih =>
    cases k with
    | zero =>
      simp at hk
      subst hk
      simp [prgErr, hi]
    | succ k =>
      simp only [List.take_succ_cons, prgErr] at h
      simp only [List.getElem?_cons_succ] at hk
      split at h
      · rename_i ha
        simp only [prgErr, if_pos ha]
        exact ih h hk
      · contradiction

theorem prgErr_snoc {l : List Fn} {k : Nat} {i : Fn} (h : prgErr (l.take k) = 0) (hk : l[k]? = some i) (hi : fnErr i = 0) : prgErr (l.take (k + 1)) = 0 := by
  induction l generalizing k with
  | nil => simp at hk
  | cons a r ih =>
    cases k with
    | zero =>
      simp at hk
      subst hk
      simp [prgErr, hi]
    | succ k =>
      simp only [List.take_succ_cons, prgErr] at h ⊢
      simp only [List.getElem?_cons_succ] at hk
      split at h
      · rename_i ha
        rw [if_pos ha]
        exact ih h hk
      · contradiction

theorem snoc_flat {α β : Type} {l : List α} {k : Nat} {x : α} (g : α → List β) (h : l[k]? = some x) : (l.take (k + 1)).flatMap g = (l.take k).flatMap g ++ g x := by
  obtain ⟨hl, hx⟩ := List.getElem?_eq_some_iff.1 h
  rw [List.take_succ_eq_append_getElem hl, List.flatMap_append, hx]
  simp

end Go.Proofs.YthpkhcompkfcaaaDoor
