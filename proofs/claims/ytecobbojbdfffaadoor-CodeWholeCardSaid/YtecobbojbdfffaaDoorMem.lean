/-
  Functions and programs as plain data and as they stand in memory; what is wrong with a function.
-/
import Derived.Test.YtecobbojbdfffaaDoorEnc
namespace Go.Proofs.YtecobbojbdfffaaDoor
open Go.RowKit

structure Fn where
  needs : Int
  code : List Ins

/-- A row of instructions. -/
def Cod (w : World) (B : Nat) (A : Option Addr) (l : List Ins) : Prop :=
  0 < l.length → ∃ b o, A = some ⟨b, o, none⟩ ∧ b < B ∧ ∀ k i, l[k]? = some i →
    w.cell? ⟨b, o + k * 5, none⟩ = some (.int .i64 i.op) ∧ w.cell? ⟨b, o + k * 5 + 1, none⟩ = some (.int .i64 i.a) ∧ w.cell? ⟨b, o + k * 5 + 2, none⟩ = some (.int .i64 i.b) ∧
    w.cell? ⟨b, o + k * 5 + 3, none⟩ = some (.int .i64 i.c) ∧ w.cell? ⟨b, o + k * 5 + 4, none⟩ = some (.int .i64 i.n)

theorem Cod.keep {w w' : World} {B : Nat} {A : Option Addr} {l : List Ins} (h : Cod w B A l) {S : Nat → Prop} (f : Fr S w w') (hB : B ≤ w.heap.size) (hs : ∀ k, k < B → ¬ S k) : Cod w' B A l := fun hl => by
  obtain ⟨b, o, rfl, hb, hc⟩ := h hl
  have hk : ∀ j, w'.cell? ⟨b, j, none⟩ = w.cell? ⟨b, j, none⟩ := fun j => cell_keep f (p := ⟨b, j, none⟩) (Nat.lt_of_lt_of_le hb hB) (hs b hb)
  refine ⟨b, o, rfl, hb, fun k i hi => ?_⟩
  rw [hk, hk, hk, hk, hk]
  exact hc k i hi

theorem Cod.same {w w' : World} {B : Nat} {A : Option Addr} {l : List Ins} (h : Cod w B A l) (f : Fr (fun _ => False) w w') (hB : B ≤ w.heap.size) : Cod w' B A l := h.keep f hB (fun _ _ hh => hh)

theorem Cod.more {w : World} {B C : Nat} {A : Option Addr} {l : List Ins} (h : Cod w B A l) (hB : B ≤ C) : Cod w C A l := fun hl => by
  obtain ⟨b, o, rfl, hb, hc⟩ := h hl
  exact ⟨b, o, rfl, Nat.lt_of_lt_of_le hb hB, hc⟩

/-- A row of functions. -/
def Prg (w : World) (B : Nat) (A : Option Addr) (l : List Fn) : Prop :=
  0 < l.length → ∃ b o, A = some ⟨b, o, none⟩ ∧ b < B ∧ ∀ k f, l[k]? = some f →
    ∃ A' c, w.cell? ⟨b, o + k * 2, none⟩ = some (.int .i64 f.needs) ∧ w.cell? ⟨b, o + k * 2 + 1, none⟩ = some (.slice A' f.code.length c) ∧ Cod w B A' f.code

theorem Prg.keep {w w' : World} {B : Nat} {A : Option Addr} {l : List Fn} (h : Prg w B A l) {S : Nat → Prop} (f : Fr S w w') (hB : B ≤ w.heap.size) (hs : ∀ k, k < B → ¬ S k) : Prg w' B A l := fun hl => by
  obtain ⟨b, o, rfl, hb, hc⟩ := h hl
  have hk : ∀ j, w'.cell? ⟨b, j, none⟩ = w.cell? ⟨b, j, none⟩ := fun j => cell_keep f (p := ⟨b, j, none⟩) (Nat.lt_of_lt_of_le hb hB) (hs b hb)
  refine ⟨b, o, rfl, hb, fun k i hi => ?_⟩
  obtain ⟨A', c, h1, h2, h3⟩ := hc k i hi
  exact ⟨A', c, (hk _).trans h1, (hk _).trans h2, h3.keep f hB hs⟩

theorem Prg.same {w w' : World} {B : Nat} {A : Option Addr} {l : List Fn} (h : Prg w B A l) (f : Fr (fun _ => False) w w') (hB : B ≤ w.heap.size) : Prg w' B A l := h.keep f hB (fun _ _ hh => hh)

theorem Prg.more {w : World} {B C : Nat} {A : Option Addr} {l : List Fn} (h : Prg w B A l) (hB : B ≤ C) : Prg w C A l := fun hl => by
  obtain ⟨b, o, rfl, hb, hc⟩ := h hl
  refine ⟨b, o, rfl, Nat.lt_of_lt_of_le hb hB, fun k i hi => ?_⟩
  obtain ⟨A', c, h1, h2, h3⟩ := hc k i hi
  exact ⟨A', c, h1, h2, h3.more hB⟩

/-- What is wrong first with instructions. -/
def codeErr : List Ins → Int
  | [] => 0
  | i :: r => if chk i = 0 then codeErr r else chk i

def fnErr (f : Fn) : Int := if f.needs < 0 ∨ 255 < f.needs then 10 else if f.code.length < 1 ∨ 128 < f.code.length then 12 else codeErr f.code

def prgErr : List Fn → Int
  | [] => 0
  | f :: r => if fnErr f = 0 then prgErr r else fnErr f

def packErr (P : List Fn) : Int := if P.length < 1 ∨ 32 < P.length then 12 else prgErr P

def fnBytes (f : Fn) : List Int := [f.needs % 256, (f.code.length : Int)] ++ f.code.flatMap encB
def packBytes (P : List Fn) : List Int := [(P.length : Int)] ++ P.flatMap fnBytes

theorem codeErr_take {l : List Ins} {k : Nat} {i : Ins} (h : codeErr (l.take k) = 0) (hk : l[k]? = some i) (hi : chk i ≠ 0) : codeErr l = chk i := by
  induction l generalizing k with
  | nil => simp at hk
  | cons a r ih =>
    cases k with
    | zero =>
      simp at hk
      subst hk
      simp [codeErr, hi]
    | succ k =>
      simp only [List.take_succ_cons, codeErr] at h
      simp only [List.getElem?_cons_succ] at hk
      split at h
      · rename_i ha
        simp only [codeErr, if_pos ha]
        exact ih h hk
      · contradiction

theorem codeErr_snoc {l : List Ins} {k : Nat} {i : Ins} (h : codeErr (l.take k) = 0) (hk : l[k]? = some i) (hi : chk i = 0) : codeErr (l.take (k + 1)) = 0 := by
  induction l generalizing k with
  | nil => simp at hk
  | cons a r ih =>
    cases k with
    | zero =>
      simp at hk
      subst hk
      simp [codeErr, hi]
    | succ k =>
      simp only [List.take_succ_cons, codeErr] at h ⊢
      simp only [List.getElem?_cons_succ] at hk
      split at h
      · rename_i ha
        rw [if_pos ha]
        exact ih h hk
      · contradiction

theorem prgErr_take {l : List Fn} {k : Nat} {i : Fn} (h : prgErr (l.take k) = 0) (hk : l[k]? = some i) (hi : fnErr i ≠ 0) : prgErr l = fnErr i := by
  induction l generalizing k with
  | nil => simp at hk
  | cons a r ih =>
    cases k with
    | zero =>
      simp at hk
      subst hk
      simp [prgErr, hi]
    | succ k =>
      simp only [List.take_succ_cons, prgErr] at h
      simp only [List.getElem?_cons_succ] at hk
      split at h
      · rename_i ha
        simp only [prgErr, if_pos ha]
        exact ih h hk
      · contradiction

theorem prgErr_snoc {l : List Fn} {k : Nat} {i : Fn} (h : prgErr (l.take k) = 0) (hk : l[k]? = some i) (hi : fnErr i = 0) : prgErr (l.take (k + 1)) = 0 := by
  induction l generalizing k with
  | nil => simp at hk
  | cons a r ih =>
    cases k with
    | zero =>
      simp at hk
      subst hk
      simp [prgErr, hi]
    | succ k =>
      simp only [List.take_succ_cons, prgErr] at h ⊢
      simp only [List.getElem?_cons_succ] at hk
      split at h
      · rename_i ha
        rw [if_pos ha]
        exact ih h hk
      · contradiction

theorem snoc_flat {α β : Type} {l : List α} {k : Nat} {x : α} (g : α → List β) (h : l[k]? = some x) : (l.take (k + 1)).flatMap g = (l.take k).flatMap g ++ g x := by
  obtain ⟨hl, hx⟩ := List.getElem?_eq_some_iff.1 h
  rw [List.take_succ_eq_append_getElem hl, List.flatMap_append, hx]
  simp

end Go.Proofs.YtecobbojbdfffaaDoor
