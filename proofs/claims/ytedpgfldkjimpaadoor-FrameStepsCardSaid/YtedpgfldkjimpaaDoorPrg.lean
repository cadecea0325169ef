/-
  Programs as they lie in memory.
-/
import Derived.Test.YtedpgfldkjimpaaDoorCheck
namespace Go.Proofs.YtedpgfldkjimpaaDoor
open Go.RowKit

/-- A function. -/
structure Fn where
  needs : Int
  code : List Ins

/-- A row of instructions. -/
def Cod (w : World) (B : Nat) (A : Option Addr) (l : List Ins) : Prop :=
  0 < l.length → ∃ b o, A = some ⟨b, o, none⟩ ∧ b < B ∧ ∀ k i, l[k]? = some i →
    w.cell? ⟨b, o + k * 5, none⟩ = some (.int .i64 i.op) ∧ w.cell? ⟨b, o + k * 5 + 1, none⟩ = some (.int .i64 i.a) ∧ w.cell? ⟨b, o + k * 5 + 2, none⟩ = some (.int .i64 i.b) ∧
    w.cell? ⟨b, o + k * 5 + 3, none⟩ = some (.int .i64 i.c) ∧ w.cell? ⟨b, o + k * 5 + 4, none⟩ = some (.int .i64 i.n)

theorem Cod.keep {w w' : World} {B : Nat} {A : Option Addr} {l : List Ins} (h : Cod w B A l) {S : Nat → Prop} (f : Fr S w w') (hB : B ≤ w.heap.size) (hs : ∀ k, k < B → ¬ S k) : Cod w' B A l := fun hl => by
  obtain ⟨b, o, rfl, hb, hc⟩ := h hl
  have hk : ∀ j, w'.cell? ⟨b, j, none⟩ = w.cell? ⟨b, j, none⟩ := fun j => cell_keep f (p := ⟨b, j, none⟩) (Nat.lt_of_lt_of_le hb hB) (hs b hb)
  refine ⟨b, o, rfl, hb, fun k i hi => ?_⟩
  rw [hk, hk, hk, hk, hk]
  exact hc k i hi

theorem Cod.same {w w' : World} {B : Nat} {A : Option Addr} {l : List Ins} (h : Cod w B A l) (f : Fr (fun _ => False) w w') (hB : B ≤ w.heap.size) : Cod w' B A l := h.keep f hB (fun _ _ hh => hh)

theorem Cod.more {w : World} {B C : Nat} {A : Option Addr} {l : List Ins} (h : Cod w B A l) (hB : B ≤ C) : Cod w C A l := fun hl => by
  obtain ⟨b, o, rfl, hb, hc⟩ := h hl
  exact ⟨b, o, rfl, Nat.lt_of_lt_of_le hb hB, hc⟩

/-- A row of functions. -/
def Prg (w : World) (B : Nat) (A : Option Addr) (l : List Fn) : Prop :=
  0 < l.length → ∃ b o, A = some ⟨b, o, none⟩ ∧ b < B ∧ ∀ k f, l[k]? = some f →
    ∃ A' c, w.cell? ⟨b, o + k * 2, none⟩ = some (.int .i64 f.needs) ∧ w.cell? ⟨b, o + k * 2 + 1, none⟩ = some (.slice A' f.code.length c) ∧ Cod w B A' f.code

theorem Prg.keep {w w' : World} {B : Nat} {A : Option Addr} {l : List Fn} (h : Prg w B A l) {S : Nat → Prop} (f : Fr S w w') (hB : B ≤ w.heap.size) (hs : ∀ k, k < B → ¬ S k) : Prg w' B A l := fun hl => by
  obtain ⟨b, o, rfl, hb, hc⟩ := h hl
  have hk : ∀ j, w'.cell? ⟨b, j, none⟩ = w.cell? ⟨b, j, none⟩ := fun j => cell_keep f (p := ⟨b, j, none⟩) (Nat.lt_of_lt_of_le hb hB) (hs b hb)
  refine ⟨b, o, rfl, hb, fun k i hi => ?_⟩
  obtain ⟨A', c, h1, h2, h3⟩ := hc k i hi
  exact ⟨A', c, (hk _).trans h1, (hk _).trans h2, h3.keep f hB hs⟩

theorem Prg.same {w w' : World} {B : Nat} {A : Option Addr} {l : List Fn} (h : Prg w B A l) (f : Fr (fun _ => False) w w') (hB : B ≤ w.heap.size) : Prg w' B A l := h.keep f hB (fun _ _ hh => hh)

theorem Prg.more {w : World} {B C : Nat} {A : Option Addr} {l : List Fn} (h : Prg w B A l) (hB : B ≤ C) : Prg w C A l := fun hl => by
  obtain ⟨b, o, rfl, hb, hc⟩ := h hl
  refine ⟨b, o, rfl, Nat.lt_of_lt_of_le hb hB, fun k i hi => ?_⟩
  obtain ⟨A', c, h1, h2, h3⟩ := hc k i hi
  exact ⟨A', c, h1, h2, h3.more hB⟩


end Go.Proofs.YtedpgfldkjimpaaDoor
