/-
  Operations that are done to their end: run and takes of the laws; lists that are the same.
-/
import Derived.Test.YtlhpngoplmccjaaList
import Derived.Deep.LoopGhost
namespace Go.Proofs.Ytlhpngoplmccjaa
open Go.RowKit
set_option linter.unusedVariables false

/-- An operation, and the machine, as they stand. -/
structure St (w : World) (b : MB) (o q cp : Nat) (most : Int) (op : DOp) (M : Mach) (s : List Int) (B : Int) : Prop where
  hI : IsOp w b o q cp most op
  hM : IsM w b (MO M s)
  ob : OpB B op
  cb : CellB B M
  len : 1 < M.all.length

theorem St.same {w w' : World} {b : MB} {o q cp : Nat} {most : Int} {op : DOp} {M : Mach} {s : List Int} {B : Int} (h : St w b o q cp most op M s B) (F : Fr (fun _ => False) w w') : St w' b o q cp most op M s B :=
  ⟨h.hI.same F, h.hM.same F, h.ob, h.cb, h.len⟩

theorem St.begin_ {w : World} {b : MB} {o q cp : Nat} {most : Int} {M : Mach} {s : List Int} {B : Int} {kind : Nat} {x : Int} (hI : IsOp w b o q cp most (beginOp kind x)) (hM : IsM w b (MO M s)) (hc : CellB B M) (h0 : 0 ≤ B) (hl : 1 < M.all.length) : St w b o q cp most (beginOp kind x) M s B :=
  ⟨hI, hM, OpB.begin_ _ _ h0, hc, hl⟩

theorem live_begin (kind : Nat) (x : Int) : (beginOp kind x).Live := by
  unfold DOp.Live beginOp
  simp

def StepPost (b : MB) (o q cp : Nat) (most : Int) (op : DOp) (M : Mach) (s : List Int) (B : Int) (j : Nat) (w : World) (e : Ending) (w' : World) : Prop :=
  ∃ cp', (cp' = cp ∨ w.heap.size ≤ cp') ∧ e = .returned (.int .i64 ((op.act most M).1.how : Nat)) ∧ St w' b o q cp' most (op.act most M).1 (op.act most M).2 (stp s j) (B + 1) ∧ Fr (OM b q cp) w w'

theorem st_step {w : World} {b : MB} {o q cp : Nat} {most : Int} {op : DOp} {M : Mach} {s : List Int} {B : Int} {j : Nat} (h : St w b o q cp most op M s B) (hl : op.Live) (hs : op.safe M) (hj : j < s.length) (h0 : 0 ≤ B) (hB : B ≤ 100000) :
    Calls Try.prog 18 #[.pointer (some ⟨o, 0, none⟩), .pointer (some ⟨b.m, 0, none⟩), .int .i64 j] w (StepPost b o q cp most op M s B j w) := by
  refine (op_step ⟨h.hI, h.hM, hj, hs, h.ob.more hB, hl⟩).mono ?_
  rintro e w' ⟨cp', hcp, he, hI, hM, hF⟩
  have hb := act_bd (most := most) h.len hs h0 h.cb h.ob
  exact ⟨cp', hcp, he, ⟨hI, hM, hb.2, hb.1, by rw [act_len]; exact h.len⟩, hF⟩

def RunPost (b : MB) (o q cp : Nat) (most : Int) (op' : DOp) (M' : Mach) (sl : Nat) (w : World) (e : Ending) (w' : World) : Prop :=
  e = .returned (.int .i64 (op'.how : Nat)) ∧ ∃ cp' s', (cp' = cp ∨ w.heap.size ≤ cp') ∧ IsOp w' b o q cp' most op' ∧ IsM w' b (MO M' s') ∧ s'.length = sl ∧ Fr (OM b q cp) w w'

def RnRel (b : MB) (o q cp : Nat) (most : Int) (op' : DOp) (M' : Mach) (sl n : Nat) (w : World) (d : Nat) (x : Value) (wr : World) : Prop :=
  ∃ (k m : Nat) (op : DOp) (M : Mach) (s : List Int) (cpi : Nat), k + m = n ∧ d = 301 - k ∧ x = .int .i64 k ∧ Run most op M m op' M' ∧ op.Live ∧ St wr b o q cpi most op M s (1000 + k) ∧ s.length = sl ∧ (cpi = cp ∨ w.heap.size ≤ cpi) ∧ Fr (OM b q cp) w wr

theorem fr_om_since {b : MB} {q cp cpi : Nat} {w wr w' : World} (F : Fr (OM b q cp) w wr) (F' : Fr (OM b q cpi) wr w') (hc : cpi = cp ∨ w.heap.size ≤ cpi) : Fr (OM b q cp) w w' := by
  refine F.since F' ?_
  rintro i ((h | h) | h) hlt
  · exact .inl (.inl h)
  · rcases hc with hc | hc
    · exact .inl (.inr (h.trans hc))
    · omega
  · exact .inr h

end Go.Proofs.Ytlhpngoplmccjaa
