/-
  A step of an operation in memory is the table's: what is asked, and what is told.
-/
import Derived.Test.YtiofdfgcghiibaaRep
namespace Go.Proofs.Ytiofdfgcghiibaa
open Go.RowKit
set_option linter.unusedVariables false


/-- Under way. -/
def DOp.Live (o : DOp) : Prop := o.how = cond (o.kind == 2 && o.nx == 5) 2 0

/-- What holds ahead of a step that goes on. -/
structure Pre (w : World) (b : MB) (M : Mach) (s : List Int) (o q cp : Nat) (most : Int) (op : DOp) (j : Nat) : Prop where
  hI : IsOp w b o q cp most op
  hM : IsM w b (MO M s)
  hj : j < s.length
  hs : op.safe M
  hb : OpB 100000 op
  hl : op.Live

def OKPost (b : MB) (M : Mach) (s : List Int) (o q cp : Nat) (most : Int) (op : DOp) (j : Nat) (w : World) (e : Ending) (w' : World) : Prop :=
  ∃ cp', (cp' = cp ∨ w.heap.size ≤ cp') ∧ e = .returned (.int .i64 ((op.act most M).1.how : Nat)) ∧ IsOp w' b o q cp' most (op.act most M).1 ∧ IsM w' b (MO (op.act most M).2 (stp s j)) ∧ Fr (OM b q cp) w w'

theorem fin_op {w w' : World} {b : MB} {M : Mach} {s : List Int} {o q cp : Nat} {most : Int} {op : DOp} {j : Nat} (sep : Sep b o q cp) (hO : Blk w o #[.iface (KT op.kind) (.pointer (some ⟨q, 0, none⟩))]) (op' : DOp) (M' : Mach) (he : op.act most M = (op', M')) (hk : op'.kind = op.kind) (kk : op.kind ≤ 2) (h6 : op'.how ≠ 6)
    (hr : Rep w' q cp most op') (hM' : IsM w' b (MO M' (stp s j))) (hF : Fr (OM b q cp) w w') : OKPost b M s o q cp most op j w (.returned (.int .i64 (op'.how : Nat))) w' := by
  refine ⟨cp, .inl rfl, by rw [he], ⟨sep, by rw [he, hk]; exact kk, ?_, .inl ⟨by rw [he]; exact h6, by rw [he]; exact hr⟩⟩, by rw [he]; exact hM', hF⟩
  rw [he, hk]
  refine hO.keep hF ?_
  rintro ((h | h) | h)
  · exact sep.bo h
  · exact sep.oc h
  · exact sep.oq h

theorem fr_om {b : MB} {q cp : Nat} {w w' : World} (h : Fr (And_ b.own q) w w') : Fr (OM b q cp) w w' := h.mono fun _ h => h.elim (fun h => .inl (.inl h)) .inr
theorem fr_om2 {b : MB} {q cp : Nat} {w w' : World} (h : Fr (And_ (fun k => b.own k ∨ k = cp) q) w w') : Fr (OM b q cp) w w' := h
end Go.Proofs.Ytiofdfgcghiibaa
