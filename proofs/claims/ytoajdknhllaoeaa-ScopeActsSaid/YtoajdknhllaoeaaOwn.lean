/-
  Rows of one's own.
-/
import Derived.Test.YtoajdknhllaoeaaHeap
import Derived.Laws.AppendOwn
import Derived.OwnWalk
import Derived.Laws.MakeOwn
namespace Go.Proofs.Ytoajdknhllaoeaa
open Go.RowKit
set_option linter.unusedVariables false

/-- A block whose type is known, too. -/
def TBlk (w : World) (b : Nat) (c : Array Value) (t : TypeId) : Prop := w.heap[b]? = some (.cells c t (0, 0))

/-- A block is that of an address. -/
def ownB (A : Option Addr) (k : Nat) : Prop := ∃ a, A = some a ∧ a.block = k

theorem Fr.of_grown {w w' : World} {A : Option Addr} {n c : Nat} (h : w.grownBy w' (Value.slice A n c).ownBlock) : Fr (ownB A) w w' :=
  ⟨h.os, h.tape, h.output, h.size, fun k hk hn => h.block k hk (fun e => hn (by
    rcases A with _ | a
    · simp [Value.ownBlock] at e
    · simp only [Value.ownBlock, Option.some.injEq] at e
      exact ⟨a, rfl, e.symm⟩))⟩

/-- A row of items of k cells each that is the call's own. -/
def OwnR (w : World) (B : Nat) (e : TypeId) (k : Nat) (A : Option Addr) (n cap : Nat) (xs : List Value) : Prop := w.ownsRow B e k (.slice A n cap) n xs

theorem OwnR.nil (w : World) (B : Nat) (e : TypeId) (k : Nat) : OwnR w B e k none 0 0 [] := ⟨by simp, .inl ⟨rfl, rfl⟩⟩

theorem OwnR.lt {w : World} {B : Nat} {e : TypeId} {k : Nat} {A : Option Addr} {n cap : Nat} {xs : List Value} (h : OwnR w B e k A n cap xs) : ∀ j, ownB A j → B ≤ j ∧ j < w.heap.size := by
  rintro j ⟨a, rfl, rfl⟩
  exact World.ownsRow.lt h _ rfl

theorem OwnR.keep {w w' : World} {B : Nat} {e : TypeId} {k : Nat} {A : Option Addr} {n cap : Nat} {xs : List Value} (h : OwnR w B e k A n cap xs) {S : Nat → Prop} (f : Fr S w w') (hs : ∀ j, ownB A j → ¬ S j) : OwnR w' B e k A n cap xs := by
  have hlt := h.lt
  obtain ⟨h1, h2⟩ := h
  refine ⟨h1, ?_⟩
  rcases h2 with h2 | ⟨g, c, cur, hv, hb, hh, r⟩
  · exact .inl h2
  · refine .inr ⟨g, c, cur, hv, hb, ?_, r⟩
    have hA : A = some ⟨g, 0, none⟩ := by injection hv
    have ho : ownB A g := ⟨_, hA, rfl⟩
    rw [f.block g (hlt g ho).2 (hs g ho)]
    exact hh

theorem OwnR.same {w w' : World} {B : Nat} {e : TypeId} {k : Nat} {A : Option Addr} {n cap : Nat} {xs : List Value} (h : OwnR w B e k A n cap xs) (f : Fr (fun _ => False) w w') : OwnR w' B e k A n cap xs := h.keep f (fun _ _ hh => hh)

theorem OwnR.less {w : World} {B C : Nat} {e : TypeId} {k : Nat} {A : Option Addr} {n cap : Nat} {xs : List Value} (h : OwnR w B e k A n cap xs) (hC : C ≤ B) : OwnR w C e k A n cap xs := by
  obtain ⟨h1, h2⟩ := h
  refine ⟨h1, ?_⟩
  rcases h2 with h2 | ⟨g, c, cur, hv, hb, r⟩
  · exact .inl h2
  · exact .inr ⟨g, c, cur, hv, Nat.le_trans hC hb, r⟩

theorem OwnR.eq {w : World} {B : Nat} {e : TypeId} {k : Nat} {A : Option Addr} {n cap : Nat} {xs ys : List Value} (h : OwnR w B e k A n cap xs) (he : xs = ys) : OwnR w B e k A n cap ys := he ▸ h

theorem OwnR.form {w : World} {B : Nat} {e : TypeId} {k : Nat} {v : Value} {n : Nat} {xs : List Value} (h : w.ownsRow B e k v n xs) : ∃ A cap, v = .slice A n cap ∧ OwnR w B e k A n cap xs := by
  have h' := h
  obtain ⟨h1, h2⟩ := h
  rcases h2 with ⟨rfl, rfl⟩ | ⟨g, c, cur, rfl, _⟩
  · exact ⟨_, _, rfl, h'⟩
  · exact ⟨_, _, rfl, h'⟩

theorem OwnR.ne {w : World} {B : Nat} {e : TypeId} {k : Nat} {A : Option Addr} {n cap : Nat} {xs : List Value} (h : OwnR w B e k A n cap xs) {g : Nat} {c : Array Value} {t : TypeId} (hg : TBlk w g c t) (ht : t ≠ e) : ¬ ownB A g := by
  rintro ⟨a, rfl, rfl⟩
  obtain ⟨h1, h2⟩ := h
  rcases h2 with ⟨h2, _⟩ | ⟨g', c', cur, hv, hb, hh, _⟩
  · cases h2
  · injection hv with hv _ _
    injection hv with hv
    subst hv
    unfold TBlk at hg
    rw [hh] at hg
    injection hg with hg
    injection hg with _ hg _
    exact ht hg.symm

/-- Rows of different types lie apart. -/
theorem OwnR.apart {w : World} {B C : Nat} {e e' : TypeId} {k k' : Nat} {A A' : Option Addr} {n cap n' cap' : Nat} {xs xs' : List Value} (h : OwnR w B e k A n cap xs) (h' : OwnR w C e' k' A' n' cap' xs') (ht : e ≠ e') : ∀ j, ownB A j → ¬ ownB A' j := by
  rintro j ⟨a, rfl, rfl⟩ ha'
  obtain ⟨h1, h2⟩ := h
  rcases h2 with ⟨h2, _⟩ | ⟨g', c', cur, hv, hb, hh, _⟩
  · cases h2
  · injection hv with hv _ _
    injection hv with hv
    subst hv
    exact h'.ne (t := e) hh ht ha'

theorem OwnR.cell {w : World} {B : Nat} {e : TypeId} {k : Nat} {A : Option Addr} {n cap : Nat} {xs : List Value} (h : OwnR w B e k A n cap xs) (hn : 0 < n) : ∃ g, A = some ⟨g, 0, none⟩ ∧ B ≤ g ∧ g < w.heap.size ∧ (∀ j, w.frozen? ⟨g, j, none⟩ = false) ∧ ∀ (j : Nat) (u : Value), xs[j]? = some u → w.cell? ⟨g, j, none⟩ = some u := by
  have hlt := h.lt
  obtain ⟨h1, h2⟩ := h
  rcases h2 with ⟨_, h2⟩ | ⟨g, c, cur, hv, hb, hh, _, _, _, htk⟩
  · omega
  · have hA : A = some ⟨g, 0, none⟩ := by injection hv
    refine ⟨g, hA, hb, (hlt g ⟨_, hA, rfl⟩).2, fun j => Blk.frozen (c := cur) ⟨_, hh⟩ j, fun j u hu => ?_⟩
    rw [← htk, List.getElem?_take] at hu
    split at hu
    · exact Blk.cell (c := cur) ⟨_, hh⟩ (by simpa using hu)
    · cases hu


end Go.Proofs.Ytoajdknhllaoeaa
