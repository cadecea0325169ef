/-
  Encode, the document's bytes, and whether two rows of bytes are one.
-/
import Derived.Test.YtepbnneggpcbcaaGreatDoorPut
import Derived.Test.YtepbnneggpcbcaaGreatDoorRefCheck
namespace Go.Proofs.YtepbnneggpcbcaaGreatDoor
open Go.RowKit

theorem ret_bool {a b : Bool} (h : a = b) : Ending.returned (.bool a) = .returned (.bool b) := by rw [h]

theorem Fr.none {w w' : World} (h : Fr (ownB none) w w') : Fr (fun _ => False) w w' := h.mono (fun k ⟨_, hk, _⟩ => by cases hk)

theorem Ins.eta (i : Ins) : (⟨i.op, i.a, i.b, i.c, i.n⟩ : Ins) = i := rfl

theorem put_any (B : Nat) (A : Option Addr) (n cap : Nat) (l : List Int) (i : Ins) (w : World) (hown : OwnB w B A n cap l) (hn : n ≤ 1000000) (hB : B ≤ w.heap.size) :
    Calls Tryz.prog 30 #[.slice A n cap, i.val] w (PutPost w B A (n + 8) (l ++ encB i)) := put_ok B A n cap l i.op i.a i.b i.c i.n w hown hn hB

def EncPost (w : World) (l : List Int) (e : Ending) (w' : World) : Prop :=
  ∃ A cap, e = .returned (.tuple #[.slice A 8 cap, .int .i64 0]) ∧ OwnB w' w.heap.size A 8 cap l ∧ Fr (fun _ => False) w w'

def REncPost (w : World) (l : List Int) (e : Ending) (w' : World) : Prop :=
  ∃ g, e = .returned (.slice (some ⟨g, 0, none⟩) 8 8) ∧ w.heap.size ≤ g ∧ Blk w' g (byts l).toArray ∧ Fr (fun _ => False) w w'

theorem blk_of_eq {w : World} {g : Nat} {c c' : Array Value} (h : Blk w g c) (e : c = c') : Blk w g c' := e ▸ h

def BytRel (w : World) (l m : List Int) (d : Nat) (i : Value) (wr : World) : Prop :=
  ∃ k q : Nat, k ≤ l.length ∧ d = l.length - k ∧ i = .int .i64 k ∧ wr = w.drewN q ∧ ∀ j, j < k → l[j]? = m[j]?

def SameB (l m : List Int) : Bool := decide (l = m)

theorem sameB_len {l m : List Int} (h : l.length ≠ m.length) : SameB l m = false := by
  unfold SameB
  simp only [decide_eq_false_iff_not]
  rintro rfl
  exact h rfl

theorem sameB_ne {l m : List Int} {k : Nat} (h : l[k]? ≠ m[k]?) : SameB l m = false := by
  unfold SameB
  simp only [decide_eq_false_iff_not]
  rintro rfl
  exact h rfl

theorem sameB_all {l m : List Int} (hl : l.length = m.length) (h : ∀ j, j < l.length → l[j]? = m[j]?) : SameB l m = true := by
  unfold SameB
  simp only [decide_eq_true_eq]
  apply List.ext_getElem? 
  intro j
  rcases Nat.lt_or_ge j l.length with hj | hj
  · exact h j hj
  · rw [List.getElem?_eq_none hj, List.getElem?_eq_none (by omega)]

end Go.Proofs.YtepbnneggpcbcaaGreatDoor
