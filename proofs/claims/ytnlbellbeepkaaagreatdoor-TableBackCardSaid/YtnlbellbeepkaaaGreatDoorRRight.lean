/-
  Stage 7: what is wrong with a row: the document's answer.
-/
import Derived.Test.YtnlbellbeepkaaaGreatDoorSite2
namespace Go.Proofs.YtnlbellbeepkaaaGreatDoor
open Go.RowKit
set_option linter.unusedVariables false
set_option linter.unusedSimpArgs false

theorem binL_false {l : List UInt8} {j : Nat} {b : UInt8} (hb : l[j]? = some b) (h : b ≠ 48 ∧ b ≠ 49) : binL l = false := by
  unfold binL
  rw [List.all_eq_false]
  exact ⟨b, List.mem_of_getElem? hb, by simp [h.1, h.2]⟩
theorem binL_true {l : List UInt8} (h : ∀ (i : Nat) b, l[i]? = some b → b = 48 ∨ b = 49) : binL l = true := by
  unfold binL
  rw [List.all_eq_true]
  intro r hr
  obtain ⟨i, hi, rfl⟩ := List.getElem_of_mem hr
  have := h i _ (List.getElem?_eq_getElem hi)
  simpa using this

def BnRel (s : ByteArray) (d : Nat) (k : Value) : Prop := ∃ j : Nat, j ≤ s.size ∧ d = s.size + 1 - j ∧ k = .int .i64 j ∧ (∀ (i : Nat) b, i < j → s.data.toList[i]? = some b → b = 48 ∨ b = 49)

theorem byte_at (s : ByteArray) {j : Nat} (h : j < s.size) : s.data.toList[j]? = some s[j] := by
  rw [Array.getElem?_toList, Array.getElem?_eq_getElem h]
  rfl

theorem rightE_par {a : List Tw} {r : Tw} (h : parB a r.par = false) : rightE a r = 11 := by unfold rightE; rw [if_pos h]
theorem rightE_rng {a : List Tw} {r : Tw} (h : parB a r.par = true) (h2 : rngB a r = false) : rightE a r = 10 := by unfold rightE; rw [if_neg (by simp [h]), if_pos h2]
theorem rightE_bin {a : List Tw} {r : Tw} (h : parB a r.par = true) (h2 : rngB a r = true) (h3 : binB r = false) : rightE a r = 11 := by unfold rightE; rw [if_neg (by simp [h]), if_neg (by simp [h2]), if_pos h3]
theorem rightE_val {a : List Tw} {r : Tw} (h : parB a r.par = true) (h2 : rngB a r = true) (h3 : binB r = true) (h4 : (valB r && begB r) = false) : rightE a r = 19 := by
  unfold rightE
  rw [if_neg (by simp [h]), if_neg (by simp [h2]), if_neg (by simp [h3])]
  cases h5 : valB r
  · simp
  · rw [h5] at h4
    simp at h4
    simp [h4]
theorem rightE_kin {a : List Tw} {r : Tw} (h : parB a r.par = true) (h2 : rngB a r = true) (h3 : binB r = true) (h4 : (valB r && begB r) = true) : rightE a r = tol (!kinB a r) 19 := by
  simp only [Bool.and_eq_true] at h4
  unfold rightE tol
  rw [if_neg (by simp [h]), if_neg (by simp [h2]), if_neg (by simp [h3]), if_neg (by simp [h4]), if_neg (by simp [h4])]
  cases kinB a r <;> simp

theorem not_empty {cl : ByteArray} (h : 0 < cl.size) : cl.toList ≠ [] := fun hh => by
  rw [ByteArray.toList_eq] at hh
  have := congrArg List.length hh
  simp at this
  have h4 : cl.size = cl.data.size := rfl
  rw [h4, this] at h
  simp at h

def rowC (r : Tw) : Array Value := #[.int .i64 r.par, .int .i64 r.in_, .int .i64 r.fn, .int .i64 r.kind, .int .i64 r.v, .int .i64 r.st, .string r.cl]

def RgPost (l : List Tw) (i : Nat) (r : Tw) (w : World) (e : Ending) (w' : World) : Prop := e = .returned (.int .i64 (rightE (l.take i) r)) ∧ Fr (fun _ => False) w w'

end Go.Proofs.YtnlbellbeepkaaaGreatDoor
