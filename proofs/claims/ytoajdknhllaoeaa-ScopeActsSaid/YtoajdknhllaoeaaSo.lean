/-
  Scopes: what Len, are, find, Parent tell (walks).
-/
import Derived.Test.YtoajdknhllaoeaaScm
import Derived.Test.YtoajdknhllaoeaaProg
import Derived.Deep.DeepCutAuto
import Derived.Deep.DeepMust
import Derived.Deep.RegionHeld3
import Derived.Deep.QuietTactic
import Derived.BigQuiet
namespace Go.Proofs.Ytoajdknhllaoeaa
open Go.RowKit
set_option linter.unusedVariables false

/-- A number is a scope's. -/
def isB (n : Nat) (x : Int) : Bool := decide (0 ≤ x) && decide (x < n)
theorem isB_yes {n k : Nat} (h : k < n) : isB n k = true := by unfold isB; simp; omega
theorem isB_no {n : Nat} {x : Int} (h : x < 0 ∨ (n : Int) ≤ x) : isB n x = false := by unfold isB; simp; omega
theorem isB_of {n : Nat} {x : Int} (h : isB n x = true) : ∃ k : Nat, x = k ∧ k < n := by
  unfold isB at h
  simp at h
  obtain ⟨k, rfl⟩ := Int.eq_ofNat_of_zero_le h.1
  exact ⟨k, rfl, by omega⟩

section
variable {O : Nat → Prop} {b : MB} {tb : Nat} {T : Sc} (w : World)

set_option maxHeartbeats 400000 in
theorem len_ok (h : Trm w O b tb T) : Calls Try.prog 22 #[.pointer (some ⟨tb, 0, none⟩)] w fun e w' => e = .returned (.int .i64 T.n) ∧ w = w' := by
  obtain ⟨A, cap, l, h1, -⟩ := h.ex
  have c0 := h1.t.cell (i := 0) rfl
  have hl := h1.t.lt
  simp only [List.getElem_toArray, List.getElem_cons_zero] at c0
  clear h h1
  go_enter Try.func22, Try.ntmps22
  go_wp2
  go_ret
  exact ⟨rfl, rfl⟩

set_option maxHeartbeats 400000 in
theorem len_nil : Calls Try.prog 22 #[.pointer none] w fun e w' => e = .returned (.int .i64 0) ∧ w = w' := by
  go_enter Try.func22, Try.ntmps22
  go_wp2
  go_ret
  exact ⟨rfl, rfl⟩

def ArRel (w : World) (L : List Int) (n m : Nat) (d : Nat) (z : Value) (wr : World) : Prop :=
  ∃ k : Nat, k ≤ m ∧ d = m + 1 - k ∧ z = .int .i64 k ∧ w = wr ∧ ∀ i, i < k → isB n (L.getD i 0) = true

set_option maxRecDepth 100000 in
set_option maxHeartbeats 1000000 in
theorem are_any (L : List Int) (m g : Nat) (r : Bool) (h : Trm w O b tb T) (hm : L.length = m) (hl : m ≤ 2) (hg : Blk w g (ints L)) (hr : L.all (isB T.n) = r) :
    Calls Try.prog 47 #[.pointer (some ⟨tb, 0, none⟩), .slice (some ⟨g, 0, none⟩) m m] w fun e w' => e = .returned (.bool r) ∧ w = w' := by
  have HLEN := hid (len_ok w h)
  obtain ⟨n, hn⟩ : ∃ n, T.n = n := ⟨_, rfl⟩
  rw [hn] at hr HLEN
  have HR := hid hr
  have HM := hid hm
  have HG := hid hg
  clear h hm hg hr hn
  have HREL := hid (show ArRel w L n m (m + 1) (.int .i64 0) w from ⟨0, by omega, by omega, rfl, rfl, fun i hi => by omega⟩)
  go_enter Try.func47, Try.ntmps47
  go_wp2_with fail
  go_loopg [9] (m + 1) (fun d z wr => ArRel w L n m d z wr)
  case atStart => exact HREL.out
  case round =>
    clear HREL
    obtain ⟨k, hk, rfl, rfl, hwr, hall⟩ := hrel
    subst hwr
    have HALL := hid hall
    clear hall
    by_cases hlt : k < m
    · have hlt2 : (k : Int) < m := by omega
      have ck := HG.out.cell (ints_at L k (by have := HM.out; omega))
      obtain ⟨x, hx⟩ : ∃ x, L.getD k 0 = x := ⟨_, rfl⟩
      rw [hx] at ck
      have HX := hid hx
      clear hx
      by_cases hin : isB n x = true
      · obtain ⟨j, rfl, hj⟩ := isB_of hin
        have HIN := hid hin
        have t1 : decide ((j : Int) < 0) = false := decide_eq_false (by omega)
        have t2 : decide (n ≤ j) = false := decide_eq_false (by omega)
        clear hin hj
        go_wp2_with ((go_at_call 22; refine HLEN.out.mono ?_; rintro e w' ⟨rfl, rfl⟩))
        go_roundg (m + 1 - (k + 1))
        case rel => exact ⟨k + 1, by omega, rfl, by go_num, rfl, fun i hi => by
          by_cases e : i = k
          · rw [e, HX.out]; exact HIN.out
          · exact HALL.out i (by omega)⟩
        case measure => omega
      · have hf : isB n x = false := by simpa using hin
        have hrf : r = false := by
          rw [← HR.out, List.all_eq_false]
          refine ⟨x, ?_, by simp [hf]⟩
          rw [← HX.out, List.getD_eq_getElem?_getD, List.getElem?_eq_getElem (by have := HM.out; omega)]
          simp
        subst hrf
        have hcase : x < 0 ∨ (n : Int) ≤ x := by
          unfold isB at hf
          simp at hf
          omega
        clear hin hf
        by_cases hx0 : x < 0
        · have t1 : decide (x < 0) = true := decide_eq_true hx0
          clear hcase
          go_wp2_with fail
          go_ret
          exact ⟨rfl, rfl⟩
        · have t1 : decide (x < 0) = false := decide_eq_false hx0
          have t2 : decide ((n : Int) ≤ x) = true := decide_eq_true (by omega)
          clear hcase
          go_wp2_with ((go_at_call 22; refine HLEN.out.mono ?_; rintro e w' ⟨rfl, rfl⟩))
          go_ret
          exact ⟨rfl, rfl⟩
    · obtain rfl : k = m := by omega
      have hrt : r = true := by
        rw [← HR.out, List.all_eq_true]
        intro x hx
        obtain ⟨i, hi, rfl⟩ := List.getElem_of_mem hx
        have := HALL.out i (by have := HM.out; omega)
        rw [List.getD_eq_getElem?_getD, List.getElem?_eq_getElem hi] at this
        simpa using this
      subst hrt
      go_wp2_with fail
      go_ret
      exact ⟨rfl, rfl⟩

set_option maxRecDepth 100000 in
set_option maxHeartbeats 1000000 in
theorem are_nil (x : Int) (L : List Int) (m g : Nat) (hm : (x :: L).length = m) (hl : m ≤ 2) (hg : Blk w g (ints (x :: L))) :
    Calls Try.prog 47 #[.pointer none, .slice (some ⟨g, 0, none⟩) m m] w fun e w' => e = .returned (.bool false) ∧ w = w' := by
  have HLEN := hid (len_nil w)
  have HM := hid hm
  have c0 := hg.cell (ints_at (x :: L) 0 (by simp))
  simp only [List.getD_cons_zero] at c0
  have hm0 : 0 < m := by rw [← hm]; simp
  have hm1 : (0 : Int) < m := by omega
  clear hm hg
  go_enter Try.func47, Try.ntmps47
  go_wp2_with fail
  go_loopg [9] 1 (fun d z wr => d = 1 ∧ z = .int .i64 0 ∧ w = wr)
  case atStart => exact ⟨rfl, rfl, rfl⟩
  case round =>
    obtain ⟨rfl, rfl, hwr⟩ := hrel
    subst hwr
    by_cases hx0 : x < 0
    · have t1 : decide (x < 0) = true := decide_eq_true hx0
      go_wp2_with fail
      go_ret
      exact ⟨rfl, rfl⟩
    · have t1 : decide (x < 0) = false := decide_eq_false hx0
      have t2 : decide ((0 : Int) ≤ x) = true := decide_eq_true (by omega)
      go_wp2_with ((go_at_call 22; refine HLEN.out.mono ?_; rintro e w' ⟨rfl, rfl⟩))
      go_ret
      exact ⟨rfl, rfl⟩

end
end Go.Proofs.Ytoajdknhllaoeaa
