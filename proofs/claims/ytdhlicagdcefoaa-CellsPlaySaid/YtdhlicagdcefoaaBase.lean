/-
  The example of the chapter, the machine that the statements begin with, and which machines there are.
-/
import Derived.Test.YtdhlicagdcefoaaCalls
import Derived.Test.YtdhlicagdcefoaaReads
import Derived.Test.YtdhlicagdcefoaaAdd
import Derived.Test.YtdhlicagdcefoaaNew
namespace Go.Proofs.Ytdhlicagdcefoaa
open Go.RowKit

set_option maxHeartbeats 400000 in
theorem may_yes (x y : Int) (w : World) (h : 1 ≤ x ∧ x ≤ 1048576 ∧ 1 ≤ y ∧ y ≤ 16) :
    Calls Try.prog 21 #[.int .i64 x, .int .i64 y] w fun e w' => e = .returned (.bool true) ∧ w = w' := by
  obtain ⟨h1, h2, h3, h4⟩ := h
  go_enter Try.func21, Try.ntmps21
  go_wp2
  go_ret
  exact ⟨rfl, rfl⟩

set_option maxHeartbeats 400000 in
theorem may_no (x y : Int) (w : World) (h : ¬ (1 ≤ x ∧ x ≤ 1048576 ∧ 1 ≤ y ∧ y ≤ 16)) :
    Calls Try.prog 21 #[.int .i64 x, .int .i64 y] w fun e w' => e = .returned (.bool false) ∧ w = w' := by
  by_cases h1 : 1 ≤ x
  · by_cases h2 : x ≤ 1048576
    · by_cases h3 : 1 ≤ y
      · have h4 : ¬ y ≤ 16 := by omega
        go_enter Try.func21, Try.ntmps21
        go_wp2
        go_ret
        exact ⟨rfl, rfl⟩
      · go_enter Try.func21, Try.ntmps21
        go_wp2
        go_ret
        exact ⟨rfl, rfl⟩
    · go_enter Try.func21, Try.ntmps21
      go_wp2
      go_ret
      exact ⟨rfl, rfl⟩
  · go_enter Try.func21, Try.ntmps21
    go_wp2
    go_ret
    exact ⟨rfl, rfl⟩

def made0 : Mach := ⟨List.replicate 16 0, 16, [0, 0, 0, 1]⟩

def MadePost (w : World) (e : Ending) (w' : World) : Prop :=
  ∃ b : MB, e = .returned (.pointer (some ⟨b.m, 0, none⟩)) ∧ IsM w' b made0 ∧ Fr (fun _ => False) w w' ∧ ∀ i, b.own i → w.heap.size ≤ i

set_option maxHeartbeats 400000 in
theorem made_ok (w : World) : Calls Try.prog 23 #[] w (MadePost w) := by
  go_enter Try.func23, Try.ntmps23
  go_wp2_with fail
  refine (new_ok 16 3 _ (by omega) (by omega) (by omega) (by omega)).mono ?_
  rintro e w1 ⟨b, rfl, h1, hF1, hN⟩
  replace h1 : IsM w1 b ⟨List.replicate 16 0, 0, [0, 0, 0, 0]⟩ := h1
  have HN := hid hN
  clear hN
  go_wp2_with fail
  refine (alloc_ok b _ 3 16 _ h1 (by simp) (by omega) (by simp)).mono ?_
  rintro e w2 ⟨rfl, h2, hF2⟩
  replace h2 : IsM w2 b made0 := by simpa [Mach.step, Mach.give, wrap64, made0] using h2
  go_wp2_with fail
  go_ret
  have hN := HN.out
  exact ⟨b, rfl, h2, hF1.since hF2 (fun i hi hl => by have := hN i hi; omega), hN⟩

set_option maxHeartbeats 400000 in
theorem awake_ok (w : World) : Calls Try.prog 11 #[] w fun e w' => e = .returned (.bool true) ∧ Fr (fun _ => False) w w' := by
  go_enter Try.func11, Try.ntmps11
  go_wp2_with fail
  refine (new_ok 8 2 _ (by omega) (by omega) (by omega) (by omega)).mono ?_
  rintro e w1 ⟨b, rfl, h1, hF1, hN⟩
  have HN := hid hN
  clear hN
  replace h1 : IsM w1 b ⟨[0, 0, 0, 0, 0, 0, 0, 0], 0, [0, 0, 0]⟩ := h1
  go_wp2_with fail
  refine (alloc_ok b _ 0 3 _ h1 (by simp) (by omega) (by simp)).mono ?_
  rintro e w2 ⟨rfl, h2, hF2⟩
  replace h2 : IsM w2 b ⟨[0, 0, 0, 0, 0, 0, 0, 0], 3, [1, 0, 0]⟩ := by simpa [Mach.step, Mach.give, Mach.put, wrap64] using h2
  go_wp2_with fail
  refine (alloc_ok b _ 2 2 _ h2 (by simp) (by omega) (by simp)).mono ?_
  rintro e w3 ⟨rfl, h3, hF3⟩
  replace h3 : IsM w3 b ⟨[0, 0, 0, 0, 0, 0, 0, 0], 5, [1, 0, 1]⟩ := by simpa [Mach.step, Mach.give, Mach.put, wrap64] using h3
  go_wp2_with fail
  refine (add_ok b _ 1 4 5 _ h3 (by simp) (by simp)).mono ?_
  rintro e w4 ⟨rfl, h4, hF4⟩
  replace h4 : IsM w4 b ⟨[0, 0, 0, 0, 5, 0, 0, 0], 5, [1, 1, 1]⟩ := by simpa [Mach.step, Mach.give, Mach.put, wrap64] using h4
  go_wp2_with fail
  refine (cas_yes b _ 0 4 5 9 _ h4 (by simp) (by simp) rfl).mono ?_
  rintro e w5 ⟨rfl, h5, hF5⟩
  replace h5 : IsM w5 b ⟨[0, 0, 0, 0, 9, 0, 0, 0], 5, [2, 1, 1]⟩ := by simpa [Mach.step, Mach.give, Mach.put, wrap64] using h5
  go_wp2_with fail
  refine (load_ok b _ 1 4 _ h5 (by simp) (by simp)).mono ?_
  rintro e w6 ⟨rfl, h6, hF6⟩
  replace h6 : IsM w6 b ⟨[0, 0, 0, 0, 9, 0, 0, 0], 5, [2, 2, 1]⟩ := by simpa [Mach.step, Mach.give, Mach.put, wrap64] using h6
  clear h1 h2 h3 h4 h5
  go_wp2_with fail
  refine (steps_in b _ 0 _ h6 (by simp)).mono ?_
  rintro e w' ⟨rfl, rfl⟩
  go_wp2_with fail
  refine (steps_in b _ 1 _ h6 (by simp)).mono ?_
  rintro e w' ⟨rfl, rfl⟩
  go_wp2_with fail
  refine (steps_in b _ 2 _ h6 (by simp)).mono ?_
  rintro e w' ⟨rfl, rfl⟩
  go_wp2_with fail
  go_ret
  have hl : ∀ i, b.own i → i < w.heap.size → False := fun i hi hl => by have := HN.out i hi; omega
  exact ⟨rfl, ((((hF1.since hF2 hl).since hF3 hl).since hF4 hl).since hF5 hl).since hF6 hl⟩
end Go.Proofs.Ytdhlicagdcefoaa
