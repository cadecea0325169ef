/-
  The calls of package cells, one by one, as they stand in memory.
-/
import Derived.Test.YtoajdknhllaoeaaProg
import Derived.Test.YtoajdknhllaoeaaHeap
import Derived.Deep.QuietTactic
import Derived.BigQuiet
import Derived.RegionTactic
namespace Go.Proofs.Ytoajdknhllaoeaa
open Go.RowKit
set_option linter.unusedVariables false

set_option maxHeartbeats 400000 in
theorem caller_ok (b : MB) (M : Mach) (j : Nat) (w : World) (h : IsM w b M) (hj : j < M.steps.length) :
    Calls Try.prog 45 #[.pointer (some ⟨b.m, 0, none⟩), .int .i64 j] w fun e w' => e = .returned (.int .i64 0) ∧ w = w' := by
  have c2 := h.c2
  have t1 : decide ((j : Int) < 0) = false := by simp
  have t2 : decide (M.steps.length ≤ j) = false := by simp; omega
  go_enter Try.func45, Try.ntmps45
  go_wp2
  go_ret
  exact ⟨rfl, rfl⟩

set_option maxHeartbeats 400000 in
theorem caller_no (b : MB) (M : Mach) (x : Int) (w : World) (h : IsM w b M) (hx : x < 0 ∨ (M.steps.length : Int) ≤ x) :
    Calls Try.prog 45 #[.pointer (some ⟨b.m, 0, none⟩), .int .i64 x] w fun e w' => e = .returned (.int .i64 10) ∧ w = w' := by
  have c2 := h.c2
  rcases hx with hx | hx
  · go_enter Try.func45, Try.ntmps45
    go_wp2
    go_ret
    exact ⟨rfl, rfl⟩
  · have t1 : ¬ x < 0 := by omega
    go_enter Try.func45, Try.ntmps45
    go_wp2
    go_ret
    exact ⟨rfl, rfl⟩

set_option maxHeartbeats 400000 in
theorem caller_nil (x : Int) (w : World) :
    Calls Try.prog 45 #[.pointer none, .int .i64 x] w fun e w' => e = .returned (.int .i64 2) ∧ w = w' := by
  go_enter Try.func45, Try.ntmps45
  go_wp2
  go_ret
  exact ⟨rfl, rfl⟩

set_option maxHeartbeats 400000 in
theorem cell_ok (b : MB) (M : Mach) (k : Nat) (w : World) (h : IsM w b M) (hk : k < M.used) :
    Calls Try.prog 53 #[.pointer (some ⟨b.m, 0, none⟩), .int .i64 k] w fun e w' => e = .returned (.int .i64 0) ∧ w = w' := by
  have c0 := h.c0
  have t1 : decide ((k : Int) < 0) = false := by simp
  have t2 : decide (M.used ≤ k) = false := by simp; omega
  go_enter Try.func53, Try.ntmps53
  go_wp2
  go_ret
  exact ⟨rfl, rfl⟩

set_option maxHeartbeats 400000 in
theorem cell_no (b : MB) (M : Mach) (x : Int) (w : World) (h : IsM w b M) (hx : x < 0 ∨ (M.used : Int) ≤ x) :
    Calls Try.prog 53 #[.pointer (some ⟨b.m, 0, none⟩), .int .i64 x] w fun e w' => e = .returned (.int .i64 10) ∧ w = w' := by
  have c0 := h.c0
  rcases hx with hx | hx
  · go_enter Try.func53, Try.ntmps53
    go_wp2
    go_ret
    exact ⟨rfl, rfl⟩
  · have t1 : ¬ x < 0 := by omega
    go_enter Try.func53, Try.ntmps53
    go_wp2
    go_ret
    exact ⟨rfl, rfl⟩

set_option maxHeartbeats 400000 in
theorem room_low (b : MB) (x : Int) (w : World) (hx : x < 1) :
    Calls Try.prog 55 #[.pointer (some ⟨b.m, 0, none⟩), .int .i64 x] w fun e w' => e = .returned (.int .i64 10) ∧ w = w' := by
  go_enter Try.func55, Try.ntmps55
  go_wp2
  go_ret
  exact ⟨rfl, rfl⟩

set_option maxHeartbeats 400000 in
theorem room_full (b : MB) (M : Mach) (x : Int) (w : World) (h : IsM w b M) (hx : 1 ≤ x) (hn : (M.all.length : Int) - M.used < x) :
    Calls Try.prog 55 #[.pointer (some ⟨b.m, 0, none⟩), .int .i64 x] w fun e w' => e = .returned (.int .i64 21) ∧ Fr (fun _ => False) w w' := by
  have c0 := h.c0
  have c1 := h.c1
  have q1 := h.le
  have q2 := h.small
  have t1 : ¬ x < 1 := by omega
  go_enter Try.func55, Try.ntmps55
  go_wp2
  go_quiet (fail)
  go_wp2
  go_ret
  exact ⟨rfl, Fr.drewN _ _ _⟩

set_option maxHeartbeats 400000 in
theorem room_ok (b : MB) (M : Mach) (n : Nat) (w : World) (h : IsM w b M) (hx : 1 ≤ n) (hn : M.used + n ≤ M.all.length) :
    Calls Try.prog 55 #[.pointer (some ⟨b.m, 0, none⟩), .int .i64 n] w fun e w' => e = .returned (.int .i64 0) ∧ Fr (fun _ => False) w w' := by
  have c0 := h.c0
  have c1 := h.c1
  have q1 := h.le
  have q2 := h.small
  have t1 : ¬ (n : Int) < 1 := by omega
  have t2 : ¬ (M.all.length : Int) - M.used < n := by omega
  go_enter Try.func55, Try.ntmps55
  go_wp2
  go_quiet (fail)
  go_wp2
  go_ret
  exact ⟨rfl, Fr.drewN _ _ _⟩

end Go.Proofs.Ytoajdknhllaoeaa
