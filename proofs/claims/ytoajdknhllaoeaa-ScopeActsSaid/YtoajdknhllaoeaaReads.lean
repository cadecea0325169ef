/-
  Steps, Used, Peek and Alloc of a machine, as the document says.
-/
import Derived.Test.YtoajdknhllaoeaaBegin
namespace Go.Proofs.Ytoajdknhllaoeaa
open Go.RowKit
set_option linter.unusedVariables false

def Mach.peek (M : Mach) (y : Int) : Int := if 0 ≤ y ∧ y < M.used then M.all.getD y.toNat 0 else 0
def Mach.stepsOf (M : Mach) (x : Int) : Int := if 0 ≤ x ∧ x < M.steps.length then M.steps.getD x.toNat 0 else 0

set_option maxHeartbeats 400000 in
theorem used_ok (b : MB) (M : Mach) (w : World) (h : IsM w b M) :
    Calls Try.prog 23 #[.pointer (some ⟨b.m, 0, none⟩)] w fun e w' => e = .returned (.int .i64 M.used) ∧ w = w' := by
  have c0 := h.c0
  go_enter Try.func23, Try.ntmps23
  go_wp2
  go_ret
  exact ⟨rfl, rfl⟩

set_option maxHeartbeats 400000 in
theorem used_nil (w : World) :
    Calls Try.prog 23 #[.pointer none] w fun e w' => e = .returned (.int .i64 0) ∧ w = w' := by
  go_enter Try.func23, Try.ntmps23
  go_wp2
  go_ret
  exact ⟨rfl, rfl⟩

set_option maxHeartbeats 400000 in
theorem peek_in (b : MB) (M : Mach) (k : Nat) (w : World) (h : IsM w b M) (hk : k < M.used) :
    Calls Try.prog 46 #[.pointer (some ⟨b.m, 0, none⟩), .int .i64 k] w fun e w' => e = .returned (.int .i64 (M.all.getD k 0)) ∧ w = w' := by
  have c0 := h.c0
  obtain ⟨v, HV, cv⟩ := h.cg' (Nat.lt_of_lt_of_le hk h.le)
  go_enter Try.func46, Try.ntmps46
  go_wp2_with ((go_at_call 53; refine (cell_ok b M k _ h hk).mono ?_; rintro e w' ⟨rfl, rfl⟩))
  go_ret
  rw [← HV.out]
  exact ⟨rfl, rfl⟩

set_option maxHeartbeats 400000 in
theorem peek_out (b : MB) (M : Mach) (y : Int) (w : World) (h : IsM w b M) (hy : y < 0 ∨ (M.used : Int) ≤ y) :
    Calls Try.prog 46 #[.pointer (some ⟨b.m, 0, none⟩), .int .i64 y] w fun e w' => e = .returned (.int .i64 0) ∧ w = w' := by
  go_enter Try.func46, Try.ntmps46
  go_wp2_with ((go_at_call 53; refine (cell_no b M y _ h hy).mono ?_; rintro e w' ⟨rfl, rfl⟩))
  go_ret
  exact ⟨rfl, rfl⟩

theorem peek_any (b : MB) (M : Mach) (y : Int) (w : World) (h : IsM w b M) :
    Calls Try.prog 46 #[.pointer (some ⟨b.m, 0, none⟩), .int .i64 y] w fun e w' => e = .returned (.int .i64 (M.peek y)) ∧ w = w' := by
  by_cases hy : 0 ≤ y ∧ y < M.used
  · obtain ⟨k, rfl⟩ := Int.eq_ofNat_of_zero_le hy.1
    have e : M.peek k = M.all.getD k 0 := by unfold Mach.peek; rw [if_pos hy]; rfl
    rw [e]
    exact peek_in b M k w h (by omega)
  · have e : M.peek y = 0 := by unfold Mach.peek; rw [if_neg hy]
    rw [e]
    exact peek_out b M y w h (by omega)

set_option maxHeartbeats 400000 in
theorem peek_nil (y : Int) (w : World) :
    Calls Try.prog 46 #[.pointer none, .int .i64 y] w fun e w' => e = .returned (.int .i64 0) ∧ w = w' := by
  go_enter Try.func46, Try.ntmps46
  go_wp2
  go_ret
  exact ⟨rfl, rfl⟩

set_option maxHeartbeats 400000 in
theorem steps_in (b : MB) (M : Mach) (k : Nat) (w : World) (h : IsM w b M) (hk : k < M.steps.length) :
    Calls Try.prog 21 #[.pointer (some ⟨b.m, 0, none⟩), .int .i64 k] w fun e w' => e = .returned (.int .i64 (M.steps.getD k 0)) ∧ w = w' := by
  have c2 := h.c2
  obtain ⟨v, HV, cv⟩ := h.cs' hk
  go_enter Try.func21, Try.ntmps21
  go_wp2_with ((go_at_call 45; refine (caller_ok b M k _ h hk).mono ?_; rintro e w' ⟨rfl, rfl⟩))
  go_ret
  rw [← HV.out]
  exact ⟨rfl, rfl⟩

set_option maxHeartbeats 400000 in
theorem steps_out (b : MB) (M : Mach) (y : Int) (w : World) (h : IsM w b M) (hy : y < 0 ∨ (M.steps.length : Int) ≤ y) :
    Calls Try.prog 21 #[.pointer (some ⟨b.m, 0, none⟩), .int .i64 y] w fun e w' => e = .returned (.int .i64 0) ∧ w = w' := by
  go_enter Try.func21, Try.ntmps21
  go_wp2_with ((go_at_call 45; refine (caller_no b M y _ h hy).mono ?_; rintro e w' ⟨rfl, rfl⟩))
  go_ret
  exact ⟨rfl, rfl⟩

theorem steps_any (b : MB) (M : Mach) (y : Int) (w : World) (h : IsM w b M) :
    Calls Try.prog 21 #[.pointer (some ⟨b.m, 0, none⟩), .int .i64 y] w fun e w' => e = .returned (.int .i64 (M.stepsOf y)) ∧ w = w' := by
  by_cases hy : 0 ≤ y ∧ y < M.steps.length
  · obtain ⟨k, rfl⟩ := Int.eq_ofNat_of_zero_le hy.1
    have e : M.stepsOf k = M.steps.getD k 0 := by unfold Mach.stepsOf; rw [if_pos hy]; rfl
    rw [e]
    exact steps_in b M k w h (by omega)
  · have e : M.stepsOf y = 0 := by unfold Mach.stepsOf; rw [if_neg hy]
    rw [e]
    exact steps_out b M y w h (by omega)

set_option maxHeartbeats 400000 in
theorem steps_nil (y : Int) (w : World) :
    Calls Try.prog 21 #[.pointer none, .int .i64 y] w fun e w' => e = .returned (.int .i64 0) ∧ w = w' := by
  go_enter Try.func21, Try.ntmps21
  go_wp2_with ((go_at_call 45; refine (caller_nil y _).mono ?_; rintro e w' ⟨rfl, rfl⟩))
  go_ret
  exact ⟨rfl, rfl⟩

set_option maxHeartbeats 400000 in
theorem alloc_who (b : MB) (M : Mach) (x y : Int) (w : World) (h : IsM w b M) (hx : x < 0 ∨ (M.steps.length : Int) ≤ x) :
    Calls Try.prog 50 #[.pointer (some ⟨b.m, 0, none⟩), .int .i64 x, .int .i64 y] w fun e w' => e = .returned (.tuple #[.int .i64 0, .int .i64 10]) ∧ w = w' := by
  go_enter Try.func50, Try.ntmps50
  go_wp2_with ((go_at_call 52; refine (begin_who b M x y _ _ h hx).mono ?_; rintro e w' ⟨rfl, rfl⟩))
  go_ret2
  exact ⟨rfl, rfl⟩

set_option maxHeartbeats 400000 in
theorem alloc_low (b : MB) (M : Mach) (j : Nat) (y : Int) (w : World) (h : IsM w b M) (hj : j < M.steps.length) (hy : y < 1) :
    Calls Try.prog 50 #[.pointer (some ⟨b.m, 0, none⟩), .int .i64 j, .int .i64 y] w fun e w' => e = .returned (.tuple #[.int .i64 0, .int .i64 10]) ∧ w = w' := by
  go_enter Try.func50, Try.ntmps50
  go_wp2_with ((go_at_call 52; refine (begin_low b M j y _ h hj hy).mono ?_; rintro e w' ⟨rfl, rfl⟩))
  go_ret2
  exact ⟨rfl, rfl⟩

set_option maxHeartbeats 400000 in
theorem alloc_nil (x y : Int) (w : World) :
    Calls Try.prog 50 #[.pointer none, .int .i64 x, .int .i64 y] w fun e w' => e = .returned (.tuple #[.int .i64 0, .int .i64 2]) ∧ w = w' := by
  go_enter Try.func50, Try.ntmps50
  go_wp2_with ((go_at_call 52; refine (begin_nil x y _ _).mono ?_; rintro e w' ⟨rfl, rfl⟩))
  go_ret2
  exact ⟨rfl, rfl⟩

set_option maxHeartbeats 400000 in
theorem alloc_full (b : MB) (M : Mach) (j : Nat) (y : Int) (w : World) (h : IsM w b M) (hj : j < M.steps.length) (hy : 1 ≤ y) (hn : (M.all.length : Int) - M.used < y) :
    Calls Try.prog 50 #[.pointer (some ⟨b.m, 0, none⟩), .int .i64 j, .int .i64 y] w fun e w' => e = .returned (.tuple #[.int .i64 0, .int .i64 21]) ∧ IsM w' b M ∧ Fr b.own w w' := by
  go_enter Try.func50, Try.ntmps50
  go_wp2_with ((go_at_call 52; refine (begin_full b M j y _ h hj hy hn).mono ?_; rintro e w' ⟨rfl, hF⟩))
  go_ret2
  exact ⟨rfl, h.same hF, hF.mono (fun _ hh => hh.elim)⟩

set_option maxHeartbeats 400000 in
theorem alloc_ok (b : MB) (M : Mach) (j n : Nat) (w : World) (h : IsM w b M) (hj : j < M.steps.length) (hy : 1 ≤ n) (hn : M.used + n ≤ M.all.length) :
    Calls Try.prog 50 #[.pointer (some ⟨b.m, 0, none⟩), .int .i64 j, .int .i64 n] w fun e w' => e = .returned (.tuple #[.int .i64 M.used, .int .i64 0]) ∧ IsM w' b ((M.step j).give n) ∧ Fr b.own w w' := by
  have q2 := h.small
  have q3 : (0 : Int) ≤ (M.used : Int) + n := by omega
  go_enter Try.func50, Try.ntmps50
  go_wp2_with fail
  refine (begin_room b M j n _ h hj hy hn).mono ?_
  rintro e w1 ⟨rfl, h1, hF⟩
  have c0 : w1.cell? ⟨b.m, 0, none⟩ = some (.slice (some ⟨b.g, 0, none⟩) M.used M.all.length) := h1.c0
  have c1 : w1.cell? ⟨b.m, 1, none⟩ = some (.int .i64 M.all.length) := h1.c1
  have f0 := h1.hm.frozen 0
  go_wp2
  go_region
  all_goals
    go_wp2
    go_ret2
    refine ⟨rfl, ?_, ?_⟩
    · exact (h1.setUsed n hn).same (Fr.drew _ _)
    · exact hF.trans ((Fr.setCell _ _ _ (.inl rfl)).trans (Fr.drew _ _))

end Go.Proofs.Ytoajdknhllaoeaa
