/-
  What each call of package cells looks at first, and the step that it counts.
-/
import Derived.Test.YtoajdknhllaoeaaOps
namespace Go.Proofs.Ytoajdknhllaoeaa
open Go.RowKit
set_option linter.unusedVariables false

set_option maxHeartbeats 400000 in
theorem begin_ok (b : MB) (M : Mach) (j k : Nat) (w : World) (h : IsM w b M) (hj : j < M.steps.length) (hk : k < M.used) :
    Calls Try.prog 52 #[.pointer (some ⟨b.m, 0, none⟩), .int .i64 j, .func (.func 45) #[.pointer (some ⟨b.m, 0, none⟩)] #[], .int .i64 k, .func (.func 53) #[.pointer (some ⟨b.m, 0, none⟩)] #[]] w
      fun e w' => e = .returned (.int .i64 0) ∧ IsM w' b (M.step j) ∧ Fr b.own w w' := by
  have c2 := h.c2
  obtain ⟨s, HS, cs⟩ := h.cs' hj
  have fs := h.hs.frozen j
  go_enter Try.func52, Try.ntmps52
  go_wp2_with (first | (go_at_call 45; refine (caller_ok b M j _ h hj).mono ?_; rintro e w' ⟨rfl, rfl⟩) | (go_at_call 53; refine (cell_ok b M k _ h hk).mono ?_; rintro e w' ⟨rfl, rfl⟩))
  go_ret
  exact ⟨rfl, h.stepped hj HS.out, Fr.setCell _ _ _ (.inr (.inr rfl))⟩

set_option maxHeartbeats 400000 in
theorem begin_who (b : MB) (M : Mach) (x y : Int) (f : Nat) (w : World) (h : IsM w b M) (hx : x < 0 ∨ (M.steps.length : Int) ≤ x) :
    Calls Try.prog 52 #[.pointer (some ⟨b.m, 0, none⟩), .int .i64 x, .func (.func 45) #[.pointer (some ⟨b.m, 0, none⟩)] #[], .int .i64 y, .func (.func f) #[.pointer (some ⟨b.m, 0, none⟩)] #[]] w
      fun e w' => e = .returned (.int .i64 10) ∧ w = w' := by
  go_enter Try.func52, Try.ntmps52
  go_wp2_with ((go_at_call 45; refine (caller_no b M x _ h hx).mono ?_; rintro e w' ⟨rfl, rfl⟩))
  go_ret
  exact ⟨rfl, rfl⟩

set_option maxHeartbeats 400000 in
theorem begin_nil (x y : Int) (f : Nat) (w : World) :
    Calls Try.prog 52 #[.pointer none, .int .i64 x, .func (.func 45) #[.pointer none] #[], .int .i64 y, .func (.func f) #[.pointer none] #[]] w
      fun e w' => e = .returned (.int .i64 2) ∧ w = w' := by
  go_enter Try.func52, Try.ntmps52
  go_wp2_with ((go_at_call 45; refine (caller_nil x _).mono ?_; rintro e w' ⟨rfl, rfl⟩))
  go_ret
  exact ⟨rfl, rfl⟩

set_option maxHeartbeats 400000 in
theorem begin_what (b : MB) (M : Mach) (j : Nat) (y : Int) (w : World) (h : IsM w b M) (hj : j < M.steps.length) (hy : y < 0 ∨ (M.used : Int) ≤ y) :
    Calls Try.prog 52 #[.pointer (some ⟨b.m, 0, none⟩), .int .i64 j, .func (.func 45) #[.pointer (some ⟨b.m, 0, none⟩)] #[], .int .i64 y, .func (.func 53) #[.pointer (some ⟨b.m, 0, none⟩)] #[]] w
      fun e w' => e = .returned (.int .i64 10) ∧ w = w' := by
  go_enter Try.func52, Try.ntmps52
  go_wp2_with (first | (go_at_call 45; refine (caller_ok b M j _ h hj).mono ?_; rintro e w' ⟨rfl, rfl⟩) | (go_at_call 53; refine (cell_no b M y _ h hy).mono ?_; rintro e w' ⟨rfl, rfl⟩))
  go_ret
  exact ⟨rfl, rfl⟩

set_option maxHeartbeats 400000 in
theorem begin_low (b : MB) (M : Mach) (j : Nat) (y : Int) (w : World) (h : IsM w b M) (hj : j < M.steps.length) (hy : y < 1) :
    Calls Try.prog 52 #[.pointer (some ⟨b.m, 0, none⟩), .int .i64 j, .func (.func 45) #[.pointer (some ⟨b.m, 0, none⟩)] #[], .int .i64 y, .func (.func 55) #[.pointer (some ⟨b.m, 0, none⟩)] #[]] w
      fun e w' => e = .returned (.int .i64 10) ∧ w = w' := by
  go_enter Try.func52, Try.ntmps52
  go_wp2_with (first | (go_at_call 45; refine (caller_ok b M j _ h hj).mono ?_; rintro e w' ⟨rfl, rfl⟩) | (go_at_call 55; refine (room_low b y _ hy).mono ?_; rintro e w' ⟨rfl, rfl⟩))
  go_ret
  exact ⟨rfl, rfl⟩

set_option maxHeartbeats 400000 in
theorem begin_full (b : MB) (M : Mach) (j : Nat) (y : Int) (w : World) (h : IsM w b M) (hj : j < M.steps.length) (hy : 1 ≤ y) (hn : (M.all.length : Int) - M.used < y) :
    Calls Try.prog 52 #[.pointer (some ⟨b.m, 0, none⟩), .int .i64 j, .func (.func 45) #[.pointer (some ⟨b.m, 0, none⟩)] #[], .int .i64 y, .func (.func 55) #[.pointer (some ⟨b.m, 0, none⟩)] #[]] w
      fun e w' => e = .returned (.int .i64 21) ∧ Fr (fun _ => False) w w' := by
  go_enter Try.func52, Try.ntmps52
  go_wp2_with (first | (go_at_call 45; refine (caller_ok b M j _ h hj).mono ?_; rintro e w' ⟨rfl, rfl⟩) | (go_at_call 55; refine (room_full b M y _ h hy hn).mono ?_; rintro e w' ⟨rfl, hF⟩))
  go_ret
  exact ⟨rfl, hF⟩

set_option maxHeartbeats 400000 in
theorem begin_room (b : MB) (M : Mach) (j n : Nat) (w : World) (h : IsM w b M) (hj : j < M.steps.length) (hy : 1 ≤ n) (hn : M.used + n ≤ M.all.length) :
    Calls Try.prog 52 #[.pointer (some ⟨b.m, 0, none⟩), .int .i64 j, .func (.func 45) #[.pointer (some ⟨b.m, 0, none⟩)] #[], .int .i64 n, .func (.func 55) #[.pointer (some ⟨b.m, 0, none⟩)] #[]] w
      fun e w' => e = .returned (.int .i64 0) ∧ IsM w' b (M.step j) ∧ Fr b.own w w' := by
  go_enter Try.func52, Try.ntmps52
  go_wp2_with (first | (go_at_call 45; refine (caller_ok b M j _ h hj).mono ?_; rintro e w' ⟨rfl, rfl⟩) | (go_at_call 55; refine (room_ok b M n _ h hy hn).mono ?_; rintro e w1 ⟨rfl, hF⟩; have h1 := h.same hF; have c2 := h1.c2; obtain ⟨s, HS, cs⟩ := h1.cs' hj; have fs := h1.hs.frozen j))
  go_ret
  exact ⟨rfl, h1.stepped hj HS.out, (hF.mono (fun _ hh => hh.elim)).trans (Fr.setCell _ _ _ (.inr (.inr rfl)))⟩

end Go.Proofs.Ytoajdknhllaoeaa
