/-
  Load, Store and CAS of a machine, as the document says.
-/
import Derived.Test.YtoajdknhllaoeaaBegin
namespace Go.Proofs.Ytoajdknhllaoeaa
open Go.RowKit
set_option linter.unusedVariables false

theorem Mach.step_used (M : Mach) (j : Nat) : (M.step j).used = M.used := rfl

set_option maxHeartbeats 400000 in
theorem load_ok (b : MB) (M : Mach) (j k : Nat) (w : World) (h : IsM w b M) (hj : j < M.steps.length) (hk : k < M.used) :
    Calls Try.prog 41 #[.pointer (some ⟨b.m, 0, none⟩), .int .i64 j, .int .i64 k] w fun e w' => e = .returned (.tuple #[.int .i64 (M.all.getD k 0), .int .i64 0]) ∧ IsM w' b (M.step j) ∧ Fr b.own w w' := by
  go_enter Try.func41, Try.ntmps41
  go_wp2_with fail
  refine (begin_ok b M j k _ h hj hk).mono ?_
  rintro e w1 ⟨rfl, h1, hF⟩
  have c0 : w1.cell? ⟨b.m, 0, none⟩ = some (.slice (some ⟨b.g, 0, none⟩) M.used M.all.length) := h1.c0
  obtain ⟨v, HV, cv⟩ : ∃ s, Hid (M.all.getD k 0 = s) ∧ w1.cell? ⟨b.g, k, none⟩ = some (.int .i64 s) := h1.cg' (Nat.lt_of_lt_of_le hk h.le)
  go_wp2
  go_ret2
  rw [← HV.out]
  exact ⟨rfl, h1, hF⟩

set_option maxHeartbeats 400000 in
theorem cas_yes (b : MB) (M : Mach) (j k : Nat) (o v : Int) (w : World) (h : IsM w b M) (hj : j < M.steps.length) (hk : k < M.used) (ho : M.all.getD k 0 = o) :
    Calls Try.prog 43 #[.pointer (some ⟨b.m, 0, none⟩), .int .i64 j, .int .i64 k, .int .i64 o, .int .i64 v] w fun e w' => e = .returned (.tuple #[.bool true, .int .i64 0]) ∧ IsM w' b ((M.step j).put k v) ∧ Fr b.own w w' := by
  have HO := hid ho
  clear ho
  go_enter Try.func43, Try.ntmps43
  go_wp2_with fail
  refine (begin_ok b M j k _ h hj hk).mono ?_
  rintro e w1 ⟨rfl, h1, hF⟩
  have c0 : w1.cell? ⟨b.m, 0, none⟩ = some (.slice (some ⟨b.g, 0, none⟩) M.used M.all.length) := h1.c0
  have cv : w1.cell? ⟨b.g, k, none⟩ = some (.int .i64 o) := by rw [← HO.out]; exact h1.cg (Nat.lt_of_lt_of_le hk h.le)
  have fv := h1.hg.frozen k
  go_wp2
  go_ret2
  exact ⟨rfl, h1.setNum k v hk, hF.trans (Fr.setCell _ _ _ (.inr (.inl rfl)))⟩

set_option maxHeartbeats 400000 in
theorem cas_not (b : MB) (M : Mach) (j k : Nat) (o v : Int) (w : World) (h : IsM w b M) (hj : j < M.steps.length) (hk : k < M.used) (ho : M.all.getD k 0 ≠ o) :
    Calls Try.prog 43 #[.pointer (some ⟨b.m, 0, none⟩), .int .i64 j, .int .i64 k, .int .i64 o, .int .i64 v] w fun e w' => e = .returned (.tuple #[.bool false, .int .i64 0]) ∧ IsM w' b (M.step j) ∧ Fr b.own w w' := by
  obtain ⟨u, hu⟩ : ∃ u, M.all.getD k 0 = u := ⟨_, rfl⟩
  rw [hu] at ho
  have HU := hid hu
  clear hu
  have t1 : (u != o) = true := by simpa using ho
  clear ho
  go_enter Try.func43, Try.ntmps43
  go_wp2_with fail
  refine (begin_ok b M j k _ h hj hk).mono ?_
  rintro e w1 ⟨rfl, h1, hF⟩
  have c0 : w1.cell? ⟨b.m, 0, none⟩ = some (.slice (some ⟨b.g, 0, none⟩) M.used M.all.length) := h1.c0
  have cv : w1.cell? ⟨b.g, k, none⟩ = some (.int .i64 u) := by rw [← HU.out]; exact h1.cg (Nat.lt_of_lt_of_le hk h.le)
  go_wp2
  go_ret2
  exact ⟨rfl, h1, hF⟩

set_option maxHeartbeats 400000 in
theorem load_who (b : MB) (M : Mach) (x y : Int) (w : World) (h : IsM w b M) (hx : x < 0 ∨ (M.steps.length : Int) ≤ x) :
    Calls Try.prog 41 #[.pointer (some ⟨b.m, 0, none⟩), .int .i64 x, .int .i64 y] w fun e w' => e = .returned (.tuple #[.int .i64 0, .int .i64 10]) ∧ w = w' := by
  go_enter Try.func41, Try.ntmps41
  go_wp2_with ((go_at_call 52; refine (begin_who b M x y _ _ h hx).mono ?_; rintro e w' ⟨rfl, rfl⟩))
  go_ret2
  exact ⟨rfl, rfl⟩

set_option maxHeartbeats 400000 in
theorem load_what (b : MB) (M : Mach) (j : Nat) (y : Int) (w : World) (h : IsM w b M) (hj : j < M.steps.length) (hy : y < 0 ∨ (M.used : Int) ≤ y) :
    Calls Try.prog 41 #[.pointer (some ⟨b.m, 0, none⟩), .int .i64 j, .int .i64 y] w fun e w' => e = .returned (.tuple #[.int .i64 0, .int .i64 10]) ∧ w = w' := by
  go_enter Try.func41, Try.ntmps41
  go_wp2_with ((go_at_call 52; refine (begin_what b M j y _ h hj hy).mono ?_; rintro e w' ⟨rfl, rfl⟩))
  go_ret2
  exact ⟨rfl, rfl⟩

theorem load_no (b : MB) (M : Mach) (x y : Int) (w : World) (h : IsM w b M) (hn : ¬ (0 ≤ x ∧ x < M.steps.length ∧ 0 ≤ y ∧ y < M.used)) :
    Calls Try.prog 41 #[.pointer (some ⟨b.m, 0, none⟩), .int .i64 x, .int .i64 y] w fun e w' => e = .returned (.tuple #[.int .i64 0, .int .i64 10]) ∧ w = w' := by
  by_cases hx : x < 0 ∨ (M.steps.length : Int) ≤ x
  · exact load_who b M x y w h hx
  · obtain ⟨j, rfl⟩ := Int.eq_ofNat_of_zero_le (show 0 ≤ x by omega)
    exact load_what b M j y w h (by omega) (by omega)

set_option maxHeartbeats 400000 in
theorem load_nil (x y : Int) (w : World) :
    Calls Try.prog 41 #[.pointer none, .int .i64 x, .int .i64 y] w fun e w' => e = .returned (.tuple #[.int .i64 0, .int .i64 2]) ∧ w = w' := by
  go_enter Try.func41, Try.ntmps41
  go_wp2_with ((go_at_call 52; refine (begin_nil x y _ _).mono ?_; rintro e w' ⟨rfl, rfl⟩))
  go_ret2
  exact ⟨rfl, rfl⟩

set_option maxHeartbeats 400000 in
theorem cas_who (b : MB) (M : Mach) (x y : Int) (o v : Int) (w : World) (h : IsM w b M) (hx : x < 0 ∨ (M.steps.length : Int) ≤ x) :
    Calls Try.prog 43 #[.pointer (some ⟨b.m, 0, none⟩), .int .i64 x, .int .i64 y, .int .i64 o, .int .i64 v] w fun e w' => e = .returned (.tuple #[.bool false, .int .i64 10]) ∧ w = w' := by
  go_enter Try.func43, Try.ntmps43
  go_wp2_with ((go_at_call 52; refine (begin_who b M x y _ _ h hx).mono ?_; rintro e w' ⟨rfl, rfl⟩))
  go_ret2
  exact ⟨rfl, rfl⟩

set_option maxHeartbeats 400000 in
theorem cas_what (b : MB) (M : Mach) (j : Nat) (y : Int) (o v : Int) (w : World) (h : IsM w b M) (hj : j < M.steps.length) (hy : y < 0 ∨ (M.used : Int) ≤ y) :
    Calls Try.prog 43 #[.pointer (some ⟨b.m, 0, none⟩), .int .i64 j, .int .i64 y, .int .i64 o, .int .i64 v] w fun e w' => e = .returned (.tuple #[.bool false, .int .i64 10]) ∧ w = w' := by
  go_enter Try.func43, Try.ntmps43
  go_wp2_with ((go_at_call 52; refine (begin_what b M j y _ h hj hy).mono ?_; rintro e w' ⟨rfl, rfl⟩))
  go_ret2
  exact ⟨rfl, rfl⟩

theorem cas_no (b : MB) (M : Mach) (x y : Int) (o v : Int) (w : World) (h : IsM w b M) (hn : ¬ (0 ≤ x ∧ x < M.steps.length ∧ 0 ≤ y ∧ y < M.used)) :
    Calls Try.prog 43 #[.pointer (some ⟨b.m, 0, none⟩), .int .i64 x, .int .i64 y, .int .i64 o, .int .i64 v] w fun e w' => e = .returned (.tuple #[.bool false, .int .i64 10]) ∧ w = w' := by
  by_cases hx : x < 0 ∨ (M.steps.length : Int) ≤ x
  · exact cas_who b M x y o v w h hx
  · obtain ⟨j, rfl⟩ := Int.eq_ofNat_of_zero_le (show 0 ≤ x by omega)
    exact cas_what b M j y o v w h (by omega) (by omega)

set_option maxHeartbeats 400000 in
theorem cas_nil (x y : Int) (o v : Int) (w : World) :
    Calls Try.prog 43 #[.pointer none, .int .i64 x, .int .i64 y, .int .i64 o, .int .i64 v] w fun e w' => e = .returned (.tuple #[.bool false, .int .i64 2]) ∧ w = w' := by
  go_enter Try.func43, Try.ntmps43
  go_wp2_with ((go_at_call 52; refine (begin_nil x y _ _).mono ?_; rintro e w' ⟨rfl, rfl⟩))
  go_ret2
  exact ⟨rfl, rfl⟩

end Go.Proofs.Ytoajdknhllaoeaa
