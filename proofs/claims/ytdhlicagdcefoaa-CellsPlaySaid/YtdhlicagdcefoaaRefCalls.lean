/-
  Load, Store, CAS, Add, Of and Peek of the document's machine.
-/
import Derived.Test.YtdhlicagdcefoaaRef
namespace Go.Proofs.Ytdhlicagdcefoaa
open Go.RowKit

set_option maxHeartbeats 400000 in
theorem rload_ok (r : RB) (B : Nat) (M : Mach) (j k : Nat) (w : World) (h : IsR w B r M) (hj : j < M.steps.length) (hk : k < M.used) :
    Calls Try.prog 30 #[.pointer (some ⟨r.m, 0, none⟩), .int .i64 j, .int .i64 k] w fun e w' => e = .returned (.tuple #[.int .i64 (M.all.getD k 0), .int .i64 0]) ∧ IsR w' B r (M.step j) ∧ Fr (fun i => B ≤ i) w w' := by
  go_enter Try.func30, Try.ntmps30
  go_wp2_with fail
  refine (rstep_ok r B M j k _ h hj hk).mono ?_
  rintro e w1 ⟨rfl, h1, hF⟩
  have hk1 : k < (M.step j).used := hk
  obtain ⟨g, s, hp, HV, cv, fv⟩ := h1.cl' hk1
  have c0 : w1.cell? ⟨r.m, 0, none⟩ = some (.slice (some ⟨g, 0, none⟩) M.used r.cap) := by rw [← hp]; exact h1.c0
  have HP := hid hp
  clear hp
  replace HV : Hid (M.all.getD k 0 = s) := HV
  clear fv
  go_wp2_with fail
  go_ret2
  rw [HV.out]
  exact ⟨rfl, h1, hF⟩

set_option maxHeartbeats 400000 in
theorem rstore_ok (r : RB) (B : Nat) (M : Mach) (j k : Nat) (v : Int) (w : World) (h : IsR w B r M) (hj : j < M.steps.length) (hk : k < M.used) :
    Calls Try.prog 31 #[.pointer (some ⟨r.m, 0, none⟩), .int .i64 j, .int .i64 k, .int .i64 v] w fun e w' => e = .returned (.int .i64 0) ∧ IsR w' B r ((M.step j).put k v) ∧ Fr (fun i => B ≤ i) w w' := by
  go_enter Try.func31, Try.ntmps31
  go_wp2_with fail
  refine (rstep_ok r B M j k _ h hj hk).mono ?_
  rintro e w1 ⟨rfl, h1, hF⟩
  have hk1 : k < (M.step j).used := hk
  obtain ⟨g, s, hp, HV, cv, fv⟩ := h1.cl' hk1
  have c0 : w1.cell? ⟨r.m, 0, none⟩ = some (.slice (some ⟨g, 0, none⟩) M.used r.cap) := by rw [← hp]; exact h1.c0
  have HP := hid hp
  clear hp
  replace HV : Hid (M.all.getD k 0 = s) := HV
  clear HV
  go_wp2_with fail
  go_ret
  exact ⟨rfl, (h1.putted v hk1 HP.out).1, hF.trans (Fr.setCell _ _ _ (h1.putted v hk1 HP.out).2)⟩

set_option maxHeartbeats 400000 in
theorem rcas_yes (r : RB) (B : Nat) (M : Mach) (j k : Nat) (o v : Int) (w : World) (h : IsR w B r M) (hj : j < M.steps.length) (hk : k < M.used) (ho : M.all.getD k 0 = o) :
    Calls Try.prog 32 #[.pointer (some ⟨r.m, 0, none⟩), .int .i64 j, .int .i64 k, .int .i64 o, .int .i64 v] w fun e w' => e = .returned (.tuple #[.bool true, .int .i64 0]) ∧ IsR w' B r ((M.step j).put k v) ∧ Fr (fun i => B ≤ i) w w' := by
  have HO := hid ho
  clear ho
  go_enter Try.func32, Try.ntmps32
  go_wp2_with fail
  refine (rstep_ok r B M j k _ h hj hk).mono ?_
  rintro e w1 ⟨rfl, h1, hF⟩
  have hk1 : k < (M.step j).used := hk
  obtain ⟨g, s, hp, HV, cv, fv⟩ := h1.cl' hk1
  have c0 : w1.cell? ⟨r.m, 0, none⟩ = some (.slice (some ⟨g, 0, none⟩) M.used r.cap) := by rw [← hp]; exact h1.c0
  have HP := hid hp
  clear hp
  replace HV : Hid (M.all.getD k 0 = s) := HV
  obtain rfl : o = s := HO.out.symm.trans HV.out
  clear HV HO
  go_wp2_with fail
  go_ret2
  exact ⟨rfl, (h1.putted v hk1 HP.out).1, hF.trans (Fr.setCell _ _ _ (h1.putted v hk1 HP.out).2)⟩

set_option maxHeartbeats 400000 in
theorem rcas_not (r : RB) (B : Nat) (M : Mach) (j k : Nat) (o v : Int) (w : World) (h : IsR w B r M) (hj : j < M.steps.length) (hk : k < M.used) (ho : M.all.getD k 0 ≠ o) :
    Calls Try.prog 32 #[.pointer (some ⟨r.m, 0, none⟩), .int .i64 j, .int .i64 k, .int .i64 o, .int .i64 v] w fun e w' => e = .returned (.tuple #[.bool false, .int .i64 0]) ∧ IsR w' B r (M.step j) ∧ Fr (fun i => B ≤ i) w w' := by
  have HO := hid ho
  clear ho
  go_enter Try.func32, Try.ntmps32
  go_wp2_with fail
  refine (rstep_ok r B M j k _ h hj hk).mono ?_
  rintro e w1 ⟨rfl, h1, hF⟩
  have hk1 : k < (M.step j).used := hk
  obtain ⟨g, s, hp, HV, cv, fv⟩ := h1.cl' hk1
  have c0 : w1.cell? ⟨r.m, 0, none⟩ = some (.slice (some ⟨g, 0, none⟩) M.used r.cap) := by rw [← hp]; exact h1.c0
  have HP := hid hp
  clear hp
  replace HV : Hid (M.all.getD k 0 = s) := HV
  have tso : (s != o) = true := by
    have hne := HO.out
    rw [HV.out] at hne
    simpa using hne
  clear HV HO fv
  go_wp2_with fail
  go_ret2
  exact ⟨rfl, h1, hF⟩

set_option maxHeartbeats 400000 in
theorem radd_ok (r : RB) (B : Nat) (M : Mach) (j k : Nat) (v : Int) (w : World) (h : IsR w B r M) (hj : j < M.steps.length) (hk : k < M.used) :
    Calls Try.prog 33 #[.pointer (some ⟨r.m, 0, none⟩), .int .i64 j, .int .i64 k, .int .i64 v] w fun e w' => e = .returned (.tuple #[.int .i64 (M.all.getD k 0), .int .i64 0]) ∧ IsR w' B r ((M.step j).put k (wrap64 (M.all.getD k 0 + v))) ∧ Fr (fun i => B ≤ i) w w' := by
  go_enter Try.func33, Try.ntmps33
  go_wp2_with fail
  refine (rstep_ok r B M j k _ h hj hk).mono ?_
  rintro e w1 ⟨rfl, h1, hF⟩
  have hk1 : k < (M.step j).used := hk
  obtain ⟨g, s, hp, HV, cv, fv⟩ := h1.cl' hk1
  have c0 : w1.cell? ⟨r.m, 0, none⟩ = some (.slice (some ⟨g, 0, none⟩) M.used r.cap) := by rw [← hp]; exact h1.c0
  have HP := hid hp
  clear hp
  replace HV : Hid (M.all.getD k 0 = s) := HV
  go_wp2_with fail
  go_ret2
  rw [HV.out]
  exact ⟨rfl, (h1.putted _ hk1 HP.out).1, hF.trans (Fr.setCell _ _ _ (h1.putted v hk1 HP.out).2)⟩

set_option maxHeartbeats 400000 in
theorem rload_no (r : RB) (B : Nat) (M : Mach) (x y : Int) (w : World) (h : IsR w B r M) (hn : ¬ M.sees x y) :
    Calls Try.prog 30 #[.pointer (some ⟨r.m, 0, none⟩), .int .i64 x, .int .i64 y] w fun e w' => e = .returned (.tuple #[.int .i64 0, .int .i64 10]) ∧ w = w' := by
  go_enter Try.func30, Try.ntmps30
  go_wp2_with fail
  refine (rstep_no r B M x y _ h hn).mono ?_
  rintro e w1 ⟨rfl, rfl⟩
  go_wp2_with fail
  go_ret2
  exact ⟨rfl, rfl⟩

set_option maxHeartbeats 400000 in
theorem rstore_no (r : RB) (B : Nat) (M : Mach) (x y : Int) (v : Int) (w : World) (h : IsR w B r M) (hn : ¬ M.sees x y) :
    Calls Try.prog 31 #[.pointer (some ⟨r.m, 0, none⟩), .int .i64 x, .int .i64 y, .int .i64 v] w fun e w' => e = .returned (.int .i64 10) ∧ w = w' := by
  go_enter Try.func31, Try.ntmps31
  go_wp2_with fail
  refine (rstep_no r B M x y _ h hn).mono ?_
  rintro e w1 ⟨rfl, rfl⟩
  go_wp2_with fail
  go_ret
  exact ⟨rfl, rfl⟩

set_option maxHeartbeats 400000 in
theorem rcas_no (r : RB) (B : Nat) (M : Mach) (x y : Int) (o v : Int) (w : World) (h : IsR w B r M) (hn : ¬ M.sees x y) :
    Calls Try.prog 32 #[.pointer (some ⟨r.m, 0, none⟩), .int .i64 x, .int .i64 y, .int .i64 o, .int .i64 v] w fun e w' => e = .returned (.tuple #[.bool false, .int .i64 10]) ∧ w = w' := by
  go_enter Try.func32, Try.ntmps32
  go_wp2_with fail
  refine (rstep_no r B M x y _ h hn).mono ?_
  rintro e w1 ⟨rfl, rfl⟩
  go_wp2_with fail
  go_ret2
  exact ⟨rfl, rfl⟩

set_option maxHeartbeats 400000 in
theorem radd_no (r : RB) (B : Nat) (M : Mach) (x y : Int) (v : Int) (w : World) (h : IsR w B r M) (hn : ¬ M.sees x y) :
    Calls Try.prog 33 #[.pointer (some ⟨r.m, 0, none⟩), .int .i64 x, .int .i64 y, .int .i64 v] w fun e w' => e = .returned (.tuple #[.int .i64 0, .int .i64 10]) ∧ w = w' := by
  go_enter Try.func33, Try.ntmps33
  go_wp2_with fail
  refine (rstep_no r B M x y _ h hn).mono ?_
  rintro e w1 ⟨rfl, rfl⟩
  go_wp2_with fail
  go_ret2
  exact ⟨rfl, rfl⟩

theorem rload_any (r : RB) (B : Nat) (M : Mach) (x y : Int) (w : World) (h : IsR w B r M) :
    Calls Try.prog 30 #[.pointer (some ⟨r.m, 0, none⟩), .int .i64 x, .int .i64 y] w fun e w' => e = .returned (.tuple #[.int .i64 (M.load x y).1, .int .i64 (M.load x y).2.1]) ∧ IsR w' B r ((M.load x y).2.2) ∧ Fr (fun i => B ≤ i) w w' := by
  by_cases hs : M.sees x y
  · unfold Mach.load
    rw [if_pos hs]
    unfold Mach.sees at hs
    obtain ⟨j, rfl⟩ := Int.eq_ofNat_of_zero_le hs.1
    obtain ⟨k, rfl⟩ := Int.eq_ofNat_of_zero_le hs.2.2.1
    exact rload_ok r B M j k w h (by omega) (by omega)
  · unfold Mach.load
    rw [if_neg hs]
    exact (rload_no r B M x y w h hs).mono fun e w' ⟨he, hw⟩ => ⟨he, hw ▸ h, hw ▸ Fr.refl _ _⟩

theorem rstore_any (r : RB) (B : Nat) (M : Mach) (x y : Int) (v : Int) (w : World) (h : IsR w B r M) :
    Calls Try.prog 31 #[.pointer (some ⟨r.m, 0, none⟩), .int .i64 x, .int .i64 y, .int .i64 v] w fun e w' => e = .returned (.int .i64 (M.store x y v).1) ∧ IsR w' B r ((M.store x y v).2) ∧ Fr (fun i => B ≤ i) w w' := by
  by_cases hs : M.sees x y
  · unfold Mach.store
    rw [if_pos hs]
    unfold Mach.sees at hs
    obtain ⟨j, rfl⟩ := Int.eq_ofNat_of_zero_le hs.1
    obtain ⟨k, rfl⟩ := Int.eq_ofNat_of_zero_le hs.2.2.1
    exact rstore_ok r B M j k v w h (by omega) (by omega)
  · unfold Mach.store
    rw [if_neg hs]
    exact (rstore_no r B M x y v w h hs).mono fun e w' ⟨he, hw⟩ => ⟨he, hw ▸ h, hw ▸ Fr.refl _ _⟩

theorem rcas_any (r : RB) (B : Nat) (M : Mach) (x y : Int) (o v : Int) (w : World) (h : IsR w B r M) :
    Calls Try.prog 32 #[.pointer (some ⟨r.m, 0, none⟩), .int .i64 x, .int .i64 y, .int .i64 o, .int .i64 v] w fun e w' => e = .returned (.tuple #[.bool (M.cas x y o v).1, .int .i64 (M.cas x y o v).2.1]) ∧ IsR w' B r ((M.cas x y o v).2.2) ∧ Fr (fun i => B ≤ i) w w' := by
  by_cases hs : M.sees x y
  · unfold Mach.cas
    rw [if_pos hs]
    unfold Mach.sees at hs
    obtain ⟨j, rfl⟩ := Int.eq_ofNat_of_zero_le hs.1
    obtain ⟨k, rfl⟩ := Int.eq_ofNat_of_zero_le hs.2.2.1
    by_cases ho : M.all.getD (k : Int).toNat 0 = o
    · rw [if_pos ho]
      exact rcas_yes r B M j k o v w h (by omega) (by omega) ho
    · rw [if_neg ho]
      exact rcas_not r B M j k o v w h (by omega) (by omega) ho
  · unfold Mach.cas
    rw [if_neg hs]
    exact (rcas_no r B M x y o v w h hs).mono fun e w' ⟨he, hw⟩ => ⟨he, hw ▸ h, hw ▸ Fr.refl _ _⟩

theorem radd_any (r : RB) (B : Nat) (M : Mach) (x y : Int) (v : Int) (w : World) (h : IsR w B r M) :
    Calls Try.prog 33 #[.pointer (some ⟨r.m, 0, none⟩), .int .i64 x, .int .i64 y, .int .i64 v] w fun e w' => e = .returned (.tuple #[.int .i64 (M.add x y v).1, .int .i64 (M.add x y v).2.1]) ∧ IsR w' B r ((M.add x y v).2.2) ∧ Fr (fun i => B ≤ i) w w' := by
  by_cases hs : M.sees x y
  · unfold Mach.add
    rw [if_pos hs]
    unfold Mach.sees at hs
    obtain ⟨j, rfl⟩ := Int.eq_ofNat_of_zero_le hs.1
    obtain ⟨k, rfl⟩ := Int.eq_ofNat_of_zero_le hs.2.2.1
    exact radd_ok r B M j k v w h (by omega) (by omega)
  · unfold Mach.add
    rw [if_neg hs]
    exact (radd_no r B M x y v w h hs).mono fun e w' ⟨he, hw⟩ => ⟨he, hw ▸ h, hw ▸ Fr.refl _ _⟩

set_option maxHeartbeats 400000 in
theorem rof_in (r : RB) (B : Nat) (M : Mach) (k : Nat) (w : World) (h : IsR w B r M) (hk : k < M.steps.length) :
    Calls Try.prog 18 #[.pointer (some ⟨r.m, 0, none⟩), .int .i64 k] w fun e w' => e = .returned (.int .i64 (M.steps.getD k 0)) ∧ w = w' := by
  have c2 := h.c2
  obtain ⟨v, HV, cv⟩ := h.cs' hk
  go_enter Try.func18, Try.ntmps18
  go_wp2_with fail
  refine (rcaller_yes r B M k _ h hk).mono ?_
  rintro e w' ⟨rfl, rfl⟩
  go_wp2_with fail
  go_ret
  rw [← HV.out]
  exact ⟨rfl, rfl⟩

set_option maxHeartbeats 400000 in
theorem rof_out (r : RB) (B : Nat) (M : Mach) (y : Int) (w : World) (h : IsR w B r M) (hy : y < 0 ∨ (M.steps.length : Int) ≤ y) :
    Calls Try.prog 18 #[.pointer (some ⟨r.m, 0, none⟩), .int .i64 y] w fun e w' => e = .returned (.int .i64 0) ∧ w = w' := by
  go_enter Try.func18, Try.ntmps18
  go_wp2_with fail
  refine (rcaller_no r B M y _ h hy).mono ?_
  rintro e w' ⟨rfl, rfl⟩
  go_wp2_with fail
  go_ret
  exact ⟨rfl, rfl⟩

theorem rof_any (r : RB) (B : Nat) (M : Mach) (y : Int) (w : World) (h : IsR w B r M) :
    Calls Try.prog 18 #[.pointer (some ⟨r.m, 0, none⟩), .int .i64 y] w fun e w' => e = .returned (.int .i64 (M.stepsOf y)) ∧ w = w' := by
  by_cases hy : 0 ≤ y ∧ y < M.steps.length
  · obtain ⟨k, rfl⟩ := Int.eq_ofNat_of_zero_le hy.1
    have e : M.stepsOf k = M.steps.getD k 0 := by unfold Mach.stepsOf; rw [if_pos hy]; rfl
    rw [e]
    exact rof_in r B M k w h (by omega)
  · have e : M.stepsOf y = 0 := by unfold Mach.stepsOf; rw [if_neg hy]
    rw [e]
    exact rof_out r B M y w h (by omega)

set_option maxHeartbeats 400000 in
theorem rpeek_in (r : RB) (B : Nat) (M : Mach) (k : Nat) (w : World) (h : IsR w B r M) (hk : k < M.used) :
    Calls Try.prog 20 #[.pointer (some ⟨r.m, 0, none⟩), .int .i64 k] w fun e w' => e = .returned (.int .i64 (M.all.getD k 0)) ∧ w = w' := by
  obtain ⟨g, v, hp, HV, cv, _⟩ := h.cl' hk
  have c0 : w.cell? ⟨r.m, 0, none⟩ = some (.slice (some ⟨g, 0, none⟩) M.used r.cap) := by rw [← hp]; exact h.c0
  have HP := hid hp
  clear hp
  have t1 : decide ((k : Int) < 0) = false := by simp
  have t2 : decide (M.used ≤ k) = false := by simp; omega
  go_enter Try.func20, Try.ntmps20
  go_wp2_with fail
  go_ret
  rw [← HV.out]
  exact ⟨rfl, rfl⟩

set_option maxHeartbeats 400000 in
theorem rpeek_out (r : RB) (B : Nat) (M : Mach) (y : Int) (w : World) (h : IsR w B r M) (hy : y < 0 ∨ (M.used : Int) ≤ y) :
    Calls Try.prog 20 #[.pointer (some ⟨r.m, 0, none⟩), .int .i64 y] w fun e w' => e = .returned (.int .i64 0) ∧ w = w' := by
  have c0 := h.c0
  by_cases hy0 : y < 0
  · go_enter Try.func20, Try.ntmps20
    go_wp2_with fail
    go_ret
    exact ⟨rfl, rfl⟩
  · have hy1 : (M.used : Int) ≤ y := by omega
    go_enter Try.func20, Try.ntmps20
    go_wp2_with fail
    go_ret
    exact ⟨rfl, rfl⟩

theorem rpeek_any (r : RB) (B : Nat) (M : Mach) (y : Int) (w : World) (h : IsR w B r M) :
    Calls Try.prog 20 #[.pointer (some ⟨r.m, 0, none⟩), .int .i64 y] w fun e w' => e = .returned (.int .i64 (M.peek y)) ∧ w = w' := by
  by_cases hy : 0 ≤ y ∧ y < M.used
  · obtain ⟨k, rfl⟩ := Int.eq_ofNat_of_zero_le hy.1
    have e : M.peek k = M.all.getD k 0 := by unfold Mach.peek; rw [if_pos hy]; rfl
    rw [e]
    exact rpeek_in r B M k w h (by omega)
  · have e : M.peek y = 0 := by unfold Mach.peek; rw [if_neg hy]
    rw [e]
    exact rpeek_out r B M y w h (by omega)
end Go.Proofs.Ytdhlicagdcefoaa
