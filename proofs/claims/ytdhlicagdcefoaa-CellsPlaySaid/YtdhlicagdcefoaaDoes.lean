/-
  Each call of a machine as one function of plain data, and the statements' Does.
-/
import Derived.Test.YtdhlicagdcefoaaBase
namespace Go.Proofs.Ytdhlicagdcefoaa
open Go.RowKit

def Mach.sees (M : Mach) (x y : Int) : Prop := 0 ≤ x ∧ x < M.steps.length ∧ 0 ≤ y ∧ y < M.used
instance (M : Mach) (x y : Int) : Decidable (M.sees x y) := by unfold Mach.sees; infer_instance

def Mach.load (M : Mach) (x y : Int) : Int × Int × Mach := if M.sees x y then (M.all.getD y.toNat 0, 0, M.step x.toNat) else (0, 10, M)
def Mach.store (M : Mach) (x y v : Int) : Int × Mach := if M.sees x y then (0, (M.step x.toNat).put y.toNat v) else (10, M)
def Mach.cas (M : Mach) (x y o v : Int) : Bool × Int × Mach :=
  if M.sees x y then (if M.all.getD y.toNat 0 = o then (true, 0, (M.step x.toNat).put y.toNat v) else (false, 0, M.step x.toNat)) else (false, 10, M)
def Mach.add (M : Mach) (x y v : Int) : Int × Int × Mach :=
  if M.sees x y then (M.all.getD y.toNat 0, 0, (M.step x.toNat).put y.toNat (wrap64 (M.all.getD y.toNat 0 + v))) else (0, 10, M)
def Mach.alloc (M : Mach) (x n : Int) : Int × Int × Mach :=
  if 0 ≤ x ∧ x < M.steps.length ∧ 1 ≤ n then (if (M.all.length : Int) - M.used < n then (0, 21, M) else (M.used, 0, (M.step x.toNat).give n.toNat)) else (0, 10, M)

theorem load_any (b : MB) (M : Mach) (x y : Int) (w : World) (h : IsM w b M) :
    Calls Try.prog 25 #[.pointer (some ⟨b.m, 0, none⟩), .int .i64 x, .int .i64 y] w fun e w' => e = .returned (.tuple #[.int .i64 (M.load x y).1, .int .i64 (M.load x y).2.1]) ∧ IsM w' b (M.load x y).2.2 ∧ Fr b.own w w' := by
  by_cases hs : M.sees x y
  · unfold Mach.load
    rw [if_pos hs]
    unfold Mach.sees at hs
    obtain ⟨j, rfl⟩ := Int.eq_ofNat_of_zero_le hs.1
    obtain ⟨k, rfl⟩ := Int.eq_ofNat_of_zero_le hs.2.2.1
    exact load_ok b M j k w h (by omega) (by omega)
  · unfold Mach.load
    rw [if_neg hs]
    exact (load_no b M x y w h hs).mono fun e w' ⟨he, hw⟩ => ⟨he, hw ▸ h, hw ▸ Fr.refl _ _⟩

theorem store_any (b : MB) (M : Mach) (x y v : Int) (w : World) (h : IsM w b M) :
    Calls Try.prog 24 #[.pointer (some ⟨b.m, 0, none⟩), .int .i64 x, .int .i64 y, .int .i64 v] w fun e w' => e = .returned (.int .i64 (M.store x y v).1) ∧ IsM w' b (M.store x y v).2 ∧ Fr b.own w w' := by
  by_cases hs : M.sees x y
  · unfold Mach.store
    rw [if_pos hs]
    unfold Mach.sees at hs
    obtain ⟨j, rfl⟩ := Int.eq_ofNat_of_zero_le hs.1
    obtain ⟨k, rfl⟩ := Int.eq_ofNat_of_zero_le hs.2.2.1
    exact store_ok b M j k v w h (by omega) (by omega)
  · unfold Mach.store
    rw [if_neg hs]
    exact (store_no b M x y v w h hs).mono fun e w' ⟨he, hw⟩ => ⟨he, hw ▸ h, hw ▸ Fr.refl _ _⟩

theorem cas_any (b : MB) (M : Mach) (x y o v : Int) (w : World) (h : IsM w b M) :
    Calls Try.prog 26 #[.pointer (some ⟨b.m, 0, none⟩), .int .i64 x, .int .i64 y, .int .i64 o, .int .i64 v] w fun e w' => e = .returned (.tuple #[.bool (M.cas x y o v).1, .int .i64 (M.cas x y o v).2.1]) ∧ IsM w' b (M.cas x y o v).2.2 ∧ Fr b.own w w' := by
  by_cases hs : M.sees x y
  · unfold Mach.cas
    rw [if_pos hs]
    unfold Mach.sees at hs
    obtain ⟨j, rfl⟩ := Int.eq_ofNat_of_zero_le hs.1
    obtain ⟨k, rfl⟩ := Int.eq_ofNat_of_zero_le hs.2.2.1
    by_cases ho : M.all.getD (k : Int).toNat 0 = o
    · rw [if_pos ho]
      exact cas_yes b M j k o v w h (by omega) (by omega) ho
    · rw [if_neg ho]
      exact cas_not b M j k o v w h (by omega) (by omega) ho
  · unfold Mach.cas
    rw [if_neg hs]
    exact (cas_no b M x y o v w h hs).mono fun e w' ⟨he, hw⟩ => ⟨he, hw ▸ h, hw ▸ Fr.refl _ _⟩

theorem add_any (b : MB) (M : Mach) (x y v : Int) (w : World) (h : IsM w b M) :
    Calls Try.prog 27 #[.pointer (some ⟨b.m, 0, none⟩), .int .i64 x, .int .i64 y, .int .i64 v] w fun e w' => e = .returned (.tuple #[.int .i64 (M.add x y v).1, .int .i64 (M.add x y v).2.1]) ∧ IsM w' b (M.add x y v).2.2 ∧ Fr b.own w w' := by
  by_cases hs : M.sees x y
  · unfold Mach.add
    rw [if_pos hs]
    unfold Mach.sees at hs
    obtain ⟨j, rfl⟩ := Int.eq_ofNat_of_zero_le hs.1
    obtain ⟨k, rfl⟩ := Int.eq_ofNat_of_zero_le hs.2.2.1
    exact add_ok b M j k v w h (by omega) (by omega)
  · unfold Mach.add
    rw [if_neg hs]
    exact add_no b M x y v w h hs

theorem alloc_any (b : MB) (M : Mach) (x n : Int) (w : World) (h : IsM w b M) :
    Calls Try.prog 22 #[.pointer (some ⟨b.m, 0, none⟩), .int .i64 x, .int .i64 n] w fun e w' => e = .returned (.tuple #[.int .i64 (M.alloc x n).1, .int .i64 (M.alloc x n).2.1]) ∧ IsM w' b (M.alloc x n).2.2 ∧ Fr b.own w w' := by
  by_cases hs : 0 ≤ x ∧ x < M.steps.length ∧ 1 ≤ n
  · unfold Mach.alloc
    rw [if_pos hs]
    obtain ⟨j, rfl⟩ := Int.eq_ofNat_of_zero_le hs.1
    obtain ⟨k, rfl⟩ := Int.eq_ofNat_of_zero_le (show 0 ≤ n by omega)
    by_cases hn : (M.all.length : Int) - M.used < k
    · rw [if_pos hn]
      exact alloc_full b M j k w h (by omega) (by omega) hn
    · rw [if_neg hn]
      exact alloc_ok b M j k w h (by omega) (by omega) (by omega)
  · unfold Mach.alloc
    rw [if_neg hs]
    by_cases hx : x < 0 ∨ (M.steps.length : Int) ≤ x
    · exact (alloc_who b M x n w h hx).mono fun e w' ⟨he, hw⟩ => ⟨he, hw ▸ h, hw ▸ Fr.refl _ _⟩
    · obtain ⟨j, rfl⟩ := Int.eq_ofNat_of_zero_le (show 0 ≤ x by omega)
      exact (alloc_low b M j n w h (by omega) (by omega)).mono fun e w' ⟨he, hw⟩ => ⟨he, hw ▸ h, hw ▸ Fr.refl _ _⟩

/-- A call, as the statements write it down. -/
structure OpD where
  kind : Int
  w : Int
  at_ : Int
  x : Int
  y : Int

def OpD.val (o : OpD) : Value := .agg #[.int .i64 o.kind, .int .i64 o.w, .int .i64 o.at_, .int .i64 o.x, .int .i64 o.y]

def Mach.does (M : Mach) (o : OpD) : Int × Int × Mach :=
  if o.kind = 0 then M.load o.w o.at_
  else if o.kind = 1 then (0, M.store o.w o.at_ o.x)
  else if o.kind = 2 then (if (M.cas o.w o.at_ o.y o.x).1 = true then 1 else 0, (M.cas o.w o.at_ o.y o.x).2)
  else if o.kind = 3 then M.add o.w o.at_ o.x
  else M.alloc o.w o.at_

set_option maxHeartbeats 400000 in
theorem does0 (b : MB) (M : Mach) (o : OpD) (w : World) (h : IsM w b M) (k0 : (o.kind == 0) = true) :
    Calls Try.prog 14 #[.pointer (some ⟨b.m, 0, none⟩), .agg #[.int .i64 o.kind, .int .i64 o.w, .int .i64 o.at_, .int .i64 o.x, .int .i64 o.y]] w fun e w' => e = .returned (.tuple #[.int .i64 ((M.load o.w o.at_).1), .int .i64 ((M.load o.w o.at_).2.1)]) ∧ IsM w' b (M.load o.w o.at_).2.2 ∧ Fr b.own w w' := by
  have h3 : IsM (w.alloc (.cells #[.int .i64 o.kind, .int .i64 o.w, .int .i64 o.at_, .int .i64 o.x, .int .i64 o.y] 36)) b M := h.same (Fr.alloc _ _ _)
  go_enter Try.func14, Try.ntmps14
  go_wp2_with fail
  refine (load_any b M o.w o.at_ _ h3).mono ?_
  rintro e w1 ⟨rfl, h1, hF⟩
  go_wp2_with fail
  go_ret2
  exact ⟨rfl, h1, (Fr.alloc _ _ _).trans hF⟩

set_option maxHeartbeats 400000 in
theorem does1 (b : MB) (M : Mach) (o : OpD) (w : World) (h : IsM w b M) (k0 : (o.kind == 0) = false) (k1 : (o.kind == 1) = true) :
    Calls Try.prog 14 #[.pointer (some ⟨b.m, 0, none⟩), .agg #[.int .i64 o.kind, .int .i64 o.w, .int .i64 o.at_, .int .i64 o.x, .int .i64 o.y]] w fun e w' => e = .returned (.tuple #[.int .i64 (0), .int .i64 ((M.store o.w o.at_ o.x).1)]) ∧ IsM w' b (M.store o.w o.at_ o.x).2 ∧ Fr b.own w w' := by
  have h3 : IsM (w.alloc (.cells #[.int .i64 o.kind, .int .i64 o.w, .int .i64 o.at_, .int .i64 o.x, .int .i64 o.y] 36)) b M := h.same (Fr.alloc _ _ _)
  go_enter Try.func14, Try.ntmps14
  go_wp2_with fail
  refine (store_any b M o.w o.at_ o.x _ h3).mono ?_
  rintro e w1 ⟨rfl, h1, hF⟩
  go_wp2_with fail
  go_ret2
  exact ⟨rfl, h1, (Fr.alloc _ _ _).trans hF⟩

set_option maxHeartbeats 400000 in
theorem does3 (b : MB) (M : Mach) (o : OpD) (w : World) (h : IsM w b M) (k0 : (o.kind == 0) = false) (k1 : (o.kind == 1) = false) (k2 : (o.kind == 2) = false) (k3 : (o.kind == 3) = true) :
    Calls Try.prog 14 #[.pointer (some ⟨b.m, 0, none⟩), .agg #[.int .i64 o.kind, .int .i64 o.w, .int .i64 o.at_, .int .i64 o.x, .int .i64 o.y]] w fun e w' => e = .returned (.tuple #[.int .i64 ((M.add o.w o.at_ o.x).1), .int .i64 ((M.add o.w o.at_ o.x).2.1)]) ∧ IsM w' b (M.add o.w o.at_ o.x).2.2 ∧ Fr b.own w w' := by
  have h3 : IsM (w.alloc (.cells #[.int .i64 o.kind, .int .i64 o.w, .int .i64 o.at_, .int .i64 o.x, .int .i64 o.y] 36)) b M := h.same (Fr.alloc _ _ _)
  go_enter Try.func14, Try.ntmps14
  go_wp2_with fail
  refine (add_any b M o.w o.at_ o.x _ h3).mono ?_
  rintro e w1 ⟨rfl, h1, hF⟩
  go_wp2_with fail
  go_ret2
  exact ⟨rfl, h1, (Fr.alloc _ _ _).trans hF⟩

set_option maxHeartbeats 400000 in
theorem does4 (b : MB) (M : Mach) (o : OpD) (w : World) (h : IsM w b M) (k0 : (o.kind == 0) = false) (k1 : (o.kind == 1) = false) (k2 : (o.kind == 2) = false) (k3 : (o.kind == 3) = false) :
    Calls Try.prog 14 #[.pointer (some ⟨b.m, 0, none⟩), .agg #[.int .i64 o.kind, .int .i64 o.w, .int .i64 o.at_, .int .i64 o.x, .int .i64 o.y]] w fun e w' => e = .returned (.tuple #[.int .i64 ((M.alloc o.w o.at_).1), .int .i64 ((M.alloc o.w o.at_).2.1)]) ∧ IsM w' b (M.alloc o.w o.at_).2.2 ∧ Fr b.own w w' := by
  have h3 : IsM (w.alloc (.cells #[.int .i64 o.kind, .int .i64 o.w, .int .i64 o.at_, .int .i64 o.x, .int .i64 o.y] 36)) b M := h.same (Fr.alloc _ _ _)
  go_enter Try.func14, Try.ntmps14
  go_wp2_with fail
  refine (alloc_any b M o.w o.at_ _ h3).mono ?_
  rintro e w1 ⟨rfl, h1, hF⟩
  go_wp2_with fail
  go_ret2
  exact ⟨rfl, h1, (Fr.alloc _ _ _).trans hF⟩

set_option maxHeartbeats 400000 in
theorem does2 (b : MB) (M : Mach) (o : OpD) (w : World) (h : IsM w b M) (k0 : (o.kind == 0) = false) (k1 : (o.kind == 1) = false) (k2 : (o.kind == 2) = true) :
    Calls Try.prog 14 #[.pointer (some ⟨b.m, 0, none⟩), .agg #[.int .i64 o.kind, .int .i64 o.w, .int .i64 o.at_, .int .i64 o.x, .int .i64 o.y]] w fun e w' => e = .returned (.tuple #[.int .i64 (if (M.cas o.w o.at_ o.y o.x).1 = true then 1 else 0), .int .i64 ((M.cas o.w o.at_ o.y o.x).2.1)]) ∧ IsM w' b (M.cas o.w o.at_ o.y o.x).2.2 ∧ Fr b.own w w' := by
  have h3 : IsM (w.alloc (.cells #[.int .i64 o.kind, .int .i64 o.w, .int .i64 o.at_, .int .i64 o.x, .int .i64 o.y] 36)) b M := h.same (Fr.alloc _ _ _)
  have hc := fun W => cas_any b M o.w o.at_ o.y o.x W
  obtain ⟨r, hr⟩ : ∃ r, M.cas o.w o.at_ o.y o.x = r := ⟨_, rfl⟩
  rw [hr] at hc ⊢
  clear hr
  obtain ⟨q, er, M'⟩ := r
  have HC := hid hc
  clear hc
  cases q
  · go_enter Try.func14, Try.ntmps14
    go_wp2_with fail
    refine (HC.out _ h3).mono ?_
    rintro e w1 ⟨rfl, h1, hF⟩
    go_wp2_with fail
    go_ret2
    exact ⟨rfl, h1, (Fr.alloc _ _ _).trans hF⟩
  · go_enter Try.func14, Try.ntmps14
    go_wp2_with fail
    refine (HC.out _ h3).mono ?_
    rintro e w1 ⟨rfl, h1, hF⟩
    go_wp2_with fail
    go_ret2
    exact ⟨rfl, h1, (Fr.alloc _ _ _).trans hF⟩

theorem does_any (b : MB) (M : Mach) (o : OpD) (w : World) (h : IsM w b M) :
    Calls Try.prog 14 #[.pointer (some ⟨b.m, 0, none⟩), .agg #[.int .i64 o.kind, .int .i64 o.w, .int .i64 o.at_, .int .i64 o.x, .int .i64 o.y]] w fun e w' => e = .returned (.tuple #[.int .i64 ((M.does o).1), .int .i64 ((M.does o).2.1)]) ∧ IsM w' b (M.does o).2.2 ∧ Fr b.own w w' := by
  unfold Mach.does
  by_cases k0 : o.kind = 0
  · rw [if_pos k0]
    exact does0 b M o w h (by simp [k0])
  · rw [if_neg k0]
    by_cases k1 : o.kind = 1
    · rw [if_pos k1]
      exact does1 b M o w h (by simp [k1]) (by simp [k1])
    · rw [if_neg k1]
      by_cases k2 : o.kind = 2
      · rw [if_pos k2]
        exact does2 b M o w h (by simp [k2]) (by simp [k2]) (by simp [k2])
      · rw [if_neg k2]
        by_cases k3 : o.kind = 3
        · rw [if_pos k3]
          exact does3 b M o w h (by simp [k3]) (by simp [k3]) (by simp [k3]) (by simp [k3])
        · rw [if_neg k3]
          exact does4 b M o w h (by simpa using k0) (by simpa using k1) (by simpa using k2) (by simpa using k3)
end Go.Proofs.Ytdhlicagdcefoaa
