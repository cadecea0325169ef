/-
  Copyings of the program: how one begins.
-/
import Derived.Test.YtiofdfgcghiibaaRing
import Derived.Test.YtiofdfgcghiibaaOpen
import Derived.Deep.RegionHeld3
import Derived.Deep.DeepCutAuto
namespace Go.Proofs.Ytiofdfgcghiibaa
open Go.RowKit
set_option linter.unusedVariables false

/-- A copying under way. -/
structure Cp where
  a : Int
  l : Int
  b : Int
  k : Int
  pl : Int
  til : Int
  x : Int
  loaded : Bool

def nextV (c : Nat) (b : Bool) : Value := .func (.func (if b then 109 else 106)) #[.pointer (some ⟨c, 0, none⟩)] #[]

def IsC (w : World) (c : Nat) (C : Cp) : Prop :=
  Blk w c #[.int .i64 C.a, .int .i64 C.l, .int .i64 C.b, .int .i64 C.k, .int .i64 C.pl, .int .i64 C.til, .int .i64 C.x, nextV c C.loaded]

set_option maxHeartbeats 400000 in
theorem copy_arg (a l b k x y : Int) (w : World) (h : ¬ (Rg.Right ⟨a, l⟩ ∧ Rg.Right ⟨b, k⟩)) :
    Calls Try.prog 103 #[.agg #[.int .i64 a, .int .i64 l], .agg #[.int .i64 b, .int .i64 k], .int .i64 x, .int .i64 y] w fun e w' => e = .returned (.tuple #[.pointer none, .int .i64 1]) ∧ Fr (fun _ => False) w w' := by
  have H := hid h
  clear h
  by_cases h1 : Rg.Right ⟨a, l⟩
  · have h2 : ¬ Rg.Right ⟨b, k⟩ := fun hh => H.out ⟨h1, hh⟩
    have H1 := hid h1
    have H2 := hid h2
    clear h1 h2
    go_enter Try.func103, Try.ntmps103
    go_wp2_with fail
    refine (right_yes a l _ H1.out).mono ?_
    rintro e w1 ⟨rfl, hF⟩
    have hB := (((Blk.new w #[.int .i64 a, .int .i64 l] 97).alloc (.cells #[.int .i64 b, .int .i64 k] 97)).keep hF id)
    have hB2 := ((Blk.new (w.alloc (.cells #[.int .i64 a, .int .i64 l] 97)) #[.int .i64 b, .int .i64 k] 97).at (n := w.heap.size + 1) (by simp)).keep hF id
    have c0 := hB2.cell (i := 0) rfl
    have c1 := hB2.cell (i := 1) rfl
    have hFw : Fr (fun _ => False) w w1 := (Fr.alloc _ _ _).trans ((Fr.alloc _ _ _).trans hF)
    clear hF
    go_wp2_with fail
    refine (right_no b k _ H2.out).mono ?_
    rintro e w2 ⟨rfl, hF2⟩
    go_wp2_with fail
    go_ret2
    exact ⟨rfl, hFw.trans hF2⟩
  · have H1 := hid h1
    clear h1
    go_enter Try.func103, Try.ntmps103
    go_wp2_with fail
    refine (right_no a l _ H1.out).mono ?_
    rintro e w1 ⟨rfl, hF⟩
    go_wp2_with fail
    go_ret2
    exact ⟨rfl, (Fr.alloc _ _ _).trans ((Fr.alloc _ _ _).trans hF)⟩

theorem run_store_func (P : Program) (w : World) (a : Addr) (f : Fn) (bs : Array Value) (cs : Array Value) (m : Mode) : (store a (.func f bs cs) m).run P w = stored P w a (.func f bs cs) m := run_store P w a _ m rfl
attribute [local go_sem] run_store_func

theorem wrap_u64' (x : Int) : IntKind.u64.wrap x = x % 18446744073709551616 := by simp [IntKind.wrap, IntKind.bits, IntKind.signed]

def NoCopy (w : World) (e : Ending) (w' : World) : Prop := e = .returned (.tuple #[.pointer none, .int .i64 10]) ∧ Fr (fun _ => False) w w'

set_option maxRecDepth 100000 in
set_option maxHeartbeats 800000 in
theorem copy_low (a l b k x y : Int) (w : World) (h1 : Rg.Right ⟨a, l⟩) (h2 : Rg.Right ⟨b, k⟩) (hx : Fits x) (hy : Fits y) (hle0 : y < x) :
    Calls Try.prog 103 #[.agg #[.int .i64 a, .int .i64 l], .agg #[.int .i64 b, .int .i64 k], .int .i64 x, .int .i64 y] w fun e w' => NoCopy w e w' := by
  have h18 : l ≤ 8 := h1.2.1
  have h28 : k ≤ 8 := h2.2.1
  have hle := hle0
  clear hle0
  have H1 := hid h1
  have H2 := hid h2
  clear h1 h2
  go_enter Try.func103, Try.ntmps103
  go_wp2_with fail
  refine (right_yes a l _ H1.out).mono ?_
  rintro e w1 ⟨rfl, hF⟩
  have hB := (((Blk.new w #[.int .i64 a, .int .i64 l] 97).alloc (.cells #[.int .i64 b, .int .i64 k] 97)).keep hF id)
  have hB2 := ((Blk.new (w.alloc (.cells #[.int .i64 a, .int .i64 l] 97)) #[.int .i64 b, .int .i64 k] 97).at (n := w.heap.size + 1) (by simp)).keep hF id
  have c0 := hB2.cell (i := 0) rfl
  have c1 := hB2.cell (i := 1) rfl
  have hFw : Fr (fun _ => False) w w1 := (Fr.alloc _ _ _).trans ((Fr.alloc _ _ _).trans hF)
  clear hF
  go_wp2_with fail
  refine (right_yes b k _ H2.out).mono ?_
  rintro e w2 ⟨rfl, hF2⟩
  have HB := hid (hB.keep hF2 id)
  have HB2 := hid (hB2.keep hF2 id)
  have HFw := hid (hFw.trans hF2)
  obtain ⟨n, hn⟩ : ∃ n, pow l = n := ⟨_, rfl⟩
  obtain ⟨m, hm⟩ : ∃ n, pow k = n := ⟨_, rfl⟩
  have HS1 := hid (fun (v : World) => size_yes a l v H1.out)
  have HS2 := hid (fun (v : World) => size_yes b k v H2.out)
  rw [hn] at HS1
  rw [hm] at HS2
  have n1 := pow_pos l
  have n2 := pow_le l h18
  have m1 := pow_pos k
  have m2 := pow_le k h28
  rw [hn] at n1 n2
  rw [hm] at m1 m2
  obtain ⟨q, hq⟩ : ∃ q, (if m < n then m else n) = q := ⟨_, rfl⟩
  have hqn : q ≤ n ∧ q ≤ m ∧ 1 ≤ q ∧ q ≤ 256 ∧ (q = n ∨ q = m) := by rw [← hq]; split <;> omega
  have tq : IntKind.u64.wrap q = q := by rw [wrap_u64']; omega
  obtain ⟨x1, hx1⟩ : ∃ x1, IntKind.u64.wrap x = x1 := ⟨_, rfl⟩
  obtain ⟨y1, hy1⟩ : ∃ y1, IntKind.u64.wrap y = y1 := ⟨_, rfl⟩
  obtain ⟨d, hd⟩ : ∃ d, IntKind.u64.wrap (y1 - x1) = d := ⟨_, rfl⟩
  have hdd : x ≤ y → d = y - x := fun hxy => by
    rw [← hd, ← hx1, ← hy1, wrap_u64', wrap_u64', wrap_u64']
    unfold Fits at hx hy
    omega
  have t5 : decide (y < x) = true := by simp; omega
  have HD := hid hdd
  have HQ := hid hqn
  have HN := hid hn
  have HM := hid hm
  clear hF2 hB hB2 c0 c1 hFw hn hm hx hy hdd hqn n1 n2 m1 m2 h18 h28 hle
  have HS := hid (show ∀ w', Fr (fun _ => False) w2 w' → w'.cell? ⟨w.heap.size, 0, none⟩ = some (.int .i64 a) ∧ w'.cell? ⟨w.heap.size, 1, none⟩ = some (.int .i64 l) ∧ w'.cell? ⟨w.heap.size + 1, 0, none⟩ = some (.int .i64 b) ∧ w'.cell? ⟨w.heap.size + 1, 1, none⟩ = some (.int .i64 k) from
    fun w' F => ⟨(HB.out.keep F id).cell rfl, (HB.out.keep F id).cell rfl, (HB2.out.keep F id).cell rfl, (HB2.out.keep F id).cell rfl⟩)
  have HFd := hid (Fr.refl (fun _ => False) w2)
  go_upto_region 3 with fail
  go_region_held3 (fun w' => w'.cell? ⟨w.heap.size, 0, none⟩ = some (.int .i64 a) ∧ w'.cell? ⟨w.heap.size, 1, none⟩ = some (.int .i64 l) ∧ w'.cell? ⟨w.heap.size + 1, 0, none⟩ = some (.int .i64 b) ∧ w'.cell? ⟨w.heap.size + 1, 1, none⟩ = some (.int .i64 k))
    (first | exact HS.out _ HFd.out | exact HS.out _ (HFd.out.trans (Fr.drew _ _)))
    (first
      | (go_at_call 64; first
          | (with_reducible refine (HS1.out _).mono ?_; rintro e w6 ⟨rfl, hF6⟩; have HFd := hid (HFd.out.trans (Fr.trans (by first | exact Fr.refl _ _ | exact Fr.drew _ _) hF6)); clear hF6)
          | (with_reducible refine (HS2.out _).mono ?_; rintro e w6 ⟨rfl, hF6⟩; have HFd := hid (HFd.out.trans (Fr.trans (by first | exact Fr.refl _ _ | exact Fr.drew _ _) hF6)); clear hF6)))
  all_goals
    go_wp2_with fail
    go_ret2
    exact ⟨rfl, HFw.out.trans HFd.out⟩

set_option maxRecDepth 100000 in
set_option maxHeartbeats 800000 in
theorem copy_far (a l b k x y : Int) (w : World) (h1 : Rg.Right ⟨a, l⟩) (h2 : Rg.Right ⟨b, k⟩) (hx : Fits x) (hy : Fits y) (hle0 : x ≤ y ∧ ¬ (y - x ≤ pow l ∧ y - x ≤ pow k)) :
    Calls Try.prog 103 #[.agg #[.int .i64 a, .int .i64 l], .agg #[.int .i64 b, .int .i64 k], .int .i64 x, .int .i64 y] w fun e w' => NoCopy w e w' := by
  have h18 : l ≤ 8 := h1.2.1
  have h28 : k ≤ 8 := h2.2.1
  have hle := hle0
  clear hle0
  have H1 := hid h1
  have H2 := hid h2
  clear h1 h2
  go_enter Try.func103, Try.ntmps103
  go_wp2_with fail
  refine (right_yes a l _ H1.out).mono ?_
  rintro e w1 ⟨rfl, hF⟩
  have hB := (((Blk.new w #[.int .i64 a, .int .i64 l] 97).alloc (.cells #[.int .i64 b, .int .i64 k] 97)).keep hF id)
  have hB2 := ((Blk.new (w.alloc (.cells #[.int .i64 a, .int .i64 l] 97)) #[.int .i64 b, .int .i64 k] 97).at (n := w.heap.size + 1) (by simp)).keep hF id
  have c0 := hB2.cell (i := 0) rfl
  have c1 := hB2.cell (i := 1) rfl
  have hFw : Fr (fun _ => False) w w1 := (Fr.alloc _ _ _).trans ((Fr.alloc _ _ _).trans hF)
  clear hF
  go_wp2_with fail
  refine (right_yes b k _ H2.out).mono ?_
  rintro e w2 ⟨rfl, hF2⟩
  have HB := hid (hB.keep hF2 id)
  have HB2 := hid (hB2.keep hF2 id)
  have HFw := hid (hFw.trans hF2)
  obtain ⟨n, hn⟩ : ∃ n, pow l = n := ⟨_, rfl⟩
  obtain ⟨m, hm⟩ : ∃ n, pow k = n := ⟨_, rfl⟩
  have HS1 := hid (fun (v : World) => size_yes a l v H1.out)
  have HS2 := hid (fun (v : World) => size_yes b k v H2.out)
  rw [hn] at HS1
  rw [hm] at HS2
  have n1 := pow_pos l
  have n2 := pow_le l h18
  have m1 := pow_pos k
  have m2 := pow_le k h28
  rw [hn] at n1 n2
  rw [hm] at m1 m2
  obtain ⟨q, hq⟩ : ∃ q, (if m < n then m else n) = q := ⟨_, rfl⟩
  have hqn : q ≤ n ∧ q ≤ m ∧ 1 ≤ q ∧ q ≤ 256 ∧ (q = n ∨ q = m) := by rw [← hq]; split <;> omega
  have tq : IntKind.u64.wrap q = q := by rw [wrap_u64']; omega
  obtain ⟨x1, hx1⟩ : ∃ x1, IntKind.u64.wrap x = x1 := ⟨_, rfl⟩
  obtain ⟨y1, hy1⟩ : ∃ y1, IntKind.u64.wrap y = y1 := ⟨_, rfl⟩
  obtain ⟨d, hd⟩ : ∃ d, IntKind.u64.wrap (y1 - x1) = d := ⟨_, rfl⟩
  have hdd : x ≤ y → d = y - x := fun hxy => by
    rw [← hd, ← hx1, ← hy1, wrap_u64', wrap_u64', wrap_u64']
    unfold Fits at hx hy
    omega
  have t5 : decide (y < x) = false := by simp; omega
  have t6 : decide (q < d) = true := by have := hdd hle.1; have h := hle.2; rw [hn, hm] at h; simp; omega
  have HD := hid hdd
  have HQ := hid hqn
  have HN := hid hn
  have HM := hid hm
  clear hF2 hB hB2 c0 c1 hFw hn hm hx hy hdd hqn n1 n2 m1 m2 h18 h28 hle
  have HS := hid (show ∀ w', Fr (fun _ => False) w2 w' → w'.cell? ⟨w.heap.size, 0, none⟩ = some (.int .i64 a) ∧ w'.cell? ⟨w.heap.size, 1, none⟩ = some (.int .i64 l) ∧ w'.cell? ⟨w.heap.size + 1, 0, none⟩ = some (.int .i64 b) ∧ w'.cell? ⟨w.heap.size + 1, 1, none⟩ = some (.int .i64 k) from
    fun w' F => ⟨(HB.out.keep F id).cell rfl, (HB.out.keep F id).cell rfl, (HB2.out.keep F id).cell rfl, (HB2.out.keep F id).cell rfl⟩)
  have HFd := hid (Fr.refl (fun _ => False) w2)
  go_upto_region 3 with fail
  go_region_held3 (fun w' => w'.cell? ⟨w.heap.size, 0, none⟩ = some (.int .i64 a) ∧ w'.cell? ⟨w.heap.size, 1, none⟩ = some (.int .i64 l) ∧ w'.cell? ⟨w.heap.size + 1, 0, none⟩ = some (.int .i64 b) ∧ w'.cell? ⟨w.heap.size + 1, 1, none⟩ = some (.int .i64 k))
    (first | exact HS.out _ HFd.out | exact HS.out _ (HFd.out.trans (Fr.drew _ _)))
    (first
      | (go_at_call 64; first
          | (with_reducible refine (HS1.out _).mono ?_; rintro e w6 ⟨rfl, hF6⟩; have HFd := hid (HFd.out.trans (Fr.trans (by first | exact Fr.refl _ _ | exact Fr.drew _ _) hF6)); clear hF6)
          | (with_reducible refine (HS2.out _).mono ?_; rintro e w6 ⟨rfl, hF6⟩; have HFd := hid (HFd.out.trans (Fr.trans (by first | exact Fr.refl _ _ | exact Fr.drew _ _) hF6)); clear hF6)))
  all_goals
    go_wp2_with fail
    go_ret2
    exact ⟨rfl, HFw.out.trans HFd.out⟩

def CopyPost (a l b k x y : Int) (w : World) (e : Ending) (w' : World) : Prop :=
  ∃ c : Nat, e = .returned (.tuple #[.pointer (some ⟨c, 0, none⟩), .int .i64 0]) ∧ IsC w' c ⟨a, l, b, k, x, y, 0, false⟩ ∧ Fr (fun _ => False) w w' ∧ w.heap.size ≤ c

set_option maxRecDepth 100000 in
set_option maxHeartbeats 800000 in
theorem copy_ok (a l b k x y : Int) (w : World) (h1 : Rg.Right ⟨a, l⟩) (h2 : Rg.Right ⟨b, k⟩) (hx : Fits x) (hy : Fits y) (hle0 : x ≤ y ∧ (y - x ≤ pow l ∧ y - x ≤ pow k)) :
    Calls Try.prog 103 #[.agg #[.int .i64 a, .int .i64 l], .agg #[.int .i64 b, .int .i64 k], .int .i64 x, .int .i64 y] w fun e w' => CopyPost a l b k x y w e w' := by
  have h18 : l ≤ 8 := h1.2.1
  have h28 : k ≤ 8 := h2.2.1
  have hle := hle0
  clear hle0
  have H1 := hid h1
  have H2 := hid h2
  clear h1 h2
  go_enter Try.func103, Try.ntmps103
  go_wp2_with fail
  refine (right_yes a l _ H1.out).mono ?_
  rintro e w1 ⟨rfl, hF⟩
  have hB := (((Blk.new w #[.int .i64 a, .int .i64 l] 97).alloc (.cells #[.int .i64 b, .int .i64 k] 97)).keep hF id)
  have hB2 := ((Blk.new (w.alloc (.cells #[.int .i64 a, .int .i64 l] 97)) #[.int .i64 b, .int .i64 k] 97).at (n := w.heap.size + 1) (by simp)).keep hF id
  have c0 := hB2.cell (i := 0) rfl
  have c1 := hB2.cell (i := 1) rfl
  have hFw : Fr (fun _ => False) w w1 := (Fr.alloc _ _ _).trans ((Fr.alloc _ _ _).trans hF)
  clear hF
  go_wp2_with fail
  refine (right_yes b k _ H2.out).mono ?_
  rintro e w2 ⟨rfl, hF2⟩
  have HB := hid (hB.keep hF2 id)
  have HB2 := hid (hB2.keep hF2 id)
  have HFw := hid (hFw.trans hF2)
  obtain ⟨n, hn⟩ : ∃ n, pow l = n := ⟨_, rfl⟩
  obtain ⟨m, hm⟩ : ∃ n, pow k = n := ⟨_, rfl⟩
  have HS1 := hid (fun (v : World) => size_yes a l v H1.out)
  have HS2 := hid (fun (v : World) => size_yes b k v H2.out)
  rw [hn] at HS1
  rw [hm] at HS2
  have n1 := pow_pos l
  have n2 := pow_le l h18
  have m1 := pow_pos k
  have m2 := pow_le k h28
  rw [hn] at n1 n2
  rw [hm] at m1 m2
  obtain ⟨q, hq⟩ : ∃ q, (if m < n then m else n) = q := ⟨_, rfl⟩
  have hqn : q ≤ n ∧ q ≤ m ∧ 1 ≤ q ∧ q ≤ 256 ∧ (q = n ∨ q = m) := by rw [← hq]; split <;> omega
  have tq : IntKind.u64.wrap q = q := by rw [wrap_u64']; omega
  obtain ⟨x1, hx1⟩ : ∃ x1, IntKind.u64.wrap x = x1 := ⟨_, rfl⟩
  obtain ⟨y1, hy1⟩ : ∃ y1, IntKind.u64.wrap y = y1 := ⟨_, rfl⟩
  obtain ⟨d, hd⟩ : ∃ d, IntKind.u64.wrap (y1 - x1) = d := ⟨_, rfl⟩
  have hdd : x ≤ y → d = y - x := fun hxy => by
    rw [← hd, ← hx1, ← hy1, wrap_u64', wrap_u64', wrap_u64']
    unfold Fits at hx hy
    omega
  have t5 : decide (y < x) = false := by simp; omega
  have t6 : decide (q < d) = false := by have := hdd hle.1; have h := hle.2; rw [hn, hm] at h; simp; omega
  have HD := hid hdd
  have HQ := hid hqn
  have HN := hid hn
  have HM := hid hm
  clear hF2 hB hB2 c0 c1 hFw hn hm hx hy hdd hqn n1 n2 m1 m2 h18 h28 hle
  have HS := hid (show ∀ w', Fr (fun _ => False) w2 w' → w'.cell? ⟨w.heap.size, 0, none⟩ = some (.int .i64 a) ∧ w'.cell? ⟨w.heap.size, 1, none⟩ = some (.int .i64 l) ∧ w'.cell? ⟨w.heap.size + 1, 0, none⟩ = some (.int .i64 b) ∧ w'.cell? ⟨w.heap.size + 1, 1, none⟩ = some (.int .i64 k) from
    fun w' F => ⟨(HB.out.keep F id).cell rfl, (HB.out.keep F id).cell rfl, (HB2.out.keep F id).cell rfl, (HB2.out.keep F id).cell rfl⟩)
  have HFd := hid (Fr.refl (fun _ => False) w2)
  go_upto_region 3 with fail
  go_region_held3 (fun w' => w'.cell? ⟨w.heap.size, 0, none⟩ = some (.int .i64 a) ∧ w'.cell? ⟨w.heap.size, 1, none⟩ = some (.int .i64 l) ∧ w'.cell? ⟨w.heap.size + 1, 0, none⟩ = some (.int .i64 b) ∧ w'.cell? ⟨w.heap.size + 1, 1, none⟩ = some (.int .i64 k))
    (first | exact HS.out _ HFd.out | exact HS.out _ (HFd.out.trans (Fr.drew _ _)))
    (first
      | (go_at_call 64; first
          | (with_reducible refine (HS1.out _).mono ?_; rintro e w6 ⟨rfl, hF6⟩; have HFd := hid (HFd.out.trans (Fr.trans (by first | exact Fr.refl _ _ | exact Fr.drew _ _) hF6)); clear hF6)
          | (with_reducible refine (HS2.out _).mono ?_; rintro e w6 ⟨rfl, hF6⟩; have HFd := hid (HFd.out.trans (Fr.trans (by first | exact Fr.refl _ _ | exact Fr.drew _ _) hF6)); clear hF6)))
  all_goals
    have c00 := (HB.out.keep HFd.out id).cell (i := 0) rfl
    have c01 := (HB.out.keep HFd.out id).cell (i := 1) rfl
    have c10 := (HB2.out.keep HFd.out id).cell (i := 0) rfl
    have c11 := (HB2.out.keep HFd.out id).cell (i := 1) rfl
    go_wp2_with fail
    go_ret2
    refine ⟨w6.heap.size, rfl, ?_, ?_, Nat.le_trans HFw.out.size HFd.out.size⟩
    · exact Blk.new w6 _ _
    · exact (HFw.out.trans HFd.out).trans (Fr.alloc _ _ _)
end Go.Proofs.Ytiofdfgcghiibaa
