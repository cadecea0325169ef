/-
  Scopes: what each call tells where its scope is not found (walks).
-/
import Derived.Test.YtoajdknhllaoeaaSf
namespace Go.Proofs.Ytoajdknhllaoeaa
open Go.RowKit
set_option linter.unusedVariables false

/-- find tells an error. -/
def FErr (tv mv : Value) (s er : Int) (w : World) : Prop := er ≠ 0 ∧ ∀ W, Fr (fun _ => False) w W → Calls Try.prog 39 #[tv, mv, .int .i64 s] W fun e w' => e = .returned (.tuple #[.agg #[.int .i64 0, .int .i64 0], .int .i64 er]) ∧ Fr (fun _ => False) W w'

theorem FErr.same {tv mv : Value} {s er : Int} {w w' : World} (h : FErr tv mv s er w) (F : Fr (fun _ => False) w w') : FErr tv mv s er w' := ⟨h.1, fun W FW => h.2 W (F.trans FW)⟩

section
variable {O : Nat → Prop} {b : MB} {tb : Nat} {T : Sc} (w : World)

set_option maxRecDepth 100000 in
set_option maxHeartbeats 1000000 in
theorem find_none (x : Int) (hx : isB T.n x = false) (h : Trm w O b tb T) : Calls Try.prog 39 #[.pointer (some ⟨tb, 0, none⟩), .pointer (some ⟨b.m, 0, none⟩), .int .i64 x] w fun e w' => e = .returned (.tuple #[.agg #[.int .i64 0, .int .i64 0], .int .i64 17]) ∧ Fr (fun _ => False) w w' := by
  have HA := hid (fun (W : World) (F : Fr (fun _ => False) w W) (g : Nat) (hg : Blk W g #[.int .i64 x]) => are_one W x g false (h.same F) hg hx)
  clear h hx
  go_enter Try.func39, Try.ntmps39
  go_wp2_with fail
  have hR0 : Blk (w.alloc (.cells #[.int .i64 0, .int .i64 0] 83)) w.heap.size #[.int .i64 0, .int .i64 0] := Blk.new _ _ _
  have hF1 : Fr (fun _ => False) w ((w.alloc (.cells #[.int .i64 0, .int .i64 0] 83)).alloc (.cells #[.int .i64 x] 3)) := (Fr.alloc _ _ _).trans (Fr.alloc _ _ _)
  have hB1 : Blk ((w.alloc (.cells #[.int .i64 0, .int .i64 0] 83)).alloc (.cells #[.int .i64 x] 3)) (w.heap.size + 1) #[.int .i64 x] := (Blk.new _ _ _).at (by simp)
  have hR1 := hR0.alloc (.cells #[.int .i64 x] 3)
  obtain ⟨w1, hw1⟩ : ∃ w1, (w.alloc (.cells #[.int .i64 0, .int .i64 0] 83)).alloc (.cells #[.int .i64 x] 3) = w1 := ⟨_, rfl⟩
  rw [hw1] at hF1 hB1 hR1 ⊢
  clear hw1 hR0
  refine (HA.out w1 hF1 _ hB1).mono ?_
  rintro e w2 ⟨rfl, rfl⟩
  have q0 : w1.cell? ⟨w.heap.size, 0, none⟩ = some (.int .i64 0) := hR1.cell rfl
  have q1 : w1.cell? ⟨w.heap.size, 1, none⟩ = some (.int .i64 0) := hR1.cell rfl
  have f0 := hR1.frozen 0
  have f1 := hR1.frozen 1
  go_wp2_with fail
  obtain ⟨w9, hw9⟩ : ∃ w9, w9 = (w1.setCell ⟨w.heap.size, 0, none⟩ (.int .i64 0)).setCell ⟨w.heap.size, 1, none⟩ (.int .i64 0) := ⟨_, rfl⟩
  have hR9 : Blk w9 w.heap.size #[.int .i64 0, .int .i64 0] := by rw [hw9]; exact hR1.set2 _ _
  have hF9 : Fr (fun k => k = w.heap.size) w1 w9 := by rw [hw9]; exact fr_set2 _ _ _ _
  rw [← hw9]
  have p0 : w9.cell? ⟨w.heap.size, 0, none⟩ = some (.int .i64 0) := hR9.cell rfl
  have p1 : w9.cell? ⟨w.heap.size, 1, none⟩ = some (.int .i64 0) := hR9.cell rfl
  clear hw9 q0 q1 f0 f1
  refine bodyPost_ret (v := .tuple #[.agg #[.int .i64 0, .int .i64 0], .int .i64 17]) ?hv rfl ?hp
  case hv => (simp [results, Try.results39, go_sem, p0, p1]; try rfl)
  case hp => exact ⟨rfl, hF1.since hF9 (fun i hi hl => by omega)⟩

set_option maxRecDepth 100000 in
set_option maxHeartbeats 1000000 in
theorem find_nil (mv : Value) (x : Int) : Calls Try.prog 39 #[.pointer none, mv, .int .i64 x] w fun e w' => e = .returned (.tuple #[.agg #[.int .i64 0, .int .i64 0], .int .i64 2]) ∧ Fr (fun _ => False) w w' := by
  go_enter Try.func39, Try.ntmps39
  go_upto_region 2 with fail
  have hR1 : Blk (w.alloc (.cells #[.int .i64 0, .int .i64 0] 83)) w.heap.size #[.int .i64 0, .int .i64 0] := Blk.new _ _ _
  have hF1 : Fr (fun _ => False) w (w.alloc (.cells #[.int .i64 0, .int .i64 0] 83)) := Fr.alloc _ _ _
  obtain ⟨w1, hw1⟩ : ∃ w1, w.alloc (.cells #[.int .i64 0, .int .i64 0] 83) = w1 := ⟨_, rfl⟩
  rw [hw1] at hF1 hR1 ⊢
  clear hw1
  have q0 : w1.cell? ⟨w.heap.size, 0, none⟩ = some (.int .i64 0) := hR1.cell rfl
  have q1 : w1.cell? ⟨w.heap.size, 1, none⟩ = some (.int .i64 0) := hR1.cell rfl
  have f0 := hR1.frozen 0
  have f1 := hR1.frozen 1
  go_wp2_with fail
  obtain ⟨w9, hw9⟩ : ∃ w9, w9 = (w1.setCell ⟨w.heap.size, 0, none⟩ (.int .i64 0)).setCell ⟨w.heap.size, 1, none⟩ (.int .i64 0) := ⟨_, rfl⟩
  have hR9 : Blk w9 w.heap.size #[.int .i64 0, .int .i64 0] := by rw [hw9]; exact hR1.set2 _ _
  have hF9 : Fr (fun k => k = w.heap.size) w1 w9 := by rw [hw9]; exact fr_set2 _ _ _ _
  rw [← hw9]
  have p0 : w9.cell? ⟨w.heap.size, 0, none⟩ = some (.int .i64 0) := hR9.cell rfl
  have p1 : w9.cell? ⟨w.heap.size, 1, none⟩ = some (.int .i64 0) := hR9.cell rfl
  clear hw9 q0 q1 f0 f1
  refine bodyPost_ret (v := .tuple #[.agg #[.int .i64 0, .int .i64 0], .int .i64 2]) ?hv rfl ?hp
  case hv => (simp [results, Try.results39, go_sem, p0, p1]; try rfl)
  case hp => exact ⟨rfl, hF1.since hF9 (fun i hi hl => by omega)⟩

set_option maxRecDepth 100000 in
set_option maxHeartbeats 1000000 in
theorem find_nom (x : Int) : Calls Try.prog 39 #[.pointer (some ⟨tb, 0, none⟩), .pointer none, .int .i64 x] w fun e w' => e = .returned (.tuple #[.agg #[.int .i64 0, .int .i64 0], .int .i64 2]) ∧ Fr (fun _ => False) w w' := by
  go_enter Try.func39, Try.ntmps39
  go_upto_region 2 with fail
  have hR1 : Blk (w.alloc (.cells #[.int .i64 0, .int .i64 0] 83)) w.heap.size #[.int .i64 0, .int .i64 0] := Blk.new _ _ _
  have hF1 : Fr (fun _ => False) w (w.alloc (.cells #[.int .i64 0, .int .i64 0] 83)) := Fr.alloc _ _ _
  obtain ⟨w1, hw1⟩ : ∃ w1, w.alloc (.cells #[.int .i64 0, .int .i64 0] 83) = w1 := ⟨_, rfl⟩
  rw [hw1] at hF1 hR1 ⊢
  clear hw1
  have q0 : w1.cell? ⟨w.heap.size, 0, none⟩ = some (.int .i64 0) := hR1.cell rfl
  have q1 : w1.cell? ⟨w.heap.size, 1, none⟩ = some (.int .i64 0) := hR1.cell rfl
  have f0 := hR1.frozen 0
  have f1 := hR1.frozen 1
  go_wp2_with fail
  obtain ⟨w9, hw9⟩ : ∃ w9, w9 = (w1.setCell ⟨w.heap.size, 0, none⟩ (.int .i64 0)).setCell ⟨w.heap.size, 1, none⟩ (.int .i64 0) := ⟨_, rfl⟩
  have hR9 : Blk w9 w.heap.size #[.int .i64 0, .int .i64 0] := by rw [hw9]; exact hR1.set2 _ _
  have hF9 : Fr (fun k => k = w.heap.size) w1 w9 := by rw [hw9]; exact fr_set2 _ _ _ _
  rw [← hw9]
  have p0 : w9.cell? ⟨w.heap.size, 0, none⟩ = some (.int .i64 0) := hR9.cell rfl
  have p1 : w9.cell? ⟨w.heap.size, 1, none⟩ = some (.int .i64 0) := hR9.cell rfl
  clear hw9 q0 q1 f0 f1
  refine bodyPost_ret (v := .tuple #[.agg #[.int .i64 0, .int .i64 0], .int .i64 2]) ?hv rfl ?hp
  case hv => (simp [results, Try.results39, go_sem, p0, p1]; try rfl)
  case hp => exact ⟨rfl, hF1.since hF9 (fun i hi hl => by omega)⟩


theorem ferr_none (x : Int) (hx : isB T.n x = false) (h : Trm w O b tb T) : FErr (.pointer (some ⟨tb, 0, none⟩)) (.pointer (some ⟨b.m, 0, none⟩)) x 17 w := ⟨by decide, fun W F => find_none W x hx (h.same F)⟩
theorem ferr_nil (mv : Value) (x : Int) : FErr (.pointer none) mv x 2 w := ⟨by decide, fun W F => find_nil W mv x⟩
theorem ferr_nom (tb : Nat) (x : Int) : FErr (.pointer (some ⟨tb, 0, none⟩)) (.pointer none) x 2 w := ⟨by decide, fun W F => find_nom W x⟩

set_option maxRecDepth 100000 in
set_option maxHeartbeats 1000000 in
theorem open_err (tv mv : Value) (x s er : Int) (w : World) (h : FErr tv mv s er w) : Calls Try.prog 14 #[tv, mv, .int .i64 x, .int .i64 s] w fun e w' => e = .returned (.tuple #[.int .i64 0, .int .i64 er]) ∧ Fr (fun _ => False) w w' := by
  have HE := hid h
  have t1 : (er != 0) = true := by simpa using h.1
  clear h
  go_enter Try.func14, Try.ntmps14
  go_wp2_with fail
  refine (HE.out.2 _ (Fr.refl _ _)).mono ?_
  rintro e w1 ⟨rfl, hF⟩
  go_wp2_with fail
  go_ret2
  exact ⟨rfl, hF.trans (Fr.alloc _ _ _)⟩

set_option maxRecDepth 100000 in
set_option maxHeartbeats 1000000 in
theorem count_err (tv mv : Value) (x s v er : Int) (w : World) (h : FErr tv mv s er w) : Calls Try.prog 40 #[tv, mv, .int .i64 x, .int .i64 s, .int .i64 v] w fun e w' => e = .returned (.tuple #[.int .i64 0, .int .i64 er]) ∧ Fr (fun _ => False) w w' := by
  have HE := hid h
  have t1 : (er != 0) = true := by simpa using h.1
  clear h
  go_enter Try.func40, Try.ntmps40
  go_wp2_with fail
  refine (HE.out.2 _ (Fr.refl _ _)).mono ?_
  rintro e w1 ⟨rfl, hF⟩
  go_wp2_with fail
  go_ret2
  exact ⟨rfl, hF.trans (Fr.alloc _ _ _)⟩

set_option maxRecDepth 100000 in
set_option maxHeartbeats 1000000 in
theorem enter_err (tv mv : Value) (x s er : Int) (w : World) (h : FErr tv mv s er w) : Calls Try.prog 16 #[tv, mv, .int .i64 x, .int .i64 s] w fun e w' => e = .returned (.int .i64 er) ∧ Fr (fun _ => False) w w' := by
  have HE := hid h
  have t1 : (er != 0) = true := by simpa using h.1
  clear h
  go_enter Try.func16, Try.ntmps16
  go_wp2_with fail
  refine (count_err tv mv x s 1 er _ HE.out).mono ?_
  rintro e w1 ⟨rfl, hF⟩
  go_wp2_with fail
  go_ret
  exact ⟨rfl, hF⟩

set_option maxRecDepth 100000 in
set_option maxHeartbeats 1000000 in
theorem leave_err (tv mv : Value) (x s er : Int) (w : World) (h : FErr tv mv s er w) : Calls Try.prog 17 #[tv, mv, .int .i64 x, .int .i64 s] w fun e w' => e = .returned (.tuple #[.bool false, .int .i64 er]) ∧ Fr (fun _ => False) w w' := by
  have HE := hid h
  have t1 : (er != 0) = true := by simpa using h.1
  clear h
  go_enter Try.func17, Try.ntmps17
  go_wp2_with fail
  refine (count_err tv mv x s (-1) er _ HE.out).mono ?_
  rintro e w1 ⟨rfl, hF⟩
  go_wp2_with fail
  go_ret2
  exact ⟨rfl, hF⟩

set_option maxRecDepth 100000 in
set_option maxHeartbeats 1000000 in
theorem live_err (tv mv : Value) (x s er : Int) (w : World) (h : FErr tv mv s er w) : Calls Try.prog 18 #[tv, mv, .int .i64 x, .int .i64 s] w fun e w' => e = .returned (.tuple #[.int .i64 0, .int .i64 er]) ∧ Fr (fun _ => False) w w' := by
  have HE := hid h
  have t1 : (er != 0) = true := by simpa using h.1
  clear h
  go_enter Try.func18, Try.ntmps18
  go_wp2_with fail
  refine (HE.out.2 _ (Fr.refl _ _)).mono ?_
  rintro e w1 ⟨rfl, hF⟩
  go_wp2_with fail
  go_ret2
  exact ⟨rfl, hF.trans (Fr.alloc _ _ _)⟩

set_option maxRecDepth 100000 in
set_option maxHeartbeats 1000000 in
theorem ask_err (tv mv : Value) (x s er : Int) (w : World) (h : FErr tv mv s er w) : Calls Try.prog 19 #[tv, mv, .int .i64 x, .int .i64 s] w fun e w' => e = .returned (.tuple #[.bool false, .int .i64 er]) ∧ Fr (fun _ => False) w w' := by
  have HE := hid h
  have t1 : (er != 0) = true := by simpa using h.1
  clear h
  go_enter Try.func19, Try.ntmps19
  go_wp2_with fail
  refine (HE.out.2 _ (Fr.refl _ _)).mono ?_
  rintro e w1 ⟨rfl, hF⟩
  go_wp2_with fail
  go_ret2
  exact ⟨rfl, hF.trans (Fr.alloc _ _ _)⟩

set_option maxRecDepth 100000 in
set_option maxHeartbeats 1000000 in
theorem asked_err (tv mv : Value) (x s er : Int) (w : World) (h : FErr tv mv s er w) : Calls Try.prog 20 #[tv, mv, .int .i64 x, .int .i64 s] w fun e w' => e = .returned (.tuple #[.bool false, .int .i64 er]) ∧ Fr (fun _ => False) w w' := by
  have HE := hid h
  have t1 : (er != 0) = true := by simpa using h.1
  clear h
  go_enter Try.func20, Try.ntmps20
  go_wp2_with fail
  refine (HE.out.2 _ (Fr.refl _ _)).mono ?_
  rintro e w1 ⟨rfl, hF⟩
  go_wp2_with fail
  go_ret2
  exact ⟨rfl, hF.trans (Fr.alloc _ _ _)⟩

set_option maxRecDepth 100000 in
set_option maxHeartbeats 1000000 in
theorem peek_err (tv mv : Value) (s er : Int) (w : World) (h : FErr tv mv s er w) : Calls Try.prog 24 #[tv, mv, .int .i64 s] w fun e w' => e = .returned (.tuple #[.bool false, .int .i64 0]) ∧ Fr (fun _ => False) w w' := by
  have HE := hid h
  have t1 : (er != 0) = true := by simpa using h.1
  clear h
  go_enter Try.func24, Try.ntmps24
  go_wp2_with fail
  refine (HE.out.2 _ (Fr.refl _ _)).mono ?_
  rintro e w1 ⟨rfl, hF⟩
  go_wp2_with fail
  go_ret2
  exact ⟨rfl, hF.trans (Fr.alloc _ _ _)⟩

end
end Go.Proofs.Ytoajdknhllaoeaa
