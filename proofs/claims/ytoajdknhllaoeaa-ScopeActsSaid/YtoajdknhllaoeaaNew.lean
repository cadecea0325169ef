/-
  A new machine, as the document says.
-/
import Derived.Test.YtoajdknhllaoeaaBegin
import Derived.Deep.OwnRows
namespace Go.Proofs.Ytoajdknhllaoeaa
open Go.RowKit
set_option linter.unusedVariables false

theorem Try.infoi : (Try.prog.info? 3).map (fun i => (i.zero, i.size, i.bytes)) = some (some (.int .i64 0), 1, 8) := by kernel_rfl
theorem Try.infol : (Try.prog.info? 2).map (fun i => (i.zero, i.size, i.bytes)) = some (some (.int .i64 0), 1, 8) := by kernel_rfl

theorem made_ints (n : Nat) : madeCells #[.int .i64 0] n = ints (List.replicate n 0) := by
  apply Array.ext
  · simp [size_madeCells, ints]
  · intro i h1 h2
    simp [madeCells, ints, Nat.mod_one]

set_option maxHeartbeats 400000 in
theorem new_no (x y : Int) (w : World) (h : ¬ (1 ≤ x ∧ x ≤ 1048576 ∧ 1 ≤ y ∧ y ≤ 16)) :
    Calls Try.prog 10 #[.int .i64 x, .int .i64 y] w fun e w' => e = .returned (.tuple #[.pointer none, .int .i64 10]) ∧ w = w' := by
  by_cases h1 : x < 1
  · go_enter Try.func10, Try.ntmps10
    go_wp2
    go_ret2
    exact ⟨rfl, rfl⟩
  · by_cases h2 : 1048576 < x
    · go_enter Try.func10, Try.ntmps10
      go_wp2
      go_ret2
      exact ⟨rfl, rfl⟩
    · by_cases h3 : y < 1
      · go_enter Try.func10, Try.ntmps10
        go_wp2
        go_ret2
        exact ⟨rfl, rfl⟩
      · have h4 : 16 < y := by omega
        go_enter Try.func10, Try.ntmps10
        go_wp2
        go_ret2
        exact ⟨rfl, rfl⟩

def NewPost (n k : Nat) (w : World) (e : Ending) (w' : World) : Prop :=
  ∃ b : MB, e = .returned (.tuple #[.pointer (some ⟨b.m, 0, none⟩), .int .i64 0]) ∧ IsM w' b ⟨List.replicate n 0, 0, List.replicate (k + 1) 0⟩ ∧ Fr (fun _ => False) w w' ∧ ∀ i, b.own i → w.heap.size ≤ i

theorem rep_free (n i : Nat) : (List.replicate n (0 : Int)).getD i 0 = 0 := by
  rw [List.getD_eq_getElem?_getD, List.getElem?_replicate]
  split <;> rfl

theorem new_fin1 (n k : Nat) (w : World) (h2 : n ≤ 1048576) (h4 : k ≤ 16) : NewPost n k w (.returned (.tuple #[.pointer (some ⟨w.heap.size + 1 + 1, 0, none⟩), .int .i64 0]))
    (((w.alloc (.cells (madeCells #[.int .i64 0] n) 2)).alloc (.cells (madeCells #[.int .i64 0] (k + 1)) 3)).alloc
      (.cells #[.slice (some ⟨w.heap.size, 0, none⟩) 0 n, .int .i64 n, .slice (some ⟨w.heap.size + 1, 0, none⟩) (k + 1) (k + 1)] 78)).drew := by
  refine ⟨⟨w.heap.size + 1 + 1, w.heap.size, w.heap.size + 1, k + 1, #[]⟩, rfl, ⟨?_, ?_, ?_, by simp; omega, by simp, by simp, by simp, fun i _ => rep_free n i, by simpa using h2, by simpa using h4⟩, ?_, ?_⟩
  · simpa using ((Blk.new _ _ _).at (by simp)).drew
  · rw [made_ints n]
    exact (((Blk.new _ _ _).alloc _).alloc _).drew
  · rw [made_ints (k + 1)]
    exact ((((Blk.new _ _ _).at (by simp))).alloc _).drew
  · exact (((Fr.alloc _ _ _).trans (Fr.alloc _ _ _)).trans (Fr.alloc _ _ _)).trans (Fr.drew _ _)
  · rintro i (rfl | rfl | rfl) <;> simp <;> omega

theorem new_fin2 (n k : Nat) (w : World) (h2 : n ≤ 1048576) (h4 : k ≤ 16) : NewPost n k w (.returned (.tuple #[.pointer (some ⟨w.heap.size + 1 + 1, 0, none⟩), .int .i64 0]))
    (((w.alloc (.cells (madeCells #[.int .i64 0] (k + 1)) 3)).alloc (.cells (madeCells #[.int .i64 0] n) 2)).alloc
      (.cells #[.slice (some ⟨w.heap.size + 1, 0, none⟩) 0 n, .int .i64 n, .slice (some ⟨w.heap.size, 0, none⟩) (k + 1) (k + 1)] 78)).drew := by
  refine ⟨⟨w.heap.size + 1 + 1, w.heap.size + 1, w.heap.size, k + 1, #[]⟩, rfl, ⟨?_, ?_, ?_, by simp, by simp; omega, by simp, by simp, fun i _ => rep_free n i, by simpa using h2, by simpa using h4⟩, ?_, ?_⟩
  · simpa using ((Blk.new _ _ _).at (by simp)).drew
  · rw [made_ints n]
    exact ((((Blk.new _ _ _).at (by simp))).alloc _).drew
  · rw [made_ints (k + 1)]
    exact (((Blk.new _ _ _).alloc _).alloc _).drew
  · exact (((Fr.alloc _ _ _).trans (Fr.alloc _ _ _)).trans (Fr.alloc _ _ _)).trans (Fr.drew _ _)
  · rintro i (rfl | rfl | rfl) <;> simp <;> omega

set_option maxHeartbeats 400000 in
theorem new_ok (n k : Nat) (w : World) (h1 : 1 ≤ n) (h2 : n ≤ 1048576) (h3 : 1 ≤ k) (h4 : k ≤ 16) :
    Calls Try.prog 10 #[.int .i64 n, .int .i64 k] w fun e w' => NewPost n k w e w' := by
  have t1 : ¬ (n : Int) < 1 := by omega
  have t2 : ¬ (1048576 : Int) < n := by omega
  have t3 : ¬ (k : Int) < 1 := by omega
  have t4 : ¬ (16 : Int) < k := by omega
  have m1 := run_make_row' (P := Try.prog) 41 2 (.int .i64 0) 8 Try.underlying41 Try.infol rfl .i64 .i64 n (by omega) (by omega)
  have m2 := run_make_row' (P := Try.prog) 39 3 (.int .i64 0) 8 Try.underlying39 Try.infoi rfl .i64 .i64 (k + 1) (by omega) (by omega)
  rw [show ((k + 1 : Nat) : Int) = (k : Int) + 1 by omega] at m2
  go_enter Try.func10, Try.ntmps10
  go_wp2
  go_region
  · go_wp2
    go_ret2
    exact new_fin1 n k w h2 h4
  · go_wp2
    go_ret2
    exact new_fin2 n k w h2 h4
end Go.Proofs.Ytoajdknhllaoeaa
