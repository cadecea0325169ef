/-
  Whether a task is the document's.
-/
import Derived.Test.YtedpgfldkjimpaaDoorBase
namespace Go.Proofs.YtedpgfldkjimpaaDoor
open Go.RowKit
set_option linter.unusedVariables false

theorem selfR (x : Nat → Int) (w : World) : (binOp .eql 22 (.agg #[.int .i64 (x 0), .int .i64 (x 1), .int .i64 (x 2), .int .i64 (x 3), .int .i64 (x 4), .int .i64 (x 5), .int .i64 (x 6), .int .i64 (x 7)]) (.agg #[.int .i64 (x 0), .int .i64 (x 1), .int .i64 (x 2), .int .i64 (x 3), .int .i64 (x 4), .int .i64 (x 5), .int .i64 (x 6), .int .i64 (x 7)])).run Tryd.prog w = .ok (.bool true) w := by
  have h := bopR x x w
  rw [sameN_self] at h
  exact h
theorem selfH (x : Nat → Int) (w : World) : (binOp .eql 23 (.agg #[.int .i64 (x 0), .int .i64 (x 1), .int .i64 (x 2), .int .i64 (x 3), .int .i64 (x 4), .int .i64 (x 5), .int .i64 (x 6), .int .i64 (x 7)]) (.agg #[.int .i64 (x 0), .int .i64 (x 1), .int .i64 (x 2), .int .i64 (x 3), .int .i64 (x 4), .int .i64 (x 5), .int .i64 (x 6), .int .i64 (x 7)])).run Tryd.prog w = .ok (.bool true) w := by
  have h := bopH x x w
  rw [sameN_self] at h
  exact h
theorem selfR' (x : Nat → Int) (w : World) : (Op.equalIn 10000 22 (.agg #[.int .i64 (x 0), .int .i64 (x 1), .int .i64 (x 2), .int .i64 (x 3), .int .i64 (x 4), .int .i64 (x 5), .int .i64 (x 6), .int .i64 (x 7)]) (.agg #[.int .i64 (x 0), .int .i64 (x 1), .int .i64 (x 2), .int .i64 (x 3), .int .i64 (x 4), .int .i64 (x 5), .int .i64 (x 6), .int .i64 (x 7)])).run Tryd.prog w = .ok true w := by
  have h := eqR 9998 x x w
  rw [sameN_self] at h
  exact h
theorem selfH' (x : Nat → Int) (w : World) : (Op.equalIn 10000 23 (.agg #[.int .i64 (x 0), .int .i64 (x 1), .int .i64 (x 2), .int .i64 (x 3), .int .i64 (x 4), .int .i64 (x 5), .int .i64 (x 6), .int .i64 (x 7)]) (.agg #[.int .i64 (x 0), .int .i64 (x 1), .int .i64 (x 2), .int .i64 (x 3), .int .i64 (x 4), .int .i64 (x 5), .int .i64 (x 6), .int .i64 (x 7)])).run Tryd.prog w = .ok true w := by
  have h := eqH 9998 x x w
  rw [sameN_self] at h
  exact h

set_option maxRecDepth 100000 in
set_option maxHeartbeats 1000000 in
theorem same_any {cel : Frm → Array Value} (hC : Cel cel) (F : Frm) (w : World) : Calls Tryd.prog 16 #[.agg (cel F), .agg (cel F)] w fun e w' => e = .returned (.bool true) ∧ Fr (fun _ => False) w w' := by
  obtain ⟨w1, hw1⟩ : ∃ w1, w1 = (w.alloc (.cells (cel F) 25)).alloc (.cells (cel F) 32) := ⟨_, rfl⟩
  have HA := hid (show Fr (fun _ => False) w w1 by rw [hw1]; exact (Fr.alloc _ _ _).trans (Fr.alloc _ _ _))
  have HB := hid (show Blk w1 w.heap.size (cel F) by rw [hw1]; exact (Blk.new _ _ _).alloc _)
  have HZ := hid (show Blk w1 (w.heap.size + 1) (cel F) by rw [hw1]; exact (Blk.new _ _ _).at (by simp))
  obtain ⟨q0, q1, q18⟩ := hC.all F HB.out
  obtain ⟨p0, p1, p18⟩ := hC.all F HZ.out
  obtain ⟨q2, q3, q4, q5, q6, q7, q8, q9⟩ := hC.regs F HB.out
  obtain ⟨p2, p3, p4, p5, p6, p7, p8, p9⟩ := hC.regs F HZ.out
  obtain ⟨q10, q11, q12, q13, q14, q15, q16, q17⟩ := hC.hands F HB.out
  obtain ⟨p10, p11, p12, p13, p14, p15, p16, p17⟩ := hC.hands F HZ.out
  have s1 := selfR F.r
  have s2 := selfH F.h
  have s3 := selfR' F.r
  have s4 := selfH' F.h
  go_enter Tryd.func16, Tryd.ntmps16
  go_upto_region 1 with fail
  rw [← hw1]
  clear hw1
  go_wp2_with fail
  go_ret
  exact ⟨rfl, HA.out⟩

end Go.Proofs.YtedpgfldkjimpaaDoor
