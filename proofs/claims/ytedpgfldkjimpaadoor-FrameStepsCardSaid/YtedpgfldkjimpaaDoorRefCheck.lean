/-
  The document's Check.
-/
import Derived.Test.YtedpgfldkjimpaaDoorCheck
import Derived.Deep.LoopGhost
namespace Go.Proofs.YtedpgfldkjimpaaDoor
open Go.RowKit

def spn (o : Nat) : Array Value := #[.int .i64 (lo o 0), .int .i64 (hi o 0), .int .i64 (lo o 1), .int .i64 (hi o 1), .int .i64 (lo o 2), .int .i64 (hi o 2), .int .i64 (lo o 3), .int .i64 (hi o 3)]

theorem ret_agg {a b : Array Value} (h : a = b) : Ending.returned (.agg a) = .returned (.agg b) := by rw [h]

set_option maxHeartbeats 2000000 in
theorem spans_ok (o : Nat) (w : World) (ho : o ≤ 16) :
    Calls Tryd.prog 51 #[.int .i64 o] w fun e w' => e = .returned (.agg (spn o)) ∧ Fr (fun _ => False) w w' := by
  have hm : o = 0 ∨ o = 1 ∨ o = 2 ∨ o = 3 ∨ o = 4 ∨ o = 5 ∨ o = 6 ∨ o = 7 ∨ o = 8 ∨ o = 9 ∨ o = 10 ∨ o = 11 ∨ o = 12 ∨ o = 13 ∨ o = 14 ∨ o = 15 ∨ o = 16 := by omega
  rcases hm with rfl | rfl | rfl | rfl | rfl | rfl | rfl | rfl | rfl | rfl | rfl | rfl | rfl | rfl | rfl | rfl | rfl
  · go_enter Tryd.func51, Tryd.ntmps51
    go_wp2
    exact bodyPost_ret (v := .agg (spn 0)) (by simp [results, Tryd.results51, go_sem]; try rfl) rfl ⟨rfl, Fr.alloc _ _ _⟩
  · go_enter Tryd.func51, Tryd.ntmps51
    go_wp2
    exact bodyPost_ret (v := .agg (spn 1)) (by simp [results, Tryd.results51, go_sem]; try rfl) rfl ⟨rfl, Fr.alloc _ _ _⟩
  · go_enter Tryd.func51, Tryd.ntmps51
    go_wp2
    exact bodyPost_ret (v := .agg (spn 2)) (by simp [results, Tryd.results51, go_sem]; try rfl) rfl ⟨rfl, Fr.alloc _ _ _⟩
  · go_enter Tryd.func51, Tryd.ntmps51
    go_wp2
    exact bodyPost_ret (v := .agg (spn 3)) (by simp [results, Tryd.results51, go_sem]; try rfl) rfl ⟨rfl, Fr.alloc _ _ _⟩
  · go_enter Tryd.func51, Tryd.ntmps51
    go_wp2
    exact bodyPost_ret (v := .agg (spn 4)) (by simp [results, Tryd.results51, go_sem]; try rfl) rfl ⟨rfl, Fr.alloc _ _ _⟩
  · go_enter Tryd.func51, Tryd.ntmps51
    go_wp2
    exact bodyPost_ret (v := .agg (spn 5)) (by simp [results, Tryd.results51, go_sem]; try rfl) rfl ⟨rfl, Fr.alloc _ _ _⟩
  · go_enter Tryd.func51, Tryd.ntmps51
    go_wp2
    exact bodyPost_ret (v := .agg (spn 6)) (by simp [results, Tryd.results51, go_sem]; try rfl) rfl ⟨rfl, Fr.alloc _ _ _⟩
  · go_enter Tryd.func51, Tryd.ntmps51
    go_wp2
    exact bodyPost_ret (v := .agg (spn 7)) (by simp [results, Tryd.results51, go_sem]; try rfl) rfl ⟨rfl, Fr.alloc _ _ _⟩
  · go_enter Tryd.func51, Tryd.ntmps51
    go_wp2
    exact bodyPost_ret (v := .agg (spn 8)) (by simp [results, Tryd.results51, go_sem]; try rfl) rfl ⟨rfl, Fr.alloc _ _ _⟩
  · go_enter Tryd.func51, Tryd.ntmps51
    go_wp2
    exact bodyPost_ret (v := .agg (spn 9)) (by simp [results, Tryd.results51, go_sem]; try rfl) rfl ⟨rfl, Fr.alloc _ _ _⟩
  · go_enter Tryd.func51, Tryd.ntmps51
    go_wp2
    exact bodyPost_ret (v := .agg (spn 10)) (by simp [results, Tryd.results51, go_sem]; try rfl) rfl ⟨rfl, Fr.alloc _ _ _⟩
  · go_enter Tryd.func51, Tryd.ntmps51
    go_wp2
    exact bodyPost_ret (v := .agg (spn 11)) (by simp [results, Tryd.results51, go_sem]; try rfl) rfl ⟨rfl, Fr.alloc _ _ _⟩
  · go_enter Tryd.func51, Tryd.ntmps51
    go_wp2
    exact bodyPost_ret (v := .agg (spn 12)) (by simp [results, Tryd.results51, go_sem]; try rfl) rfl ⟨rfl, Fr.alloc _ _ _⟩
  · go_enter Tryd.func51, Tryd.ntmps51
    go_wp2
    exact bodyPost_ret (v := .agg (spn 13)) (by simp [results, Tryd.results51, go_sem]; try rfl) rfl ⟨rfl, Fr.alloc _ _ _⟩
  · go_enter Tryd.func51, Tryd.ntmps51
    go_wp2
    exact bodyPost_ret (v := .agg (spn 14)) (by simp [results, Tryd.results51, go_sem]; try rfl) rfl ⟨rfl, Fr.alloc _ _ _⟩
  · go_enter Tryd.func51, Tryd.ntmps51
    go_wp2
    exact bodyPost_ret (v := .agg (spn 15)) (by simp [results, Tryd.results51, go_sem]; try rfl) rfl ⟨rfl, Fr.alloc _ _ _⟩
  · go_enter Tryd.func51, Tryd.ntmps51
    go_wp2
    exact bodyPost_ret (v := .agg (spn 16)) (by simp [results, Tryd.results51, go_sem]; try rfl) rfl ⟨rfl, Fr.alloc _ _ _⟩

set_option maxHeartbeats 400000 in
theorem rcheck_op (i : Ins) (w : World) (ho : i.op < 0 ∨ 16 < i.op) :
    Calls Tryd.prog 23 #[i.val] w fun e w' => e = .returned (.int .i64 13) ∧ Fr (fun _ => False) w w' := by
  obtain ⟨op, a, b, c, n⟩ := i
  unfold Ins.val
  rcases ho with ho | ho
  · simp only at ho
    go_enter Tryd.func23, Tryd.ntmps23
    go_wp2
    go_ret
    exact ⟨rfl, Fr.alloc _ _ _⟩
  · simp only at ho
    have t1 : ¬ op < 0 := by omega
    go_enter Tryd.func23, Tryd.ntmps23
    go_wp2
    go_ret
    exact ⟨rfl, Fr.alloc _ _ _⟩

def RCRel (o : Nat) (f : Nat → Int) (w0 : World) (d : Nat) (k : Value) (wr : World) : Prop := ∃ j : Nat, j ≤ 4 ∧ d = 4 - j ∧ k = .int .i64 j ∧ Good o j f ∧ ∃ m, wr = w0.drewN m

set_option maxHeartbeats 2000000 in
theorem rcheck_in (o : Nat) (a b c n : Int) (w : World) (ho : o ≤ 16) :
    Calls Tryd.prog 23 #[Ins.val ⟨o, a, b, c, n⟩] w fun e w' => e = .returned (.int .i64 (chk ⟨o, a, b, c, n⟩)) ∧ Fr (fun _ => False) w w' := by
  obtain ⟨f, hf⟩ : ∃ f, f = (⟨o, a, b, c, n⟩ : Ins).fld := ⟨_, rfl⟩
  have HF := hid hf
  clear hf
  unfold Ins.val
  have t1 : ¬ (o : Int) < 0 := by omega
  have t2 : ¬ (16 : Int) < o := by omega
  go_enter Tryd.func23, Tryd.ntmps23
  go_wp2_with fail
  refine (spans_ok o _ ho).mono ?_
  rintro e w1 ⟨rfl, hF⟩
  have hF1 := (Fr.alloc (fun _ => False) w _).trans hF
  have hB := (Blk.new w #[.int .i64 o, .int .i64 a, .int .i64 b, .int .i64 c, .int .i64 n] 27).keep hF (fun h => h)
  have p0 := hB.cell (i := 0) rfl
  have p1 := hB.cell (i := 1) rfl
  have p2 := hB.cell (i := 2) rfl
  have p3 := hB.cell (i := 3) rfl
  have p4 := hB.cell (i := 4) rfl
  have hl := hB.lt
  unfold spn
  clear hF hB
  go_wp2_with fail
  go_loopg [5] 4 (fun d k wr => RCRel o f ((w1.alloc (.cells #[.int .i64 (lo o 0), .int .i64 (hi o 0), .int .i64 (lo o 1), .int .i64 (hi o 1), .int .i64 (lo o 2), .int .i64 (hi o 2), .int .i64 (lo o 3), .int .i64 (hi o 3)] 23)).alloc (.cells #[.int .i64 a, .int .i64 b, .int .i64 c, .int .i64 n] 86)) d k wr)
  case atStart => exact ⟨0, by omega, rfl, rfl, fun j hj => by omega, 0, rfl⟩
  case round =>
    obtain ⟨j, hj, rfl, rfl, hg, m, rfl⟩ := hrel
    have hm : j = 0 ∨ j = 1 ∨ j = 2 ∨ j = 3 ∨ j = 4 := by omega
    clear p0 p1 p2 p3 p4
    rcases hm with rfl | rfl | rfl | rfl | rfl
    · rw [show ((0 : Nat) : Int) = 0 from rfl]
      by_cases c1 : a < lo o 0
      · have hb : bad o 0 a = true := by unfold bad; simp [c1]
        have HB := hid hb
        clear hb
        go_wp2
        go_quiet (fail)
        go_wp2
        go_ret
        exact ⟨ret_num (chk_bad (k := 0) rfl ho (by omega) (by show bad o _ _ = true; exact HB.out)).symm, hF1.trans (by first | exact ((Fr.alloc _ _ _).trans (Fr.alloc _ _ _)).trans ((Fr.drewN _ _ _).trans (Fr.drewN _ _ _)) | exact ((Fr.alloc _ _ _).trans (Fr.alloc _ _ _)).trans (Fr.drewN _ _ _))⟩
      · have c3 : decide (a < lo o 0) = false := by simpa using c1
        by_cases c2 : hi o 0 < a
        · have hb : bad o 0 a = true := by unfold bad; simp [c2]
          have HB := hid hb
          clear hb
          go_wp2
          go_quiet (fail)
          go_wp2
          go_ret
          exact ⟨ret_num (chk_bad (k := 0) rfl ho (by omega) (by show bad o _ _ = true; exact HB.out)).symm, hF1.trans (by first | exact ((Fr.alloc _ _ _).trans (Fr.alloc _ _ _)).trans ((Fr.drewN _ _ _).trans (Fr.drewN _ _ _)) | exact ((Fr.alloc _ _ _).trans (Fr.alloc _ _ _)).trans (Fr.drewN _ _ _))⟩
        · have hb : bad o 0 a = false := by unfold bad; simp [c1, c2]
          have HB := hid hb
          clear hb
          go_wp2
          go_quiet (fail)
          go_wp2
          go_roundg (4 - 1)
          case rel => exact ⟨1, by omega, rfl, rfl, Good.next hg (by rw [HF.out]; exact HB.out), _, rfl⟩
          case measure => omega
    · rw [show ((1 : Nat) : Int) = 1 from rfl]
      by_cases c1 : b < lo o 1
      · have hb : bad o 1 b = true := by unfold bad; simp [c1]
        have HB := hid hb
        clear hb
        go_wp2
        go_quiet (fail)
        go_wp2
        go_ret
        exact ⟨ret_num (chk_bad (k := 1) rfl ho (by omega) (by show bad o _ _ = true; exact HB.out)).symm, hF1.trans (by first | exact ((Fr.alloc _ _ _).trans (Fr.alloc _ _ _)).trans ((Fr.drewN _ _ _).trans (Fr.drewN _ _ _)) | exact ((Fr.alloc _ _ _).trans (Fr.alloc _ _ _)).trans (Fr.drewN _ _ _))⟩
      · have c3 : decide (b < lo o 1) = false := by simpa using c1
        by_cases c2 : hi o 1 < b
        · have hb : bad o 1 b = true := by unfold bad; simp [c2]
          have HB := hid hb
          clear hb
          go_wp2
          go_quiet (fail)
          go_wp2
          go_ret
          exact ⟨ret_num (chk_bad (k := 1) rfl ho (by omega) (by show bad o _ _ = true; exact HB.out)).symm, hF1.trans (by first | exact ((Fr.alloc _ _ _).trans (Fr.alloc _ _ _)).trans ((Fr.drewN _ _ _).trans (Fr.drewN _ _ _)) | exact ((Fr.alloc _ _ _).trans (Fr.alloc _ _ _)).trans (Fr.drewN _ _ _))⟩
        · have hb : bad o 1 b = false := by unfold bad; simp [c1, c2]
          have HB := hid hb
          clear hb
          go_wp2
          go_quiet (fail)
          go_wp2
          go_roundg (4 - 2)
          case rel => exact ⟨2, by omega, rfl, rfl, Good.next hg (by rw [HF.out]; exact HB.out), _, rfl⟩
          case measure => omega
    · rw [show ((2 : Nat) : Int) = 2 from rfl]
      by_cases c1 : c < lo o 2
      · have hb : bad o 2 c = true := by unfold bad; simp [c1]
        have HB := hid hb
        clear hb
        go_wp2
        go_quiet (fail)
        go_wp2
        go_ret
        exact ⟨ret_num (chk_bad (k := 2) rfl ho (by omega) (by show bad o _ _ = true; exact HB.out)).symm, hF1.trans (by first | exact ((Fr.alloc _ _ _).trans (Fr.alloc _ _ _)).trans ((Fr.drewN _ _ _).trans (Fr.drewN _ _ _)) | exact ((Fr.alloc _ _ _).trans (Fr.alloc _ _ _)).trans (Fr.drewN _ _ _))⟩
      · have c3 : decide (c < lo o 2) = false := by simpa using c1
        by_cases c2 : hi o 2 < c
        · have hb : bad o 2 c = true := by unfold bad; simp [c2]
          have HB := hid hb
          clear hb
          go_wp2
          go_quiet (fail)
          go_wp2
          go_ret
          exact ⟨ret_num (chk_bad (k := 2) rfl ho (by omega) (by show bad o _ _ = true; exact HB.out)).symm, hF1.trans (by first | exact ((Fr.alloc _ _ _).trans (Fr.alloc _ _ _)).trans ((Fr.drewN _ _ _).trans (Fr.drewN _ _ _)) | exact ((Fr.alloc _ _ _).trans (Fr.alloc _ _ _)).trans (Fr.drewN _ _ _))⟩
        · have hb : bad o 2 c = false := by unfold bad; simp [c1, c2]
          have HB := hid hb
          clear hb
          go_wp2
          go_quiet (fail)
          go_wp2
          go_roundg (4 - 3)
          case rel => exact ⟨3, by omega, rfl, rfl, Good.next hg (by rw [HF.out]; exact HB.out), _, rfl⟩
          case measure => omega
    · rw [show ((3 : Nat) : Int) = 3 from rfl]
      by_cases c1 : n < lo o 3
      · have hb : bad o 3 n = true := by unfold bad; simp [c1]
        have HB := hid hb
        clear hb
        go_wp2
        go_quiet (fail)
        go_wp2
        go_ret
        exact ⟨ret_num (chk_bad (k := 3) rfl ho (by omega) (by show bad o _ _ = true; exact HB.out)).symm, hF1.trans (by first | exact ((Fr.alloc _ _ _).trans (Fr.alloc _ _ _)).trans ((Fr.drewN _ _ _).trans (Fr.drewN _ _ _)) | exact ((Fr.alloc _ _ _).trans (Fr.alloc _ _ _)).trans (Fr.drewN _ _ _))⟩
      · have c3 : decide (n < lo o 3) = false := by simpa using c1
        by_cases c2 : hi o 3 < n
        · have hb : bad o 3 n = true := by unfold bad; simp [c2]
          have HB := hid hb
          clear hb
          go_wp2
          go_quiet (fail)
          go_wp2
          go_ret
          exact ⟨ret_num (chk_bad (k := 3) rfl ho (by omega) (by show bad o _ _ = true; exact HB.out)).symm, hF1.trans (by first | exact ((Fr.alloc _ _ _).trans (Fr.alloc _ _ _)).trans ((Fr.drewN _ _ _).trans (Fr.drewN _ _ _)) | exact ((Fr.alloc _ _ _).trans (Fr.alloc _ _ _)).trans (Fr.drewN _ _ _))⟩
        · have hb : bad o 3 n = false := by unfold bad; simp [c1, c2]
          have HB := hid hb
          clear hb
          go_wp2
          go_quiet (fail)
          go_wp2
          go_roundg (4 - 4)
          case rel => exact ⟨4, by omega, rfl, rfl, Good.next hg (by rw [HF.out]; exact HB.out), _, rfl⟩
          case measure => omega
    · rw [show ((4 : Nat) : Int) = 4 from rfl]
      go_wp2
      go_ret
      exact ⟨ret_num (chk_good rfl ho (by rw [← HF.out]; exact hg)).symm, hF1.trans (by first | exact ((Fr.alloc _ _ _).trans (Fr.alloc _ _ _)).trans ((Fr.drewN _ _ _).trans (Fr.drewN _ _ _)) | exact ((Fr.alloc _ _ _).trans (Fr.alloc _ _ _)).trans (Fr.drewN _ _ _))⟩

theorem rcheck_any (i : Ins) (w : World) :
    Calls Tryd.prog 23 #[i.val] w fun e w' => e = .returned (.int .i64 (chk i)) ∧ Fr (fun _ => False) w w' := by
  by_cases ho : i.op < 0 ∨ 16 < i.op
  · have e : chk i = 13 := by unfold chk; rw [if_pos ho]
    rw [e]
    exact rcheck_op i w ho
  · obtain ⟨op, a, b, c, n⟩ := i
    simp only at ho
    obtain ⟨o, rfl⟩ := Int.eq_ofNat_of_zero_le (show 0 ≤ op by omega)
    exact rcheck_in o a b c n w (by omega)

end Go.Proofs.YtedpgfldkjimpaaDoor
