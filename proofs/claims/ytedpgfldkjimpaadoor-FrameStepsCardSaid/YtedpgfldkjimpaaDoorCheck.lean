/-
  Check, the program's.
-/
import Derived.Test.YtedpgfldkjimpaaDoorProg
import Derived.Test.YtedpgfldkjimpaaDoorHeap
import Derived.Test.YtedpgfldkjimpaaDoorPlain
import Derived.Deep.QuietTactic
import Derived.BigQuiet
import Derived.RegionTactic
namespace Go.Proofs.YtedpgfldkjimpaaDoor
open Go.RowKit

theorem Tabs.keep {w w' : World} (h : Tabs w) {S : Nat → Prop} (f : Fr S w w') (h0 : ¬ S 0) (h1 : ¬ S 1) : Tabs w' :=
  ⟨Nat.le_trans h.two f.size, fun j hj => (cell_keep f (p := ⟨0, j, none⟩) (by have := h.two; show 0 < _; omega) h0).trans (h.ops j hj), fun j hj => (cell_keep f (p := ⟨1, j, none⟩) (by have := h.two; show 1 < _; omega) h1).trans (h.ends j hj)⟩
theorem Tabs.same {w w' : World} (h : Tabs w) (f : Fr (fun _ => False) w w') : Tabs w' := h.keep f (fun hh => hh) (fun hh => hh)

theorem Tabs.kd {w : World} (h : Tabs w) {op k : Nat} (ho : op ≤ 16) (hk : k < 4) : w.cell? ⟨0, op * 4 + k, none⟩ = some (.int .i64 (kd op k : Nat)) := h.ops _ (by omega)
theorem Tabs.lo {w : World} (h : Tabs w) (op k : Nat) : w.cell? ⟨1, YtedpgfldkjimpaaDoor.kd op k * 2, none⟩ = some (.int .i64 (lo op k)) := h.ends _ (by have := kd_lt op k; omega)
theorem Tabs.hi {w : World} (h : Tabs w) (op k : Nat) : w.cell? ⟨1, YtedpgfldkjimpaaDoor.kd op k * 2 + 1, none⟩ = some (.int .i64 (hi op k)) := h.ends _ (by have := kd_lt op k; omega)

set_option maxHeartbeats 400000 in
theorem check_op (i : Ins) (w : World) (ho : i.op < 0 ∨ 16 < i.op) :
    Calls Tryd.prog 52 #[i.val] w fun e w' => e = .returned (.int .i64 13) ∧ Fr (fun _ => False) w w' := by
  obtain ⟨op, a, b, c, n⟩ := i
  unfold Ins.val
  rcases ho with ho | ho
  · simp only at ho
    go_enter Tryd.func52, Tryd.ntmps52
    go_wp2
    go_step3
    go_wp2
    rw [Exit.noGoto_ret]
    go_ret
    exact ⟨rfl, Fr.alloc _ _ _⟩
  · simp only at ho
    have t1 : ¬ op < 0 := by omega
    go_enter Tryd.func52, Tryd.ntmps52
    go_wp2
    go_step3
    go_wp2
    rw [Exit.noGoto_ret]
    go_ret
    exact ⟨rfl, Fr.alloc _ _ _⟩


theorem not_bad {op k : Nat} {x : Int} (h : bad op k x = false) : ¬ x < lo op k ∧ ¬ hi op k < x := by
  simpa [bad] using h

/-- The fields ahead of k are right. -/
def Good (op k : Nat) (f : Nat → Int) : Prop := ∀ j, j < k → bad op j (f j) = false

theorem Good.next {op k : Nat} {f : Nat → Int} (h : Good op k f) (hb : bad op k (f k) = false) : Good op (k + 1) f := by
  intro j hj
  rcases Nat.lt_or_ge j k with hl | hl
  · exact h j hl
  · obtain rfl : j = k := by omega
    exact hb

theorem chk_in {i : Ins} {o : Nat} (h : i.op = o) (ho : o ≤ 16) : chk i = if bad o 0 i.a || bad o 1 i.b || bad o 2 i.c || bad o 3 i.n then 10 else 0 := by
  unfold chk Ins.wrong
  rw [if_neg (by omega), h, Int.toNat_natCast]

theorem chk_good {i : Ins} {o : Nat} (h : i.op = o) (ho : o ≤ 16) (hg : Good o 4 i.fld) : chk i = 0 := by
  have h0 : bad o 0 i.a = false := hg 0 (by omega)
  have h1 : bad o 1 i.b = false := hg 1 (by omega)
  have h2 : bad o 2 i.c = false := hg 2 (by omega)
  have h3 : bad o 3 i.n = false := hg 3 (by omega)
  rw [chk_in h ho, h0, h1, h2, h3]
  rfl

theorem chk_bad {i : Ins} {o k : Nat} (h : i.op = o) (ho : o ≤ 16) (hk : k < 4) (hb : bad o k (i.fld k) = true) : chk i = 10 := by
  rw [chk_in h ho]
  rcases k with _ | _ | _ | _ | k
  · have hb : bad o 0 i.a = true := hb
    simp [hb]
  · have hb : bad o 1 i.b = true := hb
    simp [hb]
  · have hb : bad o 2 i.c = true := hb
    simp [hb]
  · have hb : bad o 3 i.n = true := hb
    simp [hb]
  · omega

theorem cells_int : Tryd.prog.cellsOf 3 = 1 := by kernel_rfl
theorem und4 : Tryd.prog.underlying 86 = some (.array 4 3) := by kernel_rfl

theorem index4 (a b c n x : Int) (k : Nat) (hx : [a, b, c, n][k]? = some x) (W : World) :
    (Instr.index 86 (.agg #[.int .i64 a, .int .i64 b, .int .i64 c, .int .i64 n]) (.int .i64 k)).run Tryd.prog W = .ok (.int .i64 x) W := by
  rcases k with _ | _ | _ | _ | k
  · simp at hx
    subst hx
    kernel_rfl
  · simp at hx
    subst hx
    kernel_rfl
  · simp at hx
    subst hx
    kernel_rfl
  · simp at hx
    subst hx
    kernel_rfl
  · simp at hx

def CRel (o : Nat) (f : Nat → Int) (x k : Value) : Prop := ∃ j : Nat, j ≤ 4 ∧ k = .int .i64 j ∧ x = .int .i64 0 ∧ Good o j f

theorem ret_num {a b : Int} (h : a = b) : Ending.returned (.int .i64 a) = .returned (.int .i64 b) := by rw [h]

set_option maxHeartbeats 1000000 in
theorem check_in (o : Nat) (a b c n : Int) (w : World) (ht : Tabs w) (ho : o ≤ 16) :
    Calls Tryd.prog 52 #[Ins.val ⟨o, a, b, c, n⟩] w fun e w' => e = .returned (.int .i64 (chk ⟨o, a, b, c, n⟩)) ∧ Fr (fun _ => False) w w' := by
  obtain ⟨f, hf⟩ : ∃ f, f = (⟨o, a, b, c, n⟩ : Ins).fld := ⟨_, rfl⟩
  have HF := hid hf
  clear hf
  unfold Ins.val
  have t1 : ¬ (o : Int) < 0 := by omega
  have t2 : ¬ (16 : Int) < o := by omega
  have H0 := ht.two
  go_enter Tryd.func52, Tryd.ntmps52
  go_wp2
  go_step3
  go_wp2
  go_step3
  go_wp2
  go_loop [3, 24] (fun x k => CRel o f x k) (fun _ k => 4 - (intOf k).toNat)
  case atStart => exact ⟨0, by omega, rfl, rfl, fun j hj => by omega⟩
  case round =>
    obtain ⟨j, hj, rfl, rfl, hg⟩ := hrel
    have hT := ht.same (Fr.alloc (fun _ => False) w (.cells #[.int .i64 o, .int .i64 a, .int .i64 b, .int .i64 c, .int .i64 n] 27))
    clear ht
    have hm : j = 0 ∨ j = 1 ∨ j = 2 ∨ j = 3 ∨ j = 4 := by omega
    rcases hm with rfl | rfl | rfl | rfl | rfl
    · have q0 : ∀ W, (Instr.index 86 (.agg #[.int .i64 a, .int .i64 b, .int .i64 c, .int .i64 n]) (.int .i64 0)).run Tryd.prog W = .ok (.int .i64 a) W := index4 a b c n a 0 rfl
      rw [show ((0 : Nat) : Int) = 0 from rfl]
      have q1 := hT.kd ho (show 0 < 4 by omega)
      have q2 := hT.lo o 0
      have q3 := hT.hi o 0
      have q4 := kd_lt o 0
      simp only [Nat.add_zero] at q1
      go_wp2
      all_goals first
        | (go_ret
           exact ⟨ret_num (chk_bad (k := 0) rfl ho (by omega) (by show bad o 0 a = true; unfold bad; simp [*])).symm, Fr.alloc _ _ _⟩)
        | exact ⟨⟨1, by omega, rfl, rfl, Good.next hg (by rw [HF.out]; show bad o 0 a = false; unfold bad; simp [*])⟩, by simp [intOf]⟩
    · have q0 : ∀ W, (Instr.index 86 (.agg #[.int .i64 a, .int .i64 b, .int .i64 c, .int .i64 n]) (.int .i64 1)).run Tryd.prog W = .ok (.int .i64 b) W := index4 a b c n b 1 rfl
      rw [show ((1 : Nat) : Int) = 1 from rfl]
      have q1 := hT.kd ho (show 1 < 4 by omega)
      have q2 := hT.lo o 1
      have q3 := hT.hi o 1
      have q4 := kd_lt o 1

      go_wp2
      all_goals first
        | (go_ret
           exact ⟨ret_num (chk_bad (k := 1) rfl ho (by omega) (by show bad o 1 b = true; unfold bad; simp [*])).symm, Fr.alloc _ _ _⟩)
        | exact ⟨⟨2, by omega, rfl, rfl, Good.next hg (by rw [HF.out]; show bad o 1 b = false; unfold bad; simp [*])⟩, by simp [intOf]⟩
    · have q0 : ∀ W, (Instr.index 86 (.agg #[.int .i64 a, .int .i64 b, .int .i64 c, .int .i64 n]) (.int .i64 2)).run Tryd.prog W = .ok (.int .i64 c) W := index4 a b c n c 2 rfl
      rw [show ((2 : Nat) : Int) = 2 from rfl]
      have q1 := hT.kd ho (show 2 < 4 by omega)
      have q2 := hT.lo o 2
      have q3 := hT.hi o 2
      have q4 := kd_lt o 2

      go_wp2
      all_goals first
        | (go_ret
           exact ⟨ret_num (chk_bad (k := 2) rfl ho (by omega) (by show bad o 2 c = true; unfold bad; simp [*])).symm, Fr.alloc _ _ _⟩)
        | exact ⟨⟨3, by omega, rfl, rfl, Good.next hg (by rw [HF.out]; show bad o 2 c = false; unfold bad; simp [*])⟩, by simp [intOf]⟩
    · have q0 : ∀ W, (Instr.index 86 (.agg #[.int .i64 a, .int .i64 b, .int .i64 c, .int .i64 n]) (.int .i64 3)).run Tryd.prog W = .ok (.int .i64 n) W := index4 a b c n n 3 rfl
      rw [show ((3 : Nat) : Int) = 3 from rfl]
      have q1 := hT.kd ho (show 3 < 4 by omega)
      have q2 := hT.lo o 3
      have q3 := hT.hi o 3
      have q4 := kd_lt o 3

      go_wp2
      all_goals first
        | (go_ret
           exact ⟨ret_num (chk_bad (k := 3) rfl ho (by omega) (by show bad o 3 n = true; unfold bad; simp [*])).symm, Fr.alloc _ _ _⟩)
        | exact ⟨⟨4, by omega, rfl, rfl, Good.next hg (by rw [HF.out]; show bad o 3 n = false; unfold bad; simp [*])⟩, by simp [intOf]⟩
    · rw [show ((4 : Nat) : Int) = 4 from rfl]
      go_wp2
      go_ret
      exact ⟨ret_num (chk_good rfl ho (by rw [← HF.out]; exact hg)).symm, Fr.alloc _ _ _⟩

theorem check_any (i : Ins) (w : World) (ht : Tabs w) :
    Calls Tryd.prog 52 #[i.val] w fun e w' => e = .returned (.int .i64 (chk i)) ∧ Fr (fun _ => False) w w' := by
  by_cases ho : i.op < 0 ∨ 16 < i.op
  · have e : chk i = 13 := by unfold chk; rw [if_pos ho]
    rw [e]
    exact check_op i w ho
  · obtain ⟨op, a, b, c, n⟩ := i
    simp only at ho
    obtain ⟨o, rfl⟩ := Int.eq_ofNat_of_zero_le (show 0 ≤ op by omega)
    exact check_in o a b c n w ht (by omega)

end Go.Proofs.YtedpgfldkjimpaaDoor
