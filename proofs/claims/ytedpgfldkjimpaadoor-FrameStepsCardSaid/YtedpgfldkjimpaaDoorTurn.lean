/-
  How many registers, and handles, of two tasks are not the same.
-/
import Derived.Test.YtedpgfldkjimpaaDoorLawBits
import Derived.Deep.LoopGhost
namespace Go.Proofs.YtedpgfldkjimpaaDoor
open Go.RowKit
set_option linter.unusedVariables false

/-- How many of the first numbers are not the same. -/
def cnt (x y : Nat → Int) : Nat → Nat
  | 0 => 0
  | k + 1 => cnt x y k + if x k = y k then 0 else 1

theorem cnt_le (x y : Nat → Int) (k : Nat) : cnt x y k ≤ k := by
  induction k with
  | zero => exact Nat.le_refl _
  | succ k ih =>
    unfold cnt
    split <;> omega
theorem cnt_self (x : Nat → Int) (k : Nat) : cnt x x k = 0 := by
  induction k with
  | zero => rfl
  | succ k ih =>
    unfold cnt
    rw [ih, if_pos rfl]
theorem cnt_one (x y : Nat → Int) (a : Nat) (h : ∀ j, j ≠ a → x j = y j) (k : Nat) : cnt x y k ≤ if a < k then 1 else 0 := by
  induction k with
  | zero => simp [cnt]
  | succ k ih =>
    unfold cnt
    by_cases hk : k = a
    · subst hk
      rw [if_neg (by omega)] at ih
      rw [if_pos (show k < k + 1 by omega)]
      split <;> omega
    · rw [if_pos (h k hk)]
      split at ih
      · rw [if_pos (by omega)]
        omega
      · rw [if_neg (by omega)]
        omega
theorem cnt_two (x y : Nat → Int) (a b : Nat) (h : ∀ j, j ≠ a → j ≠ b → x j = y j) (k : Nat) : cnt x y k ≤ (if a < k then 1 else 0) + (if b < k then 1 else 0) := by
  induction k with
  | zero => simp [cnt]
  | succ k ih =>
    unfold cnt
    have m1 : (if a < k then 1 else 0) ≤ (if a < k + 1 then 1 else 0) := by
      split
      · rw [if_pos (by omega)]
        exact Nat.le_refl _
      · exact Nat.zero_le _
    have m2 : (if b < k then 1 else 0) ≤ (if b < k + 1 then 1 else 0) := by
      split
      · rw [if_pos (by omega)]
        exact Nat.le_refl _
      · exact Nat.zero_le _
    by_cases ha : k = a
    · subst ha
      rw [if_neg (show ¬ k < k by omega)] at ih
      rw [if_pos (show k < k + 1 by omega)]
      split <;> omega
    · by_cases hb : k = b
      · subst hb
        rw [if_neg (show ¬ k < k by omega)] at ih
        rw [if_pos (show k < k + 1 by omega)]
        split <;> omega
      · rw [if_pos (h k ha hb)]
        omega

/-- A round's beginning. -/
def TnRel (F G : Frm) (w0 : World) (d : Nat) (r h x : Value) (wr : World) : Prop := ∃ k : Nat, k ≤ 8 ∧ d = 8 - k ∧ x = .int .i64 k ∧ r = .int .i64 (cnt F.r G.r k : Nat) ∧ h = .int .i64 (cnt F.h G.h k : Nat) ∧ Fr (fun _ => False) w0 wr

set_option maxRecDepth 100000 in
set_option maxHeartbeats 2000000 in
theorem turned_any {cel : Frm → Array Value} (hC : Cel cel) (F G : Frm) (w : World) :
    Calls Tryd.prog 31 #[.agg (cel F), .agg (cel G)] w fun e w' => e = .returned (.tuple #[.int .i64 (cnt F.r G.r 8 : Nat), .int .i64 (cnt F.h G.h 8 : Nat)]) ∧ Fr (fun _ => False) w w' := by
  obtain ⟨w1, hw1⟩ : ∃ w1, w1 = (w.alloc (.cells (cel F) 25)).alloc (.cells (cel G) 25) := ⟨_, rfl⟩
  obtain ⟨hA, hB, hZ⟩ := two w (cel F) (cel G) 25 25
  rw [← hw1] at hA hB hZ
  have HA := hid hA
  have HB := hid hB
  have HZ := hid hZ
  clear hA hB hZ
  go_enter Tryd.func31, Tryd.ntmps31
  go_upto_region 1 with fail
  rw [← hw1]
  clear hw1
  go_wp2_with fail
  go_loopg [6, 7, 8] 8 (fun d r h x wr => TnRel F G w1 d r h x wr)
  case atStart => exact ⟨0, by omega, rfl, rfl, rfl, rfl, Fr.refl _ _⟩
  case round =>
    obtain ⟨k, hk, hd, rfl, rfl, rfl, hF⟩ := hrel
    have HD := hid hd
    have HF := hid hF
    clear hd
    by_cases hlt : k < 8
    · have hk0 : (0 : Int) ≤ k ∧ (k : Int) < 8 := by omega
      have q1 : wr.cell? ⟨w.heap.size, 2 + k, none⟩ = some (.int .i64 (F.r k)) := (HB.out.keep hF (fun h => h)).cell (hC.r F k hlt)
      have q2 : wr.cell? ⟨w.heap.size + 1, 2 + k, none⟩ = some (.int .i64 (G.r k)) := (HZ.out.keep hF (fun h => h)).cell (hC.r G k hlt)
      have q3 : wr.cell? ⟨w.heap.size, 10 + k, none⟩ = some (.int .i64 (F.h k)) := (HB.out.keep hF (fun h => h)).cell (hC.h F k hlt)
      have q4 : wr.cell? ⟨w.heap.size + 1, 10 + k, none⟩ = some (.int .i64 (G.h k)) := (HZ.out.keep hF (fun h => h)).cell (hC.h G k hlt)
      have er : cnt F.r G.r (k + 1) = cnt F.r G.r k + if F.r k = G.r k then 0 else 1 := rfl
      have eh : cnt F.h G.h (k + 1) = cnt F.h G.h k + if F.h k = G.h k then 0 else 1 := rfl
      have l1 := cnt_le F.r G.r k
      have l2 := cnt_le F.h G.h k
      obtain ⟨x, hx⟩ : ∃ x, F.r k = x := ⟨_, rfl⟩
      obtain ⟨y, hy⟩ : ∃ y, G.r k = y := ⟨_, rfl⟩
      obtain ⟨u, hu⟩ : ∃ u, F.h k = u := ⟨_, rfl⟩
      obtain ⟨v, hv⟩ : ∃ v, G.h k = v := ⟨_, rfl⟩
      rw [hx, hy] at er
      rw [hu, hv] at eh
      rw [hx] at q1
      rw [hy] at q2
      rw [hu] at q3
      rw [hv] at q4
      obtain ⟨cr, hcr⟩ : ∃ cr, cnt F.r G.r k = cr := ⟨_, rfl⟩
      obtain ⟨ch, hch⟩ : ∃ ch, cnt F.h G.h k = ch := ⟨_, rfl⟩
      rw [hcr] at er l1 ⊢
      rw [hch] at eh l2 ⊢
      have ER := hid er
      have EH := hid eh
      clear hx hy hu hv hF er eh hcr hch
      go_upto_region 6 with fail
      by_cases hxy : x = y
      · subst hxy
        have er : cnt F.r G.r (k + 1) = cr := by
          have h := ER.out
          rw [if_pos rfl] at h
          omega
        clear ER
        have ER := hid er
        clear er
        have t1 : (x != x) = false := by simp
        go_quiet (fail)
        go_upto_region 8 with fail
        have q3 : (wr.drewN nq).cell? ⟨w.heap.size, 10 + k, none⟩ = some (.int .i64 u) := q3
        have q4 : (wr.drewN nq).cell? ⟨w.heap.size + 1, 10 + k, none⟩ = some (.int .i64 v) := q4
        by_cases huv : u = v
        · subst huv
          have eh : cnt F.h G.h (k + 1) = ch := by
            have h := EH.out
            rw [if_pos rfl] at h
            omega
          clear EH
          have EH := hid eh
          clear eh
          have t2 : (u != u) = false := by simp
          go_quiet (fail)
          go_wp2_with fail
          go_roundg (8 - (k + 1))
          case rel => exact ⟨k + 1, by omega, by omega, by go_num, by rw [ER.out], by rw [EH.out], HF.out.trans (Fr.drewN _ _ _)⟩
          case measure => have := HD.out; omega
        · have eh : cnt F.h G.h (k + 1) = ch + 1 := by
            have h := EH.out
            rw [if_neg huv] at h
            omega
          clear EH
          have EH := hid eh
          clear eh
          have t2 : (u != v) = true := by simpa using huv
          go_quiet (fail)
          go_wp2_with fail
          go_roundg (8 - (k + 1))
          case rel => exact ⟨k + 1, by omega, by omega, by go_num, by rw [ER.out], by rw [EH.out]; go_num, HF.out.trans (Fr.drewN _ _ _)⟩
          case measure => have := HD.out; omega
      · have er : cnt F.r G.r (k + 1) = cr + 1 := by
          have h := ER.out
          rw [if_neg hxy] at h
          omega
        clear ER
        have ER := hid er
        clear er
        have t1 : (x != y) = true := by simpa using hxy
        go_quiet (fail)
        go_upto_region 8 with fail
        have q3 : (wr.drewN nq).cell? ⟨w.heap.size, 10 + k, none⟩ = some (.int .i64 u) := q3
        have q4 : (wr.drewN nq).cell? ⟨w.heap.size + 1, 10 + k, none⟩ = some (.int .i64 v) := q4
        by_cases huv : u = v
        · subst huv
          have eh : cnt F.h G.h (k + 1) = ch := by
            have h := EH.out
            rw [if_pos rfl] at h
            omega
          clear EH
          have EH := hid eh
          clear eh
          have t2 : (u != u) = false := by simp
          go_quiet (fail)
          go_wp2_with fail
          go_roundg (8 - (k + 1))
          case rel => exact ⟨k + 1, by omega, by omega, by go_num, by rw [ER.out]; go_num, by rw [EH.out], HF.out.trans (Fr.drewN _ _ _)⟩
          case measure => have := HD.out; omega
        · have eh : cnt F.h G.h (k + 1) = ch + 1 := by
            have h := EH.out
            rw [if_neg huv] at h
            omega
          clear EH
          have EH := hid eh
          clear eh
          have t2 : (u != v) = true := by simpa using huv
          go_quiet (fail)
          go_wp2_with fail
          go_roundg (8 - (k + 1))
          case rel => exact ⟨k + 1, by omega, by omega, by go_num, by rw [ER.out]; go_num, by rw [EH.out]; go_num, HF.out.trans (Fr.drewN _ _ _)⟩
          case measure => have := HD.out; omega
    · obtain rfl : k = 8 := by omega
      clear hF
      go_wp2_with fail
      go_ret2
      exact ⟨rfl, HA.out.trans HF.out⟩

end Go.Proofs.YtedpgfldkjimpaaDoor
