/-
  The document's rings: which are right, their sizes, places and words, and the ring of a number.
-/
import Derived.Test.YtiofdfgcghiibaaRing
import Derived.Deep.RegionHeld3
import Derived.Deep.LoopGhost
namespace Go.Proofs.Ytiofdfgcghiibaa
open Go.RowKit
set_option linter.unusedVariables false

def PowRel (w : World) (n : Nat) (d : Nat) (x y : Value) (wr : World) : Prop := ∃ i : Nat, i ≤ n ∧ d = n - i ∧ x = .int .i64 ((2 ^ i : Nat) : Int) ∧ y = .int .i64 i ∧ w = wr

set_option maxHeartbeats 800000 in
theorem power_nat (n : Nat) (hn : n ≤ 8) (w : World) :
    Calls Try.prog 77 #[.int .i64 n] w fun e w' => e = .returned (.int .i64 ((2 ^ n : Nat) : Int)) ∧ w = w' := by
  go_enter Try.func77, Try.ntmps77
  go_wp2_with fail
  go_loopg [3, 4] n (fun d x y wr => PowRel w n d x y wr)
  case atStart => exact ⟨0, by omega, rfl, rfl, rfl, rfl⟩
  case round =>
    obtain ⟨i, hi, rfl, rfl, rfl, rfl⟩ := hrel
    by_cases hlt : i < n
    · obtain ⟨m, hm⟩ : ∃ m, 2 ^ i = m := ⟨_, rfl⟩
      have hb : m ≤ 128 := by
        have : 2 ^ i ≤ 2 ^ 7 := Nat.pow_le_pow_right (by omega) (by omega)
        omega
      rw [hm]
      have HM := hid hm
      clear hm
      go_wp2_with fail
      go_roundg (n - (i + 1))
      case measure => omega
      case rel => exact ⟨i + 1, by omega, rfl, by have := HM.out; congr 1; omega, by go_num, rfl⟩
    · obtain rfl : i = n := by omega
      obtain ⟨m, hm⟩ : ∃ m, 2 ^ i = m := ⟨_, rfl⟩
      rw [hm]
      have HM := hid hm
      clear hm
      go_wp2_with fail
      go_ret
      rw [HM.out]
      exact ⟨rfl, rfl⟩

theorem power_ok (l n : Int) (h0 : 0 ≤ l) (h8 : l ≤ 8) (hn : pow l = n) (w : World) :
    Calls Try.prog 77 #[.int .i64 l] w fun e w' => e = .returned (.int .i64 n) ∧ w = w' := by
  obtain ⟨k, rfl⟩ := Int.eq_ofNat_of_zero_le h0
  rw [← hn, pow_nat]
  exact power_nat k (by omega) w

set_option maxHeartbeats 400000 in
theorem rright_in (a l : Int) (w : World) (h0 : 0 ≤ l) (h8 : l ≤ 8) (ha : 0 ≤ a) :
    Calls Try.prog 76 #[.agg #[.int .i64 a, .int .i64 l]] w fun e w' => e = .returned (.bool (decide (a ≤ 1048576 - pow l))) ∧ Fr (fun _ => False) w w' := by
  have n1 := pow_pos l
  have n2 := pow_le l h8
  have HP := fun n (h : pow l = n) => hid (fun (v : World) => power_ok l n h0 h8 h v)
  obtain ⟨n, hn⟩ : ∃ n, pow l = n := ⟨_, rfl⟩
  replace HP := HP n hn
  rw [hn] at n1 n2 ⊢
  have t1 : decide (l < 0) = false := by simp; omega
  have t2 : decide (8 < l) = false := by simp; omega
  have t3 : decide (a < 0) = false := by simp; omega
  clear hn
  go_enter Try.func76, Try.ntmps76
  go_wp2_with fail
  go_quiet ((go_at_call 77; exact ((HP.out _).mono fun _ _ ⟨he, hm⟩ => ⟨he, _, hm.symm⟩)))
  go_wp2_with fail
  go_ret
  exact ⟨rfl, (Fr.alloc _ _ _).trans (Fr.drewN _ _ _)⟩

set_option maxHeartbeats 400000 in
theorem rright_out (a l : Int) (w : World) (h : l < 0 ∨ 8 < l ∨ a < 0) :
    Calls Try.prog 76 #[.agg #[.int .i64 a, .int .i64 l]] w fun e w' => e = .returned (.bool false) ∧ Fr (fun _ => False) w w' := by
  by_cases h0 : l < 0
  · go_enter Try.func76, Try.ntmps76
    go_wp2_with fail
    go_ret
    exact ⟨rfl, Fr.alloc _ _ _⟩
  have t1 : decide (l < 0) = false := by simp; omega
  by_cases h8 : 8 < l
  · clear h0 h
    go_enter Try.func76, Try.ntmps76
    go_wp2_with fail
    go_ret
    exact ⟨rfl, Fr.alloc _ _ _⟩
  have t2 : decide (8 < l) = false := by simp; omega
  have ha : a < 0 := by omega
  clear h0 h8 h
  go_enter Try.func76, Try.ntmps76
  go_wp2_with fail
  go_ret
  exact ⟨rfl, Fr.alloc _ _ _⟩

theorem rright_any (a l : Int) (w : World) :
    Calls Try.prog 76 #[.agg #[.int .i64 a, .int .i64 l]] w fun e w' => e = .returned (.bool (decide (Rg.Right ⟨a, l⟩))) ∧ Fr (fun _ => False) w w' := by
  by_cases h : 0 ≤ l ∧ l ≤ 8 ∧ 0 ≤ a
  · have e : decide (Rg.Right ⟨a, l⟩) = decide (a ≤ 1048576 - pow l) := by
      rw [decide_eq_decide]
      exact ⟨fun hh => hh.2.2.2, fun hh => ⟨h.1, h.2.1, h.2.2, hh⟩⟩
    rw [e]
    exact rright_in a l w h.1 h.2.1 h.2.2
  · have e : decide (Rg.Right ⟨a, l⟩) = false := decide_eq_false (fun hh => h ⟨hh.1, hh.2.1, hh.2.2.1⟩)
    rw [e]
    exact rright_out a l w (by omega)

theorem rright_yes (a l : Int) (w : World) (h : Rg.Right ⟨a, l⟩) :
    Calls Try.prog 76 #[.agg #[.int .i64 a, .int .i64 l]] w fun e w' => e = .returned (.bool true) ∧ Fr (fun _ => False) w w' := by
  have := rright_any a l w
  rwa [decide_eq_true h] at this

theorem rright_no (a l : Int) (w : World) (h : ¬ Rg.Right ⟨a, l⟩) :
    Calls Try.prog 76 #[.agg #[.int .i64 a, .int .i64 l]] w fun e w' => e = .returned (.bool false) ∧ Fr (fun _ => False) w w' := by
  have := rright_any a l w
  rwa [decide_eq_false h] at this

set_option maxHeartbeats 400000 in
theorem rsize_yes (a l : Int) (w : World) (h : Rg.Right ⟨a, l⟩) :
    Calls Try.prog 50 #[.agg #[.int .i64 a, .int .i64 l]] w fun e w' => e = .returned (.int .i64 (pow l)) ∧ Fr (fun _ => False) w w' := by
  have H := hid h
  have HP := fun n (h' : pow l = n) => hid (fun (v : World) => power_ok l n h.1 h.2.1 h' v)
  obtain ⟨n, hn⟩ : ∃ n, pow l = n := ⟨_, rfl⟩
  replace HP := HP n hn
  rw [hn]
  clear hn h
  go_enter Try.func50, Try.ntmps50
  go_wp2_with fail
  refine (rright_yes a l _ H.out).mono ?_
  rintro e w1 ⟨rfl, hF⟩
  have hB := ((Blk.new w #[.int .i64 a, .int .i64 l] 47).keep hF id)
  have c0 := hB.cell (i := 0) rfl
  have c1 := hB.cell (i := 1) rfl
  go_wp2_with fail
  refine (HP.out _).mono ?_
  rintro e w' ⟨rfl, rfl⟩
  go_wp2_with fail
  go_ret
  exact ⟨rfl, (Fr.alloc _ _ _).trans hF⟩

set_option maxHeartbeats 400000 in
theorem rsize_no (a l : Int) (w : World) (h : ¬ Rg.Right ⟨a, l⟩) :
    Calls Try.prog 50 #[.agg #[.int .i64 a, .int .i64 l]] w fun e w' => e = .returned (.int .i64 0) ∧ Fr (fun _ => False) w w' := by
  have H := hid h
  clear h
  go_enter Try.func50, Try.ntmps50
  go_wp2_with fail
  refine (rright_no a l _ H.out).mono ?_
  rintro e w1 ⟨rfl, hF⟩
  go_wp2_with fail
  go_ret
  exact ⟨rfl, (Fr.alloc _ _ _).trans hF⟩

theorem rsize_any (a l : Int) (w : World) :
    Calls Try.prog 50 #[.agg #[.int .i64 a, .int .i64 l]] w fun e w' => e = .returned (.int .i64 (Rg.size ⟨a, l⟩)) ∧ Fr (fun _ => False) w w' := by
  by_cases h : Rg.Right ⟨a, l⟩
  · have e : Rg.size ⟨a, l⟩ = pow l := if_pos h
    rw [e]
    exact rsize_yes a l w h
  · have e : Rg.size ⟨a, l⟩ = 0 := if_neg h
    rw [e]
    exact rsize_no a l w h

theorem tmod_bounds (i n : Int) (hn : 1 ≤ n) : -n < i.tmod n ∧ i.tmod n < n := by
  by_cases h : 0 ≤ i
  · rw [Int.tmod_eq_emod_of_nonneg h]
    have := Int.emod_nonneg i (show n ≠ 0 by omega)
    have := Int.emod_lt_of_pos i (show 0 < n by omega)
    omega
  · have e : i.tmod n = -((-i) % n) := by
      rw [← Int.tmod_eq_emod_of_nonneg (show 0 ≤ -i by omega), Int.neg_tmod, Int.neg_neg]
    rw [e]
    have := Int.emod_nonneg (-i) (show n ≠ 0 by omega)
    have := Int.emod_lt_of_pos (-i) (show 0 < n by omega)
    omega

theorem tmod_round (i n : Int) (hn : 1 ≤ n) : (i.tmod n + n).tmod n = i % n := by
  have h1 := tmod_bounds i n hn
  have h2 : (i.tmod n + n) % n = i % n := by
    have e := Int.mul_tdiv_add_tmod i n
    have e2 : i.tmod n = i + n * (-(i.tdiv n)) := by rw [Int.mul_neg]; omega
    rw [Int.add_emod_right, e2, Int.add_mul_emod_self_left]
  rw [Int.tmod_eq_emod_of_nonneg (by omega), h2]

set_option maxHeartbeats 400000 in
theorem rplace_yes (a l i : Int) (w : World) (h : Rg.Right ⟨a, l⟩) :
    Calls Try.prog 67 #[.agg #[.int .i64 a, .int .i64 l], .int .i64 i] w fun e w' => e = .returned (.int .i64 (a + i % pow l)) ∧ Fr (fun _ => False) w w' := by
  have H := hid h
  obtain ⟨h0, h8, ha, hb⟩ := h
  simp only at h0 h8 ha hb
  have n1 := pow_pos l
  have n2 := pow_le l h8
  have HZ := hid (fun (v : World) => rsize_yes a l v H.out)
  obtain ⟨n, hn⟩ : ∃ n, pow l = n := ⟨_, rfl⟩
  rw [hn] at hb n1 n2 HZ ⊢
  clear hn
  have hm := tmod_round i n n1
  obtain ⟨y, hy⟩ : ∃ y, i % n = y := ⟨_, rfl⟩
  have y0 : 0 ≤ y := by rw [← hy]; exact Int.emod_nonneg _ (by omega)
  have y1 : y < n := by rw [← hy]; exact Int.emod_lt_of_pos _ (by omega)
  rw [hy] at hm ⊢
  have r0 := (tmod_bounds i n n1).1
  have r1 := (tmod_bounds i n n1).2
  obtain ⟨r, hr⟩ : ∃ r, i.tmod n = r := ⟨_, rfl⟩
  rw [hr] at hm r0 r1
  have HY := hid hy
  clear hy
  have q0 : 0 ≤ a + y := by omega
  have q1 : a + y ≤ 1048576 := by omega
  have q2 : -9223372036854775808 ≤ r + n := by omega
  have q3 : r + n ≤ 9223372036854775807 := by omega
  have q4 : ¬ n = 0 := by omega
  go_enter Try.func67, Try.ntmps67
  go_wp2_with fail
  refine (rright_yes a l _ H.out).mono ?_
  rintro e w1 ⟨rfl, hF⟩
  have hB := ((Blk.new w #[.int .i64 a, .int .i64 l] 47).keep hF id)
  have c0 := hB.cell (i := 0) rfl
  have c1 := hB.cell (i := 1) rfl
  go_wp2_with fail
  refine (HZ.out _).mono ?_
  rintro e w2 ⟨rfl, hF2⟩
  have hB2 := hB.keep hF2 id
  clear c0 c1
  have c0 := hB2.cell (i := 0) rfl
  have c1 := hB2.cell (i := 1) rfl
  go_wp2_with fail
  go_quiet (fail)
  go_wp2_with fail
  go_ret
  exact ⟨rfl, (Fr.alloc _ _ _).trans (hF.trans (hF2.trans (Fr.drewN _ _ _)))⟩

set_option maxHeartbeats 400000 in
theorem rplace_no (a l i : Int) (w : World) (h : ¬ Rg.Right ⟨a, l⟩) :
    Calls Try.prog 67 #[.agg #[.int .i64 a, .int .i64 l], .int .i64 i] w fun e w' => e = .returned (.int .i64 (-1)) ∧ Fr (fun _ => False) w w' := by
  have H := hid h
  clear h
  go_enter Try.func67, Try.ntmps67
  go_wp2_with fail
  refine (rright_no a l _ H.out).mono ?_
  rintro e w1 ⟨rfl, hF⟩
  go_wp2_with fail
  go_ret
  exact ⟨rfl, (Fr.alloc _ _ _).trans hF⟩

theorem rplace_any (a l i : Int) (w : World) :
    Calls Try.prog 67 #[.agg #[.int .i64 a, .int .i64 l], .int .i64 i] w fun e w' => e = .returned (.int .i64 (Rg.place ⟨a, l⟩ i)) ∧ Fr (fun _ => False) w w' := by
  by_cases h : Rg.Right ⟨a, l⟩
  · have e : Rg.place ⟨a, l⟩ i = a + i % pow l := if_pos h
    rw [e]
    exact rplace_yes a l i w h
  · have e : Rg.place ⟨a, l⟩ i = -1 := if_neg h
    rw [e]
    exact rplace_no a l i w h

set_option maxHeartbeats 400000 in
theorem rword_yes (a l : Int) (w : World) (h : Rg.Right ⟨a, l⟩) :
    Calls Try.prog 85 #[.agg #[.int .i64 a, .int .i64 l]] w fun e w' => e = .returned (.int .i64 (a * 16 + l)) ∧ Fr (fun _ => False) w w' := by
  have H := hid h
  obtain ⟨h0, h8, ha, hb⟩ := h
  simp only at h0 h8 ha hb
  have hp := pow_pos l
  have hb : a ≤ 1048576 := by omega
  clear hp
  go_enter Try.func85, Try.ntmps85
  go_wp2_with fail
  refine (rright_yes a l _ H.out).mono ?_
  rintro e w1 ⟨rfl, hF⟩
  have hB := ((Blk.new w #[.int .i64 a, .int .i64 l] 47).keep hF id)
  have c0 := hB.cell (i := 0) rfl
  have c1 := hB.cell (i := 1) rfl
  go_wp2_with fail
  go_ret
  exact ⟨by rw [Int.mul_comm]; rfl, (Fr.alloc _ _ _).trans hF⟩

set_option maxHeartbeats 400000 in
theorem rword_no (a l : Int) (w : World) (h : ¬ Rg.Right ⟨a, l⟩) :
    Calls Try.prog 85 #[.agg #[.int .i64 a, .int .i64 l]] w fun e w' => e = .returned (.int .i64 (-1)) ∧ Fr (fun _ => False) w w' := by
  have H := hid h
  clear h
  go_enter Try.func85, Try.ntmps85
  go_wp2_with fail
  refine (rright_no a l _ H.out).mono ?_
  rintro e w1 ⟨rfl, hF⟩
  go_wp2_with fail
  go_ret
  exact ⟨rfl, (Fr.alloc _ _ _).trans hF⟩

theorem rword_any (a l : Int) (w : World) :
    Calls Try.prog 85 #[.agg #[.int .i64 a, .int .i64 l]] w fun e w' => e = .returned (.int .i64 (Rg.word ⟨a, l⟩)) ∧ Fr (fun _ => False) w w' := by
  by_cases h : Rg.Right ⟨a, l⟩
  · have e : Rg.word ⟨a, l⟩ = a * 16 + l := if_pos h
    rw [e]
    exact rword_yes a l w h
  · have e : Rg.word ⟨a, l⟩ = -1 := if_neg h
    rw [e]
    exact rword_no a l w h

set_option maxHeartbeats 400000 in
theorem rof_neg (x : Int) (w : World) (hx : x < 0) :
    Calls Try.prog 66 #[.int .i64 x] w fun e w' => e = .returned (.tuple #[.agg #[.int .i64 0, .int .i64 0], .int .i64 11]) ∧ Fr (fun _ => False) w w' := by
  go_enter Try.func66, Try.ntmps66
  go_wp2_with fail
  refine bodyPost_ret (v := .tuple #[.agg #[.int .i64 0, .int .i64 0], .int .i64 11]) ?hv rfl ?hp
  case hv => (simp [results, Try.results66, go_sem]; try rfl)
  case hp => exact ⟨rfl, Fr.alloc _ _ _⟩

set_option maxHeartbeats 400000 in
theorem rof_no (x : Int) (w : World) (hx : 0 ≤ x) (hf : x ≤ 9223372036854775807) (h : ¬ Rg.Right (rgOf x)) :
    Calls Try.prog 66 #[.int .i64 x] w fun e w' => e = .returned (.tuple #[.agg #[.int .i64 0, .int .i64 0], .int .i64 11]) ∧ Fr (fun _ => False) w w' := by
  obtain ⟨a, ha⟩ : ∃ a, x / 16 = a := ⟨_, rfl⟩
  obtain ⟨l, hl⟩ : ∃ l, x % 16 = l := ⟨_, rfl⟩
  have e1 : x.tdiv 16 = a := by rw [Int.tdiv_eq_ediv_of_nonneg hx, ha]
  have e2 : x.tmod 16 = l := by rw [Int.tmod_eq_emod_of_nonneg hx, hl]
  have q1 : 0 ≤ a := by omega
  have q2 : a ≤ 9223372036854775807 := by omega
  have hR : ¬ Rg.Right ⟨a, l⟩ := by rw [← ha, ← hl]; exact h
  have HR := hid hR
  have tx : decide (x < 0) = false := by simp; omega
  clear ha hl
  clear hR h
  go_enter Try.func66, Try.ntmps66
  go_wp2_with fail
  refine (rright_no _ _ _ HR.out).mono ?_
  rintro e w1 ⟨rfl, hF⟩
  have HR0 := hid (((Blk.new w #[.int .i64 0, .int .i64 0] 47).alloc _).keep hF id)
  have hB := ((Blk.new (w.alloc (.cells #[.int .i64 0, .int .i64 0] 47)) #[.int .i64 a, .int .i64 l] 47).at (n := w.heap.size + 1) (by simp)).keep hF id
  have c0 := hB.cell (i := 0) rfl
  have c1 := hB.cell (i := 1) rfl
  have p0 : w1.cell? ⟨w.heap.size, 0, none⟩ = some (.int .i64 0) := HR0.out.cell rfl
  have p1 : w1.cell? ⟨w.heap.size, 1, none⟩ = some (.int .i64 0) := HR0.out.cell rfl
  have f0 := HR0.out.frozen 0
  have f1 := HR0.out.frozen 1
  go_wp2_with fail
  have hR9 := HR0.out.set2 (.int .i64 0) (.int .i64 0)
  have hF9 := fr_set2 w1 w.heap.size (.int .i64 0) (.int .i64 0)
  obtain ⟨w9, hw9⟩ : ∃ w9, w9 = ((w1.setCell ⟨w.heap.size, 0, none⟩ (.int .i64 0)).setCell ⟨w.heap.size, 1, none⟩ (.int .i64 0)) := ⟨_, rfl⟩
  rw [← hw9] at hR9 hF9 ⊢
  clear hw9 p0 p1
  have p0 : w9.cell? ⟨w.heap.size, 0, none⟩ = some (.int .i64 0) := hR9.cell rfl
  have p1 : w9.cell? ⟨w.heap.size, 1, none⟩ = some (.int .i64 0) := hR9.cell rfl
  refine bodyPost_ret (v := .tuple #[.agg #[.int .i64 0, .int .i64 0], .int .i64 11]) ?hv rfl ?hp
  case hv => (simp [results, Try.results66, go_sem, p0, p1]; try rfl)
  case hp => exact ⟨rfl, ((Fr.alloc _ _ _).trans ((Fr.alloc _ _ _).trans hF)).since hF9 (fun i hi hh => by omega)⟩

set_option maxHeartbeats 400000 in
theorem rof_yes (x : Int) (w : World) (hx : 0 ≤ x) (hf : x ≤ 9223372036854775807) (h : Rg.Right (rgOf x)) :
    Calls Try.prog 66 #[.int .i64 x] w fun e w' => e = .returned (.tuple #[.agg #[.int .i64 (x / 16), .int .i64 (x % 16)], .int .i64 0]) ∧ Fr (fun _ => False) w w' := by
  obtain ⟨a, ha⟩ : ∃ a, x / 16 = a := ⟨_, rfl⟩
  obtain ⟨l, hl⟩ : ∃ l, x % 16 = l := ⟨_, rfl⟩
  have e1 : x.tdiv 16 = a := by rw [Int.tdiv_eq_ediv_of_nonneg hx, ha]
  have e2 : x.tmod 16 = l := by rw [Int.tmod_eq_emod_of_nonneg hx, hl]
  have q1 : 0 ≤ a := by omega
  have q2 : a ≤ 9223372036854775807 := by omega
  have hR : Rg.Right ⟨a, l⟩ := by rw [← ha, ← hl]; exact h
  have HR := hid hR
  have tx : decide (x < 0) = false := by simp; omega
  rw [ha, hl]
  clear ha hl
  clear hR h
  go_enter Try.func66, Try.ntmps66
  go_wp2_with fail
  refine (rright_yes _ _ _ HR.out).mono ?_
  rintro e w1 ⟨rfl, hF⟩
  have HR0 := hid (((Blk.new w #[.int .i64 0, .int .i64 0] 47).alloc _).keep hF id)
  have hB := ((Blk.new (w.alloc (.cells #[.int .i64 0, .int .i64 0] 47)) #[.int .i64 a, .int .i64 l] 47).at (n := w.heap.size + 1) (by simp)).keep hF id
  have c0 := hB.cell (i := 0) rfl
  have c1 := hB.cell (i := 1) rfl
  have p0 : w1.cell? ⟨w.heap.size, 0, none⟩ = some (.int .i64 0) := HR0.out.cell rfl
  have p1 : w1.cell? ⟨w.heap.size, 1, none⟩ = some (.int .i64 0) := HR0.out.cell rfl
  have f0 := HR0.out.frozen 0
  have f1 := HR0.out.frozen 1
  go_wp2_with fail
  have hR9 := HR0.out.set2 (.int .i64 a) (.int .i64 l)
  have hF9 := fr_set2 w1 w.heap.size (.int .i64 a) (.int .i64 l)
  obtain ⟨w9, hw9⟩ : ∃ w9, w9 = ((w1.setCell ⟨w.heap.size, 0, none⟩ (.int .i64 a)).setCell ⟨w.heap.size, 1, none⟩ (.int .i64 l)) := ⟨_, rfl⟩
  rw [← hw9] at hR9 hF9 ⊢
  clear hw9 p0 p1
  have p0 : w9.cell? ⟨w.heap.size, 0, none⟩ = some (.int .i64 a) := hR9.cell rfl
  have p1 : w9.cell? ⟨w.heap.size, 1, none⟩ = some (.int .i64 l) := hR9.cell rfl
  refine bodyPost_ret (v := .tuple #[.agg #[.int .i64 a, .int .i64 l], .int .i64 0]) ?hv rfl ?hp
  case hv => (simp [results, Try.results66, go_sem, p0, p1]; try rfl)
  case hp => exact ⟨rfl, ((Fr.alloc _ _ _).trans ((Fr.alloc _ _ _).trans hF)).since hF9 (fun i hi hh => by omega)⟩

theorem rof_any (x : Int) (w : World) (hf : x ≤ 9223372036854775807) :
    Calls Try.prog 66 #[.int .i64 x] w fun e w' => e = .returned (ofVal x) ∧ Fr (fun _ => False) w w' := by
  by_cases h : ofErr x
  · have e : ofVal x = .tuple #[.agg #[.int .i64 (x / 16), .int .i64 (x % 16)], .int .i64 0] := if_pos h
    rw [e]
    exact rof_yes x w h.1 hf h.2
  · have e : ofVal x = .tuple #[.agg #[.int .i64 0, .int .i64 0], .int .i64 11] := if_neg h
    rw [e]
    by_cases hx : 0 ≤ x
    · exact rof_no x w hx hf (fun hh => h ⟨hx, hh⟩)
    · exact rof_neg x w (by omega)

end Go.Proofs.Ytiofdfgcghiibaa
