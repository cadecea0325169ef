/-
  RingRounds answers true at any ring, any two places.
-/
import Derived.Test.YthomjenkemepiaaAwake
import Derived.Deep.RegionHeld3
import Derived.Deep.DeepCutAuto
import Derived.Deep.LoopGhost
namespace Go.Proofs.Ythomjenkemepiaa
open Go.RowKit
set_option linter.unusedVariables false

theorem wrap_i64' (n : Int) (h0 : -9223372036854775808 ≤ n) (h1 : n ≤ 9223372036854775807) : IntKind.i64.wrap n = n := by
  have e : IntKind.i64.wrap n = (n + 9223372036854775808) % 18446744073709551616 - 9223372036854775808 := by
    simp only [IntKind.wrap, IntKind.bits, IntKind.signed]
    simp
    split <;> omega
  omega

theorem pow_dvd (l : Int) (h8 : l ≤ 8) : pow l ∣ 18446744073709551616 := by
  have : (2 ^ l.toNat : Nat) ∣ 2 ^ 64 := Nat.pow_dvd_pow 2 (by omega)
  have h := Int.natCast_dvd_natCast.2 this
  exact h

theorem apart_any (i j n : Int) (hn : 1 ≤ n) (hd : n ∣ 18446744073709551616) : ((i % 18446744073709551616 - j % 18446744073709551616) % 18446744073709551616) % n = (i - j) % n := by
  rw [Int.emod_emod_of_dvd _ hd, Int.sub_emod, Int.emod_emod_of_dvd _ hd, Int.emod_emod_of_dvd _ hd, ← Int.sub_emod]

theorem apart_zero (a i j n : Int) (hn : 1 ≤ n) : (a + i % n == a + j % n) = ((i - j) % n == 0) := by
  have e : (i % n = j % n) ↔ (i - j) % n = 0 := Int.emod_eq_emod_iff_emod_sub_eq_zero
  by_cases h : (i - j) % n = 0
  · rw [e.2 h, h]; simp
  · have hne : ¬ i % n = j % n := fun hh => h (e.1 hh)
    have h1 : (a + i % n == a + j % n) = false := by simp; omega
    have h2 : ((i - j) % n == 0) = false := by simpa using h
    rw [h1, h2]

set_option maxRecDepth 100000 in
set_option maxHeartbeats 1000000 in
theorem rounds_out (a l i j : Int) (w : World) (h : ¬ Rg.Right ⟨a, l⟩) :
    Calls Try.prog 5 #[.agg #[.int .i64 a, .int .i64 l], .int .i64 i, .int .i64 j] w fun e w' => e = .returned (.bool true) ∧ Below w.heap.size w w' := by
  have H := hid h
  clear h
  have HB1 := hid ((Blk.new (w.alloc (.cells #[.int .i64 a, .int .i64 l] 23)) #[.int .i64 a, .int .i64 l] 24).at (n := w.heap.size + 1) (by simp))
  go_enter Try.func5, Try.ntmps5
  go_wp2_with fail
  refine (size_no a l _ H.out).mono ?_
  rintro e w1 ⟨rfl, hF⟩
  have HT := hid (show Fr (fun _ => False) w w1 from (Fr.alloc _ _ _).trans ((Fr.alloc _ _ _).trans hF))
  have hB1 := HB1.out.keep hF id
  have c0 := hB1.cell (i := 0) rfl
  have c1 := hB1.cell (i := 1) rfl
  clear hF
  go_wp2_with fail
  refine (place_no a l i _ H.out).mono ?_
  rintro e w2 ⟨rfl, hF⟩
  have HT := hid (HT.out.trans hF)
  clear hF c0 c1 hB1
  go_wp2_with fail
  refine (awake_ok _).mono ?_
  rintro e w3 ⟨rfl, hF⟩
  go_wp2_with fail
  go_ret
  exact ⟨rfl, (HT.out.trans hF).below (Nat.le_refl _) (fun _ hh => hh.elim)⟩

set_option maxRecDepth 100000 in
set_option maxHeartbeats 2000000 in
theorem rounds_in (a l i j : Int) (w : World) (h : Rg.Right ⟨a, l⟩) :
    Calls Try.prog 5 #[.agg #[.int .i64 a, .int .i64 l], .int .i64 i, .int .i64 j] w fun e w' => e = .returned (.bool true) ∧ Below w.heap.size w w' := by
  have Z := hid (fun v => size_yes a l v h)
  have P1 := hid (fun v => place_yes a l i v h)
  have P2 := hid (fun v => place_yes a l j v h)
  have P3 := hid (fun v => place_yes a l 0 v h)
  have P4 := hid (fun v => place_yes a l (pow l - 1) v h)
  have AW := hid (fun v => awake_ok v)
  have hb := h.2.2.2
  have ha := h.2.2.1
  simp only at hb ha
  have n1 := pow_pos l
  have n2 := pow_le l h.2.1
  have nd := pow_dvd l h.2.1
  have ap := apart_any i j (pow l) n1 nd
  have az := apart_zero a i j (pow l) n1
  obtain ⟨n, hn⟩ : ∃ n, pow l = n := ⟨_, rfl⟩
  rw [hn] at Z P1 P2 P3 P4 n1 n2 ap az hb
  clear hn nd h
  rw [show a + 0 % n = a by simp] at P3
  rw [show a + (n - 1) % n = a + n - 1 by rw [Int.emod_eq_of_lt (by omega) (by omega)]; omega] at P4
  have y0 := Int.emod_nonneg i (show n ≠ 0 by omega)
  have y1 := Int.emod_lt_of_pos i (show 0 < n by omega)
  have u0 := Int.emod_nonneg j (show n ≠ 0 by omega)
  have u1 := Int.emod_lt_of_pos j (show 0 < n by omega)
  obtain ⟨A, hA⟩ : ∃ A, a + i % n = A := ⟨_, rfl⟩
  obtain ⟨B, hB⟩ : ∃ B, a + j % n = B := ⟨_, rfl⟩
  rw [hA] at P1 az
  rw [hB] at P2 az
  have A0 : a ≤ A := by omega
  have A1 : A ≤ 1048576 := by omega
  have B0 : a ≤ B := by omega
  have B1 : B ≤ 1048576 := by omega
  have tA0 : decide (A < a) = false := by simp; omega
  have tA1 : decide (n ≤ A - a) = false := by simp; omega
  have tB0 : decide (B < a) = false := by simp; omega
  have tB1 : decide (n ≤ B - a) = false := by simp; omega
  have tn1 : decide (n < 1) = false := by simp; omega
  have tn2 : decide (256 < n) = false := by simp; omega
  have wn : IntKind.u64.wrap n = n := by rw [wrap_u64']; omega
  obtain ⟨i1, hi1⟩ : ∃ x1, IntKind.u64.wrap i = x1 := ⟨_, rfl⟩
  obtain ⟨j1, hj1⟩ : ∃ y1, IntKind.u64.wrap j = y1 := ⟨_, rfl⟩
  obtain ⟨d, hd⟩ : ∃ d, IntKind.u64.wrap (i1 - j1) = d := ⟨_, rfl⟩
  rw [← wrap_u64' i, ← wrap_u64' j, hi1, hj1, ← wrap_u64', hd] at ap
  have d0 : 0 ≤ d := by rw [← hd, wrap_u64']; omega
  obtain ⟨p, hp⟩ : ∃ p, d % n = p := ⟨_, rfl⟩
  have ht : d.tmod n = p := by rw [Int.tmod_eq_emod_of_nonneg d0, hp]
  rw [← ap, hp] at az
  obtain ⟨tt, h1⟩ : ∃ tt, (p == 0) = tt := ⟨_, rfl⟩
  rw [h1] at az
  have t3 : (tt != tt) = false := by cases tt <;> rfl
  have q1 : a + n ≤ 1048832 := by omega
  have q2 : ¬ n = 0 := by omega
  clear hA hB ap y0 y1 u0 u1
  have HB0 := hid ((Blk.new w #[.int .i64 a, .int .i64 l] 23).alloc (.cells #[.int .i64 a, .int .i64 l] 24))
  have HB1 := hid ((Blk.new (w.alloc (.cells #[.int .i64 a, .int .i64 l] 23)) #[.int .i64 a, .int .i64 l] 24).at (n := w.heap.size + 1) (by simp))
  go_enter Try.func5, Try.ntmps5
  go_wp2_with fail
  refine (Z.out _).mono ?_
  rintro e w1 ⟨rfl, hF⟩
  have HT := hid (show Fr (fun _ => False) w w1 from (Fr.alloc _ _ _).trans ((Fr.alloc _ _ _).trans hF))
  have HB0 := hid (HB0.out.keep hF id)
  have HB1 := hid (HB1.out.keep hF id)
  have c0 := HB1.out.cell (i := 0) rfl
  have c1 := HB1.out.cell (i := 1) rfl
  clear hF
  go_wp2_with fail
  refine (P1.out _).mono ?_
  rintro e w2 ⟨rfl, hF⟩
  have HT := hid (HT.out.trans hF)
  have HB0 := hid (HB0.out.keep hF id)
  have HB1 := hid (HB1.out.keep hF id)
  clear hF c0 c1
  have c0 := HB1.out.cell (i := 0) rfl
  have c1 := HB1.out.cell (i := 1) rfl
  go_wp2_with fail
  refine (P2.out _).mono ?_
  rintro e w3 ⟨rfl, hF⟩
  have HT := hid (HT.out.trans hF)
  have HB0 := hid (HB0.out.keep hF id)
  have HB1 := hid (HB1.out.keep hF id)
  clear hF c0 c1
  have c0 := HB1.out.cell (i := 0) rfl
  have c1 := HB1.out.cell (i := 1) rfl
  have s0 := HB0.out.cell (i := 0) rfl
  have HS := hid (show ∀ w', Fr (fun _ => False) w3 w' → w'.cell? ⟨w.heap.size, 0, none⟩ = some (.int .i64 a) ∧ w'.cell? ⟨(w.heap.size + 1), 0, none⟩ = some (.int .i64 a) ∧ w'.cell? ⟨(w.heap.size + 1), 1, none⟩ = some (.int .i64 l) from fun w' F => ⟨(HB0.out.keep F id).cell rfl, (HB1.out.keep F id).cell rfl, (HB1.out.keep F id).cell rfl⟩)
  have HFd := hid (Fr.refl (fun _ => False) w3)
  go_upto_region 10 with fail
  have wn1 : IntKind.i64.wrap (n - 1) = n - 1 := wrap_i64' _ (by omega) (by omega)
  have wn2 : IntKind.i64.wrap (a + n) = a + n := wrap_i64' _ (by omega) (by omega)
  have wn3 : IntKind.i64.wrap (a + n - 1) = a + n - 1 := wrap_i64' _ (by omega) (by omega)
  go_region_held3 (fun w' => w'.cell? ⟨w.heap.size, 0, none⟩ = some (.int .i64 a) ∧ w'.cell? ⟨(w.heap.size + 1), 0, none⟩ = some (.int .i64 a) ∧ w'.cell? ⟨(w.heap.size + 1), 1, none⟩ = some (.int .i64 l))
    (first | exact HS.out _ HFd.out | exact HS.out _ (HFd.out.trans (Fr.drew _ _)))
    (first
      | (go_at_call 12; first
          | ((with_reducible refine (P3.out _).mono ?_); rintro e w6 ⟨rfl, hF6⟩; have HFd := hid (HFd.out.trans (Fr.trans (by first | exact Fr.refl _ _ | exact Fr.drew _ _) hF6)); clear hF6)
          | ((with_reducible refine (P4.out _).mono ?_); rintro e w6 ⟨rfl, hF6⟩; have HFd := hid (HFd.out.trans (Fr.trans (by first | exact Fr.refl _ _ | exact Fr.drew _ _) hF6)); clear hF6))
      | (go_at_call 18; first
          | ((with_reducible refine (AW.out _).mono ?_); rintro e w6 ⟨rfl, hF6⟩; have HFd := hid (HFd.out.trans (Fr.trans (by first | exact Fr.refl _ _ | exact Fr.drew _ _) hF6)); clear hF6)))
  all_goals
    go_wp2_with fail
    go_ret
    exact ⟨by simp, (HT.out.trans HFd.out).below (Nat.le_refl _) (fun _ hh => hh.elim)⟩

theorem roundsLaw (a l i j : Int) (w : World) :
    Calls Try.prog 5 #[.agg #[.int .i64 a, .int .i64 l], .int .i64 i, .int .i64 j] w fun e w' => e = .returned (.bool true) ∧ Below w.heap.size w w' := by
  by_cases h : Rg.Right ⟨a, l⟩
  · exact rounds_in a l i j w h
  · exact rounds_out a l i j w h
end Go.Proofs.Ythomjenkemepiaa
