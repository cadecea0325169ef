/-
  RingNil answers true at any two rings, any places, any worker and log.
-/
import Derived.Test.YthomjenkemepiaaAwake
import Derived.Deep.RegionHeld3
import Derived.Deep.DeepCutAuto
import Derived.Deep.LoopGhost
namespace Go.Proofs.Ythomjenkemepiaa
open Go.RowKit
set_option linter.unusedVariables false

set_option maxRecDepth 100000 in
set_option maxHeartbeats 1000000 in
theorem nil_a (a l b k x y o g : Int) (w : World) (hx : Fits x) (hy : Fits y) (h : ¬ Rg.Right ⟨a, l⟩) :
    Calls Try.prog 9 #[.agg #[.int .i64 a, .int .i64 l, .int .i64 b, .int .i64 k], .agg #[.int .i64 x, .int .i64 y], .agg #[.int .i64 o, .int .i64 g]] w fun e w' => e = .returned (.bool true) ∧ Below w.heap.size w w' := by
  have HC := hid (fun v => copy_arg a l b k x y v (fun hh => h hh.1))
  have Z1 := hid (fun v => size_no a l v h)
  clear h
  have HB0 := hid (((Blk.new w #[.int .i64 a, .int .i64 l, .int .i64 b, .int .i64 k] 50).alloc (.cells #[.int .i64 x, .int .i64 y] 51)).alloc (.cells #[.int .i64 o, .int .i64 g] 47))
  have HB1 := hid (((Blk.new (w.alloc (.cells #[.int .i64 a, .int .i64 l, .int .i64 b, .int .i64 k] 50)) #[.int .i64 x, .int .i64 y] 51).at (n := w.heap.size + 1) (by simp)).alloc (.cells #[.int .i64 o, .int .i64 g] 47))
  have HB2 := hid ((Blk.new ((w.alloc (.cells #[.int .i64 a, .int .i64 l, .int .i64 b, .int .i64 k] 50)).alloc (.cells #[.int .i64 x, .int .i64 y] 51)) #[.int .i64 o, .int .i64 g] 47).at (n := w.heap.size + 2) (by simp))
  have HT := hid (show Fr (fun _ => False) w (((w.alloc (.cells #[.int .i64 a, .int .i64 l, .int .i64 b, .int .i64 k] 50)).alloc (.cells #[.int .i64 x, .int .i64 y] 51)).alloc (.cells #[.int .i64 o, .int .i64 g] 47)) from (Fr.alloc _ _ _).trans ((Fr.alloc _ _ _).trans (Fr.alloc _ _ _)))
  go_enter Try.func9, Try.ntmps9
  go_wp2_with fail
  refine (rnew_nil o g _).mono ?_
  rintro e w1 ⟨rfl, hF⟩
  have HT := hid (HT.out.trans (hF.trans (Fr.alloc _ w1 (.cells #[.int .i64 0, .int .i64 0] 24))))
  have HB0 := hid ((HB0.out.keep hF id).alloc (.cells #[.int .i64 0, .int .i64 0] 24))
  have HB1 := hid ((HB1.out.keep hF id).alloc (.cells #[.int .i64 0, .int .i64 0] 24))
  have HB2 := hid ((HB2.out.keep hF id).alloc (.cells #[.int .i64 0, .int .i64 0] 24))
  have HR := hid (Blk.new w1 #[.int .i64 0, .int .i64 0] 24)
  clear hF
  go_wp2_with fail
  refine (new_ok 4 1 _ (by omega) (by omega) (by omega) (by omega)).mono ?_
  rintro e w2 ⟨m, rfl, hM, hF, hN⟩
  have HM := hid hM
  have HT := hid (HT.out.trans hF)
  have HB0 := hid (HB0.out.keep hF id)
  have HB1 := hid (HB1.out.keep hF id)
  have HB2 := hid (HB2.out.keep hF id)
  have hR := HR.out.keep hF id
  clear hM hF hN HR
  have r0 := hR.cell (i := 0) rfl
  have r1 := hR.cell (i := 1) rfl
  have s0 := HB0.out.cell (i := 0) rfl
  have s1 := HB0.out.cell (i := 1) rfl
  have s2 := HB0.out.cell (i := 2) rfl
  have s3 := HB0.out.cell (i := 3) rfl
  have p0 := HB1.out.cell (i := 0) rfl
  have p1 := HB1.out.cell (i := 1) rfl
  have o0 := HB2.out.cell (i := 0) rfl
  have o1 := HB2.out.cell (i := 1) rfl
  have l0 := HB0.out.lt
  have l1 := HB1.out.lt
  have l2 := HB2.out.lt
  go_wp2_with fail
  refine (step_nil _ (.inr ⟨_, rfl⟩) o _).mono ?_
  rintro e w' ⟨rfl, rfl⟩
  go_wp2_with fail
  refine (HC.out _).mono ?_
  rintro e w3 ⟨rfl, hF⟩
  have HB1 := hid (((HB1.out.alloc (.cells #[.int .i64 a, .int .i64 l] 24)).alloc (.cells #[.int .i64 b, .int .i64 k] 24)).keep hF id)
  have HB2 := hid (((HB2.out.alloc (.cells #[.int .i64 a, .int .i64 l] 24)).alloc (.cells #[.int .i64 b, .int .i64 k] 24)).keep hF id)
  have HRA := hid (((Blk.new w2 #[.int .i64 a, .int .i64 l] 24).alloc (.cells #[.int .i64 b, .int .i64 k] 24)).keep hF id)
  have HRB := hid (((Blk.new (w2.alloc (.cells #[.int .i64 a, .int .i64 l] 24)) #[.int .i64 b, .int .i64 k] 24).at (n := w2.heap.size + 1) (by simp)).keep hF id)
  have HT := hid (HT.out.trans ((Fr.alloc _ _ _).trans ((Fr.alloc _ _ _).trans hF)))
  clear hF r0 r1 s0 s1 s2 s3 p0 p1 o0 o1 HB0 HM hR l0 l1 l2
  have a0 := HRA.out.cell (i := 0) rfl
  have a1 := HRA.out.cell (i := 1) rfl
  go_wp2_with fail
  refine (Z1.out _).mono ?_
  rintro e w4 ⟨rfl, hF⟩
  have HT := hid (HT.out.trans hF)
  clear hF a0 a1
  go_wp2_with fail
  refine (awake_ok _).mono ?_
  rintro e w9 ⟨rfl, hF⟩
  go_wp2_with fail
  go_ret
  exact ⟨rfl, (HT.out.trans hF).below (Nat.le_refl _) (fun _ hh => hh.elim)⟩

set_option maxRecDepth 100000 in
set_option maxHeartbeats 1000000 in
theorem nil_b (a l b k x y o g : Int) (w : World) (hx : Fits x) (hy : Fits y) (h1 : Rg.Right ⟨a, l⟩) (h2 : ¬ Rg.Right ⟨b, k⟩) :
    Calls Try.prog 9 #[.agg #[.int .i64 a, .int .i64 l, .int .i64 b, .int .i64 k], .agg #[.int .i64 x, .int .i64 y], .agg #[.int .i64 o, .int .i64 g]] w fun e w' => e = .returned (.bool true) ∧ Below w.heap.size w w' := by
  have HC := hid (fun v => copy_arg a l b k x y v (fun hh => h2 hh.2))
  have Z1 := hid (fun v => size_yes a l v h1)
  have Z2 := hid (fun v => size_no b k v h2)
  have z1 := pow_pos l
  obtain ⟨n, hn⟩ : ∃ n, pow l = n := ⟨_, rfl⟩
  rw [hn] at Z1 z1
  have t1 : (n == 0) = false := by simp; omega
  clear hn z1 h1 h2
  have HB0 := hid (((Blk.new w #[.int .i64 a, .int .i64 l, .int .i64 b, .int .i64 k] 50).alloc (.cells #[.int .i64 x, .int .i64 y] 51)).alloc (.cells #[.int .i64 o, .int .i64 g] 47))
  have HB1 := hid (((Blk.new (w.alloc (.cells #[.int .i64 a, .int .i64 l, .int .i64 b, .int .i64 k] 50)) #[.int .i64 x, .int .i64 y] 51).at (n := w.heap.size + 1) (by simp)).alloc (.cells #[.int .i64 o, .int .i64 g] 47))
  have HB2 := hid ((Blk.new ((w.alloc (.cells #[.int .i64 a, .int .i64 l, .int .i64 b, .int .i64 k] 50)).alloc (.cells #[.int .i64 x, .int .i64 y] 51)) #[.int .i64 o, .int .i64 g] 47).at (n := w.heap.size + 2) (by simp))
  have HT := hid (show Fr (fun _ => False) w (((w.alloc (.cells #[.int .i64 a, .int .i64 l, .int .i64 b, .int .i64 k] 50)).alloc (.cells #[.int .i64 x, .int .i64 y] 51)).alloc (.cells #[.int .i64 o, .int .i64 g] 47)) from (Fr.alloc _ _ _).trans ((Fr.alloc _ _ _).trans (Fr.alloc _ _ _)))
  go_enter Try.func9, Try.ntmps9
  go_wp2_with fail
  refine (rnew_nil o g _).mono ?_
  rintro e w1 ⟨rfl, hF⟩
  have HT := hid (HT.out.trans (hF.trans (Fr.alloc _ w1 (.cells #[.int .i64 0, .int .i64 0] 24))))
  have HB0 := hid ((HB0.out.keep hF id).alloc (.cells #[.int .i64 0, .int .i64 0] 24))
  have HB1 := hid ((HB1.out.keep hF id).alloc (.cells #[.int .i64 0, .int .i64 0] 24))
  have HB2 := hid ((HB2.out.keep hF id).alloc (.cells #[.int .i64 0, .int .i64 0] 24))
  have HR := hid (Blk.new w1 #[.int .i64 0, .int .i64 0] 24)
  clear hF
  go_wp2_with fail
  refine (new_ok 4 1 _ (by omega) (by omega) (by omega) (by omega)).mono ?_
  rintro e w2 ⟨m, rfl, hM, hF, hN⟩
  have HM := hid hM
  have HT := hid (HT.out.trans hF)
  have HB0 := hid (HB0.out.keep hF id)
  have HB1 := hid (HB1.out.keep hF id)
  have HB2 := hid (HB2.out.keep hF id)
  have hR := HR.out.keep hF id
  clear hM hF hN HR
  have r0 := hR.cell (i := 0) rfl
  have r1 := hR.cell (i := 1) rfl
  have s0 := HB0.out.cell (i := 0) rfl
  have s1 := HB0.out.cell (i := 1) rfl
  have s2 := HB0.out.cell (i := 2) rfl
  have s3 := HB0.out.cell (i := 3) rfl
  have p0 := HB1.out.cell (i := 0) rfl
  have p1 := HB1.out.cell (i := 1) rfl
  have o0 := HB2.out.cell (i := 0) rfl
  have o1 := HB2.out.cell (i := 1) rfl
  have l0 := HB0.out.lt
  have l1 := HB1.out.lt
  have l2 := HB2.out.lt
  go_wp2_with fail
  refine (step_nil _ (.inr ⟨_, rfl⟩) o _).mono ?_
  rintro e w' ⟨rfl, rfl⟩
  go_wp2_with fail
  refine (HC.out _).mono ?_
  rintro e w3 ⟨rfl, hF⟩
  have HB1 := hid (((HB1.out.alloc (.cells #[.int .i64 a, .int .i64 l] 24)).alloc (.cells #[.int .i64 b, .int .i64 k] 24)).keep hF id)
  have HB2 := hid (((HB2.out.alloc (.cells #[.int .i64 a, .int .i64 l] 24)).alloc (.cells #[.int .i64 b, .int .i64 k] 24)).keep hF id)
  have HRA := hid (((Blk.new w2 #[.int .i64 a, .int .i64 l] 24).alloc (.cells #[.int .i64 b, .int .i64 k] 24)).keep hF id)
  have HRB := hid (((Blk.new (w2.alloc (.cells #[.int .i64 a, .int .i64 l] 24)) #[.int .i64 b, .int .i64 k] 24).at (n := w2.heap.size + 1) (by simp)).keep hF id)
  have HT := hid (HT.out.trans ((Fr.alloc _ _ _).trans ((Fr.alloc _ _ _).trans hF)))
  clear hF r0 r1 s0 s1 s2 s3 p0 p1 o0 o1 HB0 HM hR l0 l1 l2
  have a0 := HRA.out.cell (i := 0) rfl
  have a1 := HRA.out.cell (i := 1) rfl
  go_wp2_with fail
  refine (Z1.out _).mono ?_
  rintro e w4 ⟨rfl, hF⟩
  have HRB := hid (HRB.out.keep hF id)
  have HT := hid (HT.out.trans hF)
  clear hF a0 a1
  have a0 := HRB.out.cell (i := 0) rfl
  have a1 := HRB.out.cell (i := 1) rfl
  go_wp2_with fail
  refine (Z2.out _).mono ?_
  rintro e w5 ⟨rfl, hF⟩
  have HT := hid (HT.out.trans hF)
  clear hF a0 a1
  go_wp2_with fail
  refine (awake_ok _).mono ?_
  rintro e w9 ⟨rfl, hF⟩
  go_wp2_with fail
  go_ret
  exact ⟨rfl, (HT.out.trans hF).below (Nat.le_refl _) (fun _ hh => hh.elim)⟩

set_option maxRecDepth 100000 in
set_option maxHeartbeats 1000000 in
theorem nil_low (a l b k x y o g : Int) (w : World) (hx : Fits x) (hy : Fits y) (h1 : Rg.Right ⟨a, l⟩) (h2 : Rg.Right ⟨b, k⟩) (h : y < x) :
    Calls Try.prog 9 #[.agg #[.int .i64 a, .int .i64 l, .int .i64 b, .int .i64 k], .agg #[.int .i64 x, .int .i64 y], .agg #[.int .i64 o, .int .i64 g]] w fun e w' => e = .returned (.bool true) ∧ Below w.heap.size w w' := by
  have HC := hid (fun v => copy_low a l b k x y v h1 h2 hx hy h)
  have Z1 := hid (fun v => size_yes a l v h1)
  have Z2 := hid (fun v => size_yes b k v h2)
  have z1 := pow_pos l
  have z2 := pow_pos k
  obtain ⟨n, hn⟩ : ∃ n, pow l = n := ⟨_, rfl⟩
  obtain ⟨m, hm⟩ : ∃ m, pow k = m := ⟨_, rfl⟩
  rw [hn] at Z1 z1
  rw [hm] at Z2 z2
  have t1 : (n == 0) = false := by simp; omega
  have t2 : (m == 0) = false := by simp; omega
  clear hn hm z1 z2
  have t5 : decide (y < x) = true := by simp; omega
  clear h1 h2 h hx hy
  have HB0 := hid (((Blk.new w #[.int .i64 a, .int .i64 l, .int .i64 b, .int .i64 k] 50).alloc (.cells #[.int .i64 x, .int .i64 y] 51)).alloc (.cells #[.int .i64 o, .int .i64 g] 47))
  have HB1 := hid (((Blk.new (w.alloc (.cells #[.int .i64 a, .int .i64 l, .int .i64 b, .int .i64 k] 50)) #[.int .i64 x, .int .i64 y] 51).at (n := w.heap.size + 1) (by simp)).alloc (.cells #[.int .i64 o, .int .i64 g] 47))
  have HB2 := hid ((Blk.new ((w.alloc (.cells #[.int .i64 a, .int .i64 l, .int .i64 b, .int .i64 k] 50)).alloc (.cells #[.int .i64 x, .int .i64 y] 51)) #[.int .i64 o, .int .i64 g] 47).at (n := w.heap.size + 2) (by simp))
  have HT := hid (show Fr (fun _ => False) w (((w.alloc (.cells #[.int .i64 a, .int .i64 l, .int .i64 b, .int .i64 k] 50)).alloc (.cells #[.int .i64 x, .int .i64 y] 51)).alloc (.cells #[.int .i64 o, .int .i64 g] 47)) from (Fr.alloc _ _ _).trans ((Fr.alloc _ _ _).trans (Fr.alloc _ _ _)))
  go_enter Try.func9, Try.ntmps9
  go_wp2_with fail
  refine (rnew_nil o g _).mono ?_
  rintro e w1 ⟨rfl, hF⟩
  have HT := hid (HT.out.trans (hF.trans (Fr.alloc _ w1 (.cells #[.int .i64 0, .int .i64 0] 24))))
  have HB0 := hid ((HB0.out.keep hF id).alloc (.cells #[.int .i64 0, .int .i64 0] 24))
  have HB1 := hid ((HB1.out.keep hF id).alloc (.cells #[.int .i64 0, .int .i64 0] 24))
  have HB2 := hid ((HB2.out.keep hF id).alloc (.cells #[.int .i64 0, .int .i64 0] 24))
  have HR := hid (Blk.new w1 #[.int .i64 0, .int .i64 0] 24)
  clear hF
  go_wp2_with fail
  refine (new_ok 4 1 _ (by omega) (by omega) (by omega) (by omega)).mono ?_
  rintro e w2 ⟨m, rfl, hM, hF, hN⟩
  have HM := hid hM
  have HT := hid (HT.out.trans hF)
  have HB0 := hid (HB0.out.keep hF id)
  have HB1 := hid (HB1.out.keep hF id)
  have HB2 := hid (HB2.out.keep hF id)
  have hR := HR.out.keep hF id
  clear hM hF hN HR
  have r0 := hR.cell (i := 0) rfl
  have r1 := hR.cell (i := 1) rfl
  have s0 := HB0.out.cell (i := 0) rfl
  have s1 := HB0.out.cell (i := 1) rfl
  have s2 := HB0.out.cell (i := 2) rfl
  have s3 := HB0.out.cell (i := 3) rfl
  have p0 := HB1.out.cell (i := 0) rfl
  have p1 := HB1.out.cell (i := 1) rfl
  have o0 := HB2.out.cell (i := 0) rfl
  have o1 := HB2.out.cell (i := 1) rfl
  have l0 := HB0.out.lt
  have l1 := HB1.out.lt
  have l2 := HB2.out.lt
  go_wp2_with fail
  refine (step_nil _ (.inr ⟨_, rfl⟩) o _).mono ?_
  rintro e w' ⟨rfl, rfl⟩
  go_wp2_with fail
  refine (HC.out _).mono ?_
  rintro e w3 ⟨rfl, hF⟩
  have HB1 := hid (((HB1.out.alloc (.cells #[.int .i64 a, .int .i64 l] 24)).alloc (.cells #[.int .i64 b, .int .i64 k] 24)).keep hF id)
  have HB2 := hid (((HB2.out.alloc (.cells #[.int .i64 a, .int .i64 l] 24)).alloc (.cells #[.int .i64 b, .int .i64 k] 24)).keep hF id)
  have HRA := hid (((Blk.new w2 #[.int .i64 a, .int .i64 l] 24).alloc (.cells #[.int .i64 b, .int .i64 k] 24)).keep hF id)
  have HRB := hid (((Blk.new (w2.alloc (.cells #[.int .i64 a, .int .i64 l] 24)) #[.int .i64 b, .int .i64 k] 24).at (n := w2.heap.size + 1) (by simp)).keep hF id)
  have HT := hid (HT.out.trans ((Fr.alloc _ _ _).trans ((Fr.alloc _ _ _).trans hF)))
  clear hF r0 r1 s0 s1 s2 s3 p0 p1 o0 o1 HB0 HM hR l0 l1 l2
  have a0 := HRA.out.cell (i := 0) rfl
  have a1 := HRA.out.cell (i := 1) rfl
  go_wp2_with fail
  refine (Z1.out _).mono ?_
  rintro e w4 ⟨rfl, hF⟩
  have HRB := hid (HRB.out.keep hF id)
  have HB1 := hid (HB1.out.keep hF id)
  have HT := hid (HT.out.trans hF)
  clear hF a0 a1
  have a0 := HRB.out.cell (i := 0) rfl
  have a1 := HRB.out.cell (i := 1) rfl
  go_wp2_with fail
  refine (Z2.out _).mono ?_
  rintro e w5 ⟨rfl, hF⟩
  have HB1 := hid (HB1.out.keep hF id)
  have HT := hid (HT.out.trans hF)
  clear hF a0 a1
  have p0 := HB1.out.cell (i := 0) rfl
  have p1 := HB1.out.cell (i := 1) rfl
  go_wp2_with fail
  refine (awake_ok _).mono ?_
  rintro e w9 ⟨rfl, hF⟩
  go_wp2_with fail
  go_ret
  exact ⟨rfl, (HT.out.trans hF).below (Nat.le_refl _) (fun _ hh => hh.elim)⟩

set_option maxRecDepth 100000 in
set_option maxHeartbeats 1000000 in
theorem nil_far (a l b k x y o g : Int) (w : World) (hx : Fits x) (hy : Fits y) (h1 : Rg.Right ⟨a, l⟩) (h2 : Rg.Right ⟨b, k⟩) (h : x ≤ y ∧ ¬ (y - x ≤ pow l ∧ y - x ≤ pow k)) :
    Calls Try.prog 9 #[.agg #[.int .i64 a, .int .i64 l, .int .i64 b, .int .i64 k], .agg #[.int .i64 x, .int .i64 y], .agg #[.int .i64 o, .int .i64 g]] w fun e w' => e = .returned (.bool true) ∧ Below w.heap.size w w' := by
  have HC := hid (fun v => copy_far a l b k x y v h1 h2 hx hy h)
  have Z1 := hid (fun v => size_yes a l v h1)
  have Z2 := hid (fun v => size_yes b k v h2)
  have z1 := pow_pos l
  have z2 := pow_pos k
  obtain ⟨n, hn⟩ : ∃ n, pow l = n := ⟨_, rfl⟩
  obtain ⟨m, hm⟩ : ∃ m, pow k = m := ⟨_, rfl⟩
  rw [hn] at Z1 z1
  rw [hm] at Z2 z2
  have t1 : (n == 0) = false := by simp; omega
  have t2 : (m == 0) = false := by simp; omega
  clear hn hm z1 z2
  have t5 : decide (y < x) = false := by simp; omega
  clear h1 h2 h hx hy
  have HB0 := hid (((Blk.new w #[.int .i64 a, .int .i64 l, .int .i64 b, .int .i64 k] 50).alloc (.cells #[.int .i64 x, .int .i64 y] 51)).alloc (.cells #[.int .i64 o, .int .i64 g] 47))
  have HB1 := hid (((Blk.new (w.alloc (.cells #[.int .i64 a, .int .i64 l, .int .i64 b, .int .i64 k] 50)) #[.int .i64 x, .int .i64 y] 51).at (n := w.heap.size + 1) (by simp)).alloc (.cells #[.int .i64 o, .int .i64 g] 47))
  have HB2 := hid ((Blk.new ((w.alloc (.cells #[.int .i64 a, .int .i64 l, .int .i64 b, .int .i64 k] 50)).alloc (.cells #[.int .i64 x, .int .i64 y] 51)) #[.int .i64 o, .int .i64 g] 47).at (n := w.heap.size + 2) (by simp))
  have HT := hid (show Fr (fun _ => False) w (((w.alloc (.cells #[.int .i64 a, .int .i64 l, .int .i64 b, .int .i64 k] 50)).alloc (.cells #[.int .i64 x, .int .i64 y] 51)).alloc (.cells #[.int .i64 o, .int .i64 g] 47)) from (Fr.alloc _ _ _).trans ((Fr.alloc _ _ _).trans (Fr.alloc _ _ _)))
  go_enter Try.func9, Try.ntmps9
  go_wp2_with fail
  refine (rnew_nil o g _).mono ?_
  rintro e w1 ⟨rfl, hF⟩
  have HT := hid (HT.out.trans (hF.trans (Fr.alloc _ w1 (.cells #[.int .i64 0, .int .i64 0] 24))))
  have HB0 := hid ((HB0.out.keep hF id).alloc (.cells #[.int .i64 0, .int .i64 0] 24))
  have HB1 := hid ((HB1.out.keep hF id).alloc (.cells #[.int .i64 0, .int .i64 0] 24))
  have HB2 := hid ((HB2.out.keep hF id).alloc (.cells #[.int .i64 0, .int .i64 0] 24))
  have HR := hid (Blk.new w1 #[.int .i64 0, .int .i64 0] 24)
  clear hF
  go_wp2_with fail
  refine (new_ok 4 1 _ (by omega) (by omega) (by omega) (by omega)).mono ?_
  rintro e w2 ⟨m, rfl, hM, hF, hN⟩
  have HM := hid hM
  have HT := hid (HT.out.trans hF)
  have HB0 := hid (HB0.out.keep hF id)
  have HB1 := hid (HB1.out.keep hF id)
  have HB2 := hid (HB2.out.keep hF id)
  have hR := HR.out.keep hF id
  clear hM hF hN HR
  have r0 := hR.cell (i := 0) rfl
  have r1 := hR.cell (i := 1) rfl
  have s0 := HB0.out.cell (i := 0) rfl
  have s1 := HB0.out.cell (i := 1) rfl
  have s2 := HB0.out.cell (i := 2) rfl
  have s3 := HB0.out.cell (i := 3) rfl
  have p0 := HB1.out.cell (i := 0) rfl
  have p1 := HB1.out.cell (i := 1) rfl
  have o0 := HB2.out.cell (i := 0) rfl
  have o1 := HB2.out.cell (i := 1) rfl
  have l0 := HB0.out.lt
  have l1 := HB1.out.lt
  have l2 := HB2.out.lt
  go_wp2_with fail
  refine (step_nil _ (.inr ⟨_, rfl⟩) o _).mono ?_
  rintro e w' ⟨rfl, rfl⟩
  go_wp2_with fail
  refine (HC.out _).mono ?_
  rintro e w3 ⟨rfl, hF⟩
  have HB1 := hid (((HB1.out.alloc (.cells #[.int .i64 a, .int .i64 l] 24)).alloc (.cells #[.int .i64 b, .int .i64 k] 24)).keep hF id)
  have HB2 := hid (((HB2.out.alloc (.cells #[.int .i64 a, .int .i64 l] 24)).alloc (.cells #[.int .i64 b, .int .i64 k] 24)).keep hF id)
  have HRA := hid (((Blk.new w2 #[.int .i64 a, .int .i64 l] 24).alloc (.cells #[.int .i64 b, .int .i64 k] 24)).keep hF id)
  have HRB := hid (((Blk.new (w2.alloc (.cells #[.int .i64 a, .int .i64 l] 24)) #[.int .i64 b, .int .i64 k] 24).at (n := w2.heap.size + 1) (by simp)).keep hF id)
  have HT := hid (HT.out.trans ((Fr.alloc _ _ _).trans ((Fr.alloc _ _ _).trans hF)))
  clear hF r0 r1 s0 s1 s2 s3 p0 p1 o0 o1 HB0 HM hR l0 l1 l2
  have a0 := HRA.out.cell (i := 0) rfl
  have a1 := HRA.out.cell (i := 1) rfl
  go_wp2_with fail
  refine (Z1.out _).mono ?_
  rintro e w4 ⟨rfl, hF⟩
  have HRB := hid (HRB.out.keep hF id)
  have HB1 := hid (HB1.out.keep hF id)
  have HT := hid (HT.out.trans hF)
  clear hF a0 a1
  have a0 := HRB.out.cell (i := 0) rfl
  have a1 := HRB.out.cell (i := 1) rfl
  go_wp2_with fail
  refine (Z2.out _).mono ?_
  rintro e w5 ⟨rfl, hF⟩
  have HB1 := hid (HB1.out.keep hF id)
  have HT := hid (HT.out.trans hF)
  clear hF a0 a1
  have p0 := HB1.out.cell (i := 0) rfl
  have p1 := HB1.out.cell (i := 1) rfl
  go_wp2_with fail
  refine (awake_ok _).mono ?_
  rintro e w9 ⟨rfl, hF⟩
  go_wp2_with fail
  go_ret
  exact ⟨rfl, (HT.out.trans hF).below (Nat.le_refl _) (fun _ hh => hh.elim)⟩

set_option maxRecDepth 100000 in
set_option maxHeartbeats 1000000 in
theorem nil_ok (a l b k x y o g : Int) (w : World) (hx : Fits x) (hy : Fits y) (h1 : Rg.Right ⟨a, l⟩) (h2 : Rg.Right ⟨b, k⟩) (h : x ≤ y ∧ (y - x ≤ pow l ∧ y - x ≤ pow k)) :
    Calls Try.prog 9 #[.agg #[.int .i64 a, .int .i64 l, .int .i64 b, .int .i64 k], .agg #[.int .i64 x, .int .i64 y], .agg #[.int .i64 o, .int .i64 g]] w fun e w' => e = .returned (.bool true) ∧ Below w.heap.size w w' := by
  have HC := hid (fun v => copy_ok a l b k x y v h1 h2 hx hy h)
  have Z1 := hid (fun v => size_yes a l v h1)
  have Z2 := hid (fun v => size_yes b k v h2)
  have z1 := pow_pos l
  have z2 := pow_pos k
  obtain ⟨n, hn⟩ : ∃ n, pow l = n := ⟨_, rfl⟩
  obtain ⟨m, hm⟩ : ∃ m, pow k = m := ⟨_, rfl⟩
  rw [hn] at Z1 z1
  rw [hm] at Z2 z2
  have t1 : (n == 0) = false := by simp; omega
  have t2 : (m == 0) = false := by simp; omega
  clear hn hm z1 z2
  have t5 : decide (y < x) = false := by simp; omega
  clear h1 h2 h hx hy
  have HB0 := hid (((Blk.new w #[.int .i64 a, .int .i64 l, .int .i64 b, .int .i64 k] 50).alloc (.cells #[.int .i64 x, .int .i64 y] 51)).alloc (.cells #[.int .i64 o, .int .i64 g] 47))
  have HB1 := hid (((Blk.new (w.alloc (.cells #[.int .i64 a, .int .i64 l, .int .i64 b, .int .i64 k] 50)) #[.int .i64 x, .int .i64 y] 51).at (n := w.heap.size + 1) (by simp)).alloc (.cells #[.int .i64 o, .int .i64 g] 47))
  have HB2 := hid ((Blk.new ((w.alloc (.cells #[.int .i64 a, .int .i64 l, .int .i64 b, .int .i64 k] 50)).alloc (.cells #[.int .i64 x, .int .i64 y] 51)) #[.int .i64 o, .int .i64 g] 47).at (n := w.heap.size + 2) (by simp))
  have HT := hid (show Fr (fun _ => False) w (((w.alloc (.cells #[.int .i64 a, .int .i64 l, .int .i64 b, .int .i64 k] 50)).alloc (.cells #[.int .i64 x, .int .i64 y] 51)).alloc (.cells #[.int .i64 o, .int .i64 g] 47)) from (Fr.alloc _ _ _).trans ((Fr.alloc _ _ _).trans (Fr.alloc _ _ _)))
  go_enter Try.func9, Try.ntmps9
  go_wp2_with fail
  refine (rnew_nil o g _).mono ?_
  rintro e w1 ⟨rfl, hF⟩
  have HT := hid (HT.out.trans (hF.trans (Fr.alloc _ w1 (.cells #[.int .i64 0, .int .i64 0] 24))))
  have HB0 := hid ((HB0.out.keep hF id).alloc (.cells #[.int .i64 0, .int .i64 0] 24))
  have HB1 := hid ((HB1.out.keep hF id).alloc (.cells #[.int .i64 0, .int .i64 0] 24))
  have HB2 := hid ((HB2.out.keep hF id).alloc (.cells #[.int .i64 0, .int .i64 0] 24))
  have HR := hid (Blk.new w1 #[.int .i64 0, .int .i64 0] 24)
  clear hF
  go_wp2_with fail
  refine (new_ok 4 1 _ (by omega) (by omega) (by omega) (by omega)).mono ?_
  rintro e w2 ⟨m, rfl, hM, hF, hN⟩
  have HM := hid hM
  have HT := hid (HT.out.trans hF)
  have HB0 := hid (HB0.out.keep hF id)
  have HB1 := hid (HB1.out.keep hF id)
  have HB2 := hid (HB2.out.keep hF id)
  have hR := HR.out.keep hF id
  clear hM hF hN HR
  have r0 := hR.cell (i := 0) rfl
  have r1 := hR.cell (i := 1) rfl
  have s0 := HB0.out.cell (i := 0) rfl
  have s1 := HB0.out.cell (i := 1) rfl
  have s2 := HB0.out.cell (i := 2) rfl
  have s3 := HB0.out.cell (i := 3) rfl
  have p0 := HB1.out.cell (i := 0) rfl
  have p1 := HB1.out.cell (i := 1) rfl
  have o0 := HB2.out.cell (i := 0) rfl
  have o1 := HB2.out.cell (i := 1) rfl
  have l0 := HB0.out.lt
  have l1 := HB1.out.lt
  have l2 := HB2.out.lt
  go_wp2_with fail
  refine (step_nil _ (.inr ⟨_, rfl⟩) o _).mono ?_
  rintro e w' ⟨rfl, rfl⟩
  go_wp2_with fail
  refine (HC.out _).mono ?_
  rintro e w3 ⟨c, rfl, hC, hF, hc⟩
  have HB1 := hid (((HB1.out.alloc (.cells #[.int .i64 a, .int .i64 l] 24)).alloc (.cells #[.int .i64 b, .int .i64 k] 24)).keep hF id)
  have HB2 := hid (((HB2.out.alloc (.cells #[.int .i64 a, .int .i64 l] 24)).alloc (.cells #[.int .i64 b, .int .i64 k] 24)).keep hF id)
  have HRA := hid (((Blk.new w2 #[.int .i64 a, .int .i64 l] 24).alloc (.cells #[.int .i64 b, .int .i64 k] 24)).keep hF id)
  have HRB := hid (((Blk.new (w2.alloc (.cells #[.int .i64 a, .int .i64 l] 24)) #[.int .i64 b, .int .i64 k] 24).at (n := w2.heap.size + 1) (by simp)).keep hF id)
  have HT := hid (HT.out.trans ((Fr.alloc _ _ _).trans ((Fr.alloc _ _ _).trans hF)))
  clear hF r0 r1 s0 s1 s2 s3 p0 p1 o0 o1 HB0 HM hR l0 l1 l2
  have a0 := HRA.out.cell (i := 0) rfl
  have a1 := HRA.out.cell (i := 1) rfl
  clear hC hc
  go_wp2_with fail
  refine (Z1.out _).mono ?_
  rintro e w4 ⟨rfl, hF⟩
  have HRB := hid (HRB.out.keep hF id)
  have HB1 := hid (HB1.out.keep hF id)
  have HB2 := hid (HB2.out.keep hF id)
  have HT := hid (HT.out.trans hF)
  clear hF a0 a1
  have a0 := HRB.out.cell (i := 0) rfl
  have a1 := HRB.out.cell (i := 1) rfl
  go_wp2_with fail
  refine (Z2.out _).mono ?_
  rintro e w5 ⟨rfl, hF⟩
  have HB1 := hid (HB1.out.keep hF id)
  have HB2 := hid (HB2.out.keep hF id)
  have HT := hid (HT.out.trans hF)
  clear hF a0 a1
  have p0 := HB1.out.cell (i := 0) rfl
  have p1 := HB1.out.cell (i := 1) rfl
  have o0 := HB2.out.cell (i := 0) rfl
  have o1 := HB2.out.cell (i := 1) rfl
  go_wp2_with fail
  refine (step_none c o _).mono ?_
  rintro e w' ⟨rfl, rfl⟩
  go_wp2_with fail
  refine (awake_ok _).mono ?_
  rintro e w9 ⟨rfl, hF⟩
  go_wp2_with fail
  go_ret
  exact ⟨rfl, (HT.out.trans hF).below (Nat.le_refl _) (fun _ hh => hh.elim)⟩

theorem nilLaw (a l b k x y : Int) (hx : Fits x) (hy : Fits y) (o g : Int) (w : World) :
    Calls Try.prog 9 #[.agg #[.int .i64 a, .int .i64 l, .int .i64 b, .int .i64 k], .agg #[.int .i64 x, .int .i64 y], .agg #[.int .i64 o, .int .i64 g]] w fun e w' => e = .returned (.bool true) ∧ Below w.heap.size w w' := by
  by_cases h1 : Rg.Right ⟨a, l⟩
  · by_cases h2 : Rg.Right ⟨b, k⟩
    · by_cases h3 : y < x
      · exact nil_low a l b k x y o g w hx hy h1 h2 h3
      · by_cases h4 : y - x ≤ pow l ∧ y - x ≤ pow k
        · exact nil_ok a l b k x y o g w hx hy h1 h2 ⟨by omega, h4⟩
        · exact nil_far a l b k x y o g w hx hy h1 h2 ⟨by omega, h4⟩
    · exact nil_b a l b k x y o g w hx hy h1 h2
  · exact nil_a a l b k x y o g w hx hy h1
end Go.Proofs.Ythomjenkemepiaa
