/-
  Joined, the program's.
-/
import Derived.Test.YtedpgfldkjimpaaDoorFork
import Derived.Deep.RegionHeld3
import Derived.Deep.DeepCutAuto
namespace Go.Proofs.YtedpgfldkjimpaaDoor
open Go.RowKit
set_option linter.unusedVariables false

set_option maxRecDepth 100000 in
set_option maxHeartbeats 1000000 in
theorem join_no1 {cel : Frm → Array Value} (hC : Cel cel) (F : Frm) (i : Ins) (kd v : Int) (w : World) (ht : Tabs w) (hk : chk i ≠ 0) :
    Calls Tryd.prog 25 #[.agg (cel F), i.val, .int .i64 kd, .int .i64 v] w fun e w' => e = .returned (.tuple #[.agg (cel F), .int .i64 0, .bool false]) ∧ Fr (fun _ => False) w w' := by
  have HM := hid (may_any i)
  rw [show (chk i == 0) = false from beq_eq_false_iff_ne.2 hk] at HM
  unfold Ins.val at *
  obtain ⟨w1, hw1⟩ : ∃ w1, w1 = ((w.alloc (.cells (cel F) 25)).alloc (.cells #[.int .i64 i.op, .int .i64 i.a, .int .i64 i.b, .int .i64 i.c, .int .i64 i.n] 27)).alloc (.cells zeros 25) := ⟨_, rfl⟩
  obtain ⟨hA, hB, hI, hZ⟩ := three w (cel F) #[.int .i64 i.op, .int .i64 i.a, .int .i64 i.b, .int .i64 i.c, .int .i64 i.n] zeros 25 27 25
  rw [← hw1] at hA hB hI hZ
  unfold zeros at hw1
  have HA := hid hA
  have HB := hid hB
  have HI := hid hI
  have HZ := hid hZ
  have i0 := hI.cell (i := 0) rfl
  have i1 := hI.cell (i := 1) rfl
  have i2 := hI.cell (i := 2) rfl
  have i3 := hI.cell (i := 3) rfl
  have i4 := hI.cell (i := 4) rfl
  simp only [List.getElem_toArray, List.getElem_cons_zero, List.getElem_cons_succ] at i0 i1 i2 i3 i4
  clear hA hB hI hZ
  go_enter Tryd.func25, Tryd.ntmps25
  go_upto_region 1 with fail
  rw [← hw1]
  clear hw1
  go_wp2_with fail
  refine (HM.out _ (ht.same HA.out)).mono ?_
  rintro e w2 ⟨rfl, hF2⟩
  have HA2 := hid (HA.out.trans hF2)
  have HB2 := hid (HB.out.keep hF2 (fun h => h))
  have HI2 := hid (HI.out.keep hF2 (fun h => h))
  have HZ2 := hid (HZ.out.keep hF2 (fun h => h))
  clear HA HB HI HZ i0 i1 i2 i3 i4 hF2 HM
  go_wp2_with (first
    | (refine row_load rfl 25 _ rfl _ rfl HB2.out Tryd.underlying25 rfl infoF (hC.size _) ?_)
    | (refine row_store rfl 25 _ _ rfl _ _ rfl rfl HZ2.out infoF rfl (hC.size _) (hC.one _) ?_))
  intro w9 hB9 hF9
  go_wp2_with fail
  exact bodyPost_ret (res_three rfl rfl hB9 Tryd.underlying25 rfl infoF (hC.size _) rfl rfl) rfl ⟨rfl, (HA2.out).over hF9 (by omega)⟩

set_option maxRecDepth 100000 in
set_option maxHeartbeats 1000000 in
theorem join_no2 {cel : Frm → Array Value} (hC : Cel cel) (F : Frm) (i : Ins) (kd v : Int) (w : World) (ht : Tabs w) (hk : chk i = 0) (hkd : kd < 2) :
    Calls Tryd.prog 25 #[.agg (cel F), i.val, .int .i64 kd, .int .i64 v] w fun e w' => e = .returned (.tuple #[.agg (cel F), .int .i64 0, .bool false]) ∧ Fr (fun _ => False) w w' := by
  have HM := hid (may_any i)
  rw [show (chk i == 0) = true by rw [hk]; rfl] at HM
  unfold Ins.val at *
  obtain ⟨w1, hw1⟩ : ∃ w1, w1 = ((w.alloc (.cells (cel F) 25)).alloc (.cells #[.int .i64 i.op, .int .i64 i.a, .int .i64 i.b, .int .i64 i.c, .int .i64 i.n] 27)).alloc (.cells zeros 25) := ⟨_, rfl⟩
  obtain ⟨hA, hB, hI, hZ⟩ := three w (cel F) #[.int .i64 i.op, .int .i64 i.a, .int .i64 i.b, .int .i64 i.c, .int .i64 i.n] zeros 25 27 25
  rw [← hw1] at hA hB hI hZ
  unfold zeros at hw1
  have HA := hid hA
  have HB := hid hB
  have HI := hid hI
  have HZ := hid hZ
  have i0 := hI.cell (i := 0) rfl
  have i1 := hI.cell (i := 1) rfl
  have i2 := hI.cell (i := 2) rfl
  have i3 := hI.cell (i := 3) rfl
  have i4 := hI.cell (i := 4) rfl
  simp only [List.getElem_toArray, List.getElem_cons_zero, List.getElem_cons_succ] at i0 i1 i2 i3 i4
  clear hA hB hI hZ
  go_enter Tryd.func25, Tryd.ntmps25
  go_upto_region 1 with fail
  rw [← hw1]
  clear hw1
  go_wp2_with fail
  refine (HM.out _ (ht.same HA.out)).mono ?_
  rintro e w2 ⟨rfl, hF2⟩
  have HA2 := hid (HA.out.trans hF2)
  have HB2 := hid (HB.out.keep hF2 (fun h => h))
  have HI2 := hid (HI.out.keep hF2 (fun h => h))
  have HZ2 := hid (HZ.out.keep hF2 (fun h => h))
  clear HA HB HI HZ i0 i1 i2 i3 i4 hF2 HM
  go_wp2_with (first
    | (refine row_load rfl 25 _ rfl _ rfl HB2.out Tryd.underlying25 rfl infoF (hC.size _) ?_)
    | (refine row_store rfl 25 _ _ rfl _ _ rfl rfl HZ2.out infoF rfl (hC.size _) (hC.one _) ?_))
  intro w9 hB9 hF9
  go_wp2_with fail
  exact bodyPost_ret (res_three rfl rfl hB9 Tryd.underlying25 rfl infoF (hC.size _) rfl rfl) rfl ⟨rfl, (HA2.out).over hF9 (by omega)⟩

set_option maxRecDepth 100000 in
set_option maxHeartbeats 1000000 in
theorem join_no3 {cel : Frm → Array Value} (hC : Cel cel) (F : Frm) (i : Ins) (kd v : Int) (w : World) (ht : Tabs w) (hk : chk i = 0) (hkd : 4 < kd) :
    Calls Tryd.prog 25 #[.agg (cel F), i.val, .int .i64 kd, .int .i64 v] w fun e w' => e = .returned (.tuple #[.agg (cel F), .int .i64 0, .bool false]) ∧ Fr (fun _ => False) w w' := by
  have HM := hid (may_any i)
  rw [show (chk i == 0) = true by rw [hk]; rfl] at HM
  unfold Ins.val at *
  have t1 : ¬ kd < 2 := by omega
  obtain ⟨w1, hw1⟩ : ∃ w1, w1 = ((w.alloc (.cells (cel F) 25)).alloc (.cells #[.int .i64 i.op, .int .i64 i.a, .int .i64 i.b, .int .i64 i.c, .int .i64 i.n] 27)).alloc (.cells zeros 25) := ⟨_, rfl⟩
  obtain ⟨hA, hB, hI, hZ⟩ := three w (cel F) #[.int .i64 i.op, .int .i64 i.a, .int .i64 i.b, .int .i64 i.c, .int .i64 i.n] zeros 25 27 25
  rw [← hw1] at hA hB hI hZ
  unfold zeros at hw1
  have HA := hid hA
  have HB := hid hB
  have HI := hid hI
  have HZ := hid hZ
  have i0 := hI.cell (i := 0) rfl
  have i1 := hI.cell (i := 1) rfl
  have i2 := hI.cell (i := 2) rfl
  have i3 := hI.cell (i := 3) rfl
  have i4 := hI.cell (i := 4) rfl
  simp only [List.getElem_toArray, List.getElem_cons_zero, List.getElem_cons_succ] at i0 i1 i2 i3 i4
  clear hA hB hI hZ
  go_enter Tryd.func25, Tryd.ntmps25
  go_upto_region 1 with fail
  rw [← hw1]
  clear hw1
  go_wp2_with fail
  refine (HM.out _ (ht.same HA.out)).mono ?_
  rintro e w2 ⟨rfl, hF2⟩
  have HA2 := hid (HA.out.trans hF2)
  have HB2 := hid (HB.out.keep hF2 (fun h => h))
  have HI2 := hid (HI.out.keep hF2 (fun h => h))
  have HZ2 := hid (HZ.out.keep hF2 (fun h => h))
  clear HA HB HI HZ i0 i1 i2 i3 i4 hF2 HM
  go_wp2_with (first
    | (refine row_load rfl 25 _ rfl _ rfl HB2.out Tryd.underlying25 rfl infoF (hC.size _) ?_)
    | (refine row_store rfl 25 _ _ rfl _ _ rfl rfl HZ2.out infoF rfl (hC.size _) (hC.one _) ?_))
  intro w9 hB9 hF9
  go_wp2_with fail
  exact bodyPost_ret (res_three rfl rfl hB9 Tryd.underlying25 rfl infoF (hC.size _) rfl rfl) rfl ⟨rfl, (HA2.out).over hF9 (by omega)⟩

set_option maxRecDepth 100000 in
set_option maxHeartbeats 1000000 in
theorem join_no4 {cel : Frm → Array Value} (hC : Cel cel) (F : Frm) (i : Ins) (kd v : Int) (w : World) (ht : Tabs w) (hk : chk i = 0) (hkd : 2 ≤ kd ∧ kd ≤ 4) (h9 : i.op ≠ 9) (h10 : i.op ≠ 10) :
    Calls Tryd.prog 25 #[.agg (cel F), i.val, .int .i64 kd, .int .i64 v] w fun e w' => e = .returned (.tuple #[.agg (cel F), .int .i64 0, .bool false]) ∧ Fr (fun _ => False) w w' := by
  have HM := hid (may_any i)
  rw [show (chk i == 0) = true by rw [hk]; rfl] at HM
  unfold Ins.val at *
  have t1 : ¬ kd < 2 := by omega
  have t2 : ¬ 4 < kd := by omega
  have t9 : (i.op == 9) = false := beq_eq_false_iff_ne.2 h9
  have t10 : (i.op == 10) = false := beq_eq_false_iff_ne.2 h10
  clear hkd
  obtain ⟨w1, hw1⟩ : ∃ w1, w1 = ((w.alloc (.cells (cel F) 25)).alloc (.cells #[.int .i64 i.op, .int .i64 i.a, .int .i64 i.b, .int .i64 i.c, .int .i64 i.n] 27)).alloc (.cells zeros 25) := ⟨_, rfl⟩
  obtain ⟨hA, hB, hI, hZ⟩ := three w (cel F) #[.int .i64 i.op, .int .i64 i.a, .int .i64 i.b, .int .i64 i.c, .int .i64 i.n] zeros 25 27 25
  rw [← hw1] at hA hB hI hZ
  unfold zeros at hw1
  have HA := hid hA
  have HB := hid hB
  have HI := hid hI
  have HZ := hid hZ
  have i0 := hI.cell (i := 0) rfl
  have i1 := hI.cell (i := 1) rfl
  have i2 := hI.cell (i := 2) rfl
  have i3 := hI.cell (i := 3) rfl
  have i4 := hI.cell (i := 4) rfl
  simp only [List.getElem_toArray, List.getElem_cons_zero, List.getElem_cons_succ] at i0 i1 i2 i3 i4
  clear hA hB hI hZ
  go_enter Tryd.func25, Tryd.ntmps25
  go_upto_region 1 with fail
  rw [← hw1]
  clear hw1
  go_wp2_with fail
  refine (HM.out _ (ht.same HA.out)).mono ?_
  rintro e w2 ⟨rfl, hF2⟩
  have HA2 := hid (HA.out.trans hF2)
  have HB2 := hid (HB.out.keep hF2 (fun h => h))
  have HI2 := hid (HI.out.keep hF2 (fun h => h))
  have HZ2 := hid (HZ.out.keep hF2 (fun h => h))
  clear HA HB HI HZ i0 i1 i2 i3 i4 hF2 HM
  have j0 : w2.cell? ⟨w.heap.size + 1, 0, none⟩ = some (.int .i64 i.op) := HI2.out.cell rfl
  go_wp2_with (first
    | (refine row_load rfl 25 _ rfl _ rfl HB2.out Tryd.underlying25 rfl infoF (hC.size _) ?_)
    | (refine row_store rfl 25 _ _ rfl _ _ rfl rfl HZ2.out infoF rfl (hC.size _) (hC.one _) ?_))
  intro w9 hB9 hF9
  go_wp2_with fail
  exact bodyPost_ret (res_three rfl rfl hB9 Tryd.underlying25 rfl infoF (hC.size _) rfl rfl) rfl ⟨rfl, (HA2.out).over hF9 (by omega)⟩

set_option maxRecDepth 100000 in
set_option maxHeartbeats 1000000 in
theorem join_try2e {cel : Frm → Array Value} (hC : Cel cel) (F : Frm) (a c : Nat) (n : Int) (v : Int) (w : World) (ht : Tabs w) (hk : chk ⟨10, a, a, c, n⟩ = 0) (ha : a < 8) :
    Calls Tryd.prog 25 #[.agg (cel F), Ins.val ⟨10, a, a, c, n⟩, .int .i64 2, .int .i64 v] w fun e w' => e = .returned (.tuple #[.agg (cel ((F.put a 0).put a 0).on), .int .i64 0, .bool false]) ∧ Fr (fun _ => False) w w' := by
  have HM := hid (may_any ⟨10, a, a, c, n⟩)
  rw [show (chk ⟨10, a, a, c, n⟩ == 0) = true by rw [hk]; rfl] at HM
  unfold Ins.val at *
  simp only at *
  clear hk
  have tab : ((a : Int) == (a : Int)) = true := beq_self_eq_true _
  obtain ⟨w1, hw1⟩ : ∃ w1, w1 = ((w.alloc (.cells (cel F) 25)).alloc (.cells #[.int .i64 10, .int .i64 a, .int .i64 a, .int .i64 c, .int .i64 n] 27)).alloc (.cells zeros 25) := ⟨_, rfl⟩
  obtain ⟨hA, hB, hI, hZ⟩ := three w (cel F) #[.int .i64 10, .int .i64 a, .int .i64 a, .int .i64 c, .int .i64 n] zeros 25 27 25
  rw [← hw1] at hA hB hI hZ
  unfold zeros at hw1
  have HA := hid hA
  have HB := hid hB
  have HI := hid hI
  have HZ := hid hZ
  have i0 := hI.cell (i := 0) rfl
  have i1 := hI.cell (i := 1) rfl
  have i2 := hI.cell (i := 2) rfl
  have i3 := hI.cell (i := 3) rfl
  have i4 := hI.cell (i := 4) rfl
  simp only [List.getElem_toArray, List.getElem_cons_zero, List.getElem_cons_succ] at i0 i1 i2 i3 i4
  clear hA hB hI hZ
  go_enter Tryd.func25, Tryd.ntmps25
  go_upto_region 1 with fail
  rw [← hw1]
  clear hw1
  go_wp2_with fail
  refine (HM.out _ (ht.same HA.out)).mono ?_
  rintro e w2 ⟨rfl, hF2⟩
  have HA2 := hid (HA.out.trans hF2)
  have HB2 := hid (HB.out.keep hF2 (fun h => h))
  have HI2 := hid (HI.out.keep hF2 (fun h => h))
  have HZ2 := hid (HZ.out.keep hF2 (fun h => h))
  clear HA HB HI HZ i0 i1 i2 i3 i4 hF2 HM
  have j0 : w2.cell? ⟨w.heap.size + 1, 0, none⟩ = some (.int .i64 10) := HI2.out.cell rfl
  have j1 : w2.cell? ⟨w.heap.size + 1, 1, none⟩ = some (.int .i64 a) := HI2.out.cell rfl
  have j2 : w2.cell? ⟨w.heap.size + 1, 2, none⟩ = some (.int .i64 a) := HI2.out.cell rfl
  have r1 : w2.cell? ⟨w.heap.size, 2 + a, none⟩ = some (.int .i64 (F.r a)) := HB2.out.cell (hC.r F a ha)
  have r2 := HB2.out.frozen (2 + a)
  have hb0 : (0 : Int) ≤ a ∧ (a : Int) < 8 := by omega
  obtain ⟨w3, hw3⟩ : ∃ w3, w3 = w2.setCell ⟨w.heap.size, 2 + a, none⟩ (.int .i64 0) := ⟨_, rfl⟩
  have hB3 : Blk w3 w.heap.size (cel (F.put a 0)) := by
    have h := HB2.out.set (2 + a) (.int .i64 0)
    rw [hC.put F a 0 ha] at h
    rw [hw3]
    exact h
  have hF3 : Fr (fun k => k = w.heap.size) w2 w3 := by rw [hw3]; exact Fr.setCell _ _ _ rfl
  have HZ3 := hid (HZ2.out.keep hF3 (show ¬ (w.heap.size + 2 = w.heap.size) by omega))
  have j13 : w3.cell? ⟨w.heap.size + 1, 1, none⟩ = some (.int .i64 a) := (HI2.out.keep hF3 (show ¬ (w.heap.size + 1 = w.heap.size) by omega)).cell rfl
  have HA3 := hid (HA2.out.over hF3 (Nat.le_refl _))
  have HB3 := hid hB3
  clear hF3 hB3
  go_upto_region 12 with fail
  rw [← hw3]
  clear hw3 j0 j1 j2 r1 r2
  go_wp2_with (refine row_load rfl 25 _ rfl _ rfl HB3.out Tryd.underlying25 rfl infoF (hC.size _) ?_)
  refine (with_any hC _ a _ w3 ha).mono ?_
  rintro e w4 ⟨rfl, hF4⟩
  go_wp2_with fail
  refine (passed_any hC _ _).mono ?_
  rintro e w5 ⟨rfl, hF5⟩
  have hZ5 := HZ3.out.keep (hF4.trans hF5) (fun h => h)
  go_wp2_with (refine row_store rfl 25 _ _ rfl _ _ rfl rfl hZ5 infoF rfl (hC.size _) (hC.one _) ?_)
  intro w9 hB9 hF9
  go_wp2_with fail
  exact bodyPost_ret (res_three rfl rfl hB9 Tryd.underlying25 rfl infoF (hC.size _) rfl rfl) rfl ⟨rfl, (HA3.out.trans (hF4.trans hF5)).over hF9 (by omega)⟩

set_option maxRecDepth 100000 in
set_option maxHeartbeats 1000000 in
theorem join_try2n {cel : Frm → Array Value} (hC : Cel cel) (F : Frm) (a b c : Nat) (n : Int) (v : Int) (w : World) (ht : Tabs w) (hk : chk ⟨10, a, b, c, n⟩ = 0) (ha : a < 8) (hb : b < 8) (hab : a ≠ b) :
    Calls Tryd.prog 25 #[.agg (cel F), Ins.val ⟨10, a, b, c, n⟩, .int .i64 2, .int .i64 v] w fun e w' => e = .returned (.tuple #[.agg (cel ((F.put b 0).put a v).on), .int .i64 0, .bool false]) ∧ Fr (fun _ => False) w w' := by
  have HM := hid (may_any ⟨10, a, b, c, n⟩)
  rw [show (chk ⟨10, a, b, c, n⟩ == 0) = true by rw [hk]; rfl] at HM
  unfold Ins.val at *
  simp only at *
  clear hk
  have tab : ((a : Int) == (b : Int)) = false := beq_eq_false_iff_ne.2 (by omega)
  obtain ⟨w1, hw1⟩ : ∃ w1, w1 = ((w.alloc (.cells (cel F) 25)).alloc (.cells #[.int .i64 10, .int .i64 a, .int .i64 b, .int .i64 c, .int .i64 n] 27)).alloc (.cells zeros 25) := ⟨_, rfl⟩
  obtain ⟨hA, hB, hI, hZ⟩ := three w (cel F) #[.int .i64 10, .int .i64 a, .int .i64 b, .int .i64 c, .int .i64 n] zeros 25 27 25
  rw [← hw1] at hA hB hI hZ
  unfold zeros at hw1
  have HA := hid hA
  have HB := hid hB
  have HI := hid hI
  have HZ := hid hZ
  have i0 := hI.cell (i := 0) rfl
  have i1 := hI.cell (i := 1) rfl
  have i2 := hI.cell (i := 2) rfl
  have i3 := hI.cell (i := 3) rfl
  have i4 := hI.cell (i := 4) rfl
  simp only [List.getElem_toArray, List.getElem_cons_zero, List.getElem_cons_succ] at i0 i1 i2 i3 i4
  clear hA hB hI hZ
  go_enter Tryd.func25, Tryd.ntmps25
  go_upto_region 1 with fail
  rw [← hw1]
  clear hw1
  go_wp2_with fail
  refine (HM.out _ (ht.same HA.out)).mono ?_
  rintro e w2 ⟨rfl, hF2⟩
  have HA2 := hid (HA.out.trans hF2)
  have HB2 := hid (HB.out.keep hF2 (fun h => h))
  have HI2 := hid (HI.out.keep hF2 (fun h => h))
  have HZ2 := hid (HZ.out.keep hF2 (fun h => h))
  clear HA HB HI HZ i0 i1 i2 i3 i4 hF2 HM
  have j0 : w2.cell? ⟨w.heap.size + 1, 0, none⟩ = some (.int .i64 10) := HI2.out.cell rfl
  have j1 : w2.cell? ⟨w.heap.size + 1, 1, none⟩ = some (.int .i64 a) := HI2.out.cell rfl
  have j2 : w2.cell? ⟨w.heap.size + 1, 2, none⟩ = some (.int .i64 b) := HI2.out.cell rfl
  have r1 : w2.cell? ⟨w.heap.size, 2 + b, none⟩ = some (.int .i64 (F.r b)) := HB2.out.cell (hC.r F b hb)
  have r2 := HB2.out.frozen (2 + b)
  have hb0 : (0 : Int) ≤ b ∧ (b : Int) < 8 := by omega
  obtain ⟨w3, hw3⟩ : ∃ w3, w3 = w2.setCell ⟨w.heap.size, 2 + b, none⟩ (.int .i64 0) := ⟨_, rfl⟩
  have hB3 : Blk w3 w.heap.size (cel (F.put b 0)) := by
    have h := HB2.out.set (2 + b) (.int .i64 0)
    rw [hC.put F b 0 hb] at h
    rw [hw3]
    exact h
  have hF3 : Fr (fun k => k = w.heap.size) w2 w3 := by rw [hw3]; exact Fr.setCell _ _ _ rfl
  have HZ3 := hid (HZ2.out.keep hF3 (show ¬ (w.heap.size + 2 = w.heap.size) by omega))
  have j13 : w3.cell? ⟨w.heap.size + 1, 1, none⟩ = some (.int .i64 a) := (HI2.out.keep hF3 (show ¬ (w.heap.size + 1 = w.heap.size) by omega)).cell rfl
  have HA3 := hid (HA2.out.over hF3 (Nat.le_refl _))
  have HB3 := hid hB3
  clear hF3 hB3
  go_upto_region 12 with fail
  rw [← hw3]
  clear hw3 j0 j1 j2 r1 r2
  go_wp2_with (refine row_load rfl 25 _ rfl _ rfl HB3.out Tryd.underlying25 rfl infoF (hC.size _) ?_)
  refine (with_any hC _ a _ w3 ha).mono ?_
  rintro e w4 ⟨rfl, hF4⟩
  go_wp2_with fail
  refine (passed_any hC _ _).mono ?_
  rintro e w5 ⟨rfl, hF5⟩
  have hZ5 := HZ3.out.keep (hF4.trans hF5) (fun h => h)
  go_wp2_with (refine row_store rfl 25 _ _ rfl _ _ rfl rfl hZ5 infoF rfl (hC.size _) (hC.one _) ?_)
  intro w9 hB9 hF9
  go_wp2_with fail
  exact bodyPost_ret (res_three rfl rfl hB9 Tryd.underlying25 rfl infoF (hC.size _) rfl rfl) rfl ⟨rfl, (HA3.out.trans (hF4.trans hF5)).over hF9 (by omega)⟩

set_option maxRecDepth 100000 in
set_option maxHeartbeats 1000000 in
theorem join_try3e {cel : Frm → Array Value} (hC : Cel cel) (F : Frm) (a c : Nat) (n : Int) (v : Int) (w : World) (ht : Tabs w) (hk : chk ⟨10, a, a, c, n⟩ = 0) (ha : a < 8) :
    Calls Tryd.prog 25 #[.agg (cel F), Ins.val ⟨10, a, a, c, n⟩, .int .i64 3, .int .i64 v] w fun e w' => e = .returned (.tuple #[.agg (cel ((F.put a 1).put a 1).on), .int .i64 0, .bool false]) ∧ Fr (fun _ => False) w w' := by
  have HM := hid (may_any ⟨10, a, a, c, n⟩)
  rw [show (chk ⟨10, a, a, c, n⟩ == 0) = true by rw [hk]; rfl] at HM
  unfold Ins.val at *
  simp only at *
  clear hk
  have tab : ((a : Int) == (a : Int)) = true := beq_self_eq_true _
  obtain ⟨w1, hw1⟩ : ∃ w1, w1 = ((w.alloc (.cells (cel F) 25)).alloc (.cells #[.int .i64 10, .int .i64 a, .int .i64 a, .int .i64 c, .int .i64 n] 27)).alloc (.cells zeros 25) := ⟨_, rfl⟩
  obtain ⟨hA, hB, hI, hZ⟩ := three w (cel F) #[.int .i64 10, .int .i64 a, .int .i64 a, .int .i64 c, .int .i64 n] zeros 25 27 25
  rw [← hw1] at hA hB hI hZ
  unfold zeros at hw1
  have HA := hid hA
  have HB := hid hB
  have HI := hid hI
  have HZ := hid hZ
  have i0 := hI.cell (i := 0) rfl
  have i1 := hI.cell (i := 1) rfl
  have i2 := hI.cell (i := 2) rfl
  have i3 := hI.cell (i := 3) rfl
  have i4 := hI.cell (i := 4) rfl
  simp only [List.getElem_toArray, List.getElem_cons_zero, List.getElem_cons_succ] at i0 i1 i2 i3 i4
  clear hA hB hI hZ
  go_enter Tryd.func25, Tryd.ntmps25
  go_upto_region 1 with fail
  rw [← hw1]
  clear hw1
  go_wp2_with fail
  refine (HM.out _ (ht.same HA.out)).mono ?_
  rintro e w2 ⟨rfl, hF2⟩
  have HA2 := hid (HA.out.trans hF2)
  have HB2 := hid (HB.out.keep hF2 (fun h => h))
  have HI2 := hid (HI.out.keep hF2 (fun h => h))
  have HZ2 := hid (HZ.out.keep hF2 (fun h => h))
  clear HA HB HI HZ i0 i1 i2 i3 i4 hF2 HM
  have j0 : w2.cell? ⟨w.heap.size + 1, 0, none⟩ = some (.int .i64 10) := HI2.out.cell rfl
  have j1 : w2.cell? ⟨w.heap.size + 1, 1, none⟩ = some (.int .i64 a) := HI2.out.cell rfl
  have j2 : w2.cell? ⟨w.heap.size + 1, 2, none⟩ = some (.int .i64 a) := HI2.out.cell rfl
  have r1 : w2.cell? ⟨w.heap.size, 2 + a, none⟩ = some (.int .i64 (F.r a)) := HB2.out.cell (hC.r F a ha)
  have r2 := HB2.out.frozen (2 + a)
  have hb0 : (0 : Int) ≤ a ∧ (a : Int) < 8 := by omega
  obtain ⟨w3, hw3⟩ : ∃ w3, w3 = w2.setCell ⟨w.heap.size, 2 + a, none⟩ (.int .i64 1) := ⟨_, rfl⟩
  have hB3 : Blk w3 w.heap.size (cel (F.put a 1)) := by
    have h := HB2.out.set (2 + a) (.int .i64 1)
    rw [hC.put F a 1 ha] at h
    rw [hw3]
    exact h
  have hF3 : Fr (fun k => k = w.heap.size) w2 w3 := by rw [hw3]; exact Fr.setCell _ _ _ rfl
  have HZ3 := hid (HZ2.out.keep hF3 (show ¬ (w.heap.size + 2 = w.heap.size) by omega))
  have j13 : w3.cell? ⟨w.heap.size + 1, 1, none⟩ = some (.int .i64 a) := (HI2.out.keep hF3 (show ¬ (w.heap.size + 1 = w.heap.size) by omega)).cell rfl
  have HA3 := hid (HA2.out.over hF3 (Nat.le_refl _))
  have HB3 := hid hB3
  clear hF3 hB3
  go_upto_region 12 with fail
  rw [← hw3]
  clear hw3 j0 j1 j2 r1 r2
  go_wp2_with (refine row_load rfl 25 _ rfl _ rfl HB3.out Tryd.underlying25 rfl infoF (hC.size _) ?_)
  refine (with_any hC _ a _ w3 ha).mono ?_
  rintro e w4 ⟨rfl, hF4⟩
  go_wp2_with fail
  refine (passed_any hC _ _).mono ?_
  rintro e w5 ⟨rfl, hF5⟩
  have hZ5 := HZ3.out.keep (hF4.trans hF5) (fun h => h)
  go_wp2_with (refine row_store rfl 25 _ _ rfl _ _ rfl rfl hZ5 infoF rfl (hC.size _) (hC.one _) ?_)
  intro w9 hB9 hF9
  go_wp2_with fail
  exact bodyPost_ret (res_three rfl rfl hB9 Tryd.underlying25 rfl infoF (hC.size _) rfl rfl) rfl ⟨rfl, (HA3.out.trans (hF4.trans hF5)).over hF9 (by omega)⟩

set_option maxRecDepth 100000 in
set_option maxHeartbeats 1000000 in
theorem join_try3n {cel : Frm → Array Value} (hC : Cel cel) (F : Frm) (a b c : Nat) (n : Int) (v : Int) (w : World) (ht : Tabs w) (hk : chk ⟨10, a, b, c, n⟩ = 0) (ha : a < 8) (hb : b < 8) (hab : a ≠ b) :
    Calls Tryd.prog 25 #[.agg (cel F), Ins.val ⟨10, a, b, c, n⟩, .int .i64 3, .int .i64 v] w fun e w' => e = .returned (.tuple #[.agg (cel ((F.put b 1).put a v).on), .int .i64 0, .bool false]) ∧ Fr (fun _ => False) w w' := by
  have HM := hid (may_any ⟨10, a, b, c, n⟩)
  rw [show (chk ⟨10, a, b, c, n⟩ == 0) = true by rw [hk]; rfl] at HM
  unfold Ins.val at *
  simp only at *
  clear hk
  have tab : ((a : Int) == (b : Int)) = false := beq_eq_false_iff_ne.2 (by omega)
  obtain ⟨w1, hw1⟩ : ∃ w1, w1 = ((w.alloc (.cells (cel F) 25)).alloc (.cells #[.int .i64 10, .int .i64 a, .int .i64 b, .int .i64 c, .int .i64 n] 27)).alloc (.cells zeros 25) := ⟨_, rfl⟩
  obtain ⟨hA, hB, hI, hZ⟩ := three w (cel F) #[.int .i64 10, .int .i64 a, .int .i64 b, .int .i64 c, .int .i64 n] zeros 25 27 25
  rw [← hw1] at hA hB hI hZ
  unfold zeros at hw1
  have HA := hid hA
  have HB := hid hB
  have HI := hid hI
  have HZ := hid hZ
  have i0 := hI.cell (i := 0) rfl
  have i1 := hI.cell (i := 1) rfl
  have i2 := hI.cell (i := 2) rfl
  have i3 := hI.cell (i := 3) rfl
  have i4 := hI.cell (i := 4) rfl
  simp only [List.getElem_toArray, List.getElem_cons_zero, List.getElem_cons_succ] at i0 i1 i2 i3 i4
  clear hA hB hI hZ
  go_enter Tryd.func25, Tryd.ntmps25
  go_upto_region 1 with fail
  rw [← hw1]
  clear hw1
  go_wp2_with fail
  refine (HM.out _ (ht.same HA.out)).mono ?_
  rintro e w2 ⟨rfl, hF2⟩
  have HA2 := hid (HA.out.trans hF2)
  have HB2 := hid (HB.out.keep hF2 (fun h => h))
  have HI2 := hid (HI.out.keep hF2 (fun h => h))
  have HZ2 := hid (HZ.out.keep hF2 (fun h => h))
  clear HA HB HI HZ i0 i1 i2 i3 i4 hF2 HM
  have j0 : w2.cell? ⟨w.heap.size + 1, 0, none⟩ = some (.int .i64 10) := HI2.out.cell rfl
  have j1 : w2.cell? ⟨w.heap.size + 1, 1, none⟩ = some (.int .i64 a) := HI2.out.cell rfl
  have j2 : w2.cell? ⟨w.heap.size + 1, 2, none⟩ = some (.int .i64 b) := HI2.out.cell rfl
  have r1 : w2.cell? ⟨w.heap.size, 2 + b, none⟩ = some (.int .i64 (F.r b)) := HB2.out.cell (hC.r F b hb)
  have r2 := HB2.out.frozen (2 + b)
  have hb0 : (0 : Int) ≤ b ∧ (b : Int) < 8 := by omega
  obtain ⟨w3, hw3⟩ : ∃ w3, w3 = w2.setCell ⟨w.heap.size, 2 + b, none⟩ (.int .i64 1) := ⟨_, rfl⟩
  have hB3 : Blk w3 w.heap.size (cel (F.put b 1)) := by
    have h := HB2.out.set (2 + b) (.int .i64 1)
    rw [hC.put F b 1 hb] at h
    rw [hw3]
    exact h
  have hF3 : Fr (fun k => k = w.heap.size) w2 w3 := by rw [hw3]; exact Fr.setCell _ _ _ rfl
  have HZ3 := hid (HZ2.out.keep hF3 (show ¬ (w.heap.size + 2 = w.heap.size) by omega))
  have j13 : w3.cell? ⟨w.heap.size + 1, 1, none⟩ = some (.int .i64 a) := (HI2.out.keep hF3 (show ¬ (w.heap.size + 1 = w.heap.size) by omega)).cell rfl
  have HA3 := hid (HA2.out.over hF3 (Nat.le_refl _))
  have HB3 := hid hB3
  clear hF3 hB3
  go_upto_region 12 with fail
  rw [← hw3]
  clear hw3 j0 j1 j2 r1 r2
  go_wp2_with (refine row_load rfl 25 _ rfl _ rfl HB3.out Tryd.underlying25 rfl infoF (hC.size _) ?_)
  refine (with_any hC _ a _ w3 ha).mono ?_
  rintro e w4 ⟨rfl, hF4⟩
  go_wp2_with fail
  refine (passed_any hC _ _).mono ?_
  rintro e w5 ⟨rfl, hF5⟩
  have hZ5 := HZ3.out.keep (hF4.trans hF5) (fun h => h)
  go_wp2_with (refine row_store rfl 25 _ _ rfl _ _ rfl rfl hZ5 infoF rfl (hC.size _) (hC.one _) ?_)
  intro w9 hB9 hF9
  go_wp2_with fail
  exact bodyPost_ret (res_three rfl rfl hB9 Tryd.underlying25 rfl infoF (hC.size _) rfl rfl) rfl ⟨rfl, (HA3.out.trans (hF4.trans hF5)).over hF9 (by omega)⟩

set_option maxRecDepth 100000 in
set_option maxHeartbeats 1000000 in
theorem join_try4e {cel : Frm → Array Value} (hC : Cel cel) (F : Frm) (a c : Nat) (n : Int) (v : Int) (w : World) (ht : Tabs w) (hk : chk ⟨10, a, a, c, n⟩ = 0) (ha : a < 8) :
    Calls Tryd.prog 25 #[.agg (cel F), Ins.val ⟨10, a, a, c, n⟩, .int .i64 4, .int .i64 v] w fun e w' => e = .returned (.tuple #[.agg (cel ((F.put a 2).put a 2).on), .int .i64 0, .bool false]) ∧ Fr (fun _ => False) w w' := by
  have HM := hid (may_any ⟨10, a, a, c, n⟩)
  rw [show (chk ⟨10, a, a, c, n⟩ == 0) = true by rw [hk]; rfl] at HM
  unfold Ins.val at *
  simp only at *
  clear hk
  have tab : ((a : Int) == (a : Int)) = true := beq_self_eq_true _
  obtain ⟨w1, hw1⟩ : ∃ w1, w1 = ((w.alloc (.cells (cel F) 25)).alloc (.cells #[.int .i64 10, .int .i64 a, .int .i64 a, .int .i64 c, .int .i64 n] 27)).alloc (.cells zeros 25) := ⟨_, rfl⟩
  obtain ⟨hA, hB, hI, hZ⟩ := three w (cel F) #[.int .i64 10, .int .i64 a, .int .i64 a, .int .i64 c, .int .i64 n] zeros 25 27 25
  rw [← hw1] at hA hB hI hZ
  unfold zeros at hw1
  have HA := hid hA
  have HB := hid hB
  have HI := hid hI
  have HZ := hid hZ
  have i0 := hI.cell (i := 0) rfl
  have i1 := hI.cell (i := 1) rfl
  have i2 := hI.cell (i := 2) rfl
  have i3 := hI.cell (i := 3) rfl
  have i4 := hI.cell (i := 4) rfl
  simp only [List.getElem_toArray, List.getElem_cons_zero, List.getElem_cons_succ] at i0 i1 i2 i3 i4
  clear hA hB hI hZ
  go_enter Tryd.func25, Tryd.ntmps25
  go_upto_region 1 with fail
  rw [← hw1]
  clear hw1
  go_wp2_with fail
  refine (HM.out _ (ht.same HA.out)).mono ?_
  rintro e w2 ⟨rfl, hF2⟩
  have HA2 := hid (HA.out.trans hF2)
  have HB2 := hid (HB.out.keep hF2 (fun h => h))
  have HI2 := hid (HI.out.keep hF2 (fun h => h))
  have HZ2 := hid (HZ.out.keep hF2 (fun h => h))
  clear HA HB HI HZ i0 i1 i2 i3 i4 hF2 HM
  have j0 : w2.cell? ⟨w.heap.size + 1, 0, none⟩ = some (.int .i64 10) := HI2.out.cell rfl
  have j1 : w2.cell? ⟨w.heap.size + 1, 1, none⟩ = some (.int .i64 a) := HI2.out.cell rfl
  have j2 : w2.cell? ⟨w.heap.size + 1, 2, none⟩ = some (.int .i64 a) := HI2.out.cell rfl
  have r1 : w2.cell? ⟨w.heap.size, 2 + a, none⟩ = some (.int .i64 (F.r a)) := HB2.out.cell (hC.r F a ha)
  have r2 := HB2.out.frozen (2 + a)
  have hb0 : (0 : Int) ≤ a ∧ (a : Int) < 8 := by omega
  obtain ⟨w3, hw3⟩ : ∃ w3, w3 = w2.setCell ⟨w.heap.size, 2 + a, none⟩ (.int .i64 2) := ⟨_, rfl⟩
  have hB3 : Blk w3 w.heap.size (cel (F.put a 2)) := by
    have h := HB2.out.set (2 + a) (.int .i64 2)
    rw [hC.put F a 2 ha] at h
    rw [hw3]
    exact h
  have hF3 : Fr (fun k => k = w.heap.size) w2 w3 := by rw [hw3]; exact Fr.setCell _ _ _ rfl
  have HZ3 := hid (HZ2.out.keep hF3 (show ¬ (w.heap.size + 2 = w.heap.size) by omega))
  have j13 : w3.cell? ⟨w.heap.size + 1, 1, none⟩ = some (.int .i64 a) := (HI2.out.keep hF3 (show ¬ (w.heap.size + 1 = w.heap.size) by omega)).cell rfl
  have HA3 := hid (HA2.out.over hF3 (Nat.le_refl _))
  have HB3 := hid hB3
  clear hF3 hB3
  go_upto_region 12 with fail
  rw [← hw3]
  clear hw3 j0 j1 j2 r1 r2
  go_wp2_with (refine row_load rfl 25 _ rfl _ rfl HB3.out Tryd.underlying25 rfl infoF (hC.size _) ?_)
  refine (with_any hC _ a _ w3 ha).mono ?_
  rintro e w4 ⟨rfl, hF4⟩
  go_wp2_with fail
  refine (passed_any hC _ _).mono ?_
  rintro e w5 ⟨rfl, hF5⟩
  have hZ5 := HZ3.out.keep (hF4.trans hF5) (fun h => h)
  go_wp2_with (refine row_store rfl 25 _ _ rfl _ _ rfl rfl hZ5 infoF rfl (hC.size _) (hC.one _) ?_)
  intro w9 hB9 hF9
  go_wp2_with fail
  exact bodyPost_ret (res_three rfl rfl hB9 Tryd.underlying25 rfl infoF (hC.size _) rfl rfl) rfl ⟨rfl, (HA3.out.trans (hF4.trans hF5)).over hF9 (by omega)⟩

set_option maxRecDepth 100000 in
set_option maxHeartbeats 1000000 in
theorem join_try4n {cel : Frm → Array Value} (hC : Cel cel) (F : Frm) (a b c : Nat) (n : Int) (v : Int) (w : World) (ht : Tabs w) (hk : chk ⟨10, a, b, c, n⟩ = 0) (ha : a < 8) (hb : b < 8) (hab : a ≠ b) :
    Calls Tryd.prog 25 #[.agg (cel F), Ins.val ⟨10, a, b, c, n⟩, .int .i64 4, .int .i64 v] w fun e w' => e = .returned (.tuple #[.agg (cel ((F.put b 2).put a 0).on), .int .i64 0, .bool false]) ∧ Fr (fun _ => False) w w' := by
  have HM := hid (may_any ⟨10, a, b, c, n⟩)
  rw [show (chk ⟨10, a, b, c, n⟩ == 0) = true by rw [hk]; rfl] at HM
  unfold Ins.val at *
  simp only at *
  clear hk
  have tab : ((a : Int) == (b : Int)) = false := beq_eq_false_iff_ne.2 (by omega)
  obtain ⟨w1, hw1⟩ : ∃ w1, w1 = ((w.alloc (.cells (cel F) 25)).alloc (.cells #[.int .i64 10, .int .i64 a, .int .i64 b, .int .i64 c, .int .i64 n] 27)).alloc (.cells zeros 25) := ⟨_, rfl⟩
  obtain ⟨hA, hB, hI, hZ⟩ := three w (cel F) #[.int .i64 10, .int .i64 a, .int .i64 b, .int .i64 c, .int .i64 n] zeros 25 27 25
  rw [← hw1] at hA hB hI hZ
  unfold zeros at hw1
  have HA := hid hA
  have HB := hid hB
  have HI := hid hI
  have HZ := hid hZ
  have i0 := hI.cell (i := 0) rfl
  have i1 := hI.cell (i := 1) rfl
  have i2 := hI.cell (i := 2) rfl
  have i3 := hI.cell (i := 3) rfl
  have i4 := hI.cell (i := 4) rfl
  simp only [List.getElem_toArray, List.getElem_cons_zero, List.getElem_cons_succ] at i0 i1 i2 i3 i4
  clear hA hB hI hZ
  go_enter Tryd.func25, Tryd.ntmps25
  go_upto_region 1 with fail
  rw [← hw1]
  clear hw1
  go_wp2_with fail
  refine (HM.out _ (ht.same HA.out)).mono ?_
  rintro e w2 ⟨rfl, hF2⟩
  have HA2 := hid (HA.out.trans hF2)
  have HB2 := hid (HB.out.keep hF2 (fun h => h))
  have HI2 := hid (HI.out.keep hF2 (fun h => h))
  have HZ2 := hid (HZ.out.keep hF2 (fun h => h))
  clear HA HB HI HZ i0 i1 i2 i3 i4 hF2 HM
  have j0 : w2.cell? ⟨w.heap.size + 1, 0, none⟩ = some (.int .i64 10) := HI2.out.cell rfl
  have j1 : w2.cell? ⟨w.heap.size + 1, 1, none⟩ = some (.int .i64 a) := HI2.out.cell rfl
  have j2 : w2.cell? ⟨w.heap.size + 1, 2, none⟩ = some (.int .i64 b) := HI2.out.cell rfl
  have r1 : w2.cell? ⟨w.heap.size, 2 + b, none⟩ = some (.int .i64 (F.r b)) := HB2.out.cell (hC.r F b hb)
  have r2 := HB2.out.frozen (2 + b)
  have hb0 : (0 : Int) ≤ b ∧ (b : Int) < 8 := by omega
  obtain ⟨w3, hw3⟩ : ∃ w3, w3 = w2.setCell ⟨w.heap.size, 2 + b, none⟩ (.int .i64 2) := ⟨_, rfl⟩
  have hB3 : Blk w3 w.heap.size (cel (F.put b 2)) := by
    have h := HB2.out.set (2 + b) (.int .i64 2)
    rw [hC.put F b 2 hb] at h
    rw [hw3]
    exact h
  have hF3 : Fr (fun k => k = w.heap.size) w2 w3 := by rw [hw3]; exact Fr.setCell _ _ _ rfl
  have HZ3 := hid (HZ2.out.keep hF3 (show ¬ (w.heap.size + 2 = w.heap.size) by omega))
  have j13 : w3.cell? ⟨w.heap.size + 1, 1, none⟩ = some (.int .i64 a) := (HI2.out.keep hF3 (show ¬ (w.heap.size + 1 = w.heap.size) by omega)).cell rfl
  have HA3 := hid (HA2.out.over hF3 (Nat.le_refl _))
  have HB3 := hid hB3
  clear hF3 hB3
  go_upto_region 12 with fail
  rw [← hw3]
  clear hw3 j0 j1 j2 r1 r2
  go_wp2_with (refine row_load rfl 25 _ rfl _ rfl HB3.out Tryd.underlying25 rfl infoF (hC.size _) ?_)
  refine (with_any hC _ a _ w3 ha).mono ?_
  rintro e w4 ⟨rfl, hF4⟩
  go_wp2_with fail
  refine (passed_any hC _ _).mono ?_
  rintro e w5 ⟨rfl, hF5⟩
  have hZ5 := HZ3.out.keep (hF4.trans hF5) (fun h => h)
  go_wp2_with (refine row_store rfl 25 _ _ rfl _ _ rfl rfl hZ5 infoF rfl (hC.size _) (hC.one _) ?_)
  intro w9 hB9 hF9
  go_wp2_with fail
  exact bodyPost_ret (res_three rfl rfl hB9 Tryd.underlying25 rfl infoF (hC.size _) rfl rfl) rfl ⟨rfl, (HA3.out.trans (hF4.trans hF5)).over hF9 (by omega)⟩

set_option maxRecDepth 100000 in
set_option maxHeartbeats 1000000 in
theorem join_join2 {cel : Frm → Array Value} (hC : Cel cel) (F : Frm) (a b c : Nat) (n : Int) (v : Int) (w : World) (ht : Tabs w) (hk : chk ⟨9, a, b, c, n⟩ = 0) (ha : a < 8) :
    Calls Tryd.prog 25 #[.agg (cel F), Ins.val ⟨9, a, b, c, n⟩, .int .i64 2, .int .i64 v] w fun e w' => e = .returned (.tuple #[.agg (cel (F.put a v).on), .int .i64 0, .bool false]) ∧ Fr (fun _ => False) w w' := by
  have HM := hid (may_any ⟨9, a, b, c, n⟩)
  rw [show (chk ⟨9, a, b, c, n⟩ == 0) = true by rw [hk]; rfl] at HM
  unfold Ins.val at *
  simp only at *
  clear hk
  obtain ⟨w1, hw1⟩ : ∃ w1, w1 = ((w.alloc (.cells (cel F) 25)).alloc (.cells #[.int .i64 9, .int .i64 a, .int .i64 b, .int .i64 c, .int .i64 n] 27)).alloc (.cells zeros 25) := ⟨_, rfl⟩
  obtain ⟨hA, hB, hI, hZ⟩ := three w (cel F) #[.int .i64 9, .int .i64 a, .int .i64 b, .int .i64 c, .int .i64 n] zeros 25 27 25
  rw [← hw1] at hA hB hI hZ
  unfold zeros at hw1
  have HA := hid hA
  have HB := hid hB
  have HI := hid hI
  have HZ := hid hZ
  have i0 := hI.cell (i := 0) rfl
  have i1 := hI.cell (i := 1) rfl
  have i2 := hI.cell (i := 2) rfl
  have i3 := hI.cell (i := 3) rfl
  have i4 := hI.cell (i := 4) rfl
  simp only [List.getElem_toArray, List.getElem_cons_zero, List.getElem_cons_succ] at i0 i1 i2 i3 i4
  clear hA hB hI hZ
  go_enter Tryd.func25, Tryd.ntmps25
  go_upto_region 1 with fail
  rw [← hw1]
  clear hw1
  go_wp2_with fail
  refine (HM.out _ (ht.same HA.out)).mono ?_
  rintro e w2 ⟨rfl, hF2⟩
  have HA2 := hid (HA.out.trans hF2)
  have HB2 := hid (HB.out.keep hF2 (fun h => h))
  have HI2 := hid (HI.out.keep hF2 (fun h => h))
  have HZ2 := hid (HZ.out.keep hF2 (fun h => h))
  clear HA HB HI HZ i0 i1 i2 i3 i4 hF2 HM
  have j0 : w2.cell? ⟨w.heap.size + 1, 0, none⟩ = some (.int .i64 9) := HI2.out.cell rfl
  have j1 : w2.cell? ⟨w.heap.size + 1, 1, none⟩ = some (.int .i64 a) := HI2.out.cell rfl
  have j2 : w2.cell? ⟨w.heap.size + 1, 2, none⟩ = some (.int .i64 b) := HI2.out.cell rfl
  go_wp2_with (refine row_load rfl 25 _ rfl _ rfl HB2.out Tryd.underlying25 rfl infoF (hC.size _) ?_)
  refine (with_any hC _ a _ w2 ha).mono ?_
  rintro e w4 ⟨rfl, hF4⟩
  go_wp2_with fail
  refine (passed_any hC _ _).mono ?_
  rintro e w5 ⟨rfl, hF5⟩
  have hZ5 := HZ2.out.keep (hF4.trans hF5) (fun h => h)
  go_wp2_with (refine row_store rfl 25 _ _ rfl _ _ rfl rfl hZ5 infoF rfl (hC.size _) (hC.one _) ?_)
  intro w9 hB9 hF9
  go_wp2_with fail
  exact bodyPost_ret (res_three rfl rfl hB9 Tryd.underlying25 rfl infoF (hC.size _) rfl rfl) rfl ⟨rfl, (HA2.out.trans (hF4.trans hF5)).over hF9 (by omega)⟩

set_option maxRecDepth 100000 in
set_option maxHeartbeats 1000000 in
theorem join_join3 {cel : Frm → Array Value} (hC : Cel cel) (F : Frm) (a b c : Nat) (n : Int) (v : Int) (w : World) (ht : Tabs w) (hk : chk ⟨9, a, b, c, n⟩ = 0) :
    Calls Tryd.prog 25 #[.agg (cel F), Ins.val ⟨9, a, b, c, n⟩, .int .i64 3, .int .i64 v] w fun e w' => e = .returned (.tuple #[.agg (cel (F.setSt (wrap64 (F.st + 1)))), .int .i64 v, .bool true]) ∧ Fr (fun _ => False) w w' := by
  have HM := hid (may_any ⟨9, a, b, c, n⟩)
  rw [show (chk ⟨9, a, b, c, n⟩ == 0) = true by rw [hk]; rfl] at HM
  unfold Ins.val at *
  simp only at *
  clear hk
  obtain ⟨w1, hw1⟩ : ∃ w1, w1 = ((w.alloc (.cells (cel F) 25)).alloc (.cells #[.int .i64 9, .int .i64 a, .int .i64 b, .int .i64 c, .int .i64 n] 27)).alloc (.cells zeros 25) := ⟨_, rfl⟩
  obtain ⟨hA, hB, hI, hZ⟩ := three w (cel F) #[.int .i64 9, .int .i64 a, .int .i64 b, .int .i64 c, .int .i64 n] zeros 25 27 25
  rw [← hw1] at hA hB hI hZ
  unfold zeros at hw1
  have HA := hid hA
  have HB := hid hB
  have HI := hid hI
  have HZ := hid hZ
  have i0 := hI.cell (i := 0) rfl
  have i1 := hI.cell (i := 1) rfl
  have i2 := hI.cell (i := 2) rfl
  have i3 := hI.cell (i := 3) rfl
  have i4 := hI.cell (i := 4) rfl
  simp only [List.getElem_toArray, List.getElem_cons_zero, List.getElem_cons_succ] at i0 i1 i2 i3 i4
  clear hA hB hI hZ
  go_enter Tryd.func25, Tryd.ntmps25
  go_upto_region 1 with fail
  rw [← hw1]
  clear hw1
  go_wp2_with fail
  refine (HM.out _ (ht.same HA.out)).mono ?_
  rintro e w2 ⟨rfl, hF2⟩
  have HA2 := hid (HA.out.trans hF2)
  have HB2 := hid (HB.out.keep hF2 (fun h => h))
  have HI2 := hid (HI.out.keep hF2 (fun h => h))
  have HZ2 := hid (HZ.out.keep hF2 (fun h => h))
  clear HA HB HI HZ i0 i1 i2 i3 i4 hF2 HM
  have j0 : w2.cell? ⟨w.heap.size + 1, 0, none⟩ = some (.int .i64 9) := HI2.out.cell rfl
  have j1 : w2.cell? ⟨w.heap.size + 1, 1, none⟩ = some (.int .i64 a) := HI2.out.cell rfl
  have j2 : w2.cell? ⟨w.heap.size + 1, 2, none⟩ = some (.int .i64 b) := HI2.out.cell rfl
  have r1 : w2.cell? ⟨w.heap.size, 18, none⟩ = some (.int .i64 F.st) := HB2.out.cell (hC.st F)
  have r2 := HB2.out.frozen 18
  obtain ⟨w3, hw3⟩ : ∃ w3, w3 = w2.setCell ⟨w.heap.size, 18, none⟩ (.int .i64 (wrap64 (F.st + 1))) := ⟨_, rfl⟩
  have hB3 : Blk w3 w.heap.size (cel (F.setSt (wrap64 (F.st + 1)))) := by
    have h := HB2.out.set 18 (.int .i64 (wrap64 (F.st + 1)))
    rw [hC.setSt F _] at h
    rw [hw3]
    exact h
  have hF3 : Fr (fun k => k = w.heap.size) w2 w3 := by rw [hw3]; exact Fr.setCell _ _ _ rfl
  have HZ3 := hid (HZ2.out.keep hF3 (show ¬ (w.heap.size + 2 = w.heap.size) by omega))
  have HA3 := hid (HA2.out.over hF3 (Nat.le_refl _))
  have HB3 := hid hB3
  clear hF3 hB3
  go_upto_region 18 with fail
  rw [← hw3]
  clear hw3 j0 j1 j2 r1 r2
  go_wp2_with (first
    | (refine row_load rfl 25 _ rfl _ rfl HB3.out Tryd.underlying25 rfl infoF (hC.size _) ?_)
    | (refine row_store rfl 25 _ _ rfl _ _ rfl rfl HZ3.out infoF rfl (hC.size _) (hC.one _) ?_))
  intro w9 hB9 hF9
  go_wp2_with fail
  exact bodyPost_ret (res_three rfl rfl hB9 Tryd.underlying25 rfl infoF (hC.size _) rfl rfl) rfl ⟨rfl, (HA3.out).over hF9 (by omega)⟩

set_option maxRecDepth 100000 in
set_option maxHeartbeats 1000000 in
theorem join_join4 {cel : Frm → Array Value} (hC : Cel cel) (F : Frm) (a b c : Nat) (n : Int) (v : Int) (w : World) (ht : Tabs w) (hk : chk ⟨9, a, b, c, n⟩ = 0) :
    Calls Tryd.prog 25 #[.agg (cel F), Ins.val ⟨9, a, b, c, n⟩, .int .i64 4, .int .i64 v] w fun e w' => e = .returned (.tuple #[.agg (cel (F.setSt (wrap64 (F.st + 1)))), .int .i64 (-1), .bool true]) ∧ Fr (fun _ => False) w w' := by
  have HM := hid (may_any ⟨9, a, b, c, n⟩)
  rw [show (chk ⟨9, a, b, c, n⟩ == 0) = true by rw [hk]; rfl] at HM
  unfold Ins.val at *
  simp only at *
  clear hk
  obtain ⟨w1, hw1⟩ : ∃ w1, w1 = ((w.alloc (.cells (cel F) 25)).alloc (.cells #[.int .i64 9, .int .i64 a, .int .i64 b, .int .i64 c, .int .i64 n] 27)).alloc (.cells zeros 25) := ⟨_, rfl⟩
  obtain ⟨hA, hB, hI, hZ⟩ := three w (cel F) #[.int .i64 9, .int .i64 a, .int .i64 b, .int .i64 c, .int .i64 n] zeros 25 27 25
  rw [← hw1] at hA hB hI hZ
  unfold zeros at hw1
  have HA := hid hA
  have HB := hid hB
  have HI := hid hI
  have HZ := hid hZ
  have i0 := hI.cell (i := 0) rfl
  have i1 := hI.cell (i := 1) rfl
  have i2 := hI.cell (i := 2) rfl
  have i3 := hI.cell (i := 3) rfl
  have i4 := hI.cell (i := 4) rfl
  simp only [List.getElem_toArray, List.getElem_cons_zero, List.getElem_cons_succ] at i0 i1 i2 i3 i4
  clear hA hB hI hZ
  go_enter Tryd.func25, Tryd.ntmps25
  go_upto_region 1 with fail
  rw [← hw1]
  clear hw1
  go_wp2_with fail
  refine (HM.out _ (ht.same HA.out)).mono ?_
  rintro e w2 ⟨rfl, hF2⟩
  have HA2 := hid (HA.out.trans hF2)
  have HB2 := hid (HB.out.keep hF2 (fun h => h))
  have HI2 := hid (HI.out.keep hF2 (fun h => h))
  have HZ2 := hid (HZ.out.keep hF2 (fun h => h))
  clear HA HB HI HZ i0 i1 i2 i3 i4 hF2 HM
  have j0 : w2.cell? ⟨w.heap.size + 1, 0, none⟩ = some (.int .i64 9) := HI2.out.cell rfl
  have j1 : w2.cell? ⟨w.heap.size + 1, 1, none⟩ = some (.int .i64 a) := HI2.out.cell rfl
  have j2 : w2.cell? ⟨w.heap.size + 1, 2, none⟩ = some (.int .i64 b) := HI2.out.cell rfl
  have r1 : w2.cell? ⟨w.heap.size, 18, none⟩ = some (.int .i64 F.st) := HB2.out.cell (hC.st F)
  have r2 := HB2.out.frozen 18
  obtain ⟨w3, hw3⟩ : ∃ w3, w3 = w2.setCell ⟨w.heap.size, 18, none⟩ (.int .i64 (wrap64 (F.st + 1))) := ⟨_, rfl⟩
  have hB3 : Blk w3 w.heap.size (cel (F.setSt (wrap64 (F.st + 1)))) := by
    have h := HB2.out.set 18 (.int .i64 (wrap64 (F.st + 1)))
    rw [hC.setSt F _] at h
    rw [hw3]
    exact h
  have hF3 : Fr (fun k => k = w.heap.size) w2 w3 := by rw [hw3]; exact Fr.setCell _ _ _ rfl
  have HZ3 := hid (HZ2.out.keep hF3 (show ¬ (w.heap.size + 2 = w.heap.size) by omega))
  have HA3 := hid (HA2.out.over hF3 (Nat.le_refl _))
  have HB3 := hid hB3
  clear hF3 hB3
  go_upto_region 18 with fail
  rw [← hw3]
  clear hw3 j0 j1 j2 r1 r2
  go_wp2_with (first
    | (refine row_load rfl 25 _ rfl _ rfl HB3.out Tryd.underlying25 rfl infoF (hC.size _) ?_)
    | (refine row_store rfl 25 _ _ rfl _ _ rfl rfl HZ3.out infoF rfl (hC.size _) (hC.one _) ?_))
  intro w9 hB9 hF9
  go_wp2_with fail
  exact bodyPost_ret (res_three rfl rfl hB9 Tryd.underlying25 rfl infoF (hC.size _) rfl rfl) rfl ⟨rfl, (HA3.out).over hF9 (by omega)⟩

end Go.Proofs.YtedpgfldkjimpaaDoor
