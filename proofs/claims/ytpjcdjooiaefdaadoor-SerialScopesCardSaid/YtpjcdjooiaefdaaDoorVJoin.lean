/-
  Joined, the program's.
-/
import Derived.Test.YtpjcdjooiaefdaaDoorVHeap
import Derived.Deep.RegionHeld3
import Derived.Deep.DeepCutAuto
namespace Go.Proofs.YtpjcdjooiaefdaaDoor
open Go.RowKit
set_option linter.unusedVariables false

set_option maxRecDepth 100000 in
set_option maxHeartbeats 1000000 in
theorem join_no1 {cel : Frm → Array Value} (hC : Cel cel) (F : Frm) (i : Ins) (kd v : Int) (w : World) (ht : Tabs w) (hk : chk i ≠ 0) :
    Calls Tryd.prog 49 #[.agg (cel F), i.val, .int .i64 kd, .int .i64 v] w fun e w' => e = .returned (.tuple #[.agg (cel F), .int .i64 0, .bool false]) ∧ Fr (fun _ => False) w w' := by
  have HM := hid (may_any i)
  rw [show (chk i == 0) = false from beq_eq_false_iff_ne.2 hk] at HM
  unfold Ins.val at *
  obtain ⟨w1, hw1⟩ : ∃ w1, w1 = ((w.alloc (.cells (cel F) 59)).alloc (.cells #[.int .i64 i.op, .int .i64 i.a, .int .i64 i.b, .int .i64 i.c, .int .i64 i.n] 43)).alloc (.cells zeros 59) := ⟨_, rfl⟩
  obtain ⟨hA, hB, hI, hZ⟩ := three w (cel F) #[.int .i64 i.op, .int .i64 i.a, .int .i64 i.b, .int .i64 i.c, .int .i64 i.n] zeros 59 43 59
  rw [← hw1] at hA hB hI hZ
  unfold zeros at hw1
  have HA := hid hA
  have HB := hid hB
  have HI := hid hI
  have HZ := hid hZ
  have i0 := hI.cell (i := 0) rfl
  have i1 := hI.cell (i := 1) rfl
  have i2 := hI.cell (i := 2) rfl
  have i3 := hI.cell (i := 3) rfl
  have i4 := hI.cell (i := 4) rfl
  simp only [List.getElem_toArray, List.getElem_cons_zero, List.getElem_cons_succ] at i0 i1 i2 i3 i4
  clear hA hB hI hZ
  go_enter Tryd.func49, Tryd.ntmps49
  go_upto_region 1 with fail
  rw [← hw1]
  clear hw1
  go_wp2_with fail
  refine (HM.out _ (ht.same HA.out)).mono ?_
  rintro e w2 ⟨rfl, hF2⟩
  have HA2 := hid (HA.out.trans hF2)
  have HB2 := hid (HB.out.keep hF2 (fun h => h))
  have HI2 := hid (HI.out.keep hF2 (fun h => h))
  have HZ2 := hid (HZ.out.keep hF2 (fun h => h))
  clear HA HB HI HZ i0 i1 i2 i3 i4 hF2 HM
  go_wp2_with (first
    | (refine row_load rfl 59 _ rfl _ rfl HB2.out Tryd.underlying59 rfl infoF (hC.size _) ?_)
    | (refine row_store rfl 59 _ _ rfl _ _ rfl rfl HZ2.out infoF rfl (hC.size _) (hC.one _) ?_))
  intro w9 hB9 hF9
  go_wp2_with fail
  exact bodyPost_ret (res_three rfl rfl hB9 Tryd.underlying59 rfl infoF (hC.size _) rfl rfl) rfl ⟨rfl, (HA2.out).over hF9 (by omega)⟩

set_option maxRecDepth 100000 in
set_option maxHeartbeats 1000000 in
theorem join_no2 {cel : Frm → Array Value} (hC : Cel cel) (F : Frm) (i : Ins) (kd v : Int) (w : World) (ht : Tabs w) (hk : chk i = 0) (hkd : kd < 2) :
    Calls Tryd.prog 49 #[.agg (cel F), i.val, .int .i64 kd, .int .i64 v] w fun e w' => e = .returned (.tuple #[.agg (cel F), .int .i64 0, .bool false]) ∧ Fr (fun _ => False) w w' := by
  have HM := hid (may_any i)
  rw [show (chk i == 0) = true by rw [hk]; rfl] at HM
  unfold Ins.val at *
  obtain ⟨w1, hw1⟩ : ∃ w1, w1 = ((w.alloc (.cells (cel F) 59)).alloc (.cells #[.int .i64 i.op, .int .i64 i.a, .int .i64 i.b, .int .i64 i.c, .int .i64 i.n] 43)).alloc (.cells zeros 59) := ⟨_, rfl⟩
  obtain ⟨hA, hB, hI, hZ⟩ := three w (cel F) #[.int .i64 i.op, .int .i64 i.a, .int .i64 i.b, .int .i64 i.c, .int .i64 i.n] zeros 59 43 59
  rw [← hw1] at hA hB hI hZ
  unfold zeros at hw1
  have HA := hid hA
  have HB := hid hB
  have HI := hid hI
  have HZ := hid hZ
  have i0 := hI.cell (i := 0) rfl
  have i1 := hI.cell (i := 1) rfl
  have i2 := hI.cell (i := 2) rfl
  have i3 := hI.cell (i := 3) rfl
  have i4 := hI.cell (i := 4) rfl
  simp only [List.getElem_toArray, List.getElem_cons_zero, List.getElem_cons_succ] at i0 i1 i2 i3 i4
  clear hA hB hI hZ
  go_enter Tryd.func49, Tryd.ntmps49
  go_upto_region 1 with fail
  rw [← hw1]
  clear hw1
  go_wp2_with fail
  refine (HM.out _ (ht.same HA.out)).mono ?_
  rintro e w2 ⟨rfl, hF2⟩
  have HA2 := hid (HA.out.trans hF2)
  have HB2 := hid (HB.out.keep hF2 (fun h => h))
  have HI2 := hid (HI.out.keep hF2 (fun h => h))
  have HZ2 := hid (HZ.out.keep hF2 (fun h => h))
  clear HA HB HI HZ i0 i1 i2 i3 i4 hF2 HM
  go_wp2_with (first
    | (refine row_load rfl 59 _ rfl _ rfl HB2.out Tryd.underlying59 rfl infoF (hC.size _) ?_)
    | (refine row_store rfl 59 _ _ rfl _ _ rfl rfl HZ2.out infoF rfl (hC.size _) (hC.one _) ?_))
  intro w9 hB9 hF9
  go_wp2_with fail
  exact bodyPost_ret (res_three rfl rfl hB9 Tryd.underlying59 rfl infoF (hC.size _) rfl rfl) rfl ⟨rfl, (HA2.out).over hF9 (by omega)⟩

set_option maxRecDepth 100000 in
set_option maxHeartbeats 1000000 in
theorem join_no3 {cel : Frm → Array Value} (hC : Cel cel) (F : Frm) (i : Ins) (kd v : Int) (w : World) (ht : Tabs w) (hk : chk i = 0) (hkd : 4 < kd) :
    Calls Tryd.prog 49 #[.agg (cel F), i.val, .int .i64 kd, .int .i64 v] w fun e w' => e = .returned (.tuple #[.agg (cel F), .int .i64 0, .bool false]) ∧ Fr (fun _ => False) w w' := by
  have HM := hid (may_any i)
  rw [show (chk i == 0) = true by rw [hk]; rfl] at HM
  unfold Ins.val at *
  have t1 : ¬ kd < 2 := by omega
  obtain ⟨w1, hw1⟩ : ∃ w1, w1 = ((w.alloc (.cells (cel F) 59)).alloc (.cells #[.int .i64 i.op, .int .i64 i.a, .int .i64 i.b, .int .i64 i.c, .int .i64 i.n] 43)).alloc (.cells zeros 59) := ⟨_, rfl⟩
  obtain ⟨hA, hB, hI, hZ⟩ := three w (cel F) #[.int .i64 i.op, .int .i64 i.a, .int .i64 i.b, .int .i64 i.c, .int .i64 i.n] zeros 59 43 59
  rw [← hw1] at hA hB hI hZ
  unfold zeros at hw1
  have HA := hid hA
  have HB := hid hB
  have HI := hid hI
  have HZ := hid hZ
  have i0 := hI.cell (i := 0) rfl
  have i1 := hI.cell (i := 1) rfl
  have i2 := hI.cell (i := 2) rfl
  have i3 := hI.cell (i := 3) rfl
  have i4 := hI.cell (i := 4) rfl
  simp only [List.getElem_toArray, List.getElem_cons_zero, List.getElem_cons_succ] at i0 i1 i2 i3 i4
  clear hA hB hI hZ
  go_enter Tryd.func49, Tryd.ntmps49
  go_upto_region 1 with fail
  rw [← hw1]
  clear hw1
  go_wp2_with fail
  refine (HM.out _ (ht.same HA.out)).mono ?_
  rintro e w2 ⟨rfl, hF2⟩
  have HA2 := hid (HA.out.trans hF2)
  have HB2 := hid (HB.out.keep hF2 (fun h => h))
  have HI2 := hid (HI.out.keep hF2 (fun h => h))
  have HZ2 := hid (HZ.out.keep hF2 (fun h => h))
  clear HA HB HI HZ i0 i1 i2 i3 i4 hF2 HM
  go_wp2_with (first
    | (refine row_load rfl 59 _ rfl _ rfl HB2.out Tryd.underlying59 rfl infoF (hC.size _) ?_)
    | (refine row_store rfl 59 _ _ rfl _ _ rfl rfl HZ2.out infoF rfl (hC.size _) (hC.one _) ?_))
  intro w9 hB9 hF9
  go_wp2_with fail
  exact bodyPost_ret (res_three rfl rfl hB9 Tryd.underlying59 rfl infoF (hC.size _) rfl rfl) rfl ⟨rfl, (HA2.out).over hF9 (by omega)⟩

set_option maxRecDepth 100000 in
set_option maxHeartbeats 1000000 in
theorem join_no4 {cel : Frm → Array Value} (hC : Cel cel) (F : Frm) (i : Ins) (kd v : Int) (w : World) (ht : Tabs w) (hk : chk i = 0) (hkd : 2 ≤ kd ∧ kd ≤ 4) (h9 : i.op ≠ 9) (h10 : i.op ≠ 10) :
    Calls Tryd.prog 49 #[.agg (cel F), i.val, .int .i64 kd, .int .i64 v] w fun e w' => e = .returned (.tuple #[.agg (cel F), .int .i64 0, .bool false]) ∧ Fr (fun _ => False) w w' := by
  have HM := hid (may_any i)
  rw [show (chk i == 0) = true by rw [hk]; rfl] at HM
  unfold Ins.val at *
  have t1 : ¬ kd < 2 := by omega
  have t2 : ¬ 4 < kd := by omega
  have t9 : (i.op == 9) = false := beq_eq_false_iff_ne.2 h9
  have t10 : (i.op == 10) = false := beq_eq_false_iff_ne.2 h10
  clear hkd
  obtain ⟨w1, hw1⟩ : ∃ w1, w1 = ((w.alloc (.cells (cel F) 59)).alloc (.cells #[.int .i64 i.op, .int .i64 i.a, .int .i64 i.b, .int .i64 i.c, .int .i64 i.n] 43)).alloc (.cells zeros 59) := ⟨_, rfl⟩
  obtain ⟨hA, hB, hI, hZ⟩ := three w (cel F) #[.int .i64 i.op, .int .i64 i.a, .int .i64 i.b, .int .i64 i.c, .int .i64 i.n] zeros 59 43 59
  rw [← hw1] at hA hB hI hZ
  unfold zeros at hw1
  have HA := hid hA
  have HB := hid hB
  have HI := hid hI
  have HZ := hid hZ
  have i0 := hI.cell (i := 0) rfl
  have i1 := hI.cell (i := 1) rfl
  have i2 := hI.cell (i := 2) rfl
  have i3 := hI.cell (i := 3) rfl
  have i4 := hI.cell (i := 4) rfl
  simp only [List.getElem_toArray, List.getElem_cons_zero, List.getElem_cons_succ] at i0 i1 i2 i3 i4
  clear hA hB hI hZ
  go_enter Tryd.func49, Tryd.ntmps49
  go_upto_region 1 with fail
  rw [← hw1]
  clear hw1
  go_wp2_with fail
  refine (HM.out _ (ht.same HA.out)).mono ?_
  rintro e w2 ⟨rfl, hF2⟩
  have HA2 := hid (HA.out.trans hF2)
  have HB2 := hid (HB.out.keep hF2 (fun h => h))
  have HI2 := hid (HI.out.keep hF2 (fun h => h))
  have HZ2 := hid (HZ.out.keep hF2 (fun h => h))
  clear HA HB HI HZ i0 i1 i2 i3 i4 hF2 HM
  have j0 : w2.cell? ⟨w.heap.size + 1, 0, none⟩ = some (.int .i64 i.op) := HI2.out.cell rfl
  go_wp2_with (first
    | (refine row_load rfl 59 _ rfl _ rfl HB2.out Tryd.underlying59 rfl infoF (hC.size _) ?_)
    | (refine row_store rfl 59 _ _ rfl _ _ rfl rfl HZ2.out infoF rfl (hC.size _) (hC.one _) ?_))
  intro w9 hB9 hF9
  go_wp2_with fail
  exact bodyPost_ret (res_three rfl rfl hB9 Tryd.underlying59 rfl infoF (hC.size _) rfl rfl) rfl ⟨rfl, (HA2.out).over hF9 (by omega)⟩

set_option maxRecDepth 100000 in
set_option maxHeartbeats 1000000 in
theorem join_try2e {cel : Frm → Array Value} (hC : Cel cel) (F : Frm) (a c : Nat) (n : Int) (v : Int) (w : World) (ht : Tabs w) (hk : chk ⟨10, a, a, c, n⟩ = 0) (ha : a < 8) :
    Calls Tryd.prog 49 #[.agg (cel F), Ins.val ⟨10, a, a, c, n⟩, .int .i64 2, .int .i64 v] w fun e w' => e = .returned (.tuple #[.agg (cel ((F.put a 0).put a 0).on), .int .i64 0, .bool false]) ∧ Fr (fun _ => False) w w' := by
  have HM := hid (may_any ⟨10, a, a, c, n⟩)
  rw [show (chk ⟨10, a, a, c, n⟩ == 0) = true by rw [hk]; rfl] at HM
  unfold Ins.val at *
  simp only at *
  clear hk
  have tab : ((a : Int) == (a : Int)) = true := beq_self_eq_true _
  obtain ⟨w1, hw1⟩ : ∃ w1, w1 = ((w.alloc (.cells (cel F) 59)).alloc (.cells #[.int .i64 10, .int .i64 a, .int .i64 a, .int .i64 c, .int .i64 n] 43)).alloc (.cells zeros 59) := ⟨_, rfl⟩
  obtain ⟨hA, hB, hI, hZ⟩ := three w (cel F) #[.int .i64 10, .int .i64 a, .int .i64 a, .int .i64 c, .int .i64 n] zeros 59 43 59
  rw [← hw1] at hA hB hI hZ
  unfold zeros at hw1
  have HA := hid hA
  have HB := hid hB
  have HI := hid hI
  have HZ := hid hZ
  have i0 := hI.cell (i := 0) rfl
  have i1 := hI.cell (i := 1) rfl
  have i2 := hI.cell (i := 2) rfl
  have i3 := hI.cell (i := 3) rfl
  have i4 := hI.cell (i := 4) rfl
  simp only [List.getElem_toArray, List.getElem_cons_zero, List.getElem_cons_succ] at i0 i1 i2 i3 i4
  clear hA hB hI hZ
  go_enter Tryd.func49, Tryd.ntmps49
  go_upto_region 1 with fail
  rw [← hw1]
  clear hw1
  go_wp2_with fail
  refine (HM.out _ (ht.same HA.out)).mono ?_
  rintro e w2 ⟨rfl, hF2⟩
  have HA2 := hid (HA.out.trans hF2)
  have HB2 := hid (HB.out.keep hF2 (fun h => h))
  have HI2 := hid (HI.out.keep hF2 (fun h => h))
  have HZ2 := hid (HZ.out.keep hF2 (fun h => h))
  clear HA HB HI HZ i0 i1 i2 i3 i4 hF2 HM
  have j0 : w2.cell? ⟨w.heap.size + 1, 0, none⟩ = some (.int .i64 10) := HI2.out.cell rfl
  have j1 : w2.cell? ⟨w.heap.size + 1, 1, none⟩ = some (.int .i64 a) := HI2.out.cell rfl
  have j2 : w2.cell? ⟨w.heap.size + 1, 2, none⟩ = some (.int .i64 a) := HI2.out.cell rfl
  have r1 : w2.cell? ⟨w.heap.size, 2 + a, none⟩ = some (.int .i64 (F.r a)) := HB2.out.cell (hC.r F a ha)
  have r2 := HB2.out.frozen (2 + a)
  have hb0 : (0 : Int) ≤ a ∧ (a : Int) < 8 := by omega
  obtain ⟨w3, hw3⟩ : ∃ w3, w3 = w2.setCell ⟨w.heap.size, 2 + a, none⟩ (.int .i64 0) := ⟨_, rfl⟩
  have hB3 : Blk w3 w.heap.size (cel (F.put a 0)) := by
    have h := HB2.out.set (2 + a) (.int .i64 0)
    rw [hC.put F a 0 ha] at h
    rw [hw3]
    exact h
  have hF3 : Fr (fun k => k = w.heap.size) w2 w3 := by rw [hw3]; exact Fr.setCell _ _ _ rfl
  have HZ3 := hid (HZ2.out.keep hF3 (show ¬ (w.heap.size + 2 = w.heap.size) by omega))
  have j13 : w3.cell? ⟨w.heap.size + 1, 1, none⟩ = some (.int .i64 a) := (HI2.out.keep hF3 (show ¬ (w.heap.size + 1 = w.heap.size) by omega)).cell rfl
  have HA3 := hid (HA2.out.over hF3 (Nat.le_refl _))
  have HB3 := hid hB3
  clear hF3 hB3
  go_upto_region 12 with fail
  rw [← hw3]
  clear hw3 j0 j1 j2 r1 r2
  go_wp2_with (refine row_load rfl 59 _ rfl _ rfl HB3.out Tryd.underlying59 rfl infoF (hC.size _) ?_)
  refine (with_any hC _ a _ w3 ha).mono ?_
  rintro e w4 ⟨rfl, hF4⟩
  go_wp2_with fail
  refine (passed_any hC _ _).mono ?_
  rintro e w5 ⟨rfl, hF5⟩
  have hZ5 := HZ3.out.keep (hF4.trans hF5) (fun h => h)
  go_wp2_with (refine row_store rfl 59 _ _ rfl _ _ rfl rfl hZ5 infoF rfl (hC.size _) (hC.one _) ?_)
  intro w9 hB9 hF9
  go_wp2_with fail
  exact bodyPost_ret (res_three rfl rfl hB9 Tryd.underlying59 rfl infoF (hC.size _) rfl rfl) rfl ⟨rfl, (HA3.out.trans (hF4.trans hF5)).over hF9 (by omega)⟩

set_option maxRecDepth 100000 in
set_option maxHeartbeats 1000000 in
theorem join_try2n {cel : Frm → Array Value} (hC : Cel cel) (F : Frm) (a b c : Nat) (n : Int) (v : Int) (w : World) (ht : Tabs w) (hk : chk ⟨10, a, b, c, n⟩ = 0) (ha : a < 8) (hb : b < 8) (hab : a ≠ b) :
    Calls Tryd.prog 49 #[.agg (cel F), Ins.val ⟨10, a, b, c, n⟩, .int .i64 2, .int .i64 v] w fun e w' => e = .returned (.tuple #[.agg (cel ((F.put b 0).put a v).on), .int .i64 0, .bool false]) ∧ Fr (fun _ => False) w w' := by
  have HM := hid (may_any ⟨10, a, b, c, n⟩)
  rw [show (chk ⟨10, a, b, c, n⟩ == 0) = true by rw [hk]; rfl] at HM
  unfold Ins.val at *
  simp only at *
  clear hk
  have tab : ((a : Int) == (b : Int)) = false := beq_eq_false_iff_ne.2 (by omega)
  obtain ⟨w1, hw1⟩ : ∃ w1, w1 = ((w.alloc (.cells (cel F) 59)).alloc (.cells #[.int .i64 10, .int .i64 a, .int .i64 b, .int .i64 c, .int .i64 n] 43)).alloc (.cells zeros 59) := ⟨_, rfl⟩
  obtain ⟨hA, hB, hI, hZ⟩ := three w (cel F) #[.int .i64 10, .int .i64 a, .int .i64 b, .int .i64 c, .int .i64 n] zeros 59 43 59
  rw [← hw1] at hA hB hI hZ
  unfold zeros at hw1
  have HA := hid hA
  have HB := hid hB
  have HI := hid hI
  have HZ := hid hZ
  have i0 := hI.cell (i := 0) rfl
  have i1 := hI.cell (i := 1) rfl
  have i2 := hI.cell (i := 2) rfl
  have i3 := hI.cell (i := 3) rfl
  have i4 := hI.cell (i := 4) rfl
  simp only [List.getElem_toArray, List.getElem_cons_zero, List.getElem_cons_succ] at i0 i1 i2 i3 i4
  clear hA hB hI hZ
  go_enter Tryd.func49, Tryd.ntmps49
  go_upto_region 1 with fail
  rw [← hw1]
  clear hw1
  go_wp2_with fail
  refine (HM.out _ (ht.same HA.out)).mono ?_
  rintro e w2 ⟨rfl, hF2⟩
  have HA2 := hid (HA.out.trans hF2)
  have HB2 := hid (HB.out.keep hF2 (fun h => h))
  have HI2 := hid (HI.out.keep hF2 (fun h => h))
  have HZ2 := hid (HZ.out.keep hF2 (fun h => h))
  clear HA HB HI HZ i0 i1 i2 i3 i4 hF2 HM
  have j0 : w2.cell? ⟨w.heap.size + 1, 0, none⟩ = some (.int .i64 10) := HI2.out.cell rfl
  have j1 : w2.cell? ⟨w.heap.size + 1, 1, none⟩ = some (.int .i64 a) := HI2.out.cell rfl
  have j2 : w2.cell? ⟨w.heap.size + 1, 2, none⟩ = some (.int .i64 b) := HI2.out.cell rfl
  have r1 : w2.cell? ⟨w.heap.size, 2 + b, none⟩ = some (.int .i64 (F.r b)) := HB2.out.cell (hC.r F b hb)
  have r2 := HB2.out.frozen (2 + b)
  have hb0 : (0 : Int) ≤ b ∧ (b : Int) < 8 := by omega
  obtain ⟨w3, hw3⟩ : ∃ w3, w3 = w2.setCell ⟨w.heap.size, 2 + b, none⟩ (.int .i64 0) := ⟨_, rfl⟩
  have hB3 : Blk w3 w.heap.size (cel (F.put b 0)) := by
    have h := HB2.out.set (2 + b) (.int .i64 0)
    rw [hC.put F b 0 hb] at h
    rw [hw3]
    exact h
  have hF3 : Fr (fun k => k = w.heap.size) w2 w3 := by rw [hw3]; exact Fr.setCell _ _ _ rfl
  have HZ3 := hid (HZ2.out.keep hF3 (show ¬ (w.heap.size + 2 = w.heap.size) by omega))
  have j13 : w3.cell? ⟨w.heap.size + 1, 1, none⟩ = some (.int .i64 a) := (HI2.out.keep hF3 (show ¬ (w.heap.size + 1 = w.heap.size) by omega)).cell rfl
  have HA3 := hid (HA2.out.over hF3 (Nat.le_refl _))
  have HB3 := hid hB3
  clear hF3 hB3
  go_upto_region 12 with fail
  rw [← hw3]
  clear hw3 j0 j1 j2 r1 r2
  go_wp2_with (refine row_load rfl 59 _ rfl _ rfl HB3.out Tryd.underlying59 rfl infoF (hC.size _) ?_)
  refine (with_any hC _ a _ w3 ha).mono ?_
  rintro e w4 ⟨rfl, hF4⟩
  go_wp2_with fail
  refine (passed_any hC _ _).mono ?_
  rintro e w5 ⟨rfl, hF5⟩
  have hZ5 := HZ3.out.keep (hF4.trans hF5) (fun h => h)
  go_wp2_with (refine row_store rfl 59 _ _ rfl _ _ rfl rfl hZ5 infoF rfl (hC.size _) (hC.one _) ?_)
  intro w9 hB9 hF9
  go_wp2_with fail
  exact bodyPost_ret (res_three rfl rfl hB9 Tryd.underlying59 rfl infoF (hC.size _) rfl rfl) rfl ⟨rfl, (HA3.out.trans (hF4.trans hF5)).over hF9 (by omega)⟩

set_option maxRecDepth 100000 in
set_option maxHeartbeats 1000000 in
theorem join_try3e {cel : Frm → Array Value} (hC : Cel cel) (F : Frm) (a c : Nat) (n : Int) (v : Int) (w : World) (ht : Tabs w) (hk : chk ⟨10, a, a, c, n⟩ = 0) (ha : a < 8) :
    Calls Tryd.prog 49 #[.agg (cel F), Ins.val ⟨10, a, a, c, n⟩, .int .i64 3, .int .i64 v] w fun e w' => e = .returned (.tuple #[.agg (cel ((F.put a 1).put a 1).on), .int .i64 0, .bool false]) ∧ Fr (fun _ => False) w w' := by
  have HM := hid (may_any ⟨10, a, a, c, n⟩)
  rw [show (chk ⟨10, a, a, c, n⟩ == 0) = true by rw [hk]; rfl] at HM
  unfold Ins.val at *
  simp only at *
  clear hk
  have tab : ((a : Int) == (a : Int)) = true := beq_self_eq_true _
  obtain ⟨w1, hw1⟩ : ∃ w1, w1 = ((w.alloc (.cells (cel F) 59)).alloc (.cells #[.int .i64 10, .int .i64 a, .int .i64 a, .int .i64 c, .int .i64 n] 43)).alloc (.cells zeros 59) := ⟨_, rfl⟩
  obtain ⟨hA, hB, hI, hZ⟩ := three w (cel F) #[.int .i64 10, .int .i64 a, .int .i64 a, .int .i64 c, .int .i64 n] zeros 59 43 59
  rw [← hw1] at hA hB hI hZ
  unfold zeros at hw1
  have HA := hid hA
  have HB := hid hB
  have HI := hid hI
  have HZ := hid hZ
  have i0 := hI.cell (i := 0) rfl
  have i1 := hI.cell (i := 1) rfl
  have i2 := hI.cell (i := 2) rfl
  have i3 := hI.cell (i := 3) rfl
  have i4 := hI.cell (i := 4) rfl
  simp only [List.getElem_toArray, List.getElem_cons_zero, List.getElem_cons_succ] at i0 i1 i2 i3 i4
  clear hA hB hI hZ
  go_enter Tryd.func49, Tryd.ntmps49
  go_upto_region 1 with fail
  rw [← hw1]
  clear hw1
  go_wp2_with fail
  refine (HM.out _ (ht.same HA.out)).mono ?_
  rintro e w2 ⟨rfl, hF2⟩
  have HA2 := hid (HA.out.trans hF2)
  have HB2 := hid (HB.out.keep hF2 (fun h => h))
  have HI2 := hid (HI.out.keep hF2 (fun h => h))
  have HZ2 := hid (HZ.out.keep hF2 (fun h => h))
  clear HA HB HI HZ i0 i1 i2 i3 i4 hF2 HM
  have j0 : w2.cell? ⟨w.heap.size + 1, 0, none⟩ = some (.int .i64 10) := HI2.out.cell rfl
  have j1 : w2.cell? ⟨w.heap.size + 1, 1, none⟩ = some (.int .i64 a) := HI2.out.cell rfl
  have j2 : w2.cell? ⟨w.heap.size + 1, 2, none⟩ = some (.int .i64 a) := HI2.out.cell rfl
  have r1 : w2.cell? ⟨w.heap.size, 2 + a, none⟩ = some (.int .i64 (F.r a)) := HB2.out.cell (hC.r F a ha)
  have r2 := HB2.out.frozen (2 + a)
  have hb0 : (0 : Int) ≤ a ∧ (a : Int) < 8 := by omega
  obtain ⟨w3, hw3⟩ : ∃ w3, w3 = w2.setCell ⟨w.heap.size, 2 + a, none⟩ (.int .i64 1) := ⟨_, rfl⟩
  have hB3 : Blk w3 w.heap.size (cel (F.put a 1)) := by
    have h := HB2.out.set (2 + a) (.int .i64 1)
    rw [hC.put F a 1 ha] at h
    rw [hw3]
    exact h
  have hF3 : Fr (fun k => k = w.heap.size) w2 w3 := by rw [hw3]; exact Fr.setCell _ _ _ rfl
  have HZ3 := hid (HZ2.out.keep hF3 (show ¬ (w.heap.size + 2 = w.heap.size) by omega))
  have j13 : w3.cell? ⟨w.heap.size + 1, 1, none⟩ = some (.int .i64 a) := (HI2.out.keep hF3 (show ¬ (w.heap.size + 1 = w.heap.size) by omega)).cell rfl
  have HA3 := hid (HA2.out.over hF3 (Nat.le_refl _))
  have HB3 := hid hB3
  clear hF3 hB3
  go_upto_region 12 with fail
  rw [← hw3]
  clear hw3 j0 j1 j2 r1 r2
  go_wp2_with (refine row_load rfl 59 _ rfl _ rfl HB3.out Tryd.underlying59 rfl infoF (hC.size _) ?_)
  refine (with_any hC _ a _ w3 ha).mono ?_
  rintro e w4 ⟨rfl, hF4⟩
  go_wp2_with fail
  refine (passed_any hC _ _).mono ?_
  rintro e w5 ⟨rfl, hF5⟩
  have hZ5 := HZ3.out.keep (hF4.trans hF5) (fun h => h)
  go_wp2_with (refine row_store rfl 59 _ _ rfl _ _ rfl rfl hZ5 infoF rfl (hC.size _) (hC.one _) ?_)
  intro w9 hB9 hF9
  go_wp2_with fail
  exact bodyPost_ret (res_three rfl rfl hB9 Tryd.underlying59 rfl infoF (hC.size _) rfl rfl) rfl ⟨rfl, (HA3.out.trans (hF4.trans hF5)).over hF9 (by omega)⟩

set_option maxRecDepth 100000 in
set_option maxHeartbeats 1000000 in
theorem join_try3n {cel : Frm → Array Value} (hC : Cel cel) (F : Frm) (a b c : Nat) (n : Int) (v : Int) (w : World) (ht : Tabs w) (hk : chk ⟨10, a, b, c, n⟩ = 0) (ha : a < 8) (hb : b < 8) (hab : a ≠ b) :
    Calls Tryd.prog 49 #[.agg (cel F), Ins.val ⟨10, a, b, c, n⟩, .int .i64 3, .int .i64 v] w fun e w' => e = .returned (.tuple #[.agg (cel ((F.put b 1).put a v).on), .int .i64 0, .bool false]) ∧ Fr (fun _ => False) w w' := by
  have HM := hid (may_any ⟨10, a, b, c, n⟩)
  rw [show (chk ⟨10, a, b, c, n⟩ == 0) = true by rw [hk]; rfl] at HM
  unfold Ins.val at *
  simp only at *
  clear hk
  have tab : ((a : Int) == (b : Int)) = false := beq_eq_false_iff_ne.2 (by omega)
  obtain ⟨w1, hw1⟩ : ∃ w1, w1 = ((w.alloc (.cells (cel F) 59)).alloc (.cells #[.int .i64 10, .int .i64 a, .int .i64 b, .int .i64 c, .int .i64 n] 43)).alloc (.cells zeros 59) := ⟨_, rfl⟩
  obtain ⟨hA, hB, hI, hZ⟩ := three w (cel F) #[.int .i64 10, .int .i64 a, .int .i64 b, .int .i64 c, .int .i64 n] zeros 59 43 59
  rw [← hw1] at hA hB hI hZ
  unfold zeros at hw1
  have HA := hid hA
  have HB := hid hB
  have HI := hid hI
  have HZ := hid hZ
  have i0 := hI.cell (i := 0) rfl
  have i1 := hI.cell (i := 1) rfl
  have i2 := hI.cell (i := 2) rfl
  have i3 := hI.cell (i := 3) rfl
  have i4 := hI.cell (i := 4) rfl
  simp only [List.getElem_toArray, List.getElem_cons_zero, List.getElem_cons_succ] at i0 i1 i2 i3 i4
  clear hA hB hI hZ
  go_enter Tryd.func49, Tryd.ntmps49
  go_upto_region 1 with fail
  rw [← hw1]
  clear hw1
  go_wp2_with fail
  refine (HM.out _ (ht.same HA.out)).mono ?_
  rintro e w2 ⟨rfl, hF2⟩
  have HA2 := hid (HA.out.trans hF2)
  have HB2 := hid (HB.out.keep hF2 (fun h => h))
  have HI2 := hid (HI.out.keep hF2 (fun h => h))
  have HZ2 := hid (HZ.out.keep hF2 (fun h => h))
  clear HA HB HI HZ i0 i1 i2 i3 i4 hF2 HM
  have j0 : w2.cell? ⟨w.heap.size + 1, 0, none⟩ = some (.int .i64 10) := HI2.out.cell rfl
  have j1 : w2.cell? ⟨w.heap.size + 1, 1, none⟩ = some (.int .i64 a) := HI2.out.cell rfl
  have j2 : w2.cell? ⟨w.heap.size + 1, 2, none⟩ = some (.int .i64 b) := HI2.out.cell rfl
  have r1 : w2.cell? ⟨w.heap.size, 2 + b, none⟩ = some (.int .i64 (F.r b)) := HB2.out.cell (hC.r F b hb)
  have r2 := HB2.out.frozen (2 + b)
  have hb0 : (0 : Int) ≤ b ∧ (b : Int) < 8 := by omega
  obtain ⟨w3, hw3⟩ : ∃ w3, w3 = w2.setCell ⟨w.heap.size, 2 + b, none⟩ (.int .i64 1) := ⟨_, rfl⟩
  have hB3 : Blk w3 w.heap.size (cel (F.put b 1)) := by
    have h := HB2.out.set (2 + b) (.int .i64 1)
    rw [hC.put F b 1 hb] at h
    rw [hw3]
    exact h
  have hF3 : Fr (fun k => k = w.heap.size) w2 w3 := by rw [hw3]; exact Fr.setCell _ _ _ rfl
  have HZ3 := hid (HZ2.out.keep hF3 (show ¬ (w.heap.size + 2 = w.heap.size) by omega))
  have j13 : w3.cell? ⟨w.heap.size + 1, 1, none⟩ = some (.int .i64 a) := (HI2.out.keep hF3 (show ¬ (w.heap.size + 1 = w.heap.size) by omega)).cell rfl
  have HA3 := hid (HA2.out.over hF3 (Nat.le_refl _))
  have HB3 := hid hB3
  clear hF3 hB3
  go_upto_region 12 with fail
  rw [← hw3]
  clear hw3 j0 j1 j2 r1 r2
  go_wp2_with (refine row_load rfl 59 _ rfl _ rfl HB3.out Tryd.underlying59 rfl infoF (hC.size _) ?_)
  refine (with_any hC _ a _ w3 ha).mono ?_
  rintro e w4 ⟨rfl, hF4⟩
  go_wp2_with fail
  refine (passed_any hC _ _).mono ?_
  rintro e w5 ⟨rfl, hF5⟩
  have hZ5 := HZ3.out.keep (hF4.trans hF5) (fun h => h)
  go_wp2_with (refine row_store rfl 59 _ _ rfl _ _ rfl rfl hZ5 infoF rfl (hC.size _) (hC.one _) ?_)
  intro w9 hB9 hF9
  go_wp2_with fail
  exact bodyPost_ret (res_three rfl rfl hB9 Tryd.underlying59 rfl infoF (hC.size _) rfl rfl) rfl ⟨rfl, (HA3.out.trans (hF4.trans hF5)).over hF9 (by omega)⟩

set_option maxRecDepth 100000 in
set_option maxHeartbeats 1000000 in
theorem join_try4e {cel : Frm → Array Value} (hC : Cel cel) (F : Frm) (a c : Nat) (n : Int) (v : Int) (w : World) (ht : Tabs w) (hk : chk ⟨10, a, a, c, n⟩ = 0) (ha : a < 8) :
    Calls Tryd.prog 49 #[.agg (cel F), Ins.val ⟨10, a, a, c, n⟩, .int .i64 4, .int .i64 v] w fun e w' => e = .returned (.tuple #[.agg (cel ((F.put a 2).put a 2).on), .int .i64 0, .bool false]) ∧ Fr (fun _ => False) w w' := by
  have HM := hid (may_any ⟨10, a, a, c, n⟩)
  rw [show (chk ⟨10, a, a, c, n⟩ == 0) = true by rw [hk]; rfl] at HM
  unfold Ins.val at *
  simp only at *
  clear hk
  have tab : ((a : Int) == (a : Int)) = true := beq_self_eq_true _
  obtain ⟨w1, hw1⟩ : ∃ w1, w1 = ((w.alloc (.cells (cel F) 59)).alloc (.cells #[.int .i64 10, .int .i64 a, .int .i64 a, .int .i64 c, .int .i64 n] 43)).alloc (.cells zeros 59) := ⟨_, rfl⟩
  obtain ⟨hA, hB, hI, hZ⟩ := three w (cel F) #[.int .i64 10, .int .i64 a, .int .i64 a, .int .i64 c, .int .i64 n] zeros 59 43 59
  rw [← hw1] at hA hB hI hZ
  unfold zeros at hw1
  have HA := hid hA
  have HB := hid hB
  have HI := hid hI
  have HZ := hid hZ
  have i0 := hI.cell (i := 0) rfl
  have i1 := hI.cell (i := 1) rfl
  have i2 := hI.cell (i := 2) rfl
  have i3 := hI.cell (i := 3) rfl
  have i4 := hI.cell (i := 4) rfl
  simp only [List.getElem_toArray, List.getElem_cons_zero, List.getElem_cons_succ] at i0 i1 i2 i3 i4
  clear hA hB hI hZ
  go_enter Tryd.func49, Tryd.ntmps49
  go_upto_region 1 with fail
  rw [← hw1]
  clear hw1
  go_wp2_with fail
  refine (HM.out _ (ht.same HA.out)).mono ?_
  rintro e w2 ⟨rfl, hF2⟩
  have HA2 := hid (HA.out.trans hF2)
  have HB2 := hid (HB.out.keep hF2 (fun h => h))
  have HI2 := hid (HI.out.keep hF2 (fun h => h))
  have HZ2 := hid (HZ.out.keep hF2 (fun h => h))
  clear HA HB HI HZ i0 i1 i2 i3 i4 hF2 HM
  have j0 : w2.cell? ⟨w.heap.size + 1, 0, none⟩ = some (.int .i64 10) := HI2.out.cell rfl
  have j1 : w2.cell? ⟨w.heap.size + 1, 1, none⟩ = some (.int .i64 a) := HI2.out.cell rfl
  have j2 : w2.cell? ⟨w.heap.size + 1, 2, none⟩ = some (.int .i64 a) := HI2.out.cell rfl
  have r1 : w2.cell? ⟨w.heap.size, 2 + a, none⟩ = some (.int .i64 (F.r a)) := HB2.out.cell (hC.r F a ha)
  have r2 := HB2.out.frozen (2 + a)
  have hb0 : (0 : Int) ≤ a ∧ (a : Int) < 8 := by omega
  obtain ⟨w3, hw3⟩ : ∃ w3, w3 = w2.setCell ⟨w.heap.size, 2 + a, none⟩ (.int .i64 2) := ⟨_, rfl⟩
  have hB3 : Blk w3 w.heap.size (cel (F.put a 2)) := by
    have h := HB2.out.set (2 + a) (.int .i64 2)
    rw [hC.put F a 2 ha] at h
    rw [hw3]
    exact h
  have hF3 : Fr (fun k => k = w.heap.size) w2 w3 := by rw [hw3]; exact Fr.setCell _ _ _ rfl
  have HZ3 := hid (HZ2.out.keep hF3 (show ¬ (w.heap.size + 2 = w.heap.size) by omega))
  have j13 : w3.cell? ⟨w.heap.size + 1, 1, none⟩ = some (.int .i64 a) := (HI2.out.keep hF3 (show ¬ (w.heap.size + 1 = w.heap.size) by omega)).cell rfl
  have HA3 := hid (HA2.out.over hF3 (Nat.le_refl _))
  have HB3 := hid hB3
  clear hF3 hB3
  go_upto_region 12 with fail
  rw [← hw3]
  clear hw3 j0 j1 j2 r1 r2
  go_wp2_with (refine row_load rfl 59 _ rfl _ rfl HB3.out Tryd.underlying59 rfl infoF (hC.size _) ?_)
  refine (with_any hC _ a _ w3 ha).mono ?_
  rintro e w4 ⟨rfl, hF4⟩
  go_wp2_with fail
  refine (passed_any hC _ _).mono ?_
  rintro e w5 ⟨rfl, hF5⟩
  have hZ5 := HZ3.out.keep (hF4.trans hF5) (fun h => h)
  go_wp2_with (refine row_store rfl 59 _ _ rfl _ _ rfl rfl hZ5 infoF rfl (hC.size _) (hC.one _) ?_)
  intro w9 hB9 hF9
  go_wp2_with fail
  exact bodyPost_ret (res_three rfl rfl hB9 Tryd.underlying59 rfl infoF (hC.size _) rfl rfl) rfl ⟨rfl, (HA3.out.trans (hF4.trans hF5)).over hF9 (by omega)⟩

set_option maxRecDepth 100000 in
set_option maxHeartbeats 1000000 in
theorem join_try4n {cel : Frm → Array Value} (hC : Cel cel) (F : Frm) (a b c : Nat) (n : Int) (v : Int) (w : World) (ht : Tabs w) (hk : chk ⟨10, a, b, c, n⟩ = 0) (ha : a < 8) (hb : b < 8) (hab : a ≠ b) :
    Calls Tryd.prog 49 #[.agg (cel F), Ins.val ⟨10, a, b, c, n⟩, .int .i64 4, .int .i64 v] w fun e w' => e = .returned (.tuple #[.agg (cel ((F.put b 2).put a 0).on), .int .i64 0, .bool false]) ∧ Fr (fun _ => False) w w' := by
  have HM := hid (may_any ⟨10, a, b, c, n⟩)
  rw [show (chk ⟨10, a, b, c, n⟩ == 0) = true by rw [hk]; rfl] at HM
  unfold Ins.val at *
  simp only at *
  clear hk
  have tab : ((a : Int) == (b : Int)) = false := beq_eq_false_iff_ne.2 (by omega)
  obtain ⟨w1, hw1⟩ : ∃ w1, w1 = ((w.alloc (.cells (cel F) 59)).alloc (.cells #[.int .i64 10, .int .i64 a, .int .i64 b, .int .i64 c, .int .i64 n] 43)).alloc (.cells zeros 59) := ⟨_, rfl⟩
  obtain ⟨hA, hB, hI, hZ⟩ := three w (cel F) #[.int .i64 10, .int .i64 a, .int .i64 b, .int .i64 c, .int .i64 n] zeros 59 43 59
  rw [← hw1] at hA hB hI hZ
  unfold zeros at hw1
  have HA := hid hA
  have HB := hid hB
  have HI := hid hI
  have HZ := hid hZ
  have i0 := hI.cell (i := 0) rfl
  have i1 := hI.cell (i := 1) rfl
  have i2 := hI.cell (i := 2) rfl
  have i3 := hI.cell (i := 3) rfl
  have i4 := hI.cell (i := 4) rfl
  simp only [List.getElem_toArray, List.getElem_cons_zero, List.getElem_cons_succ] at i0 i1 i2 i3 i4
  clear hA hB hI hZ
  go_enter Tryd.func49, Tryd.ntmps49
  go_upto_region 1 with fail
  rw [← hw1]
  clear hw1
  go_wp2_with fail
  refine (HM.out _ (ht.same HA.out)).mono ?_
  rintro e w2 ⟨rfl, hF2⟩
  have HA2 := hid (HA.out.trans hF2)
  have HB2 := hid (HB.out.keep hF2 (fun h => h))
  have HI2 := hid (HI.out.keep hF2 (fun h => h))
  have HZ2 := hid (HZ.out.keep hF2 (fun h => h))
  clear HA HB HI HZ i0 i1 i2 i3 i4 hF2 HM
  have j0 : w2.cell? ⟨w.heap.size + 1, 0, none⟩ = some (.int .i64 10) := HI2.out.cell rfl
  have j1 : w2.cell? ⟨w.heap.size + 1, 1, none⟩ = some (.int .i64 a) := HI2.out.cell rfl
  have j2 : w2.cell? ⟨w.heap.size + 1, 2, none⟩ = some (.int .i64 b) := HI2.out.cell rfl
  have r1 : w2.cell? ⟨w.heap.size, 2 + b, none⟩ = some (.int .i64 (F.r b)) := HB2.out.cell (hC.r F b hb)
  have r2 := HB2.out.frozen (2 + b)
  have hb0 : (0 : Int) ≤ b ∧ (b : Int) < 8 := by omega
  obtain ⟨w3, hw3⟩ : ∃ w3, w3 = w2.setCell ⟨w.heap.size, 2 + b, none⟩ (.int .i64 2) := ⟨_, rfl⟩
  have hB3 : Blk w3 w.heap.size (cel (F.put b 2)) := by
    have h := HB2.out.set (2 + b) (.int .i64 2)
    rw [hC.put F b 2 hb] at h
    rw [hw3]
    exact h
  have hF3 : Fr (fun k => k = w.heap.size) w2 w3 := by rw [hw3]; exact Fr.setCell _ _ _ rfl
  have HZ3 := hid (HZ2.out.keep hF3 (show ¬ (w.heap.size + 2 = w.heap.size) by omega))
  have j13 : w3.cell? ⟨w.heap.size + 1, 1, none⟩ = some (.int .i64 a) := (HI2.out.keep hF3 (show ¬ (w.heap.size + 1 = w.heap.size) by omega)).cell rfl
  have HA3 := hid (HA2.out.over hF3 (Nat.le_refl _))
  have HB3 := hid hB3
  clear hF3 hB3
  go_upto_region 12 with fail
  rw [← hw3]
  clear hw3 j0 j1 j2 r1 r2
  go_wp2_with (refine row_load rfl 59 _ rfl _ rfl HB3.out Tryd.underlying59 rfl infoF (hC.size _) ?_)
  refine (with_any hC _ a _ w3 ha).mono ?_
  rintro e w4 ⟨rfl, hF4⟩
  go_wp2_with fail
  refine (passed_any hC _ _).mono ?_
  rintro e w5 ⟨rfl, hF5⟩
  have hZ5 := HZ3.out.keep (hF4.trans hF5) (fun h => h)
  go_wp2_with (refine row_store rfl 59 _ _ rfl _ _ rfl rfl hZ5 infoF rfl (hC.size _) (hC.one _) ?_)
  intro w9 hB9 hF9
  go_wp2_with fail
  exact bodyPost_ret (res_three rfl rfl hB9 Tryd.underlying59 rfl infoF (hC.size _) rfl rfl) rfl ⟨rfl, (HA3.out.trans (hF4.trans hF5)).over hF9 (by omega)⟩

set_option maxRecDepth 100000 in
set_option maxHeartbeats 1000000 in
theorem join_join2 {cel : Frm → Array Value} (hC : Cel cel) (F : Frm) (a b c : Nat) (n : Int) (v : Int) (w : World) (ht : Tabs w) (hk : chk ⟨9, a, b, c, n⟩ = 0) (ha : a < 8) :
    Calls Tryd.prog 49 #[.agg (cel F), Ins.val ⟨9, a, b, c, n⟩, .int .i64 2, .int .i64 v] w fun e w' => e = .returned (.tuple #[.agg (cel (F.put a v).on), .int .i64 0, .bool false]) ∧ Fr (fun _ => False) w w' := by
  have HM := hid (may_any ⟨9, a, b, c, n⟩)
  rw [show (chk ⟨9, a, b, c, n⟩ == 0) = true by rw [hk]; rfl] at HM
  unfold Ins.val at *
  simp only at *
  clear hk
  obtain ⟨w1, hw1⟩ : ∃ w1, w1 = ((w.alloc (.cells (cel F) 59)).alloc (.cells #[.int .i64 9, .int .i64 a, .int .i64 b, .int .i64 c, .int .i64 n] 43)).alloc (.cells zeros 59) := ⟨_, rfl⟩
  obtain ⟨hA, hB, hI, hZ⟩ := three w (cel F) #[.int .i64 9, .int .i64 a, .int .i64 b, .int .i64 c, .int .i64 n] zeros 59 43 59
  rw [← hw1] at hA hB hI hZ
  unfold zeros at hw1
  have HA := hid hA
  have HB := hid hB
  have HI := hid hI
  have HZ := hid hZ
  have i0 := hI.cell (i := 0) rfl
  have i1 := hI.cell (i := 1) rfl
  have i2 := hI.cell (i := 2) rfl
  have i3 := hI.cell (i := 3) rfl
  have i4 := hI.cell (i := 4) rfl
  simp only [List.getElem_toArray, List.getElem_cons_zero, List.getElem_cons_succ] at i0 i1 i2 i3 i4
  clear hA hB hI hZ
  go_enter Tryd.func49, Tryd.ntmps49
  go_upto_region 1 with fail
  rw [← hw1]
  clear hw1
  go_wp2_with fail
  refine (HM.out _ (ht.same HA.out)).mono ?_
  rintro e w2 ⟨rfl, hF2⟩
  have HA2 := hid (HA.out.trans hF2)
  have HB2 := hid (HB.out.keep hF2 (fun h => h))
  have HI2 := hid (HI.out.keep hF2 (fun h => h))
  have HZ2 := hid (HZ.out.keep hF2 (fun h => h))
  clear HA HB HI HZ i0 i1 i2 i3 i4 hF2 HM
  have j0 : w2.cell? ⟨w.heap.size + 1, 0, none⟩ = some (.int .i64 9) := HI2.out.cell rfl
  have j1 : w2.cell? ⟨w.heap.size + 1, 1, none⟩ = some (.int .i64 a) := HI2.out.cell rfl
  have j2 : w2.cell? ⟨w.heap.size + 1, 2, none⟩ = some (.int .i64 b) := HI2.out.cell rfl
  go_wp2_with (refine row_load rfl 59 _ rfl _ rfl HB2.out Tryd.underlying59 rfl infoF (hC.size _) ?_)
  refine (with_any hC _ a _ w2 ha).mono ?_
  rintro e w4 ⟨rfl, hF4⟩
  go_wp2_with fail
  refine (passed_any hC _ _).mono ?_
  rintro e w5 ⟨rfl, hF5⟩
  have hZ5 := HZ2.out.keep (hF4.trans hF5) (fun h => h)
  go_wp2_with (refine row_store rfl 59 _ _ rfl _ _ rfl rfl hZ5 infoF rfl (hC.size _) (hC.one _) ?_)
  intro w9 hB9 hF9
  go_wp2_with fail
  exact bodyPost_ret (res_three rfl rfl hB9 Tryd.underlying59 rfl infoF (hC.size _) rfl rfl) rfl ⟨rfl, (HA2.out.trans (hF4.trans hF5)).over hF9 (by omega)⟩

set_option maxRecDepth 100000 in
set_option maxHeartbeats 1000000 in
theorem join_join3 {cel : Frm → Array Value} (hC : Cel cel) (F : Frm) (a b c : Nat) (n : Int) (v : Int) (w : World) (ht : Tabs w) (hk : chk ⟨9, a, b, c, n⟩ = 0) :
    Calls Tryd.prog 49 #[.agg (cel F), Ins.val ⟨9, a, b, c, n⟩, .int .i64 3, .int .i64 v] w fun e w' => e = .returned (.tuple #[.agg (cel (F.setSt (wrap64 (F.st + 1)))), .int .i64 v, .bool true]) ∧ Fr (fun _ => False) w w' := by
  have HM := hid (may_any ⟨9, a, b, c, n⟩)
  rw [show (chk ⟨9, a, b, c, n⟩ == 0) = true by rw [hk]; rfl] at HM
  unfold Ins.val at *
  simp only at *
  clear hk
  obtain ⟨w1, hw1⟩ : ∃ w1, w1 = ((w.alloc (.cells (cel F) 59)).alloc (.cells #[.int .i64 9, .int .i64 a, .int .i64 b, .int .i64 c, .int .i64 n] 43)).alloc (.cells zeros 59) := ⟨_, rfl⟩
  obtain ⟨hA, hB, hI, hZ⟩ := three w (cel F) #[.int .i64 9, .int .i64 a, .int .i64 b, .int .i64 c, .int .i64 n] zeros 59 43 59
  rw [← hw1] at hA hB hI hZ
  unfold zeros at hw1
  have HA := hid hA
  have HB := hid hB
  have HI := hid hI
  have HZ := hid hZ
  have i0 := hI.cell (i := 0) rfl
  have i1 := hI.cell (i := 1) rfl
  have i2 := hI.cell (i := 2) rfl
  have i3 := hI.cell (i := 3) rfl
  have i4 := hI.cell (i := 4) rfl
  simp only [List.getElem_toArray, List.getElem_cons_zero, List.getElem_cons_succ] at i0 i1 i2 i3 i4
  clear hA hB hI hZ
  go_enter Tryd.func49, Tryd.ntmps49
  go_upto_region 1 with fail
  rw [← hw1]
  clear hw1
  go_wp2_with fail
  refine (HM.out _ (ht.same HA.out)).mono ?_
  rintro e w2 ⟨rfl, hF2⟩
  have HA2 := hid (HA.out.trans hF2)
  have HB2 := hid (HB.out.keep hF2 (fun h => h))
  have HI2 := hid (HI.out.keep hF2 (fun h => h))
  have HZ2 := hid (HZ.out.keep hF2 (fun h => h))
  clear HA HB HI HZ i0 i1 i2 i3 i4 hF2 HM
  have j0 : w2.cell? ⟨w.heap.size + 1, 0, none⟩ = some (.int .i64 9) := HI2.out.cell rfl
  have j1 : w2.cell? ⟨w.heap.size + 1, 1, none⟩ = some (.int .i64 a) := HI2.out.cell rfl
  have j2 : w2.cell? ⟨w.heap.size + 1, 2, none⟩ = some (.int .i64 b) := HI2.out.cell rfl
  have r1 : w2.cell? ⟨w.heap.size, 18, none⟩ = some (.int .i64 F.st) := HB2.out.cell (hC.st F)
  have r2 := HB2.out.frozen 18
  obtain ⟨w3, hw3⟩ : ∃ w3, w3 = w2.setCell ⟨w.heap.size, 18, none⟩ (.int .i64 (wrap64 (F.st + 1))) := ⟨_, rfl⟩
  have hB3 : Blk w3 w.heap.size (cel (F.setSt (wrap64 (F.st + 1)))) := by
    have h := HB2.out.set 18 (.int .i64 (wrap64 (F.st + 1)))
    rw [hC.setSt F _] at h
    rw [hw3]
    exact h
  have hF3 : Fr (fun k => k = w.heap.size) w2 w3 := by rw [hw3]; exact Fr.setCell _ _ _ rfl
  have HZ3 := hid (HZ2.out.keep hF3 (show ¬ (w.heap.size + 2 = w.heap.size) by omega))
  have HA3 := hid (HA2.out.over hF3 (Nat.le_refl _))
  have HB3 := hid hB3
  clear hF3 hB3
  go_upto_region 18 with fail
  rw [← hw3]
  clear hw3 j0 j1 j2 r1 r2
  go_wp2_with (first
    | (refine row_load rfl 59 _ rfl _ rfl HB3.out Tryd.underlying59 rfl infoF (hC.size _) ?_)
    | (refine row_store rfl 59 _ _ rfl _ _ rfl rfl HZ3.out infoF rfl (hC.size _) (hC.one _) ?_))
  intro w9 hB9 hF9
  go_wp2_with fail
  exact bodyPost_ret (res_three rfl rfl hB9 Tryd.underlying59 rfl infoF (hC.size _) rfl rfl) rfl ⟨rfl, (HA3.out).over hF9 (by omega)⟩

set_option maxRecDepth 100000 in
set_option maxHeartbeats 1000000 in
theorem join_join4 {cel : Frm → Array Value} (hC : Cel cel) (F : Frm) (a b c : Nat) (n : Int) (v : Int) (w : World) (ht : Tabs w) (hk : chk ⟨9, a, b, c, n⟩ = 0) :
    Calls Tryd.prog 49 #[.agg (cel F), Ins.val ⟨9, a, b, c, n⟩, .int .i64 4, .int .i64 v] w fun e w' => e = .returned (.tuple #[.agg (cel (F.setSt (wrap64 (F.st + 1)))), .int .i64 (-1), .bool true]) ∧ Fr (fun _ => False) w w' := by
  have HM := hid (may_any ⟨9, a, b, c, n⟩)
  rw [show (chk ⟨9, a, b, c, n⟩ == 0) = true by rw [hk]; rfl] at HM
  unfold Ins.val at *
  simp only at *
  clear hk
  obtain ⟨w1, hw1⟩ : ∃ w1, w1 = ((w.alloc (.cells (cel F) 59)).alloc (.cells #[.int .i64 9, .int .i64 a, .int .i64 b, .int .i64 c, .int .i64 n] 43)).alloc (.cells zeros 59) := ⟨_, rfl⟩
  obtain ⟨hA, hB, hI, hZ⟩ := three w (cel F) #[.int .i64 9, .int .i64 a, .int .i64 b, .int .i64 c, .int .i64 n] zeros 59 43 59
  rw [← hw1] at hA hB hI hZ
  unfold zeros at hw1
  have HA := hid hA
  have HB := hid hB
  have HI := hid hI
  have HZ := hid hZ
  have i0 := hI.cell (i := 0) rfl
  have i1 := hI.cell (i := 1) rfl
  have i2 := hI.cell (i := 2) rfl
  have i3 := hI.cell (i := 3) rfl
  have i4 := hI.cell (i := 4) rfl
  simp only [List.getElem_toArray, List.getElem_cons_zero, List.getElem_cons_succ] at i0 i1 i2 i3 i4
  clear hA hB hI hZ
  go_enter Tryd.func49, Tryd.ntmps49
  go_upto_region 1 with fail
  rw [← hw1]
  clear hw1
  go_wp2_with fail
  refine (HM.out _ (ht.same HA.out)).mono ?_
  rintro e w2 ⟨rfl, hF2⟩
  have HA2 := hid (HA.out.trans hF2)
  have HB2 := hid (HB.out.keep hF2 (fun h => h))
  have HI2 := hid (HI.out.keep hF2 (fun h => h))
  have HZ2 := hid (HZ.out.keep hF2 (fun h => h))
  clear HA HB HI HZ i0 i1 i2 i3 i4 hF2 HM
  have j0 : w2.cell? ⟨w.heap.size + 1, 0, none⟩ = some (.int .i64 9) := HI2.out.cell rfl
  have j1 : w2.cell? ⟨w.heap.size + 1, 1, none⟩ = some (.int .i64 a) := HI2.out.cell rfl
  have j2 : w2.cell? ⟨w.heap.size + 1, 2, none⟩ = some (.int .i64 b) := HI2.out.cell rfl
  have r1 : w2.cell? ⟨w.heap.size, 18, none⟩ = some (.int .i64 F.st) := HB2.out.cell (hC.st F)
  have r2 := HB2.out.frozen 18
  obtain ⟨w3, hw3⟩ : ∃ w3, w3 = w2.setCell ⟨w.heap.size, 18, none⟩ (.int .i64 (wrap64 (F.st + 1))) := ⟨_, rfl⟩
  have hB3 : Blk w3 w.heap.size (cel (F.setSt (wrap64 (F.st + 1)))) := by
    have h := HB2.out.set 18 (.int .i64 (wrap64 (F.st + 1)))
    rw [hC.setSt F _] at h
    rw [hw3]
    exact h
  have hF3 : Fr (fun k => k = w.heap.size) w2 w3 := by rw [hw3]; exact Fr.setCell _ _ _ rfl
  have HZ3 := hid (HZ2.out.keep hF3 (show ¬ (w.heap.size + 2 = w.heap.size) by omega))
  have HA3 := hid (HA2.out.over hF3 (Nat.le_refl _))
  have HB3 := hid hB3
  clear hF3 hB3
  go_upto_region 18 with fail
  rw [← hw3]
  clear hw3 j0 j1 j2 r1 r2
  go_wp2_with (first
    | (refine row_load rfl 59 _ rfl _ rfl HB3.out Tryd.underlying59 rfl infoF (hC.size _) ?_)
    | (refine row_store rfl 59 _ _ rfl _ _ rfl rfl HZ3.out infoF rfl (hC.size _) (hC.one _) ?_))
  intro w9 hB9 hF9
  go_wp2_with fail
  exact bodyPost_ret (res_three rfl rfl hB9 Tryd.underlying59 rfl infoF (hC.size _) rfl rfl) rfl ⟨rfl, (HA3.out).over hF9 (by omega)⟩

end Go.Proofs.YtpjcdjooiaefdaaDoor

/-
  Joined for whatever instruction and kind, the program's and the document's.
-/
namespace Go.Proofs.YtpjcdjooiaefdaaDoor
open Go.RowKit

/-- The task behind a join, or a try. -/
def Frm.joined (F : Frm) (i : Ins) (kd v : Int) : Frm :=
  if 2 ≤ kd ∧ kd ≤ 4 then
    if isOp i 10 then ((F.put i.a.toNat (if kd = 4 then 0 else v)).put i.b.toNat (kd - 2)).on
    else if isOp i 9 then if kd = 2 then (F.put i.a.toNat v).on else F.setSt (wrap64 (F.st + 1))
    else F
  else F
def panics (i : Ins) (kd : Int) : Bool := decide (2 < kd) && decide (kd ≤ 4) && isOp i 9
def codeOf (i : Ins) (kd v : Int) : Int := if panics i kd then if kd = 4 then -1 else v else 0

theorem Frm.put_put (F : Frm) (a b : Nat) (x y : Int) (h : a ≠ b) : (F.put b y).put a x = (F.put a x).put b y := by
  unfold Frm.put
  simp only
  congr 1
  funext j
  by_cases h1 : j = a
  · subst h1
    simp [h]
  · simp [h1]
theorem Frm.put_same (F : Frm) (a : Nat) (x y : Int) : (F.put a y).put a x = F.put a x := by
  unfold Frm.put
  simp only
  congr 1
  funext j
  by_cases h1 : j = a <;> simp [h1]

theorem isOp_not {i : Ins} {o p : Int} (h : isOp i o = true) (hp : o ≠ p) : isOp i p = false := by
  unfold isOp at *
  simp only [Bool.and_eq_true, beq_iff_eq] at h
  rw [beq_eq_false_iff_ne.2 (by rw [h.1]; exact hp)]
  rfl
theorem isOp_chk {i : Ins} {o : Int} (h : isOp i o = true) : chk i = 0 := by
  unfold isOp at h
  simp only [Bool.and_eq_true, beq_iff_eq] at h
  exact h.2
theorem isOp_ne {i : Ins} {o : Int} (hc : chk i = 0) (h : isOp i o = false) : i.op ≠ o := by
  intro e
  unfold isOp at h
  rw [e, hc] at h
  simp at h

/-- The ways of a join. -/
inductive JWay (F : Frm) (i : Ins) (kd v : Int) : Frm → Int → Bool → Prop
  | off (h : ¬ (2 ≤ kd ∧ kd ≤ 4)) : JWay F i kd v F 0 false
  | other (h : 2 ≤ kd ∧ kd ≤ 4) (h10 : isOp i 10 = false) (h9 : isOp i 9 = false) : JWay F i kd v F 0 false
  | try_ (a b c : Nat) (n : Int) (ha : a < 8) (hb : b < 8) (hi : i = ⟨10, a, b, c, n⟩) (h10 : isOp i 10 = true) (x y : Int) (h : (kd = 2 ∧ x = v ∧ y = 0) ∨ (kd = 3 ∧ x = v ∧ y = 1) ∨ (kd = 4 ∧ x = 0 ∧ y = 2)) : JWay F i kd v ((F.put a x).put b y).on 0 false
  | join (a b c : Nat) (n : Int) (ha : a < 8) (hi : i = ⟨9, a, b, c, n⟩) (h9 : isOp i 9 = true) (h : kd = 2) : JWay F i kd v (F.put a v).on 0 false
  | panic (a b c : Nat) (n : Int) (hi : i = ⟨9, a, b, c, n⟩) (h9 : isOp i 9 = true) (x : Int) (h : (kd = 3 ∧ x = v) ∨ (kd = 4 ∧ x = -1)) : JWay F i kd v (F.setSt (wrap64 (F.st + 1))) x true

theorem joined_way (F : Frm) (i : Ins) (kd v : Int) : JWay F i kd v (F.joined i kd v) (codeOf i kd v) (panics i kd) := by
  by_cases h : 2 ≤ kd ∧ kd ≤ 4
  · rcases Bool.eq_false_or_eq_true (isOp i 10) with h10 | h10
    · have h9 := isOp_not h10 (p := 9) (by omega)
      obtain ⟨a, b, c, n, ha, hb, hc, hi⟩ := isOp_letters h10
      have e1 : F.joined i kd v = ((F.put a (if kd = 4 then 0 else v)).put b (kd - 2)).on := by
        unfold Frm.joined
        rw [if_pos h, if_pos h10, hi]
        rfl
      have e2 : panics i kd = false := by unfold panics; rw [h9]; simp
      have e3 : codeOf i kd v = 0 := by unfold codeOf; rw [e2]; rfl
      rw [e1, e2, e3]
      refine JWay.try_ a b c n ha hb hi h10 _ _ ?_
      have : kd = 2 ∨ kd = 3 ∨ kd = 4 := by omega
      rcases this with rfl | rfl | rfl
      · exact .inl ⟨rfl, rfl, rfl⟩
      · exact .inr (.inl ⟨rfl, rfl, rfl⟩)
      · exact .inr (.inr ⟨rfl, rfl, rfl⟩)
    · rcases Bool.eq_false_or_eq_true (isOp i 9) with h9 | h9
      · obtain ⟨a, b, c, n, ha, hb, hc, hi⟩ := isOp_letters h9
        by_cases h2 : kd = 2
        · have e1 : F.joined i kd v = (F.put a v).on := by
            unfold Frm.joined
            rw [if_pos h, if_neg (by rw [h10]; simp), if_pos h9, if_pos h2, hi]
            rfl
          have e2 : panics i kd = false := by unfold panics; rw [h2]; rfl
          have e3 : codeOf i kd v = 0 := by unfold codeOf; rw [e2]; rfl
          rw [e1, e2, e3]
          exact JWay.join a b c n ha hi h9 h2
        · have e1 : F.joined i kd v = F.setSt (wrap64 (F.st + 1)) := by
            unfold Frm.joined
            rw [if_pos h, if_neg (by rw [h10]; simp), if_pos h9, if_neg h2]
          have e2 : panics i kd = true := by
            unfold panics
            rw [h9, decide_eq_true (show 2 < kd by omega), decide_eq_true h.2]
            rfl
          have e3 : codeOf i kd v = if kd = 4 then -1 else v := by unfold codeOf; rw [e2]; rfl
          rw [e1, e2, e3]
          refine JWay.panic a b c n hi h9 _ ?_
          have : kd = 3 ∨ kd = 4 := by omega
          rcases this with rfl | rfl
          · exact .inl ⟨rfl, rfl⟩
          · exact .inr ⟨rfl, rfl⟩
      · have e1 : F.joined i kd v = F := by
          unfold Frm.joined
          rw [if_pos h, if_neg (by rw [h10]; simp), if_neg (by rw [h9]; simp)]
        have e2 : panics i kd = false := by unfold panics; rw [h9]; simp
        have e3 : codeOf i kd v = 0 := by unfold codeOf; rw [e2]; rfl
        rw [e1, e2, e3]
        exact JWay.other h h10 h9
  · have e1 : F.joined i kd v = F := by unfold Frm.joined; rw [if_neg h]
    have e2 : panics i kd = false := by
      unfold panics
      by_cases h2 : 2 < kd
      · rw [decide_eq_false (show ¬ kd ≤ 4 by omega)]
        simp
      · rw [decide_eq_false h2]
        simp
    have e3 : codeOf i kd v = 0 := by unfold codeOf; rw [e2]; rfl
    rw [e1, e2, e3]
    exact JWay.off h

theorem join_any {cel : Frm → Array Value} (hC : Cel cel) (F : Frm) (i : Ins) (kd v : Int) (w : World) (ht : Tabs w) :
    Calls Tryd.prog 49 #[.agg (cel F), i.val, .int .i64 kd, .int .i64 v] w fun e w' => e = .returned (.tuple #[.agg (cel (F.joined i kd v)), .int .i64 (codeOf i kd v), .bool (panics i kd)]) ∧ Fr (fun _ => False) w w' := by
  have hw := joined_way F i kd v
  generalize F.joined i kd v = G at hw ⊢
  generalize codeOf i kd v = x at hw ⊢
  generalize panics i kd = p at hw ⊢
  cases hw with
  | off h =>
    by_cases hk : chk i = 0
    · rcases (show kd < 2 ∨ 4 < kd by omega) with h1 | h1
      · exact join_no2 hC F i kd v w ht hk h1
      · exact join_no3 hC F i kd v w ht hk h1
    · exact join_no1 hC F i kd v w ht hk
  | other h h10 h9 =>
    by_cases hk : chk i = 0
    · exact join_no4 hC F i kd v w ht hk h (isOp_ne hk h9) (isOp_ne hk h10)
    · exact join_no1 hC F i kd v w ht hk
  | try_ a b c n ha hb hi h10 x y h =>
    have hk := isOp_chk h10
    subst hi
    by_cases hab : a = b
    · subst hab
      rw [F.put_same]
      rcases h with ⟨rfl, rfl, rfl⟩ | ⟨rfl, rfl, rfl⟩ | ⟨rfl, rfl, rfl⟩
      · have := join_try2e hC F a c n x w ht hk ha
        rwa [F.put_same] at this
      · have := join_try3e hC F a c n x w ht hk ha
        rwa [F.put_same] at this
      · have := join_try4e hC F a c n v w ht hk ha
        rwa [F.put_same] at this
    · rw [← F.put_put a b _ _ hab]
      rcases h with ⟨rfl, rfl, rfl⟩ | ⟨rfl, rfl, rfl⟩ | ⟨rfl, rfl, rfl⟩
      · exact join_try2n hC F a b c n _ w ht hk ha hb hab
      · exact join_try3n hC F a b c n _ w ht hk ha hb hab
      · exact join_try4n hC F a b c n _ w ht hk ha hb hab
  | join a b c n ha hi h9 h =>
    have hk := isOp_chk h9
    subst hi
    subst h
    exact join_join2 hC F a b c n _ w ht hk ha
  | panic a b c n hi h9 x h =>
    have hk := isOp_chk h9
    subst hi
    rcases h with ⟨rfl, rfl⟩ | ⟨rfl, rfl⟩
    · exact join_join3 hC F a b c n _ w ht hk
    · exact join_join4 hC F a b c n _ w ht hk

end Go.Proofs.YtpjcdjooiaefdaaDoor
