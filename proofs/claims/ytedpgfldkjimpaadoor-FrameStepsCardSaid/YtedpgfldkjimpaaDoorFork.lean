/-
  Forked and Closed, the program's and the document's.
-/
import Derived.Test.YtedpgfldkjimpaaDoorIns
import Derived.Deep.RegionHeld3
import Derived.Deep.DeepCutAuto
namespace Go.Proofs.YtedpgfldkjimpaaDoor
open Go.RowKit
set_option linter.unusedVariables false

/-- Whether an instruction is of that kind, and may be. -/
def isOp (i : Ins) (o : Int) : Bool := i.op == o && chk i == 0
theorem isOp_letters {i : Ins} {o : Int} (h : isOp i o = true) : ∃ (a b c : Nat) (n : Int), a < 8 ∧ b < 8 ∧ c < 8 ∧ i = ⟨o, a, b, c, n⟩ := by
  unfold isOp at h
  simp only [Bool.and_eq_true, beq_iff_eq] at h
  obtain ⟨h1, h2⟩ := h
  obtain ⟨o', a, b, c, n, _, ha, hb, hc, rfl⟩ := chk_letters h2
  exact ⟨a, b, c, n, ha, hb, hc, by rw [← h1]⟩

/-- The task behind a fork, and behind a close. -/
def Frm.forked (F : Frm) (i : Ins) (id : Int) : Frm := if isOp i 8 then (F.hold i.a.toNat id).on else F
def Frm.closed (F : Frm) (i : Ins) (asked : Bool) : Frm := if isOp i 12 then (F.put i.a.toNat (if asked then 1 else 0)).on else F

/-- Three blocks laid one after the other. -/
theorem three (w : World) (c0 c1 c2 : Array Value) (t0 t1 t2 : TypeId) : Fr (fun _ => False) w (((w.alloc (.cells c0 t0)).alloc (.cells c1 t1)).alloc (.cells c2 t2)) ∧
    Blk (((w.alloc (.cells c0 t0)).alloc (.cells c1 t1)).alloc (.cells c2 t2)) w.heap.size c0 ∧ Blk (((w.alloc (.cells c0 t0)).alloc (.cells c1 t1)).alloc (.cells c2 t2)) (w.heap.size + 1) c1 ∧ Blk (((w.alloc (.cells c0 t0)).alloc (.cells c1 t1)).alloc (.cells c2 t2)) (w.heap.size + 2) c2 :=
  ⟨((Fr.alloc _ _ _).trans (Fr.alloc _ _ _)).trans (Fr.alloc _ _ _), ((Blk.new _ _ _).alloc _).alloc _, ((Blk.new _ _ _).at (by simp)).alloc _, (Blk.new _ _ _).at (by simp)⟩

set_option maxRecDepth 100000 in
theorem fork_no {cel : Frm → Array Value} (hC : Cel cel) (F : Frm) (i : Ins) (id : Int) (w : World) (ht : Tabs w) (hk : isOp i 8 = false) :
    Calls Tryd.prog 21 #[.agg (cel F), i.val, .int .i64 id] w fun e w' => e = .returned (.agg (cel F)) ∧ Fr (fun _ => False) w w' := by
  have HM := hid (is_any i 8)
  unfold isOp at hk
  rw [hk] at HM
  unfold Ins.val at *
  obtain ⟨w1, hw1⟩ : ∃ w1, w1 = ((w.alloc (.cells (cel F) 25)).alloc (.cells #[.int .i64 i.op, .int .i64 i.a, .int .i64 i.b, .int .i64 i.c, .int .i64 i.n] 27)).alloc (.cells zeros 25) := ⟨_, rfl⟩
  obtain ⟨hA, hB, hI, hZ⟩ := three w (cel F) #[.int .i64 i.op, .int .i64 i.a, .int .i64 i.b, .int .i64 i.c, .int .i64 i.n] zeros 25 27 25
  rw [← hw1] at hA hB hI hZ
  unfold zeros at hw1
  have HA := hid hA
  have HB := hid hB
  have HI := hid hI
  have HZ := hid hZ
  have i0 := hI.cell (i := 0) rfl
  have i1 := hI.cell (i := 1) rfl
  have i2 := hI.cell (i := 2) rfl
  have i3 := hI.cell (i := 3) rfl
  have i4 := hI.cell (i := 4) rfl
  simp only [List.getElem_toArray, List.getElem_cons_zero, List.getElem_cons_succ] at i0 i1 i2 i3 i4
  clear hA hB hI hZ
  go_enter Tryd.func21, Tryd.ntmps21
  go_upto_region 1 with fail
  rw [← hw1]
  clear hw1
  go_wp2_with fail
  refine (HM.out _ (ht.same HA.out)).mono ?_
  rintro e w2 ⟨rfl, hF2⟩
  have HA2 := hid (HA.out.trans hF2)
  have HB2 := hid (HB.out.keep hF2 (fun h => h))
  have HI2 := hid (HI.out.keep hF2 (fun h => h))
  have HZ2 := hid (HZ.out.keep hF2 (fun h => h))
  clear HA HB HI HZ i0 i1 i2 i3 i4 hF2 HM
  go_wp2_with (first
    | (refine row_load rfl 25 _ rfl _ rfl HB2.out Tryd.underlying25 rfl infoF (hC.size _) ?_)
    | (refine row_store rfl 25 _ _ rfl _ _ rfl rfl HZ2.out infoF rfl (hC.size _) (hC.one _) ?_))
  intro w9 hB9 hF9
  go_wp2_with fail
  exact bodyPost_ret (res_one rfl rfl hB9 Tryd.underlying25 rfl infoF (hC.size _)) rfl ⟨rfl, (HA2.out).over hF9 (by omega)⟩

set_option maxRecDepth 100000 in
theorem fork_in {cel : Frm → Array Value} (hC : Cel cel) (F : Frm) (a b c : Nat) (n id : Int) (w : World) (ht : Tabs w) (hk : isOp ⟨8, a, b, c, n⟩ 8 = true) (ha : a < 8) :
    Calls Tryd.prog 21 #[.agg (cel F), Ins.val ⟨8, a, b, c, n⟩, .int .i64 id] w fun e w' => e = .returned (.agg (cel (F.hold a id).on)) ∧ Fr (fun _ => False) w w' := by
  have HM := hid (is_any ⟨8, a, b, c, n⟩ 8)
  unfold isOp at hk
  rw [hk] at HM
  unfold Ins.val at *
  simp only at *
  clear hk
  obtain ⟨w1, hw1⟩ : ∃ w1, w1 = ((w.alloc (.cells (cel F) 25)).alloc (.cells #[.int .i64 8, .int .i64 a, .int .i64 b, .int .i64 c, .int .i64 n] 27)).alloc (.cells zeros 25) := ⟨_, rfl⟩
  obtain ⟨hA, hB, hI, hZ⟩ := three w (cel F) #[.int .i64 8, .int .i64 a, .int .i64 b, .int .i64 c, .int .i64 n] zeros 25 27 25
  rw [← hw1] at hA hB hI hZ
  unfold zeros at hw1
  have HA := hid hA
  have HB := hid hB
  have HI := hid hI
  have HZ := hid hZ
  have i0 := hI.cell (i := 0) rfl
  have i1 := hI.cell (i := 1) rfl
  have i2 := hI.cell (i := 2) rfl
  have i3 := hI.cell (i := 3) rfl
  have i4 := hI.cell (i := 4) rfl
  simp only [List.getElem_toArray, List.getElem_cons_zero, List.getElem_cons_succ] at i0 i1 i2 i3 i4
  clear hA hB hI hZ
  go_enter Tryd.func21, Tryd.ntmps21
  go_upto_region 1 with fail
  rw [← hw1]
  clear hw1
  go_wp2_with fail
  refine (HM.out _ (ht.same HA.out)).mono ?_
  rintro e w2 ⟨rfl, hF2⟩
  have HA2 := hid (HA.out.trans hF2)
  have HB2 := hid (HB.out.keep hF2 (fun h => h))
  have HI2 := hid (HI.out.keep hF2 (fun h => h))
  have HZ2 := hid (HZ.out.keep hF2 (fun h => h))
  clear HA HB HI HZ i0 i1 i2 i3 i4 hF2 HM
  have j1 : w2.cell? ⟨w.heap.size + 1, 1, none⟩ = some (.int .i64 a) := HI2.out.cell rfl
  have r1 : w2.cell? ⟨w.heap.size, 10 + a, none⟩ = some (.int .i64 (F.h a)) := HB2.out.cell (hC.h F a ha)
  have r2 := HB2.out.frozen (10 + a)
  have hb : (0 : Int) ≤ a ∧ (a : Int) < 8 := by omega
  obtain ⟨w3, hw3⟩ : ∃ w3, w3 = w2.setCell ⟨w.heap.size, 10 + a, none⟩ (.int .i64 id) := ⟨_, rfl⟩
  have hB3 : Blk w3 w.heap.size (cel (F.hold a id)) := by
    have h := HB2.out.set (10 + a) (.int .i64 id)
    rw [hC.hold F a id ha] at h
    rw [hw3]
    exact h
  have hF3 : Fr (fun k => k = w.heap.size) w2 w3 := by rw [hw3]; exact Fr.setCell _ _ _ rfl
  have HZ3 := hid (HZ2.out.keep hF3 (show ¬ (w.heap.size + 2 = w.heap.size) by omega))
  have HA3 := hid (HA2.out.over hF3 (Nat.le_refl _))
  have HB3 := hid hB3
  clear hF3 hB3
  go_upto_region 4 with fail
  rw [← hw3]
  clear hw3
  go_wp2_with (refine row_load rfl 25 _ rfl _ rfl HB3.out Tryd.underlying25 rfl infoF (hC.size _) ?_)
  refine (passed_any hC _ _).mono ?_
  rintro e w4 ⟨rfl, hF4⟩
  have hZ4 := HZ3.out.keep hF4 (fun h => h)
  go_wp2_with (refine row_store rfl 25 _ _ rfl _ _ rfl rfl hZ4 infoF rfl (hC.size _) (hC.one _) ?_)
  intro w9 hB9 hF9
  go_wp2_with fail
  exact bodyPost_ret (res_one rfl rfl hB9 Tryd.underlying25 rfl infoF (hC.size _)) rfl ⟨rfl, (HA3.out.trans hF4).over hF9 (by omega)⟩

theorem fork_any {cel : Frm → Array Value} (hC : Cel cel) (F : Frm) (i : Ins) (id : Int) (w : World) (ht : Tabs w) :
    Calls Tryd.prog 21 #[.agg (cel F), i.val, .int .i64 id] w fun e w' => e = .returned (.agg (cel (F.forked i id))) ∧ Fr (fun _ => False) w w' := by
  unfold Frm.forked
  rcases Bool.eq_false_or_eq_true (isOp i 8) with h | h
  · obtain ⟨a, b, c, n, ha, hb, hc, rfl⟩ := isOp_letters h
    rw [if_pos h]
    exact fork_in hC F a b c n id w ht h ha
  · rw [if_neg (by rw [h]; simp)]
    exact fork_no hC F i id w ht h

set_option maxRecDepth 100000 in
theorem rfork_no {cel : Frm → Array Value} (hC : Cel cel) (F : Frm) (i : Ins) (id : Int) (w : World) (hk : isOp i 8 = false) :
    Calls Tryd.prog 22 #[.agg (cel F), i.val, .int .i64 id] w fun e w' => e = .returned (.agg (cel F)) ∧ Fr (fun _ => False) w w' := by
  have HM := hid (ris_any i 8)
  unfold isOp at hk
  rw [hk] at HM
  unfold Ins.val at *
  obtain ⟨w1, hw1⟩ : ∃ w1, w1 = ((w.alloc (.cells (cel F) 32)).alloc (.cells #[.int .i64 i.op, .int .i64 i.a, .int .i64 i.b, .int .i64 i.c, .int .i64 i.n] 27)).alloc (.cells zeros 32) := ⟨_, rfl⟩
  obtain ⟨hA, hB, hI, hZ⟩ := three w (cel F) #[.int .i64 i.op, .int .i64 i.a, .int .i64 i.b, .int .i64 i.c, .int .i64 i.n] zeros 32 27 32
  rw [← hw1] at hA hB hI hZ
  unfold zeros at hw1
  have HA := hid hA
  have HB := hid hB
  have HI := hid hI
  have HZ := hid hZ
  have i0 := hI.cell (i := 0) rfl
  have i1 := hI.cell (i := 1) rfl
  have i2 := hI.cell (i := 2) rfl
  have i3 := hI.cell (i := 3) rfl
  have i4 := hI.cell (i := 4) rfl
  simp only [List.getElem_toArray, List.getElem_cons_zero, List.getElem_cons_succ] at i0 i1 i2 i3 i4
  clear hA hB hI hZ
  go_enter Tryd.func22, Tryd.ntmps22
  go_upto_region 1 with fail
  rw [← hw1]
  clear hw1
  go_wp2_with fail
  refine (HM.out _).mono ?_
  rintro e w2 ⟨rfl, hF2⟩
  have HA2 := hid (HA.out.trans hF2)
  have HB2 := hid (HB.out.keep hF2 (fun h => h))
  have HI2 := hid (HI.out.keep hF2 (fun h => h))
  have HZ2 := hid (HZ.out.keep hF2 (fun h => h))
  clear HA HB HI HZ i0 i1 i2 i3 i4 hF2 HM
  go_wp2_with (first
    | (refine row_load rfl 32 _ rfl _ rfl HB2.out Tryd.underlying32 rfl infoT (hC.size _) ?_)
    | (refine row_store rfl 32 _ _ rfl _ _ rfl rfl HZ2.out infoT rfl (hC.size _) (hC.one _) ?_))
  intro w9 hB9 hF9
  go_wp2_with fail
  exact bodyPost_ret (res_one rfl rfl hB9 Tryd.underlying32 rfl infoT (hC.size _)) rfl ⟨rfl, (HA2.out).over hF9 (by omega)⟩

set_option maxRecDepth 100000 in
theorem rfork_in {cel : Frm → Array Value} (hC : Cel cel) (F : Frm) (a b c : Nat) (n id : Int) (w : World) (hk : isOp ⟨8, a, b, c, n⟩ 8 = true) (ha : a < 8) :
    Calls Tryd.prog 22 #[.agg (cel F), Ins.val ⟨8, a, b, c, n⟩, .int .i64 id] w fun e w' => e = .returned (.agg (cel (F.hold a id).on)) ∧ Fr (fun _ => False) w w' := by
  have HM := hid (ris_any ⟨8, a, b, c, n⟩ 8)
  unfold isOp at hk
  rw [hk] at HM
  unfold Ins.val at *
  simp only at *
  clear hk
  obtain ⟨w1, hw1⟩ : ∃ w1, w1 = ((w.alloc (.cells (cel F) 32)).alloc (.cells #[.int .i64 8, .int .i64 a, .int .i64 b, .int .i64 c, .int .i64 n] 27)).alloc (.cells zeros 32) := ⟨_, rfl⟩
  obtain ⟨hA, hB, hI, hZ⟩ := three w (cel F) #[.int .i64 8, .int .i64 a, .int .i64 b, .int .i64 c, .int .i64 n] zeros 32 27 32
  rw [← hw1] at hA hB hI hZ
  unfold zeros at hw1
  have HA := hid hA
  have HB := hid hB
  have HI := hid hI
  have HZ := hid hZ
  have i0 := hI.cell (i := 0) rfl
  have i1 := hI.cell (i := 1) rfl
  have i2 := hI.cell (i := 2) rfl
  have i3 := hI.cell (i := 3) rfl
  have i4 := hI.cell (i := 4) rfl
  simp only [List.getElem_toArray, List.getElem_cons_zero, List.getElem_cons_succ] at i0 i1 i2 i3 i4
  clear hA hB hI hZ
  go_enter Tryd.func22, Tryd.ntmps22
  go_upto_region 1 with fail
  rw [← hw1]
  clear hw1
  go_wp2_with fail
  refine (HM.out _).mono ?_
  rintro e w2 ⟨rfl, hF2⟩
  have HA2 := hid (HA.out.trans hF2)
  have HB2 := hid (HB.out.keep hF2 (fun h => h))
  have HI2 := hid (HI.out.keep hF2 (fun h => h))
  have HZ2 := hid (HZ.out.keep hF2 (fun h => h))
  clear HA HB HI HZ i0 i1 i2 i3 i4 hF2 HM
  have j1 : w2.cell? ⟨w.heap.size + 1, 1, none⟩ = some (.int .i64 a) := HI2.out.cell rfl
  have r1 : w2.cell? ⟨w.heap.size, 10 + a, none⟩ = some (.int .i64 (F.h a)) := HB2.out.cell (hC.h F a ha)
  have r2 := HB2.out.frozen (10 + a)
  have hb : (0 : Int) ≤ a ∧ (a : Int) < 8 := by omega
  obtain ⟨w3, hw3⟩ : ∃ w3, w3 = w2.setCell ⟨w.heap.size, 10 + a, none⟩ (.int .i64 id) := ⟨_, rfl⟩
  have hB3 : Blk w3 w.heap.size (cel (F.hold a id)) := by
    have h := HB2.out.set (10 + a) (.int .i64 id)
    rw [hC.hold F a id ha] at h
    rw [hw3]
    exact h
  have hF3 : Fr (fun k => k = w.heap.size) w2 w3 := by rw [hw3]; exact Fr.setCell _ _ _ rfl
  have HZ3 := hid (HZ2.out.keep hF3 (show ¬ (w.heap.size + 2 = w.heap.size) by omega))
  have HA3 := hid (HA2.out.over hF3 (Nat.le_refl _))
  have HB3 := hid hB3
  clear hF3 hB3
  go_upto_region 4 with fail
  rw [← hw3]
  clear hw3
  go_wp2_with (refine row_load rfl 32 _ rfl _ rfl HB3.out Tryd.underlying32 rfl infoT (hC.size _) ?_)
  refine (ron_any hC _ _).mono ?_
  rintro e w4 ⟨rfl, hF4⟩
  have hZ4 := HZ3.out.keep hF4 (fun h => h)
  go_wp2_with (refine row_store rfl 32 _ _ rfl _ _ rfl rfl hZ4 infoT rfl (hC.size _) (hC.one _) ?_)
  intro w9 hB9 hF9
  go_wp2_with fail
  exact bodyPost_ret (res_one rfl rfl hB9 Tryd.underlying32 rfl infoT (hC.size _)) rfl ⟨rfl, (HA3.out.trans hF4).over hF9 (by omega)⟩

theorem rfork_any {cel : Frm → Array Value} (hC : Cel cel) (F : Frm) (i : Ins) (id : Int) (w : World) :
    Calls Tryd.prog 22 #[.agg (cel F), i.val, .int .i64 id] w fun e w' => e = .returned (.agg (cel (F.forked i id))) ∧ Fr (fun _ => False) w w' := by
  unfold Frm.forked
  rcases Bool.eq_false_or_eq_true (isOp i 8) with h | h
  · obtain ⟨a, b, c, n, ha, hb, hc, rfl⟩ := isOp_letters h
    rw [if_pos h]
    exact rfork_in hC F a b c n id w h ha
  · rw [if_neg (by rw [h]; simp)]
    exact rfork_no hC F i id w h

set_option maxRecDepth 100000 in
theorem close_no {cel : Frm → Array Value} (hC : Cel cel) (F : Frm) (i : Ins) (x : Bool) (w : World) (ht : Tabs w) (hk : isOp i 12 = false) :
    Calls Tryd.prog 27 #[.agg (cel F), i.val, .bool x] w fun e w' => e = .returned (.agg (cel F)) ∧ Fr (fun _ => False) w w' := by
  have HM := hid (is_any i 12)
  unfold isOp at hk
  rw [hk] at HM
  unfold Ins.val at *
  obtain ⟨w1, hw1⟩ : ∃ w1, w1 = ((w.alloc (.cells (cel F) 25)).alloc (.cells #[.int .i64 i.op, .int .i64 i.a, .int .i64 i.b, .int .i64 i.c, .int .i64 i.n] 27)).alloc (.cells zeros 25) := ⟨_, rfl⟩
  obtain ⟨hA, hB, hI, hZ⟩ := three w (cel F) #[.int .i64 i.op, .int .i64 i.a, .int .i64 i.b, .int .i64 i.c, .int .i64 i.n] zeros 25 27 25
  rw [← hw1] at hA hB hI hZ
  unfold zeros at hw1
  have HA := hid hA
  have HB := hid hB
  have HI := hid hI
  have HZ := hid hZ
  have i0 := hI.cell (i := 0) rfl
  have i1 := hI.cell (i := 1) rfl
  have i2 := hI.cell (i := 2) rfl
  have i3 := hI.cell (i := 3) rfl
  have i4 := hI.cell (i := 4) rfl
  simp only [List.getElem_toArray, List.getElem_cons_zero, List.getElem_cons_succ] at i0 i1 i2 i3 i4
  clear hA hB hI hZ
  go_enter Tryd.func27, Tryd.ntmps27
  go_upto_region 1 with fail
  rw [← hw1]
  clear hw1
  go_wp2_with fail
  refine (HM.out _ (ht.same HA.out)).mono ?_
  rintro e w2 ⟨rfl, hF2⟩
  have HA2 := hid (HA.out.trans hF2)
  have HB2 := hid (HB.out.keep hF2 (fun h => h))
  have HI2 := hid (HI.out.keep hF2 (fun h => h))
  have HZ2 := hid (HZ.out.keep hF2 (fun h => h))
  clear HA HB HI HZ i0 i1 i2 i3 i4 hF2 HM
  go_wp2_with (first
    | (refine row_load rfl 25 _ rfl _ rfl HB2.out Tryd.underlying25 rfl infoF (hC.size _) ?_)
    | (refine row_store rfl 25 _ _ rfl _ _ rfl rfl HZ2.out infoF rfl (hC.size _) (hC.one _) ?_))
  intro w9 hB9 hF9
  go_wp2_with fail
  exact bodyPost_ret (res_one rfl rfl hB9 Tryd.underlying25 rfl infoF (hC.size _)) rfl ⟨rfl, (HA2.out).over hF9 (by omega)⟩

set_option maxRecDepth 100000 in
set_option maxHeartbeats 1000000 in
theorem close_in {cel : Frm → Array Value} (hC : Cel cel) (F : Frm) (a b c : Nat) (n : Int) (x : Bool) (w : World) (ht : Tabs w) (hk : isOp ⟨12, a, b, c, n⟩ 12 = true) (ha : a < 8) :
    Calls Tryd.prog 27 #[.agg (cel F), Ins.val ⟨12, a, b, c, n⟩, .bool x] w fun e w' => e = .returned (.agg (cel (F.put a (if x then 1 else 0)).on)) ∧ Fr (fun _ => False) w w' := by
  have HM := hid (is_any ⟨12, a, b, c, n⟩ 12)
  unfold isOp at hk
  rw [hk] at HM
  unfold Ins.val at *
  simp only at *
  clear hk
  obtain ⟨v, hv⟩ : ∃ v : Int, v = if x then 1 else 0 := ⟨_, rfl⟩
  have HBIT := hid (fun w' => bit_any x w')
  rw [← hv] at HBIT
  rw [← hv]
  clear hv
  obtain ⟨w1, hw1⟩ : ∃ w1, w1 = ((w.alloc (.cells (cel F) 25)).alloc (.cells #[.int .i64 12, .int .i64 a, .int .i64 b, .int .i64 c, .int .i64 n] 27)).alloc (.cells zeros 25) := ⟨_, rfl⟩
  obtain ⟨hA, hB, hI, hZ⟩ := three w (cel F) #[.int .i64 12, .int .i64 a, .int .i64 b, .int .i64 c, .int .i64 n] zeros 25 27 25
  rw [← hw1] at hA hB hI hZ
  unfold zeros at hw1
  have HA := hid hA
  have HB := hid hB
  have HI := hid hI
  have HZ := hid hZ
  have i0 := hI.cell (i := 0) rfl
  have i1 := hI.cell (i := 1) rfl
  have i2 := hI.cell (i := 2) rfl
  have i3 := hI.cell (i := 3) rfl
  have i4 := hI.cell (i := 4) rfl
  simp only [List.getElem_toArray, List.getElem_cons_zero, List.getElem_cons_succ] at i0 i1 i2 i3 i4
  clear hA hB hI hZ
  go_enter Tryd.func27, Tryd.ntmps27
  go_upto_region 1 with fail
  rw [← hw1]
  clear hw1
  go_wp2_with fail
  refine (HM.out _ (ht.same HA.out)).mono ?_
  rintro e w2 ⟨rfl, hF2⟩
  have HA2 := hid (HA.out.trans hF2)
  have HB2 := hid (HB.out.keep hF2 (fun h => h))
  have HI2 := hid (HI.out.keep hF2 (fun h => h))
  have HZ2 := hid (HZ.out.keep hF2 (fun h => h))
  clear HA HB HI HZ i0 i1 i2 i3 i4 hF2 HM
  have j1 : w2.cell? ⟨w.heap.size + 1, 1, none⟩ = some (.int .i64 a) := HI2.out.cell rfl
  obtain ⟨N, hN, hN1, hN2⟩ := nineteen
  have hsz : ∀ F, (cel F).size = N := fun F => by rw [hC.size, hN]
  have HN := hid hN
  clear hN
  have HS := hid (show ∀ w', Fr (fun k => k = w.heap.size + 2) w2 w' → w'.cell? ⟨w.heap.size + 1, 1, none⟩ = some (.int .i64 a) ∧ (loadCellsFrom ⟨w.heap.size, 0, none⟩ 0 N #[]).run Tryd.prog w' = .ok (cel F) w' from fun w' F' => ⟨(cell_keep F' (p := ⟨w.heap.size + 1, 1, none⟩) HI2.out.lt (show ¬ (w.heap.size + 1 = w.heap.size + 2) by omega)).trans j1, load_eq (HB2.out.keep F' (show ¬ (w.heap.size = w.heap.size + 2) by omega)) (hsz _)⟩)
  have HFd := hid (Fr.refl (fun k => k = w.heap.size + 2) w2)
  have HG := hid (Fr.refl (fun _ => False) w2)
  clear j1
  go_upto_region 3 with fail
  go_region_held3 (fun w' => w'.cell? ⟨w.heap.size + 1, 1, none⟩ = some (.int .i64 a) ∧ (loadCellsFrom ⟨w.heap.size, 0, none⟩ 0 N #[]).run Tryd.prog w' = .ok (cel F) w')
    (first | exact HS.out _ HFd.out | exact HS.out _ (HFd.out.trans (Fr.drew _ _)) | exact HS.out _ (HFd.out.trans (setRow_fr _ _ _ rfl)))
    (first
      | (go_at_call 41; (with_reducible refine (HBIT.out _).mono ?_); rintro e w5 ⟨rfl, rfl⟩)
      | (go_at_call 34; (with_reducible refine (with_any hC F a _ _ ha).mono ?_); rintro e w6 ⟨rfl, hF6⟩; have HG := hid (HG.out.trans (Fr.trans (by first | exact Fr.refl _ _ | exact Fr.drew _ _) hF6)); have HFd := hid (HFd.out.trans (Fr.trans (by first | exact Fr.refl _ _ | exact Fr.drew _ _) (hF6.mono (fun _ h => h.elim)))); clear hF6)
      | (go_at_call 29; (with_reducible refine (passed_any hC _ _).mono ?_); rintro e w7 ⟨rfl, hF7⟩; have HG := hid (HG.out.trans (Fr.trans (by first | exact Fr.refl _ _ | exact Fr.drew _ _) hF7)); have HFd := hid (HFd.out.trans (Fr.trans (by first | exact Fr.refl _ _ | exact Fr.drew _ _) (hF7.mono (fun _ h => h.elim)))); have hst := fun v => store_eq (P := Tryd.prog) (HZ2.out.keep HG.out (fun h => h)) (hC.size (F.put a v).on) (hC.one _); clear hF7))
  all_goals
    go_wp2_with fail
    exact bodyPost_ret (res_one rfl rfl (setRow_blk (HZ2.out.keep HG.out (fun h => h)) _) Tryd.underlying25 rfl infoF (hC.size _)) rfl ⟨rfl, (HA2.out.trans HG.out).over (setRow_fr _ _ _ rfl) (by omega)⟩

theorem close_any {cel : Frm → Array Value} (hC : Cel cel) (F : Frm) (i : Ins) (x : Bool) (w : World) (ht : Tabs w) :
    Calls Tryd.prog 27 #[.agg (cel F), i.val, .bool x] w fun e w' => e = .returned (.agg (cel (F.closed i x))) ∧ Fr (fun _ => False) w w' := by
  unfold Frm.closed
  rcases Bool.eq_false_or_eq_true (isOp i 12) with h | h
  · obtain ⟨a, b, c, n, ha, hb, hc, rfl⟩ := isOp_letters h
    rw [if_pos h]
    exact close_in hC F a b c n x w ht h ha
  · rw [if_neg (by rw [h]; simp)]
    exact close_no hC F i x w ht h

set_option maxRecDepth 100000 in
theorem rclose_no {cel : Frm → Array Value} (hC : Cel cel) (F : Frm) (i : Ins) (x : Bool) (w : World) (hk : isOp i 12 = false) :
    Calls Tryd.prog 28 #[.agg (cel F), i.val, .bool x] w fun e w' => e = .returned (.agg (cel F)) ∧ Fr (fun _ => False) w w' := by
  have HM := hid (ris_any i 12)
  unfold isOp at hk
  rw [hk] at HM
  unfold Ins.val at *
  obtain ⟨w1, hw1⟩ : ∃ w1, w1 = ((w.alloc (.cells (cel F) 32)).alloc (.cells #[.int .i64 i.op, .int .i64 i.a, .int .i64 i.b, .int .i64 i.c, .int .i64 i.n] 27)).alloc (.cells zeros 32) := ⟨_, rfl⟩
  obtain ⟨hA, hB, hI, hZ⟩ := three w (cel F) #[.int .i64 i.op, .int .i64 i.a, .int .i64 i.b, .int .i64 i.c, .int .i64 i.n] zeros 32 27 32
  rw [← hw1] at hA hB hI hZ
  unfold zeros at hw1
  have HA := hid hA
  have HB := hid hB
  have HI := hid hI
  have HZ := hid hZ
  have i0 := hI.cell (i := 0) rfl
  have i1 := hI.cell (i := 1) rfl
  have i2 := hI.cell (i := 2) rfl
  have i3 := hI.cell (i := 3) rfl
  have i4 := hI.cell (i := 4) rfl
  simp only [List.getElem_toArray, List.getElem_cons_zero, List.getElem_cons_succ] at i0 i1 i2 i3 i4
  clear hA hB hI hZ
  go_enter Tryd.func28, Tryd.ntmps28
  go_upto_region 1 with fail
  rw [← hw1]
  clear hw1
  go_wp2_with fail
  refine (HM.out _).mono ?_
  rintro e w2 ⟨rfl, hF2⟩
  have HA2 := hid (HA.out.trans hF2)
  have HB2 := hid (HB.out.keep hF2 (fun h => h))
  have HI2 := hid (HI.out.keep hF2 (fun h => h))
  have HZ2 := hid (HZ.out.keep hF2 (fun h => h))
  clear HA HB HI HZ i0 i1 i2 i3 i4 hF2 HM
  go_wp2_with (first
    | (refine row_load rfl 32 _ rfl _ rfl HB2.out Tryd.underlying32 rfl infoT (hC.size _) ?_)
    | (refine row_store rfl 32 _ _ rfl _ _ rfl rfl HZ2.out infoT rfl (hC.size _) (hC.one _) ?_))
  intro w9 hB9 hF9
  go_wp2_with fail
  exact bodyPost_ret (res_one rfl rfl hB9 Tryd.underlying32 rfl infoT (hC.size _)) rfl ⟨rfl, (HA2.out).over hF9 (by omega)⟩

set_option maxRecDepth 100000 in
set_option maxHeartbeats 1000000 in
theorem rclose_in {cel : Frm → Array Value} (hC : Cel cel) (F : Frm) (a b c : Nat) (n : Int) (x : Bool) (w : World) (hk : isOp ⟨12, a, b, c, n⟩ 12 = true) (ha : a < 8) :
    Calls Tryd.prog 28 #[.agg (cel F), Ins.val ⟨12, a, b, c, n⟩, .bool x] w fun e w' => e = .returned (.agg (cel (F.put a (if x then 1 else 0)).on)) ∧ Fr (fun _ => False) w w' := by
  have HM := hid (ris_any ⟨12, a, b, c, n⟩ 12)
  unfold isOp at hk
  rw [hk] at HM
  unfold Ins.val at *
  simp only at *
  clear hk
  cases x
  · obtain ⟨w1, hw1⟩ : ∃ w1, w1 = ((w.alloc (.cells (cel F) 32)).alloc (.cells #[.int .i64 12, .int .i64 a, .int .i64 b, .int .i64 c, .int .i64 n] 27)).alloc (.cells zeros 32) := ⟨_, rfl⟩
    obtain ⟨hA, hB, hI, hZ⟩ := three w (cel F) #[.int .i64 12, .int .i64 a, .int .i64 b, .int .i64 c, .int .i64 n] zeros 32 27 32
    rw [← hw1] at hA hB hI hZ
    unfold zeros at hw1
    have HA := hid hA
    have HB := hid hB
    have HI := hid hI
    have HZ := hid hZ
    have i0 := hI.cell (i := 0) rfl
    have i1 := hI.cell (i := 1) rfl
    have i2 := hI.cell (i := 2) rfl
    have i3 := hI.cell (i := 3) rfl
    have i4 := hI.cell (i := 4) rfl
    simp only [List.getElem_toArray, List.getElem_cons_zero, List.getElem_cons_succ] at i0 i1 i2 i3 i4
    clear hA hB hI hZ
    go_enter Tryd.func28, Tryd.ntmps28
    go_upto_region 1 with fail
    rw [← hw1]
    clear hw1
    go_wp2_with fail
    refine (HM.out _).mono ?_
    rintro e w2 ⟨rfl, hF2⟩
    have HA2 := hid (HA.out.trans hF2)
    have HB2 := hid (HB.out.keep hF2 (fun h => h))
    have HI2 := hid (HI.out.keep hF2 (fun h => h))
    have HZ2 := hid (HZ.out.keep hF2 (fun h => h))
    clear HA HB HI HZ i0 i1 i2 i3 i4 hF2 HM
    have j1 : w2.cell? ⟨w.heap.size + 1, 1, none⟩ = some (.int .i64 a) := HI2.out.cell rfl
    go_wp2_with (refine row_load rfl 32 _ rfl _ rfl HB2.out Tryd.underlying32 rfl infoT (hC.size _) ?_)
    refine (rwith_any hC F a 0 w2 ha).mono ?_
    rintro e w3 ⟨rfl, hF3⟩
    go_wp2_with fail
    refine (ron_any hC _ _).mono ?_
    rintro e w4 ⟨rfl, hF4⟩
    have hZ4 := HZ2.out.keep (hF3.trans hF4) (fun h => h)
    go_wp2_with (refine row_store rfl 32 _ _ rfl _ _ rfl rfl hZ4 infoT rfl (hC.size _) (hC.one _) ?_)
    intro w9 hB9 hF9
    go_wp2_with fail
    exact bodyPost_ret (res_one rfl rfl hB9 Tryd.underlying32 rfl infoT (hC.size _)) rfl ⟨rfl, (HA2.out.trans (hF3.trans hF4)).over hF9 (by omega)⟩
  · obtain ⟨w1, hw1⟩ : ∃ w1, w1 = ((w.alloc (.cells (cel F) 32)).alloc (.cells #[.int .i64 12, .int .i64 a, .int .i64 b, .int .i64 c, .int .i64 n] 27)).alloc (.cells zeros 32) := ⟨_, rfl⟩
    obtain ⟨hA, hB, hI, hZ⟩ := three w (cel F) #[.int .i64 12, .int .i64 a, .int .i64 b, .int .i64 c, .int .i64 n] zeros 32 27 32
    rw [← hw1] at hA hB hI hZ
    unfold zeros at hw1
    have HA := hid hA
    have HB := hid hB
    have HI := hid hI
    have HZ := hid hZ
    have i0 := hI.cell (i := 0) rfl
    have i1 := hI.cell (i := 1) rfl
    have i2 := hI.cell (i := 2) rfl
    have i3 := hI.cell (i := 3) rfl
    have i4 := hI.cell (i := 4) rfl
    simp only [List.getElem_toArray, List.getElem_cons_zero, List.getElem_cons_succ] at i0 i1 i2 i3 i4
    clear hA hB hI hZ
    go_enter Tryd.func28, Tryd.ntmps28
    go_upto_region 1 with fail
    rw [← hw1]
    clear hw1
    go_wp2_with fail
    refine (HM.out _).mono ?_
    rintro e w2 ⟨rfl, hF2⟩
    have HA2 := hid (HA.out.trans hF2)
    have HB2 := hid (HB.out.keep hF2 (fun h => h))
    have HI2 := hid (HI.out.keep hF2 (fun h => h))
    have HZ2 := hid (HZ.out.keep hF2 (fun h => h))
    clear HA HB HI HZ i0 i1 i2 i3 i4 hF2 HM
    have j1 : w2.cell? ⟨w.heap.size + 1, 1, none⟩ = some (.int .i64 a) := HI2.out.cell rfl
    go_wp2_with (refine row_load rfl 32 _ rfl _ rfl HB2.out Tryd.underlying32 rfl infoT (hC.size _) ?_)
    refine (rwith_any hC F a 1 w2 ha).mono ?_
    rintro e w3 ⟨rfl, hF3⟩
    go_wp2_with fail
    refine (ron_any hC _ _).mono ?_
    rintro e w4 ⟨rfl, hF4⟩
    have hZ4 := HZ2.out.keep (hF3.trans hF4) (fun h => h)
    go_wp2_with (refine row_store rfl 32 _ _ rfl _ _ rfl rfl hZ4 infoT rfl (hC.size _) (hC.one _) ?_)
    intro w9 hB9 hF9
    go_wp2_with fail
    exact bodyPost_ret (res_one rfl rfl hB9 Tryd.underlying32 rfl infoT (hC.size _)) rfl ⟨rfl, (HA2.out.trans (hF3.trans hF4)).over hF9 (by omega)⟩

theorem rclose_any {cel : Frm → Array Value} (hC : Cel cel) (F : Frm) (i : Ins) (x : Bool) (w : World) :
    Calls Tryd.prog 28 #[.agg (cel F), i.val, .bool x] w fun e w' => e = .returned (.agg (cel (F.closed i x))) ∧ Fr (fun _ => False) w w' := by
  unfold Frm.closed
  rcases Bool.eq_false_or_eq_true (isOp i 12) with h | h
  · obtain ⟨a, b, c, n, ha, hb, hc, rfl⟩ := isOp_letters h
    rw [if_pos h]
    exact rclose_in hC F a b c n x w h ha
  · rw [if_neg (by rw [h]; simp)]
    exact rclose_no hC F i x w h

end Go.Proofs.YtedpgfldkjimpaaDoor
