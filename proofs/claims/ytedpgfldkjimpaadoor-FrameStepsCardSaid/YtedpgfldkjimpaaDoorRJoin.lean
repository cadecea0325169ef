/-
  Joined, the document's.
-/
import Derived.Test.YtedpgfldkjimpaaDoorFork
import Derived.Deep.RegionHeld3
import Derived.Deep.DeepCutAuto
namespace Go.Proofs.YtedpgfldkjimpaaDoor
open Go.RowKit
set_option linter.unusedVariables false

set_option maxRecDepth 100000 in
set_option maxHeartbeats 1000000 in
theorem rjoin_no1 {cel : Frm → Array Value} (hC : Cel cel) (F : Frm) (i : Ins) (kd v : Int) (w : World) (h2 : kd ≠ 2) (h3 : kd ≠ 3) (h4 : kd ≠ 4) :
    Calls Tryd.prog 26 #[.agg (cel F), i.val, .int .i64 kd, .int .i64 v] w fun e w' => e = .returned (.tuple #[.agg (cel F), .int .i64 0, .bool false]) ∧ Fr (fun _ => False) w w' := by
  have t2 : (kd != 2) = true := by simpa using h2
  have t3 : (kd != 3) = true := by simpa using h3
  have t4 : (kd != 4) = true := by simpa using h4
  unfold Ins.val at *
  obtain ⟨w1, hw1⟩ : ∃ w1, w1 = ((w.alloc (.cells (cel F) 32)).alloc (.cells #[.int .i64 i.op, .int .i64 i.a, .int .i64 i.b, .int .i64 i.c, .int .i64 i.n] 27)).alloc (.cells zeros 32) := ⟨_, rfl⟩
  obtain ⟨hA, hB, hI, hZ⟩ := three w (cel F) #[.int .i64 i.op, .int .i64 i.a, .int .i64 i.b, .int .i64 i.c, .int .i64 i.n] zeros 32 27 32
  rw [← hw1] at hA hB hI hZ
  unfold zeros at hw1
  have HA := hid hA
  have HB := hid hB
  have HI := hid hI
  have HZ := hid hZ
  have i0 := hI.cell (i := 0) rfl
  have i1 := hI.cell (i := 1) rfl
  have i2 := hI.cell (i := 2) rfl
  have i3 := hI.cell (i := 3) rfl
  have i4 := hI.cell (i := 4) rfl
  simp only [List.getElem_toArray, List.getElem_cons_zero, List.getElem_cons_succ] at i0 i1 i2 i3 i4
  clear hA hB hI hZ
  go_enter Tryd.func26, Tryd.ntmps26
  go_upto_region 1 with fail
  rw [← hw1]
  clear hw1
  have HA2 := HA
  have HB2 := HB
  have HZ2 := HZ
  clear HA HB HZ
  go_wp2_with (first
    | (refine row_load rfl 32 _ rfl _ rfl HB2.out Tryd.underlying32 rfl infoT (hC.size _) ?_)
    | (refine row_store rfl 32 _ _ rfl _ _ rfl rfl HZ2.out infoT rfl (hC.size _) (hC.one _) ?_))
  intro w9 hB9 hF9
  go_wp2_with fail
  exact bodyPost_ret (res_three rfl rfl hB9 Tryd.underlying32 rfl infoT (hC.size _) rfl rfl) rfl ⟨rfl, (HA2.out).over hF9 (by omega)⟩

set_option maxRecDepth 100000 in
set_option maxHeartbeats 1000000 in
theorem rjoin_no2_2 {cel : Frm → Array Value} (hC : Cel cel) (F : Frm) (i : Ins) (v : Int) (w : World) (h10 : isOp i 10 = false) (h9 : isOp i 9 = false) :
    Calls Tryd.prog 26 #[.agg (cel F), i.val, .int .i64 2, .int .i64 v] w fun e w' => e = .returned (.tuple #[.agg (cel F), .int .i64 0, .bool false]) ∧ Fr (fun _ => False) w w' := by
  have HT := hid (ris_any i 10)
  have HJ := hid (ris_any i 9)
  unfold isOp at h10 h9
  rw [h10] at HT
  rw [h9] at HJ
  unfold Ins.val at *
  obtain ⟨w1, hw1⟩ : ∃ w1, w1 = ((w.alloc (.cells (cel F) 32)).alloc (.cells #[.int .i64 i.op, .int .i64 i.a, .int .i64 i.b, .int .i64 i.c, .int .i64 i.n] 27)).alloc (.cells zeros 32) := ⟨_, rfl⟩
  obtain ⟨hA, hB, hI, hZ⟩ := three w (cel F) #[.int .i64 i.op, .int .i64 i.a, .int .i64 i.b, .int .i64 i.c, .int .i64 i.n] zeros 32 27 32
  rw [← hw1] at hA hB hI hZ
  unfold zeros at hw1
  have HA := hid hA
  have HB := hid hB
  have HI := hid hI
  have HZ := hid hZ
  have i0 := hI.cell (i := 0) rfl
  have i1 := hI.cell (i := 1) rfl
  have i2 := hI.cell (i := 2) rfl
  have i3 := hI.cell (i := 3) rfl
  have i4 := hI.cell (i := 4) rfl
  simp only [List.getElem_toArray, List.getElem_cons_zero, List.getElem_cons_succ] at i0 i1 i2 i3 i4
  clear hA hB hI hZ
  go_enter Tryd.func26, Tryd.ntmps26
  go_upto_region 1 with fail
  rw [← hw1]
  clear hw1
  go_wp2_with fail
  refine (HT.out _).mono ?_
  rintro e w2 ⟨rfl, hF2⟩
  have HI2 := hid (HI.out.keep hF2 (fun h => h))
  have i0 := HI2.out.cell (i := 0) rfl
  have i1 := HI2.out.cell (i := 1) rfl
  have i2 := HI2.out.cell (i := 2) rfl
  have i3 := HI2.out.cell (i := 3) rfl
  have i4 := HI2.out.cell (i := 4) rfl
  simp only [List.getElem_toArray, List.getElem_cons_zero, List.getElem_cons_succ] at i0 i1 i2 i3 i4
  go_wp2_with fail
  refine (HJ.out _).mono ?_
  rintro e w3 ⟨rfl, hF3⟩
  have HA2 := hid (HA.out.trans (hF2.trans hF3))
  have HB2 := hid (HB.out.keep (hF2.trans hF3) (fun h => h))
  have HZ2 := hid (HZ.out.keep (hF2.trans hF3) (fun h => h))
  clear HA HB HI HZ HI2 i0 i1 i2 i3 i4 hF2 hF3
  go_wp2_with (first
    | (refine row_load rfl 32 _ rfl _ rfl HB2.out Tryd.underlying32 rfl infoT (hC.size _) ?_)
    | (refine row_store rfl 32 _ _ rfl _ _ rfl rfl HZ2.out infoT rfl (hC.size _) (hC.one _) ?_))
  intro w9 hB9 hF9
  go_wp2_with fail
  exact bodyPost_ret (res_three rfl rfl hB9 Tryd.underlying32 rfl infoT (hC.size _) rfl rfl) rfl ⟨rfl, (HA2.out).over hF9 (by omega)⟩

set_option maxRecDepth 100000 in
set_option maxHeartbeats 1000000 in
theorem rjoin_no2_3 {cel : Frm → Array Value} (hC : Cel cel) (F : Frm) (i : Ins) (v : Int) (w : World) (h10 : isOp i 10 = false) (h9 : isOp i 9 = false) :
    Calls Tryd.prog 26 #[.agg (cel F), i.val, .int .i64 3, .int .i64 v] w fun e w' => e = .returned (.tuple #[.agg (cel F), .int .i64 0, .bool false]) ∧ Fr (fun _ => False) w w' := by
  have HT := hid (ris_any i 10)
  have HJ := hid (ris_any i 9)
  unfold isOp at h10 h9
  rw [h10] at HT
  rw [h9] at HJ
  unfold Ins.val at *
  obtain ⟨w1, hw1⟩ : ∃ w1, w1 = ((w.alloc (.cells (cel F) 32)).alloc (.cells #[.int .i64 i.op, .int .i64 i.a, .int .i64 i.b, .int .i64 i.c, .int .i64 i.n] 27)).alloc (.cells zeros 32) := ⟨_, rfl⟩
  obtain ⟨hA, hB, hI, hZ⟩ := three w (cel F) #[.int .i64 i.op, .int .i64 i.a, .int .i64 i.b, .int .i64 i.c, .int .i64 i.n] zeros 32 27 32
  rw [← hw1] at hA hB hI hZ
  unfold zeros at hw1
  have HA := hid hA
  have HB := hid hB
  have HI := hid hI
  have HZ := hid hZ
  have i0 := hI.cell (i := 0) rfl
  have i1 := hI.cell (i := 1) rfl
  have i2 := hI.cell (i := 2) rfl
  have i3 := hI.cell (i := 3) rfl
  have i4 := hI.cell (i := 4) rfl
  simp only [List.getElem_toArray, List.getElem_cons_zero, List.getElem_cons_succ] at i0 i1 i2 i3 i4
  clear hA hB hI hZ
  go_enter Tryd.func26, Tryd.ntmps26
  go_upto_region 1 with fail
  rw [← hw1]
  clear hw1
  go_wp2_with fail
  refine (HT.out _).mono ?_
  rintro e w2 ⟨rfl, hF2⟩
  have HI2 := hid (HI.out.keep hF2 (fun h => h))
  have i0 := HI2.out.cell (i := 0) rfl
  have i1 := HI2.out.cell (i := 1) rfl
  have i2 := HI2.out.cell (i := 2) rfl
  have i3 := HI2.out.cell (i := 3) rfl
  have i4 := HI2.out.cell (i := 4) rfl
  simp only [List.getElem_toArray, List.getElem_cons_zero, List.getElem_cons_succ] at i0 i1 i2 i3 i4
  go_wp2_with fail
  refine (HJ.out _).mono ?_
  rintro e w3 ⟨rfl, hF3⟩
  have HA2 := hid (HA.out.trans (hF2.trans hF3))
  have HB2 := hid (HB.out.keep (hF2.trans hF3) (fun h => h))
  have HZ2 := hid (HZ.out.keep (hF2.trans hF3) (fun h => h))
  clear HA HB HI HZ HI2 i0 i1 i2 i3 i4 hF2 hF3
  go_wp2_with (first
    | (refine row_load rfl 32 _ rfl _ rfl HB2.out Tryd.underlying32 rfl infoT (hC.size _) ?_)
    | (refine row_store rfl 32 _ _ rfl _ _ rfl rfl HZ2.out infoT rfl (hC.size _) (hC.one _) ?_))
  intro w9 hB9 hF9
  go_wp2_with fail
  exact bodyPost_ret (res_three rfl rfl hB9 Tryd.underlying32 rfl infoT (hC.size _) rfl rfl) rfl ⟨rfl, (HA2.out).over hF9 (by omega)⟩

set_option maxRecDepth 100000 in
set_option maxHeartbeats 1000000 in
theorem rjoin_no2_4 {cel : Frm → Array Value} (hC : Cel cel) (F : Frm) (i : Ins) (v : Int) (w : World) (h10 : isOp i 10 = false) (h9 : isOp i 9 = false) :
    Calls Tryd.prog 26 #[.agg (cel F), i.val, .int .i64 4, .int .i64 v] w fun e w' => e = .returned (.tuple #[.agg (cel F), .int .i64 0, .bool false]) ∧ Fr (fun _ => False) w w' := by
  have HT := hid (ris_any i 10)
  have HJ := hid (ris_any i 9)
  unfold isOp at h10 h9
  rw [h10] at HT
  rw [h9] at HJ
  unfold Ins.val at *
  obtain ⟨w1, hw1⟩ : ∃ w1, w1 = ((w.alloc (.cells (cel F) 32)).alloc (.cells #[.int .i64 i.op, .int .i64 i.a, .int .i64 i.b, .int .i64 i.c, .int .i64 i.n] 27)).alloc (.cells zeros 32) := ⟨_, rfl⟩
  obtain ⟨hA, hB, hI, hZ⟩ := three w (cel F) #[.int .i64 i.op, .int .i64 i.a, .int .i64 i.b, .int .i64 i.c, .int .i64 i.n] zeros 32 27 32
  rw [← hw1] at hA hB hI hZ
  unfold zeros at hw1
  have HA := hid hA
  have HB := hid hB
  have HI := hid hI
  have HZ := hid hZ
  have i0 := hI.cell (i := 0) rfl
  have i1 := hI.cell (i := 1) rfl
  have i2 := hI.cell (i := 2) rfl
  have i3 := hI.cell (i := 3) rfl
  have i4 := hI.cell (i := 4) rfl
  simp only [List.getElem_toArray, List.getElem_cons_zero, List.getElem_cons_succ] at i0 i1 i2 i3 i4
  clear hA hB hI hZ
  go_enter Tryd.func26, Tryd.ntmps26
  go_upto_region 1 with fail
  rw [← hw1]
  clear hw1
  go_wp2_with fail
  refine (HT.out _).mono ?_
  rintro e w2 ⟨rfl, hF2⟩
  have HI2 := hid (HI.out.keep hF2 (fun h => h))
  have i0 := HI2.out.cell (i := 0) rfl
  have i1 := HI2.out.cell (i := 1) rfl
  have i2 := HI2.out.cell (i := 2) rfl
  have i3 := HI2.out.cell (i := 3) rfl
  have i4 := HI2.out.cell (i := 4) rfl
  simp only [List.getElem_toArray, List.getElem_cons_zero, List.getElem_cons_succ] at i0 i1 i2 i3 i4
  go_wp2_with fail
  refine (HJ.out _).mono ?_
  rintro e w3 ⟨rfl, hF3⟩
  have HA2 := hid (HA.out.trans (hF2.trans hF3))
  have HB2 := hid (HB.out.keep (hF2.trans hF3) (fun h => h))
  have HZ2 := hid (HZ.out.keep (hF2.trans hF3) (fun h => h))
  clear HA HB HI HZ HI2 i0 i1 i2 i3 i4 hF2 hF3
  go_wp2_with (first
    | (refine row_load rfl 32 _ rfl _ rfl HB2.out Tryd.underlying32 rfl infoT (hC.size _) ?_)
    | (refine row_store rfl 32 _ _ rfl _ _ rfl rfl HZ2.out infoT rfl (hC.size _) (hC.one _) ?_))
  intro w9 hB9 hF9
  go_wp2_with fail
  exact bodyPost_ret (res_three rfl rfl hB9 Tryd.underlying32 rfl infoT (hC.size _) rfl rfl) rfl ⟨rfl, (HA2.out).over hF9 (by omega)⟩

set_option maxRecDepth 100000 in
set_option maxHeartbeats 1000000 in
theorem rjoin_try2 {cel : Frm → Array Value} (hC : Cel cel) (F : Frm) (a b c : Nat) (n : Int) (v : Int) (w : World) (hk : isOp ⟨10, a, b, c, n⟩ 10 = true) (ha : a < 8) (hb : b < 8) :
    Calls Tryd.prog 26 #[.agg (cel F), Ins.val ⟨10, a, b, c, n⟩, .int .i64 2, .int .i64 v] w fun e w' => e = .returned (.tuple #[.agg (cel ((F.put a v).put b 0).on), .int .i64 0, .bool false]) ∧ Fr (fun _ => False) w w' := by
  have HM := hid (ris_any ⟨10, a, b, c, n⟩ 10)
  unfold isOp at hk
  rw [hk] at HM
  unfold Ins.val at *
  simp only at *
  clear hk
  obtain ⟨w1, hw1⟩ : ∃ w1, w1 = ((w.alloc (.cells (cel F) 32)).alloc (.cells #[.int .i64 10, .int .i64 a, .int .i64 b, .int .i64 c, .int .i64 n] 27)).alloc (.cells zeros 32) := ⟨_, rfl⟩
  obtain ⟨hA, hB, hI, hZ⟩ := three w (cel F) #[.int .i64 10, .int .i64 a, .int .i64 b, .int .i64 c, .int .i64 n] zeros 32 27 32
  rw [← hw1] at hA hB hI hZ
  unfold zeros at hw1
  have HA := hid hA
  have HB := hid hB
  have HI := hid hI
  have HZ := hid hZ
  have i0 := hI.cell (i := 0) rfl
  have i1 := hI.cell (i := 1) rfl
  have i2 := hI.cell (i := 2) rfl
  have i3 := hI.cell (i := 3) rfl
  have i4 := hI.cell (i := 4) rfl
  simp only [List.getElem_toArray, List.getElem_cons_zero, List.getElem_cons_succ] at i0 i1 i2 i3 i4
  clear hA hB hI hZ
  go_enter Tryd.func26, Tryd.ntmps26
  go_upto_region 1 with fail
  rw [← hw1]
  clear hw1
  go_wp2_with fail
  refine (HM.out _).mono ?_
  rintro e w2 ⟨rfl, hF2⟩
  have HA2 := hid (HA.out.trans hF2)
  have HB2 := hid (HB.out.keep hF2 (fun h => h))
  have HI2 := hid (HI.out.keep hF2 (fun h => h))
  have HZ2 := hid (HZ.out.keep hF2 (fun h => h))
  clear HA HB HI HZ i0 i1 i2 i3 i4 hF2 HM
  have j0 : w2.cell? ⟨w.heap.size + 1, 0, none⟩ = some (.int .i64 10) := HI2.out.cell rfl
  have j1 : w2.cell? ⟨w.heap.size + 1, 1, none⟩ = some (.int .i64 a) := HI2.out.cell rfl
  have j2 : w2.cell? ⟨w.heap.size + 1, 2, none⟩ = some (.int .i64 b) := HI2.out.cell rfl
  obtain ⟨N, hN, hN1, hN2⟩ := nineteen
  have hsz : ∀ F, (cel F).size = N := fun F => by rw [hC.size, hN]
  have HN := hid hN
  clear hN
  have HS := hid (show ∀ w', Fr (fun k => k = w.heap.size + 2) w2 w' → w'.cell? ⟨w.heap.size + 1, 1, none⟩ = some (.int .i64 a) ∧ w'.cell? ⟨w.heap.size + 1, 2, none⟩ = some (.int .i64 b) ∧ (loadCellsFrom ⟨w.heap.size, 0, none⟩ 0 N #[]).run Tryd.prog w' = .ok (cel F) w' from fun w' F' => ⟨(HI2.out.keep F' (show ¬ (w.heap.size + 1 = w.heap.size + 2) by omega)).cell rfl, (HI2.out.keep F' (show ¬ (w.heap.size + 1 = w.heap.size + 2) by omega)).cell rfl, load_eq (HB2.out.keep F' (show ¬ (w.heap.size = w.heap.size + 2) by omega)) (hsz _)⟩)
  have HFd := hid (Fr.refl (fun k => k = w.heap.size + 2) w2)
  have HG := hid (Fr.refl (fun _ => False) w2)
  clear j0 j1 j2
  go_upto_region 6 with fail
  go_region_held3 (fun w' => w'.cell? ⟨w.heap.size + 1, 1, none⟩ = some (.int .i64 a) ∧ w'.cell? ⟨w.heap.size + 1, 2, none⟩ = some (.int .i64 b) ∧ (loadCellsFrom ⟨w.heap.size, 0, none⟩ 0 N #[]).run Tryd.prog w' = .ok (cel F) w')
    (first | exact HS.out _ HFd.out | exact HS.out _ (HFd.out.trans (Fr.drew _ _)) | exact HS.out _ (HFd.out.trans (setRow_fr _ _ _ rfl)))
    (first
      | (go_at_call 45; (with_reducible refine (rwith_any hC _ a _ _ ha).mono ?_); rintro e w6 ⟨rfl, hF6⟩; have HG := hid (HG.out.trans (Fr.trans (by first | exact Fr.refl _ _ | exact Fr.drew _ _) hF6)); have HFd := hid (HFd.out.trans (Fr.trans (by first | exact Fr.refl _ _ | exact Fr.drew _ _) (hF6.mono (fun _ h => h.elim)))); clear hF6)
      | (go_at_call 45; (with_reducible refine (rwith_any hC _ b _ _ hb).mono ?_); rintro e w6 ⟨rfl, hF6⟩; have HG := hid (HG.out.trans (Fr.trans (by first | exact Fr.refl _ _ | exact Fr.drew _ _) hF6)); have HFd := hid (HFd.out.trans (Fr.trans (by first | exact Fr.refl _ _ | exact Fr.drew _ _) (hF6.mono (fun _ h => h.elim)))); clear hF6)
      | (go_at_call 30; (with_reducible refine (ron_any hC _ _).mono ?_); rintro e w7 ⟨rfl, hF7⟩; have HG := hid (HG.out.trans (Fr.trans (by first | exact Fr.refl _ _ | exact Fr.drew _ _) hF7)); have HFd := hid (HFd.out.trans (Fr.trans (by first | exact Fr.refl _ _ | exact Fr.drew _ _) (hF7.mono (fun _ h => h.elim)))); have hst := fun X => store_eq (P := Tryd.prog) (HZ2.out.keep HG.out (fun h => h)) (hC.size X) (hC.one X); clear hF7))
  all_goals
    go_wp2_with fail
    exact bodyPost_ret (res_three rfl rfl (setRow_blk (HZ2.out.keep HG.out (fun h => h)) _) Tryd.underlying32 rfl infoT (hC.size _) rfl rfl) rfl ⟨rfl, (HA2.out.trans HG.out).over (setRow_fr _ _ _ rfl) (by omega)⟩

set_option maxRecDepth 100000 in
set_option maxHeartbeats 1000000 in
theorem rjoin_try3 {cel : Frm → Array Value} (hC : Cel cel) (F : Frm) (a b c : Nat) (n : Int) (v : Int) (w : World) (hk : isOp ⟨10, a, b, c, n⟩ 10 = true) (ha : a < 8) (hb : b < 8) :
    Calls Tryd.prog 26 #[.agg (cel F), Ins.val ⟨10, a, b, c, n⟩, .int .i64 3, .int .i64 v] w fun e w' => e = .returned (.tuple #[.agg (cel ((F.put a v).put b 1).on), .int .i64 0, .bool false]) ∧ Fr (fun _ => False) w w' := by
  have HM := hid (ris_any ⟨10, a, b, c, n⟩ 10)
  unfold isOp at hk
  rw [hk] at HM
  unfold Ins.val at *
  simp only at *
  clear hk
  obtain ⟨w1, hw1⟩ : ∃ w1, w1 = ((w.alloc (.cells (cel F) 32)).alloc (.cells #[.int .i64 10, .int .i64 a, .int .i64 b, .int .i64 c, .int .i64 n] 27)).alloc (.cells zeros 32) := ⟨_, rfl⟩
  obtain ⟨hA, hB, hI, hZ⟩ := three w (cel F) #[.int .i64 10, .int .i64 a, .int .i64 b, .int .i64 c, .int .i64 n] zeros 32 27 32
  rw [← hw1] at hA hB hI hZ
  unfold zeros at hw1
  have HA := hid hA
  have HB := hid hB
  have HI := hid hI
  have HZ := hid hZ
  have i0 := hI.cell (i := 0) rfl
  have i1 := hI.cell (i := 1) rfl
  have i2 := hI.cell (i := 2) rfl
  have i3 := hI.cell (i := 3) rfl
  have i4 := hI.cell (i := 4) rfl
  simp only [List.getElem_toArray, List.getElem_cons_zero, List.getElem_cons_succ] at i0 i1 i2 i3 i4
  clear hA hB hI hZ
  go_enter Tryd.func26, Tryd.ntmps26
  go_upto_region 1 with fail
  rw [← hw1]
  clear hw1
  go_wp2_with fail
  refine (HM.out _).mono ?_
  rintro e w2 ⟨rfl, hF2⟩
  have HA2 := hid (HA.out.trans hF2)
  have HB2 := hid (HB.out.keep hF2 (fun h => h))
  have HI2 := hid (HI.out.keep hF2 (fun h => h))
  have HZ2 := hid (HZ.out.keep hF2 (fun h => h))
  clear HA HB HI HZ i0 i1 i2 i3 i4 hF2 HM
  have j0 : w2.cell? ⟨w.heap.size + 1, 0, none⟩ = some (.int .i64 10) := HI2.out.cell rfl
  have j1 : w2.cell? ⟨w.heap.size + 1, 1, none⟩ = some (.int .i64 a) := HI2.out.cell rfl
  have j2 : w2.cell? ⟨w.heap.size + 1, 2, none⟩ = some (.int .i64 b) := HI2.out.cell rfl
  obtain ⟨N, hN, hN1, hN2⟩ := nineteen
  have hsz : ∀ F, (cel F).size = N := fun F => by rw [hC.size, hN]
  have HN := hid hN
  clear hN
  have HS := hid (show ∀ w', Fr (fun k => k = w.heap.size + 2) w2 w' → w'.cell? ⟨w.heap.size + 1, 1, none⟩ = some (.int .i64 a) ∧ w'.cell? ⟨w.heap.size + 1, 2, none⟩ = some (.int .i64 b) ∧ (loadCellsFrom ⟨w.heap.size, 0, none⟩ 0 N #[]).run Tryd.prog w' = .ok (cel F) w' from fun w' F' => ⟨(HI2.out.keep F' (show ¬ (w.heap.size + 1 = w.heap.size + 2) by omega)).cell rfl, (HI2.out.keep F' (show ¬ (w.heap.size + 1 = w.heap.size + 2) by omega)).cell rfl, load_eq (HB2.out.keep F' (show ¬ (w.heap.size = w.heap.size + 2) by omega)) (hsz _)⟩)
  have HFd := hid (Fr.refl (fun k => k = w.heap.size + 2) w2)
  have HG := hid (Fr.refl (fun _ => False) w2)
  clear j0 j1 j2
  go_upto_region 6 with fail
  go_region_held3 (fun w' => w'.cell? ⟨w.heap.size + 1, 1, none⟩ = some (.int .i64 a) ∧ w'.cell? ⟨w.heap.size + 1, 2, none⟩ = some (.int .i64 b) ∧ (loadCellsFrom ⟨w.heap.size, 0, none⟩ 0 N #[]).run Tryd.prog w' = .ok (cel F) w')
    (first | exact HS.out _ HFd.out | exact HS.out _ (HFd.out.trans (Fr.drew _ _)) | exact HS.out _ (HFd.out.trans (setRow_fr _ _ _ rfl)))
    (first
      | (go_at_call 45; (with_reducible refine (rwith_any hC _ a _ _ ha).mono ?_); rintro e w6 ⟨rfl, hF6⟩; have HG := hid (HG.out.trans (Fr.trans (by first | exact Fr.refl _ _ | exact Fr.drew _ _) hF6)); have HFd := hid (HFd.out.trans (Fr.trans (by first | exact Fr.refl _ _ | exact Fr.drew _ _) (hF6.mono (fun _ h => h.elim)))); clear hF6)
      | (go_at_call 45; (with_reducible refine (rwith_any hC _ b _ _ hb).mono ?_); rintro e w6 ⟨rfl, hF6⟩; have HG := hid (HG.out.trans (Fr.trans (by first | exact Fr.refl _ _ | exact Fr.drew _ _) hF6)); have HFd := hid (HFd.out.trans (Fr.trans (by first | exact Fr.refl _ _ | exact Fr.drew _ _) (hF6.mono (fun _ h => h.elim)))); clear hF6)
      | (go_at_call 30; (with_reducible refine (ron_any hC _ _).mono ?_); rintro e w7 ⟨rfl, hF7⟩; have HG := hid (HG.out.trans (Fr.trans (by first | exact Fr.refl _ _ | exact Fr.drew _ _) hF7)); have HFd := hid (HFd.out.trans (Fr.trans (by first | exact Fr.refl _ _ | exact Fr.drew _ _) (hF7.mono (fun _ h => h.elim)))); have hst := fun X => store_eq (P := Tryd.prog) (HZ2.out.keep HG.out (fun h => h)) (hC.size X) (hC.one X); clear hF7))
  all_goals
    go_wp2_with fail
    exact bodyPost_ret (res_three rfl rfl (setRow_blk (HZ2.out.keep HG.out (fun h => h)) _) Tryd.underlying32 rfl infoT (hC.size _) rfl rfl) rfl ⟨rfl, (HA2.out.trans HG.out).over (setRow_fr _ _ _ rfl) (by omega)⟩

set_option maxRecDepth 100000 in
set_option maxHeartbeats 1000000 in
theorem rjoin_try4 {cel : Frm → Array Value} (hC : Cel cel) (F : Frm) (a b c : Nat) (n : Int) (v : Int) (w : World) (hk : isOp ⟨10, a, b, c, n⟩ 10 = true) (ha : a < 8) (hb : b < 8) :
    Calls Tryd.prog 26 #[.agg (cel F), Ins.val ⟨10, a, b, c, n⟩, .int .i64 4, .int .i64 v] w fun e w' => e = .returned (.tuple #[.agg (cel ((F.put a 0).put b 2).on), .int .i64 0, .bool false]) ∧ Fr (fun _ => False) w w' := by
  have HM := hid (ris_any ⟨10, a, b, c, n⟩ 10)
  unfold isOp at hk
  rw [hk] at HM
  unfold Ins.val at *
  simp only at *
  clear hk
  obtain ⟨w1, hw1⟩ : ∃ w1, w1 = ((w.alloc (.cells (cel F) 32)).alloc (.cells #[.int .i64 10, .int .i64 a, .int .i64 b, .int .i64 c, .int .i64 n] 27)).alloc (.cells zeros 32) := ⟨_, rfl⟩
  obtain ⟨hA, hB, hI, hZ⟩ := three w (cel F) #[.int .i64 10, .int .i64 a, .int .i64 b, .int .i64 c, .int .i64 n] zeros 32 27 32
  rw [← hw1] at hA hB hI hZ
  unfold zeros at hw1
  have HA := hid hA
  have HB := hid hB
  have HI := hid hI
  have HZ := hid hZ
  have i0 := hI.cell (i := 0) rfl
  have i1 := hI.cell (i := 1) rfl
  have i2 := hI.cell (i := 2) rfl
  have i3 := hI.cell (i := 3) rfl
  have i4 := hI.cell (i := 4) rfl
  simp only [List.getElem_toArray, List.getElem_cons_zero, List.getElem_cons_succ] at i0 i1 i2 i3 i4
  clear hA hB hI hZ
  go_enter Tryd.func26, Tryd.ntmps26
  go_upto_region 1 with fail
  rw [← hw1]
  clear hw1
  go_wp2_with fail
  refine (HM.out _).mono ?_
  rintro e w2 ⟨rfl, hF2⟩
  have HA2 := hid (HA.out.trans hF2)
  have HB2 := hid (HB.out.keep hF2 (fun h => h))
  have HI2 := hid (HI.out.keep hF2 (fun h => h))
  have HZ2 := hid (HZ.out.keep hF2 (fun h => h))
  clear HA HB HI HZ i0 i1 i2 i3 i4 hF2 HM
  have j0 : w2.cell? ⟨w.heap.size + 1, 0, none⟩ = some (.int .i64 10) := HI2.out.cell rfl
  have j1 : w2.cell? ⟨w.heap.size + 1, 1, none⟩ = some (.int .i64 a) := HI2.out.cell rfl
  have j2 : w2.cell? ⟨w.heap.size + 1, 2, none⟩ = some (.int .i64 b) := HI2.out.cell rfl
  obtain ⟨N, hN, hN1, hN2⟩ := nineteen
  have hsz : ∀ F, (cel F).size = N := fun F => by rw [hC.size, hN]
  have HN := hid hN
  clear hN
  have HS := hid (show ∀ w', Fr (fun k => k = w.heap.size + 2) w2 w' → w'.cell? ⟨w.heap.size + 1, 1, none⟩ = some (.int .i64 a) ∧ w'.cell? ⟨w.heap.size + 1, 2, none⟩ = some (.int .i64 b) ∧ (loadCellsFrom ⟨w.heap.size, 0, none⟩ 0 N #[]).run Tryd.prog w' = .ok (cel F) w' from fun w' F' => ⟨(HI2.out.keep F' (show ¬ (w.heap.size + 1 = w.heap.size + 2) by omega)).cell rfl, (HI2.out.keep F' (show ¬ (w.heap.size + 1 = w.heap.size + 2) by omega)).cell rfl, load_eq (HB2.out.keep F' (show ¬ (w.heap.size = w.heap.size + 2) by omega)) (hsz _)⟩)
  have HFd := hid (Fr.refl (fun k => k = w.heap.size + 2) w2)
  have HG := hid (Fr.refl (fun _ => False) w2)
  clear j0 j1 j2
  go_upto_region 6 with fail
  go_region_held3 (fun w' => w'.cell? ⟨w.heap.size + 1, 1, none⟩ = some (.int .i64 a) ∧ w'.cell? ⟨w.heap.size + 1, 2, none⟩ = some (.int .i64 b) ∧ (loadCellsFrom ⟨w.heap.size, 0, none⟩ 0 N #[]).run Tryd.prog w' = .ok (cel F) w')
    (first | exact HS.out _ HFd.out | exact HS.out _ (HFd.out.trans (Fr.drew _ _)) | exact HS.out _ (HFd.out.trans (setRow_fr _ _ _ rfl)))
    (first
      | (go_at_call 45; (with_reducible refine (rwith_any hC _ a _ _ ha).mono ?_); rintro e w6 ⟨rfl, hF6⟩; have HG := hid (HG.out.trans (Fr.trans (by first | exact Fr.refl _ _ | exact Fr.drew _ _) hF6)); have HFd := hid (HFd.out.trans (Fr.trans (by first | exact Fr.refl _ _ | exact Fr.drew _ _) (hF6.mono (fun _ h => h.elim)))); clear hF6)
      | (go_at_call 45; (with_reducible refine (rwith_any hC _ b _ _ hb).mono ?_); rintro e w6 ⟨rfl, hF6⟩; have HG := hid (HG.out.trans (Fr.trans (by first | exact Fr.refl _ _ | exact Fr.drew _ _) hF6)); have HFd := hid (HFd.out.trans (Fr.trans (by first | exact Fr.refl _ _ | exact Fr.drew _ _) (hF6.mono (fun _ h => h.elim)))); clear hF6)
      | (go_at_call 30; (with_reducible refine (ron_any hC _ _).mono ?_); rintro e w7 ⟨rfl, hF7⟩; have HG := hid (HG.out.trans (Fr.trans (by first | exact Fr.refl _ _ | exact Fr.drew _ _) hF7)); have HFd := hid (HFd.out.trans (Fr.trans (by first | exact Fr.refl _ _ | exact Fr.drew _ _) (hF7.mono (fun _ h => h.elim)))); have hst := fun X => store_eq (P := Tryd.prog) (HZ2.out.keep HG.out (fun h => h)) (hC.size X) (hC.one X); clear hF7))
  all_goals
    go_wp2_with fail
    exact bodyPost_ret (res_three rfl rfl (setRow_blk (HZ2.out.keep HG.out (fun h => h)) _) Tryd.underlying32 rfl infoT (hC.size _) rfl rfl) rfl ⟨rfl, (HA2.out.trans HG.out).over (setRow_fr _ _ _ rfl) (by omega)⟩

set_option maxRecDepth 100000 in
set_option maxHeartbeats 1000000 in
theorem rjoin_join2 {cel : Frm → Array Value} (hC : Cel cel) (F : Frm) (a b c : Nat) (n : Int) (v : Int) (w : World) (hk : isOp ⟨9, a, b, c, n⟩ 9 = true) (h10 : isOp ⟨9, a, b, c, n⟩ 10 = false) (ha : a < 8) :
    Calls Tryd.prog 26 #[.agg (cel F), Ins.val ⟨9, a, b, c, n⟩, .int .i64 2, .int .i64 v] w fun e w' => e = .returned (.tuple #[.agg (cel (F.put a v).on), .int .i64 0, .bool false]) ∧ Fr (fun _ => False) w w' := by
  have HT := hid (ris_any ⟨9, a, b, c, n⟩ 10)
  have HM := hid (ris_any ⟨9, a, b, c, n⟩ 9)
  unfold isOp at hk h10
  rw [hk] at HM
  rw [h10] at HT
  unfold Ins.val at *
  simp only at *
  clear hk h10
  obtain ⟨w1, hw1⟩ : ∃ w1, w1 = ((w.alloc (.cells (cel F) 32)).alloc (.cells #[.int .i64 9, .int .i64 a, .int .i64 b, .int .i64 c, .int .i64 n] 27)).alloc (.cells zeros 32) := ⟨_, rfl⟩
  obtain ⟨hA, hB, hI, hZ⟩ := three w (cel F) #[.int .i64 9, .int .i64 a, .int .i64 b, .int .i64 c, .int .i64 n] zeros 32 27 32
  rw [← hw1] at hA hB hI hZ
  unfold zeros at hw1
  have HA := hid hA
  have HB := hid hB
  have HI := hid hI
  have HZ := hid hZ
  have i0 := hI.cell (i := 0) rfl
  have i1 := hI.cell (i := 1) rfl
  have i2 := hI.cell (i := 2) rfl
  have i3 := hI.cell (i := 3) rfl
  have i4 := hI.cell (i := 4) rfl
  simp only [List.getElem_toArray, List.getElem_cons_zero, List.getElem_cons_succ] at i0 i1 i2 i3 i4
  clear hA hB hI hZ
  go_enter Tryd.func26, Tryd.ntmps26
  go_upto_region 1 with fail
  rw [← hw1]
  clear hw1
  go_wp2_with fail
  refine (HT.out _).mono ?_
  rintro e w4 ⟨rfl, hF4⟩
  have HI4 := hid (HI.out.keep hF4 (fun h => h))
  have i0 := HI4.out.cell (i := 0) rfl
  have i1 := HI4.out.cell (i := 1) rfl
  have i2 := HI4.out.cell (i := 2) rfl
  have i3 := HI4.out.cell (i := 3) rfl
  have i4 := HI4.out.cell (i := 4) rfl
  simp only [List.getElem_toArray, List.getElem_cons_zero, List.getElem_cons_succ] at i0 i1 i2 i3 i4
  go_wp2_with fail
  refine (HM.out _).mono ?_
  rintro e w2 ⟨rfl, hF2⟩
  have hF2 := hF4.trans hF2
  clear HT HI4 hF4
  have HA2 := hid (HA.out.trans hF2)
  have HB2 := hid (HB.out.keep hF2 (fun h => h))
  have HI2 := hid (HI.out.keep hF2 (fun h => h))
  have HZ2 := hid (HZ.out.keep hF2 (fun h => h))
  clear HA HB HI HZ i0 i1 i2 i3 i4 hF2 HM
  have j1 : w2.cell? ⟨w.heap.size + 1, 1, none⟩ = some (.int .i64 a) := HI2.out.cell rfl
  have r1 : w2.cell? ⟨w.heap.size, 1, none⟩ = some (.int .i64 F.pc) := HB2.out.cell (hC.pc F)
  go_wp2_with (refine row_load rfl 32 _ rfl _ rfl HB2.out Tryd.underlying32 rfl infoT (hC.size _) ?_)
  refine (rwith_any hC _ a _ w2 ha).mono ?_
  rintro e w4 ⟨rfl, hF4⟩
  go_wp2_with fail
  refine (ron_any hC _ _).mono ?_
  rintro e w5 ⟨rfl, hF5⟩
  have hZ5 := HZ2.out.keep (hF4.trans hF5) (fun h => h)
  go_wp2_with (refine row_store rfl 32 _ _ rfl _ _ rfl rfl hZ5 infoT rfl (hC.size _) (hC.one _) ?_)
  intro w9 hB9 hF9
  go_wp2_with fail
  exact bodyPost_ret (res_three rfl rfl hB9 Tryd.underlying32 rfl infoT (hC.size _) rfl rfl) rfl ⟨rfl, (HA2.out.trans (hF4.trans hF5)).over hF9 (by omega)⟩

set_option maxRecDepth 100000 in
set_option maxHeartbeats 1000000 in
theorem rjoin_join3 {cel : Frm → Array Value} (hC : Cel cel) (F : Frm) (a b c : Nat) (n : Int) (v : Int) (w : World) (hk : isOp ⟨9, a, b, c, n⟩ 9 = true) (h10 : isOp ⟨9, a, b, c, n⟩ 10 = false) (ha : a < 8) :
    Calls Tryd.prog 26 #[.agg (cel F), Ins.val ⟨9, a, b, c, n⟩, .int .i64 3, .int .i64 v] w fun e w' => e = .returned (.tuple #[.agg (cel (F.to F.pc)), .int .i64 v, .bool true]) ∧ Fr (fun _ => False) w w' := by
  have HT := hid (ris_any ⟨9, a, b, c, n⟩ 10)
  have HM := hid (ris_any ⟨9, a, b, c, n⟩ 9)
  unfold isOp at hk h10
  rw [hk] at HM
  rw [h10] at HT
  unfold Ins.val at *
  simp only at *
  clear hk h10
  obtain ⟨w1, hw1⟩ : ∃ w1, w1 = ((w.alloc (.cells (cel F) 32)).alloc (.cells #[.int .i64 9, .int .i64 a, .int .i64 b, .int .i64 c, .int .i64 n] 27)).alloc (.cells zeros 32) := ⟨_, rfl⟩
  obtain ⟨hA, hB, hI, hZ⟩ := three w (cel F) #[.int .i64 9, .int .i64 a, .int .i64 b, .int .i64 c, .int .i64 n] zeros 32 27 32
  rw [← hw1] at hA hB hI hZ
  unfold zeros at hw1
  have HA := hid hA
  have HB := hid hB
  have HI := hid hI
  have HZ := hid hZ
  have i0 := hI.cell (i := 0) rfl
  have i1 := hI.cell (i := 1) rfl
  have i2 := hI.cell (i := 2) rfl
  have i3 := hI.cell (i := 3) rfl
  have i4 := hI.cell (i := 4) rfl
  simp only [List.getElem_toArray, List.getElem_cons_zero, List.getElem_cons_succ] at i0 i1 i2 i3 i4
  clear hA hB hI hZ
  go_enter Tryd.func26, Tryd.ntmps26
  go_upto_region 1 with fail
  rw [← hw1]
  clear hw1
  go_wp2_with fail
  refine (HT.out _).mono ?_
  rintro e w4 ⟨rfl, hF4⟩
  have HI4 := hid (HI.out.keep hF4 (fun h => h))
  have i0 := HI4.out.cell (i := 0) rfl
  have i1 := HI4.out.cell (i := 1) rfl
  have i2 := HI4.out.cell (i := 2) rfl
  have i3 := HI4.out.cell (i := 3) rfl
  have i4 := HI4.out.cell (i := 4) rfl
  simp only [List.getElem_toArray, List.getElem_cons_zero, List.getElem_cons_succ] at i0 i1 i2 i3 i4
  go_wp2_with fail
  refine (HM.out _).mono ?_
  rintro e w2 ⟨rfl, hF2⟩
  have hF2 := hF4.trans hF2
  clear HT HI4 hF4
  have HA2 := hid (HA.out.trans hF2)
  have HB2 := hid (HB.out.keep hF2 (fun h => h))
  have HI2 := hid (HI.out.keep hF2 (fun h => h))
  have HZ2 := hid (HZ.out.keep hF2 (fun h => h))
  clear HA HB HI HZ i0 i1 i2 i3 i4 hF2 HM
  have j1 : w2.cell? ⟨w.heap.size + 1, 1, none⟩ = some (.int .i64 a) := HI2.out.cell rfl
  have r1 : w2.cell? ⟨w.heap.size, 1, none⟩ = some (.int .i64 F.pc) := HB2.out.cell (hC.pc F)
  go_wp2_with (refine row_load rfl 32 _ rfl _ rfl HB2.out Tryd.underlying32 rfl infoT (hC.size _) ?_)
  refine (rto_any hC _ _ w2).mono ?_
  rintro e w5 ⟨rfl, hF5⟩
  have hZ5 := HZ2.out.keep hF5 (fun h => h)
  go_wp2_with (refine row_store rfl 32 _ _ rfl _ _ rfl rfl hZ5 infoT rfl (hC.size _) (hC.one _) ?_)
  intro w9 hB9 hF9
  go_wp2_with fail
  exact bodyPost_ret (res_three rfl rfl hB9 Tryd.underlying32 rfl infoT (hC.size _) rfl rfl) rfl ⟨rfl, (HA2.out.trans hF5).over hF9 (by omega)⟩

set_option maxRecDepth 100000 in
set_option maxHeartbeats 1000000 in
theorem rjoin_join4 {cel : Frm → Array Value} (hC : Cel cel) (F : Frm) (a b c : Nat) (n : Int) (v : Int) (w : World) (hk : isOp ⟨9, a, b, c, n⟩ 9 = true) (h10 : isOp ⟨9, a, b, c, n⟩ 10 = false) (ha : a < 8) :
    Calls Tryd.prog 26 #[.agg (cel F), Ins.val ⟨9, a, b, c, n⟩, .int .i64 4, .int .i64 v] w fun e w' => e = .returned (.tuple #[.agg (cel (F.to F.pc)), .int .i64 (-1), .bool true]) ∧ Fr (fun _ => False) w w' := by
  have HT := hid (ris_any ⟨9, a, b, c, n⟩ 10)
  have HM := hid (ris_any ⟨9, a, b, c, n⟩ 9)
  unfold isOp at hk h10
  rw [hk] at HM
  rw [h10] at HT
  unfold Ins.val at *
  simp only at *
  clear hk h10
  obtain ⟨w1, hw1⟩ : ∃ w1, w1 = ((w.alloc (.cells (cel F) 32)).alloc (.cells #[.int .i64 9, .int .i64 a, .int .i64 b, .int .i64 c, .int .i64 n] 27)).alloc (.cells zeros 32) := ⟨_, rfl⟩
  obtain ⟨hA, hB, hI, hZ⟩ := three w (cel F) #[.int .i64 9, .int .i64 a, .int .i64 b, .int .i64 c, .int .i64 n] zeros 32 27 32
  rw [← hw1] at hA hB hI hZ
  unfold zeros at hw1
  have HA := hid hA
  have HB := hid hB
  have HI := hid hI
  have HZ := hid hZ
  have i0 := hI.cell (i := 0) rfl
  have i1 := hI.cell (i := 1) rfl
  have i2 := hI.cell (i := 2) rfl
  have i3 := hI.cell (i := 3) rfl
  have i4 := hI.cell (i := 4) rfl
  simp only [List.getElem_toArray, List.getElem_cons_zero, List.getElem_cons_succ] at i0 i1 i2 i3 i4
  clear hA hB hI hZ
  go_enter Tryd.func26, Tryd.ntmps26
  go_upto_region 1 with fail
  rw [← hw1]
  clear hw1
  go_wp2_with fail
  refine (HT.out _).mono ?_
  rintro e w4 ⟨rfl, hF4⟩
  have HI4 := hid (HI.out.keep hF4 (fun h => h))
  have i0 := HI4.out.cell (i := 0) rfl
  have i1 := HI4.out.cell (i := 1) rfl
  have i2 := HI4.out.cell (i := 2) rfl
  have i3 := HI4.out.cell (i := 3) rfl
  have i4 := HI4.out.cell (i := 4) rfl
  simp only [List.getElem_toArray, List.getElem_cons_zero, List.getElem_cons_succ] at i0 i1 i2 i3 i4
  go_wp2_with fail
  refine (HM.out _).mono ?_
  rintro e w2 ⟨rfl, hF2⟩
  have hF2 := hF4.trans hF2
  clear HT HI4 hF4
  have HA2 := hid (HA.out.trans hF2)
  have HB2 := hid (HB.out.keep hF2 (fun h => h))
  have HI2 := hid (HI.out.keep hF2 (fun h => h))
  have HZ2 := hid (HZ.out.keep hF2 (fun h => h))
  clear HA HB HI HZ i0 i1 i2 i3 i4 hF2 HM
  have j1 : w2.cell? ⟨w.heap.size + 1, 1, none⟩ = some (.int .i64 a) := HI2.out.cell rfl
  have r1 : w2.cell? ⟨w.heap.size, 1, none⟩ = some (.int .i64 F.pc) := HB2.out.cell (hC.pc F)
  go_wp2_with (refine row_load rfl 32 _ rfl _ rfl HB2.out Tryd.underlying32 rfl infoT (hC.size _) ?_)
  refine (rto_any hC _ _ w2).mono ?_
  rintro e w5 ⟨rfl, hF5⟩
  have hZ5 := HZ2.out.keep hF5 (fun h => h)
  go_wp2_with (refine row_store rfl 32 _ _ rfl _ _ rfl rfl hZ5 infoT rfl (hC.size _) (hC.one _) ?_)
  intro w9 hB9 hF9
  go_wp2_with fail
  exact bodyPost_ret (res_three rfl rfl hB9 Tryd.underlying32 rfl infoT (hC.size _) rfl rfl) rfl ⟨rfl, (HA2.out.trans hF5).over hF9 (by omega)⟩

end Go.Proofs.YtedpgfldkjimpaaDoor
