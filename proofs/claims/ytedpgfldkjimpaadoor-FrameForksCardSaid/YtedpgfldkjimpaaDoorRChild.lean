/-
  What a fork makes: Child, the document's.
-/
import Derived.Test.YtedpgfldkjimpaaDoorChild
namespace Go.Proofs.YtedpgfldkjimpaaDoor
open Go.RowKit
set_option linter.unusedVariables false

set_option maxRecDepth 100000 in
set_option maxHeartbeats 4000000 in
theorem rchild_any {cel : Frm → Array Value} (hC : Cel cel) (F : Frm) (q : Nat) (nd : Int) (w : World) :
    Calls Tryd.prog 24 #[.agg (cel F), .int .i64 q, .int .i64 nd] w fun e w' => e = .returned (.agg (cel (F.kid q nd 8))) ∧ Fr (fun _ => False) w w' := by
  obtain ⟨w1, hw1⟩ : ∃ w1, w1 = (w.alloc (.cells (cel F) 32)).alloc (.cells zeros 32) := ⟨_, rfl⟩
  obtain ⟨hA, hB, hZ⟩ := two w (cel F) zeros 32 32
  rw [← hw1] at hA hB hZ
  unfold zeros at hw1
  have HA := hid hA
  have HB := hid hB
  have HZ := hid hZ
  clear hA hB hZ
  go_enter Tryd.func24, Tryd.ntmps24
  go_upto_region 1 with fail
  rw [← hw1]
  clear hw1
  go_wp2_with fail
  refine (rroot_any hC w1).mono ?_
  rintro e w2 ⟨rfl, hF2⟩
  have HA2 := hid (HA.out.trans hF2)
  have HB2 := hid (HB.out.keep hF2 (fun h => h))
  have HZ2 := hid (HZ.out.keep hF2 (fun h => h))
  have HS2 := hid hF2.size
  clear hF2 HA HB HZ
  have hst1 := store_at (P := Tryd.prog) (Blk.new w2 zeros 32) rfl (hC.size Frm.root) (hC.one Frm.root)
  have hz1 : (w2.alloc (.cells zeros 32)).setRow w2.heap.size (cel Frm.root) = w2.alloc (.cells (cel Frm.root) 32) := setRowA _ _ _ _
  rw [hz1] at hst1
  unfold zeros at hst1
  obtain ⟨N, hN, hN1, hN2⟩ := nineteen
  have hsz : ∀ F, (cel F).size = N := fun F => by rw [hC.size, hN]
  have HN := hid hN
  clear hN hz1
  obtain ⟨X0, hX0⟩ : ∃ X0 : Frm, X0 = ⟨q, 0, fun _ => 0, fun _ => -1, 0⟩ := ⟨_, rfl⟩
  have pf : (cel Frm.root).setIfInBounds 0 (.int .i64 q) = cel X0 := by rw [hX0, hC.eq]; rfl
  have rf : (cel Frm.root)[0]? = some (.int .i64 Frm.root.f) := hC.f _
  obtain ⟨X1, hX1⟩ : ∃ X, X = X0.put 0 (F.r 0) := ⟨_, rfl⟩
  have p0 : (cel X0).setIfInBounds 2 (.int .i64 (F.r 0)) = cel X1 := by rw [hX1]; exact hC.put _ 0 _ (by omega)
  have r0 : (cel X0)[2]? = some (.int .i64 (X0.r 0)) := hC.r _ 0 (by omega)
  obtain ⟨X2, hX2⟩ : ∃ X, X = X1.put 1 (F.r 1) := ⟨_, rfl⟩
  have p1 : (cel X1).setIfInBounds 3 (.int .i64 (F.r 1)) = cel X2 := by rw [hX2]; exact hC.put _ 1 _ (by omega)
  have r1 : (cel X1)[3]? = some (.int .i64 (X1.r 1)) := hC.r _ 1 (by omega)
  obtain ⟨X3, hX3⟩ : ∃ X, X = X2.put 2 (F.r 2) := ⟨_, rfl⟩
  have p2 : (cel X2).setIfInBounds 4 (.int .i64 (F.r 2)) = cel X3 := by rw [hX3]; exact hC.put _ 2 _ (by omega)
  have r2 : (cel X2)[4]? = some (.int .i64 (X2.r 2)) := hC.r _ 2 (by omega)
  obtain ⟨X4, hX4⟩ : ∃ X, X = X3.put 3 (F.r 3) := ⟨_, rfl⟩
  have p3 : (cel X3).setIfInBounds 5 (.int .i64 (F.r 3)) = cel X4 := by rw [hX4]; exact hC.put _ 3 _ (by omega)
  have r3 : (cel X3)[5]? = some (.int .i64 (X3.r 3)) := hC.r _ 3 (by omega)
  obtain ⟨X5, hX5⟩ : ∃ X, X = X4.put 4 (F.r 4) := ⟨_, rfl⟩
  have p4 : (cel X4).setIfInBounds 6 (.int .i64 (F.r 4)) = cel X5 := by rw [hX5]; exact hC.put _ 4 _ (by omega)
  have r4 : (cel X4)[6]? = some (.int .i64 (X4.r 4)) := hC.r _ 4 (by omega)
  obtain ⟨X6, hX6⟩ : ∃ X, X = X5.put 5 (F.r 5) := ⟨_, rfl⟩
  have p5 : (cel X5).setIfInBounds 7 (.int .i64 (F.r 5)) = cel X6 := by rw [hX6]; exact hC.put _ 5 _ (by omega)
  have r5 : (cel X5)[7]? = some (.int .i64 (X5.r 5)) := hC.r _ 5 (by omega)
  obtain ⟨X7, hX7⟩ : ∃ X, X = X6.put 6 (F.r 6) := ⟨_, rfl⟩
  have p6 : (cel X6).setIfInBounds 8 (.int .i64 (F.r 6)) = cel X7 := by rw [hX7]; exact hC.put _ 6 _ (by omega)
  have r6 : (cel X6)[8]? = some (.int .i64 (X6.r 6)) := hC.r _ 6 (by omega)
  obtain ⟨X8, hX8⟩ : ∃ X, X = X7.put 7 (F.r 7) := ⟨_, rfl⟩
  have p7 : (cel X7).setIfInBounds 9 (.int .i64 (F.r 7)) = cel X8 := by rw [hX8]; exact hC.put _ 7 _ (by omega)
  have r7 : (cel X7)[9]? = some (.int .i64 (X7.r 7)) := hC.r _ 7 (by omega)
  have hX : cel X8 = cel (F.kid q nd 0) := by
    rw [hX8, hX7, hX6, hX5, hX4, hX3, hX2, hX1, hX0, hC.eq]
    rfl
  have HX := hid hX
  clear hX hX8 hX7 hX6 hX5 hX4 hX3 hX2 hX1 hX0
  obtain ⟨g2, g3, g4, g5, g6, g7, g8, g9⟩ := hC.regs F ((HB2.out.alloc (.cells (cel X0) 32)))
  obtain ⟨w3, hw3⟩ : ∃ w3, w3 = w2.alloc (.cells (cel X8) 32) := ⟨_, rfl⟩
  have HF3 := hid (show Fr (fun _ => False) w2 w3 by rw [hw3]; exact Fr.alloc _ _ _)
  have hC3 : Blk w3 w2.heap.size (cel X8) := by rw [hw3]; exact Blk.new _ _ _
  rw [HX.out] at hC3
  have HC3 := hid hC3
  clear hC3
  go_upto_region 4 with fail
  rw [← hw3]
  clear hw3 hst1 pf rf p0 p1 p2 p3 p4 p5 p6 p7 r0 r1 r2 r3 r4 r5 r6 r7 g2 g3 g4 g5 g6 g7 g8 g9
  have HA3 := hid (HA2.out.trans HF3.out)
  have HB3 := hid (HB2.out.keep HF3.out (fun h => h))
  have HZ3 := hid (HZ2.out.keep HF3.out (fun h => h))
  have HZL := hid HZ2.out.lt
  clear HA2 HB2 HZ2
  go_wp2_with fail
  go_loopg [8] 8 (fun d x wr => ChRel cel F q nd w2.heap.size w3 d x wr)
  case atStart => exact ⟨0, by omega, rfl, rfl, HC3.out, Fr.refl _ _⟩
  case round =>
    obtain ⟨k, hk, hd, rfl, hB, hF⟩ := hrel
    have HD := hid hd
    have HK := hid hB
    have HF := hid hF
    have hne : ∀ j, j ≤ w.heap.size + 1 → ¬ (j = w2.heap.size) := fun j hj => by have := HZL.out; omega
    clear hd hB
    by_cases hlt : k < 8
    · have hk0 : (0 : Int) ≤ k ∧ (k : Int) < 8 := by omega
      have hk1 : (0 : Int) ≤ k := by omega
      have hk2 : (k : Int) ≤ 64 := by omega
      have r1 : wr.cell? ⟨w.heap.size, 10 + k, none⟩ = some (.int .i64 (F.h k)) := (HB3.out.keep hF (hne _ (by omega))).cell (hC.h F k hlt)
      have s1 : wr.cell? ⟨w2.heap.size, 10 + k, none⟩ = some (.int .i64 ((F.kid q nd k).h k)) := HK.out.cell (hC.h _ k hlt)
      have s2 := HK.out.frozen (10 + k)
      clear hF
      rcases Bool.eq_false_or_eq_true (nbit nd k) with hb | hb
      · have tb : (bits BinOp.and IntKind.i64 (nd / 2 ^ k) 1 == 1) = true := hb
        have hB6 := HK.out.set (10 + k) (.int .i64 (F.h k))
        rw [hC.hold _ k _ hlt, kid_yes F q nd k hb] at hB6
        have HB6 := hid hB6
        clear hB6 hb
        go_wp2_with fail
        go_roundg (8 - (k + 1))
        case rel => exact ⟨k + 1, by omega, by omega, by go_num, HB6.out, HF.out.trans (Fr.setCell _ _ _ rfl)⟩
        case measure => have := HD.out; omega
      · have tb : (bits BinOp.and IntKind.i64 (nd / 2 ^ k) 1 == 1) = false := hb
        have hB6 := HK.out
        rw [kid_no F q nd k hb] at hB6
        have HB6 := hid hB6
        clear hB6 hb
        go_wp2_with fail
        go_roundg (8 - (k + 1))
        case rel => exact ⟨k + 1, by omega, by omega, by go_num, HB6.out, HF.out⟩
        case measure => have := HD.out; omega
    · obtain rfl : k = 8 := by omega
      have hZ6 := HZ3.out.keep hF (hne _ (by omega))
      have hA6 := HA3.out.over HF.out (by have := HZL.out; omega)
      clear hF hne
      go_wp2_with (first
        | (refine row_load rfl 32 _ rfl _ rfl HK.out Tryd.underlying32 rfl infoT (hC.size _) ?_)
        | (refine row_store rfl 32 _ _ rfl _ _ rfl rfl hZ6 infoT rfl (hC.size _) (hC.one _) ?_))
      intro w9 hB9 hF9
      go_wp2_with fail
      exact bodyPost_ret (res_one rfl rfl hB9 Tryd.underlying32 rfl infoT (hC.size _)) rfl ⟨rfl, hA6.over hF9 (by omega)⟩

end Go.Proofs.YtedpgfldkjimpaaDoor
