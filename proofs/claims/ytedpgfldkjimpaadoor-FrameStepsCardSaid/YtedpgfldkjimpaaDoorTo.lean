/-
  The small steps of a task: to, with, Passed; the document's To, With, On.
-/
import Derived.Test.YtedpgfldkjimpaaDoorRow
namespace Go.Proofs.YtedpgfldkjimpaaDoor
open Go.RowKit
set_option linter.unusedVariables false

set_option maxRecDepth 100000 in
theorem to_any {cel : Frm → Array Value} (hC : Cel cel) (F : Frm) (at_ : Int) (w : World) : Calls Tryd.prog 43 #[.agg (cel F), .int .i64 at_] w fun e w' => e = .returned (.agg (cel (F.to at_))) ∧ Fr (fun _ => False) w w' := by
  have hpc := hC.pc
  have hst := hC.st
  have spc := hC.setPc
  have sst := hC.setSt
  go_enter Tryd.func43, Tryd.ntmps43
  go_wp2_with (first
    | (refine wpList_load_row rfl 25 _ rfl _ rfl _ _ _ _ (by first | exact heapB _ _ _ | exact heapA _ _) Tryd.underlying25 rfl (infoF.trans (by rw [hC.size])) ?_)
    | (refine wpList_store_row rfl 25 _ _ rfl _ _ rfl rfl _ _ (by first | exact heapB' _ _ _ | exact heapA _ _) (infoF.trans (by rw [hC.size])) (by rw [hC.size]; rfl) (hC.one _) ?_; rw [setRowB]))
  exact bodyPost_ret (results_cell_row rfl _ _ _ _ _ _ _ rfl (heapB' _ _ _) Tryd.underlying25 rfl (infoF.trans (by rw [hC.size]))) rfl ⟨rfl, (Fr.alloc _ _ _).trans (Fr.alloc _ _ _)⟩

set_option maxRecDepth 100000 in
theorem rto_any {cel : Frm → Array Value} (hC : Cel cel) (F : Frm) (at_ : Int) (w : World) : Calls Tryd.prog 46 #[.agg (cel F), .int .i64 at_] w fun e w' => e = .returned (.agg (cel (F.to at_))) ∧ Fr (fun _ => False) w w' := by
  have hpc := hC.pc
  have hst := hC.st
  have spc := hC.setPc
  have sst := hC.setSt
  go_enter Tryd.func46, Tryd.ntmps46
  go_wp2_with (first
    | (refine wpList_load_row rfl 32 _ rfl _ rfl _ _ _ _ (by first | exact heapB _ _ _ | exact heapA _ _) Tryd.underlying32 rfl (infoT.trans (by rw [hC.size])) ?_)
    | (refine wpList_store_row rfl 32 _ _ rfl _ _ rfl rfl _ _ (by first | exact heapB' _ _ _ | exact heapA _ _) (infoT.trans (by rw [hC.size])) (by rw [hC.size]; rfl) (hC.one _) ?_; rw [setRowB]))
  exact bodyPost_ret (results_cell_row rfl _ _ _ _ _ _ _ rfl (heapB' _ _ _) Tryd.underlying32 rfl (infoT.trans (by rw [hC.size]))) rfl ⟨rfl, (Fr.alloc _ _ _).trans (Fr.alloc _ _ _)⟩

set_option maxRecDepth 100000 in
theorem with_any {cel : Frm → Array Value} (hC : Cel cel) (F : Frm) (k : Nat) (v : Int) (w : World) (hk : k < 8) : Calls Tryd.prog 34 #[.agg (cel F), .int .i64 k, .int .i64 v] w fun e w' => e = .returned (.agg (cel (F.put k v))) ∧ Fr (fun _ => False) w w' := by
  have hr := hC.r F k hk
  have sr := hC.put F k v hk
  have hb : (0 : Int) ≤ k ∧ (k : Int) < 8 := by omega
  go_enter Tryd.func34, Tryd.ntmps34
  go_wp2_with (first
    | (refine wpList_load_row rfl 25 _ rfl _ rfl _ _ _ _ (by first | exact heapB _ _ _ | exact heapA _ _) Tryd.underlying25 rfl (infoF.trans (by rw [hC.size])) ?_)
    | (refine wpList_store_row rfl 25 _ _ rfl _ _ rfl rfl _ _ (by first | exact heapB' _ _ _ | exact heapA _ _) (infoF.trans (by rw [hC.size])) (by rw [hC.size]; rfl) (hC.one _) ?_; rw [setRowB]))
  exact bodyPost_ret (results_cell_row rfl _ _ _ _ _ _ _ rfl (heapB' _ _ _) Tryd.underlying25 rfl (infoF.trans (by rw [hC.size]))) rfl ⟨rfl, (Fr.alloc _ _ _).trans (Fr.alloc _ _ _)⟩

set_option maxRecDepth 100000 in
theorem rwith_any {cel : Frm → Array Value} (hC : Cel cel) (F : Frm) (k : Nat) (v : Int) (w : World) (hk : k < 8) : Calls Tryd.prog 45 #[.agg (cel F), .int .i64 k, .int .i64 v] w fun e w' => e = .returned (.agg (cel (F.put k v))) ∧ Fr (fun _ => False) w w' := by
  have hr := hC.r F k hk
  have sr := hC.put F k v hk
  have hb : (0 : Int) ≤ k ∧ (k : Int) < 8 := by omega
  go_enter Tryd.func45, Tryd.ntmps45
  go_wp2_with (first
    | (refine wpList_load_row rfl 32 _ rfl _ rfl _ _ _ _ (by first | exact heapB _ _ _ | exact heapA _ _) Tryd.underlying32 rfl (infoT.trans (by rw [hC.size])) ?_)
    | (refine wpList_store_row rfl 32 _ _ rfl _ _ rfl rfl _ _ (by first | exact heapB' _ _ _ | exact heapA _ _) (infoT.trans (by rw [hC.size])) (by rw [hC.size]; rfl) (hC.one _) ?_; rw [setRowB]))
  exact bodyPost_ret (results_cell_row rfl _ _ _ _ _ _ _ rfl (heapB' _ _ _) Tryd.underlying32 rfl (infoT.trans (by rw [hC.size]))) rfl ⟨rfl, (Fr.alloc _ _ _).trans (Fr.alloc _ _ _)⟩

set_option maxRecDepth 100000 in
theorem passed_any {cel : Frm → Array Value} (hC : Cel cel) (F : Frm) (w : World) : Calls Tryd.prog 29 #[.agg (cel F)] w fun e w' => e = .returned (.agg (cel F.on)) ∧ Fr (fun _ => False) w w' := by
  have hpc := hC.pc
  go_enter Tryd.func29, Tryd.ntmps29
  go_wp2_with (first
    | (refine wpList_load_row rfl 25 _ rfl _ rfl _ _ _ _ (by first | exact heapB _ _ _ | exact heapA _ _) Tryd.underlying25 rfl (infoF.trans (by rw [hC.size])) ?_))
  have hB := (Blk.new (w.alloc (.cells (cel F) 25)) zeros 25).at (show _ = w.heap.size + 1 by simp)
  unfold zeros at hB
  refine (to_any hC F _ _).mono ?_
  rintro e w2 ⟨rfl, hF2⟩
  have hB2 := hB.keep hF2 (fun h => h)
  clear hB
  go_wp2_with (refine row_store rfl 25 _ _ rfl _ _ rfl rfl hB2 infoF rfl (hC.size _) (hC.one _) ?_)
  intro w3 hB3 hF3
  go_wp2
  exact bodyPost_ret (res_one rfl rfl hB3 Tryd.underlying25 rfl infoF (hC.size _)) rfl ⟨rfl, (((Fr.alloc _ _ _).trans (Fr.alloc _ _ _)).trans hF2).over hF3 (Nat.le_succ _)⟩

set_option maxRecDepth 100000 in
theorem ron_any {cel : Frm → Array Value} (hC : Cel cel) (F : Frm) (w : World) : Calls Tryd.prog 30 #[.agg (cel F)] w fun e w' => e = .returned (.agg (cel F.on)) ∧ Fr (fun _ => False) w w' := by
  have hpc := hC.pc
  go_enter Tryd.func30, Tryd.ntmps30
  go_wp2_with (first
    | (refine wpList_load_row rfl 32 _ rfl _ rfl _ _ _ _ (by first | exact heapB _ _ _ | exact heapA _ _) Tryd.underlying32 rfl (infoT.trans (by rw [hC.size])) ?_))
  have hB := (Blk.new (w.alloc (.cells (cel F) 32)) zeros 32).at (show _ = w.heap.size + 1 by simp)
  unfold zeros at hB
  refine (rto_any hC F _ _).mono ?_
  rintro e w2 ⟨rfl, hF2⟩
  have hB2 := hB.keep hF2 (fun h => h)
  clear hB
  go_wp2_with (refine row_store rfl 32 _ _ rfl _ _ rfl rfl hB2 infoT rfl (hC.size _) (hC.one _) ?_)
  intro w3 hB3 hF3
  go_wp2
  exact bodyPost_ret (res_one rfl rfl hB3 Tryd.underlying32 rfl infoT (hC.size _)) rfl ⟨rfl, (((Fr.alloc _ _ _).trans (Fr.alloc _ _ _)).trans hF2).over hF3 (Nat.le_succ _)⟩

end Go.Proofs.YtedpgfldkjimpaaDoor
