/-
  May and is, the first task, the document's plain task, whether two are the same, and usual ones.
-/
import Derived.Test.YtedpgfldkjimpaaDoorClos
import Derived.Test.YtedpgfldkjimpaaDoorEq
import Derived.Test.YtedpgfldkjimpaaDoorRefCheck
import Derived.Deep.QuietTactic
namespace Go.Proofs.YtedpgfldkjimpaaDoor
open Go.RowKit
set_option linter.unusedVariables false

set_option maxRecDepth 100000 in
theorem may_any (i : Ins) (w : World) (ht : Tabs w) : Calls Tryd.prog 32 #[i.val] w fun e w' => e = .returned (.bool (chk i == 0)) ∧ Fr (fun _ => False) w w' := by
  have HC := hid (check_any i)
  obtain ⟨x, hx⟩ : ∃ x, chk i = x := ⟨_, rfl⟩
  rw [hx] at HC ⊢
  unfold Ins.val at *
  have hA := Fr.alloc (fun _ => False) w (.cells #[.int .i64 i.op, .int .i64 i.a, .int .i64 i.b, .int .i64 i.c, .int .i64 i.n] 27)
  have hT := ht.same hA
  go_enter Tryd.func32, Tryd.ntmps32
  go_wp2_with fail
  refine (HC.out _ hT).mono ?_
  rintro e w2 ⟨rfl, hF2⟩
  go_wp2_with fail
  go_ret
  exact ⟨rfl, hA.trans hF2⟩

set_option maxRecDepth 100000 in
theorem is_any (i : Ins) (o : Int) (w : World) (ht : Tabs w) : Calls Tryd.prog 48 #[i.val, .int .i64 o] w fun e w' => e = .returned (.bool (i.op == o && chk i == 0)) ∧ Fr (fun _ => False) w w' := by
  have HC := hid (may_any i)
  obtain ⟨x, hx⟩ : ∃ x, (chk i == 0) = x := ⟨_, rfl⟩
  rw [hx] at HC ⊢
  unfold Ins.val at *
  obtain ⟨op, a, b, c, n⟩ := i
  simp only at *
  have hA := Fr.alloc (fun _ => False) w (.cells #[.int .i64 op, .int .i64 a, .int .i64 b, .int .i64 c, .int .i64 n] 27)
  have hT := ht.same hA
  rcases Bool.eq_false_or_eq_true (op == o) with h | h
  · rw [h, Bool.true_and]
    go_enter Tryd.func48, Tryd.ntmps48
    go_wp2_with fail
    refine (HC.out _ hT).mono ?_
    rintro e w2 ⟨rfl, hF2⟩
    go_wp2_with fail
    go_ret
    exact ⟨rfl, hA.trans hF2⟩
  · rw [h, Bool.false_and]
    go_enter Tryd.func48, Tryd.ntmps48
    go_wp2_with fail
    go_ret
    exact ⟨rfl, hA⟩

set_option maxRecDepth 100000 in
theorem ris_any (i : Ins) (o : Int) (w : World) : Calls Tryd.prog 50 #[i.val, .int .i64 o] w fun e w' => e = .returned (.bool (i.op == o && chk i == 0)) ∧ Fr (fun _ => False) w w' := by
  have HC := hid (rcheck_any i)
  obtain ⟨x, hx⟩ : ∃ x, chk i = x := ⟨_, rfl⟩
  rw [hx] at HC ⊢
  unfold Ins.val at *
  obtain ⟨op, a, b, c, n⟩ := i
  simp only at *
  have hA := Fr.alloc (fun _ => False) w (.cells #[.int .i64 op, .int .i64 a, .int .i64 b, .int .i64 c, .int .i64 n] 27)
  rcases Bool.eq_false_or_eq_true (op == o) with h | h
  · rw [h, Bool.true_and]
    go_enter Tryd.func50, Tryd.ntmps50
    go_wp2_with fail
    refine (HC.out _).mono ?_
    rintro e w2 ⟨rfl, hF2⟩
    go_wp2_with fail
    go_ret
    exact ⟨rfl, hA.trans hF2⟩
  · rw [h, Bool.false_and]
    go_enter Tryd.func50, Tryd.ntmps50
    go_wp2_with fail
    go_ret
    exact ⟨rfl, hA⟩

def none8 : Array Value := #[.int .i64 (-1), .int .i64 (-1), .int .i64 (-1), .int .i64 (-1), .int .i64 (-1), .int .i64 (-1), .int .i64 (-1), .int .i64 (-1)]

set_option maxRecDepth 100000 in
set_option maxHeartbeats 1000000 in
theorem empty_any (w : World) : Calls Tryd.prog 47 #[] w fun e w' => e = .returned (.agg none8) ∧ Fr (fun _ => False) w w' := by
  go_enter Tryd.func47, Tryd.ntmps47
  go_wp2
  refine wp_loop_rounds 9 ?_
  rw [rounds_succ]
  go_wp2
  rw [rounds_succ]
  go_wp2
  rw [rounds_succ]
  go_wp2
  rw [rounds_succ]
  go_wp2
  rw [rounds_succ]
  go_wp2
  rw [rounds_succ]
  go_wp2
  rw [rounds_succ]
  go_wp2
  rw [rounds_succ]
  go_wp2
  rw [rounds_succ]
  go_wp2
  exact bodyPost_ret (v := .agg none8) (by simp [results, Tryd.results47, go_sem]; try rfl) rfl ⟨rfl, (Fr.alloc _ _ _).trans (Fr.alloc _ _ _)⟩

/-- Some truth. -/
def SomeB (e : Ending) : Prop := ∃ b, e = .returned (.bool b)
theorem SomeB.mk (b : Bool) : SomeB (.returned (.bool b)) := ⟨b, rfl⟩

set_option maxRecDepth 100000 in
theorem usual_any {cel : Frm → Array Value} (hC : Cel cel) (F : Frm) (w : World) : Calls Tryd.prog 11 #[.agg (cel F)] w fun e w' => SomeB e ∧ Fr (fun _ => False) w w' := by
  have hpc := hC.pc F
  have hst := hC.st F
  go_enter Tryd.func11, Tryd.ntmps11
  go_wp2_with fail
  all_goals
    go_ret
    exact ⟨SomeB.mk _, Fr.alloc _ _ _⟩

set_option maxRecDepth 100000 in
theorem rroot_any {cel : Frm → Array Value} (hC : Cel cel) (w : World) : Calls Tryd.prog 18 #[] w fun e w' => e = .returned (.agg (cel Frm.root)) ∧ Fr (fun _ => False) w w' := by
  have hr : #[.int .i64 0, .int .i64 0, .int .i64 0, .int .i64 0, .int .i64 0, .int .i64 0, .int .i64 0, .int .i64 0, .int .i64 0, .int .i64 0, .int .i64 (-1), .int .i64 (-1), .int .i64 (-1), .int .i64 (-1), .int .i64 (-1), .int .i64 (-1), .int .i64 (-1), .int .i64 (-1), .int .i64 0] = cel Frm.root := by rw [hC.eq]; rfl
  have hB := Blk.new w zeros 32
  unfold zeros at hB
  go_enter Tryd.func18, Tryd.ntmps18
  go_wp2_with (refine row_store rfl 32 _ _ rfl _ _ rfl rfl hB infoT rfl (hC.size _) (hC.one _) ?_)
  intro w9 hB9 hF9
  go_wp2
  exact bodyPost_ret (res_one rfl rfl hB9 Tryd.underlying32 rfl infoT (hC.size _)) rfl ⟨rfl, (Fr.alloc _ _ _).over hF9 (Nat.le_refl _)⟩

set_option maxRecDepth 100000 in
theorem root_any {cel : Frm → Array Value} (hC : Cel cel) (w : World) : Calls Tryd.prog 17 #[] w fun e w' => e = .returned (.agg (cel Frm.root)) ∧ Fr (fun _ => False) w w' := by
  have hr : #[.int .i64 0, .int .i64 0, .int .i64 0, .int .i64 0, .int .i64 0, .int .i64 0, .int .i64 0, .int .i64 0, .int .i64 0, .int .i64 0, .int .i64 (-1), .int .i64 (-1), .int .i64 (-1), .int .i64 (-1), .int .i64 (-1), .int .i64 (-1), .int .i64 (-1), .int .i64 (-1), .int .i64 0] = cel Frm.root := by rw [hC.eq]; rfl
  have hB := Blk.new w zeros 25
  unfold zeros at hB
  go_enter Tryd.func17, Tryd.ntmps17
  go_wp2_with fail
  refine (empty_any _).mono ?_
  rintro e w2 ⟨rfl, hF2⟩
  have hB2 := hB.keep hF2 (fun h => h)
  unfold none8
  clear hB
  go_wp2_with (refine row_store rfl 25 _ _ rfl _ _ rfl rfl hB2 infoF rfl (hC.size _) (hC.one _) ?_)
  intro w9 hB9 hF9
  go_wp2
  exact bodyPost_ret (res_one rfl rfl hB9 Tryd.underlying25 rfl infoF (hC.size _)) rfl ⟨rfl, ((Fr.alloc _ _ _).trans hF2).over hF9 (Nat.le_refl _)⟩

/-- The cells of a task by themselves. -/
theorem Cel.all {cel : Frm → Array Value} (hC : Cel cel) (F : Frm) {w : World} {b : Nat} (h : Blk w b (cel F)) :
    w.cell? ⟨b, 0, none⟩ = some (.int .i64 F.f) ∧ w.cell? ⟨b, 1, none⟩ = some (.int .i64 F.pc) ∧ w.cell? ⟨b, 18, none⟩ = some (.int .i64 F.st) :=
  ⟨h.cell (hC.f F), h.cell (hC.pc F), h.cell (hC.st F)⟩
theorem Cel.regs {cel : Frm → Array Value} (hC : Cel cel) (F : Frm) {w : World} {b : Nat} (h : Blk w b (cel F)) :
    w.cell? ⟨b, 2, none⟩ = some (.int .i64 (F.r 0)) ∧ w.cell? ⟨b, 3, none⟩ = some (.int .i64 (F.r 1)) ∧ w.cell? ⟨b, 4, none⟩ = some (.int .i64 (F.r 2)) ∧ w.cell? ⟨b, 5, none⟩ = some (.int .i64 (F.r 3)) ∧ w.cell? ⟨b, 6, none⟩ = some (.int .i64 (F.r 4)) ∧ w.cell? ⟨b, 7, none⟩ = some (.int .i64 (F.r 5)) ∧ w.cell? ⟨b, 8, none⟩ = some (.int .i64 (F.r 6)) ∧ w.cell? ⟨b, 9, none⟩ = some (.int .i64 (F.r 7)) :=
  ⟨h.cell (hC.r F 0 (by omega)), h.cell (hC.r F 1 (by omega)), h.cell (hC.r F 2 (by omega)), h.cell (hC.r F 3 (by omega)), h.cell (hC.r F 4 (by omega)), h.cell (hC.r F 5 (by omega)), h.cell (hC.r F 6 (by omega)), h.cell (hC.r F 7 (by omega))⟩
theorem Cel.hands {cel : Frm → Array Value} (hC : Cel cel) (F : Frm) {w : World} {b : Nat} (h : Blk w b (cel F)) :
    w.cell? ⟨b, 10, none⟩ = some (.int .i64 (F.h 0)) ∧ w.cell? ⟨b, 11, none⟩ = some (.int .i64 (F.h 1)) ∧ w.cell? ⟨b, 12, none⟩ = some (.int .i64 (F.h 2)) ∧ w.cell? ⟨b, 13, none⟩ = some (.int .i64 (F.h 3)) ∧ w.cell? ⟨b, 14, none⟩ = some (.int .i64 (F.h 4)) ∧ w.cell? ⟨b, 15, none⟩ = some (.int .i64 (F.h 5)) ∧ w.cell? ⟨b, 16, none⟩ = some (.int .i64 (F.h 6)) ∧ w.cell? ⟨b, 17, none⟩ = some (.int .i64 (F.h 7)) :=
  ⟨h.cell (hC.h F 0 (by omega)), h.cell (hC.h F 1 (by omega)), h.cell (hC.h F 2 (by omega)), h.cell (hC.h F 3 (by omega)), h.cell (hC.h F 4 (by omega)), h.cell (hC.h F 5 (by omega)), h.cell (hC.h F 6 (by omega)), h.cell (hC.h F 7 (by omega))⟩

/-- A middle row is loaded. -/
theorem mid_load {P : Program} {ops : Array Oper} {rest : List Oper} {o : Oper} {a : Act} {w : World} {Q : Exit → Act → World → Prop} (hgd : o.guard = none) (ty : TypeId) (x : Operand) (ho : o.op = .load ty x)
    (g k : Nat) (hx : a.eval x = .pointer (some ⟨g, k, none⟩)) {y : Nat → Int} {d : TypeDesc} (hB : ∀ j, j < 8 → w.cell? ⟨g, k + j, none⟩ = some (.int .i64 (y j)))
    (hu : P.underlying ty = some d) (hd : d.isRow = true) (hi : (P.info? ty).map (·.size) = some 8)
    (h : wpList P ops Q rest (a.put o.dst (.agg #[.int .i64 (y 0), .int .i64 (y 1), .int .i64 (y 2), .int .i64 (y 3), .int .i64 (y 4), .int .i64 (y 5), .int .i64 (y 6), .int .i64 (y 7)])) w) : wpList P ops Q (o :: rest) a w := by
  refine wpList_load_mid hgd ty x ho g k hx (row8 y).toList d (fun j v hv => ?_) hu hd hi h
  have hj : j < 8 := (List.getElem?_eq_some_iff.1 hv).1
  have := row8_at y j hj
  rw [Array.getElem?_toList, this] at hv
  rw [hB j hj, ← hv]

set_option maxRecDepth 100000 in
theorem plain_any {cel : Frm → Array Value} (hC : Cel cel) (F : Frm) (w : World) : Calls Tryd.prog 14 #[.agg (cel F)] w fun e w' => e = .returned (.agg (cel F)) ∧ Fr (fun _ => False) w w' := by
  obtain ⟨w1, hw1⟩ : ∃ w1, w1 = (w.alloc (.cells (cel F) 25)).alloc (.cells zeros 32) := ⟨_, rfl⟩
  have HA := hid (show Fr (fun _ => False) w w1 by rw [hw1]; exact (Fr.alloc _ _ _).trans (Fr.alloc _ _ _))
  have HB := hid (show Blk w1 w.heap.size (cel F) by rw [hw1]; exact (Blk.new _ _ _).alloc _)
  have HZ := hid (show Blk w1 (w.heap.size + 1) zeros by rw [hw1]; exact (Blk.new _ _ _).at (by simp))
  unfold zeros at hw1
  obtain ⟨q0, q1, q18⟩ := hC.all F HB.out
  go_enter Tryd.func14, Tryd.ntmps14
  go_upto_region 1 with fail
  rw [← hw1]
  clear hw1
  have hr : #[.int .i64 F.f, .int .i64 F.pc, .int .i64 (F.r 0), .int .i64 (F.r 1), .int .i64 (F.r 2), .int .i64 (F.r 3), .int .i64 (F.r 4), .int .i64 (F.r 5), .int .i64 (F.r 6), .int .i64 (F.r 7), .int .i64 (F.h 0), .int .i64 (F.h 1), .int .i64 (F.h 2), .int .i64 (F.h 3), .int .i64 (F.h 4), .int .i64 (F.h 5), .int .i64 (F.h 6), .int .i64 (F.h 7), .int .i64 F.st] = cel F := by rw [hC.eq]; rfl
  go_wp2_with (first
    | (refine mid_load rfl 22 _ rfl w.heap.size 2 rfl (fun j hj => HB.out.cell (hC.r F j hj)) Tryd.underlying22 rfl infoR ?_)
    | (refine mid_load rfl 23 _ rfl w.heap.size 10 rfl (fun j hj => HB.out.cell (hC.h F j hj)) Tryd.underlying23 rfl infoH ?_)
    | (refine row_store rfl 32 _ _ rfl _ _ rfl rfl HZ.out infoT rfl (hC.size _) (hC.one _) ?_))
  intro w9 hB9 hF9
  go_wp2
  exact bodyPost_ret (res_one rfl rfl hB9 Tryd.underlying32 rfl infoT (hC.size _)) rfl ⟨rfl, HA.out.over hF9 (Nat.le_succ _)⟩

end Go.Proofs.YtedpgfldkjimpaaDoor
