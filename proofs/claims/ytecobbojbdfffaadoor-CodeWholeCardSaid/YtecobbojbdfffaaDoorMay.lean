/-
  CodeMay's walk.
-/
import Derived.Test.YtecobbojbdfffaaDoorAwake
import Derived.Deep.RegionHeld3
namespace Go.Proofs.YtecobbojbdfffaaDoor
open Go.RowKit

theorem Blk.five {w : World} {b : Nat} {i : Ins} (h : Blk w b #[.int .i64 i.op, .int .i64 i.a, .int .i64 i.b, .int .i64 i.c, .int .i64 i.n]) :
    w.cell? ⟨b, 0, none⟩ = some (.int .i64 i.op) ∧ w.cell? ⟨b, 1, none⟩ = some (.int .i64 i.a) ∧ w.cell? ⟨b, 2, none⟩ = some (.int .i64 i.b) ∧ w.cell? ⟨b, 3, none⟩ = some (.int .i64 i.c) ∧ w.cell? ⟨b, 4, none⟩ = some (.int .i64 i.n) :=
  ⟨h.cell rfl, h.cell rfl, h.cell rfl, h.cell rfl, h.cell rfl⟩

set_option maxRecDepth 100000 in
set_option maxHeartbeats 1000000 in
theorem mayWalk (i : Ins) (w : World) (ht : Tabs w) :
    Calls Tryd.prog 3 #[i.val] w fun e w' => e = .returned (.bool true) ∧ Fr (fun _ => False) w w' := by
  have HC := hid (check_any i)
  have HR := hid (rcheck_any i)
  have hA := Fr.alloc (fun _ => False) w (.cells #[.int .i64 i.op, .int .i64 i.a, .int .i64 i.b, .int .i64 i.c, .int .i64 i.n] 23)
  have hT := ht.same hA
  obtain ⟨x, hx⟩ : ∃ x, chk i = x := ⟨_, rfl⟩
  rw [hx] at HC HR
  clear hx ht
  unfold Ins.val at *
  go_enter Tryd.func3, Tryd.ntmps3
  go_wp2_with fail
  have hB := Blk.new w #[.int .i64 i.op, .int .i64 i.a, .int .i64 i.b, .int .i64 i.c, .int .i64 i.n] 23
  have hl := hB.lt
  go_region_held3 (fun w' => w'.cell? ⟨w.heap.size, 0, none⟩ = some (.int .i64 i.op) ∧ w'.cell? ⟨w.heap.size, 1, none⟩ = some (.int .i64 i.a) ∧ w'.cell? ⟨w.heap.size, 2, none⟩ = some (.int .i64 i.b) ∧ w'.cell? ⟨w.heap.size, 3, none⟩ = some (.int .i64 i.c) ∧ w'.cell? ⟨w.heap.size, 4, none⟩ = some (.int .i64 i.n))
    (first | exact hB.five | exact hB1.five | exact hB2.five | exact hB5.five)
    (first
      | (go_at_call 11; refine (HC.out _ (hT.same (Fr.drew _ _))).mono ?_; rintro e w1 ⟨rfl, hF1⟩; have hB1 := hB.drew.keep hF1 (fun h => h))
      | (go_at_call 12; refine (HR.out w1).mono ?_; rintro e w2 ⟨rfl, hF2⟩; have hB2 := hB1.keep hF2 (fun h => h))
      | (go_at_call 13; refine (point_any i.op w2).mono ?_; rintro e w3 ⟨rfl, rfl⟩)
      | (go_at_call 14; refine (rpoint_any i.op w2).mono ?_; rintro e w4 ⟨rfl, rfl⟩)
      | (go_at_call 15; refine (awake_ok w2 (((hT.same (Fr.drew _ _)).same hF1).same hF2)).mono ?_; rintro e w5 ⟨rfl, hF5⟩; have hB5 := hB2.keep hF5 (fun h => h)))
  go_wp2_with fail
  go_ret
  exact ⟨rfl, hA.trans ((Fr.drew _ _).trans (hF1.trans (hF2.trans hF5)))⟩

end Go.Proofs.YtecobbojbdfffaaDoor
