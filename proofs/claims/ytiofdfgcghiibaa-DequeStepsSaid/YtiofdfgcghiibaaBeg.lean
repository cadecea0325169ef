/-
  How operations of the program begin.
-/
import Derived.Test.YtiofdfgcghiibaaStepD
namespace Go.Proofs.Ytiofdfgcghiibaa
open Go.RowKit
set_option linter.unusedVariables false

def BegPost (b : MB) (most : Int) (op : DOp) (w : World) (e : Ending) (w' : World) : Prop :=
  ∃ o q cp : Nat, e = .returned (.pointer (some ⟨o, 0, none⟩)) ∧ IsOp w' b o q cp most op ∧ Fr (fun _ => False) w w' ∧ (w.heap.size ≤ o ∧ w.heap.size ≤ q ∧ w.heap.size ≤ cp) ∧ cp < w'.heap.size

theorem fin_push {b : MB} {M : Mach} {most : Int} {w : World} (x : Int) (hM : IsM w b M) (T1 T2 T3 : TypeId) :
    BegPost b most (beginOp 0 x) w (.returned (.pointer (some ⟨w.heap.size + 1 + 1, 0, none⟩)))
      (((w.alloc (.cells #[.int .i64 0, .int .i64 most] T1)).alloc (.cells (pushC most (beginOp 0 x) 0 0 (.pointer none) 52) T2)).alloc (.cells #[.iface 110 (.pointer (some ⟨w.heap.size + 1, 0, none⟩))] T3)) := by
  have hown := hM.own_lt
  have hB : Blk (((w.alloc (.cells #[.int .i64 0, .int .i64 most] T1)).alloc (.cells (pushC most (beginOp 0 x) 0 0 (.pointer none) 52) T2)).alloc (.cells #[.iface 110 (.pointer (some ⟨w.heap.size + 1, 0, none⟩))] T3)) (w.heap.size + 1) (pushC most (beginOp 0 x) 0 0 (.pointer none) 52) := (Blk.alloc (Blk.new _ _ _) _).at (by simp)
  have hO : Blk (((w.alloc (.cells #[.int .i64 0, .int .i64 most] T1)).alloc (.cells (pushC most (beginOp 0 x) 0 0 (.pointer none) 52) T2)).alloc (.cells #[.iface 110 (.pointer (some ⟨w.heap.size + 1, 0, none⟩))] T3)) (w.heap.size + 1 + 1) #[.iface 110 (.pointer (some ⟨w.heap.size + 1, 0, none⟩))] := (Blk.new _ _ _).at (by simp)
  refine ⟨w.heap.size + 1 + 1, w.heap.size + 1, w.heap.size, rfl, ⟨⟨by omega, by omega, by omega, fun h => ?_, fun h => ?_, fun h => ?_⟩, by show 0 ≤ 2; omega, hO, .inl ⟨by show ¬ (0 : Nat) = 6; omega, .inl ⟨rfl, 0, 0, _, _, hB, rfl, rfl, fun _ => ⟨rfl, fun a => absurd a (by simp [beginOp]), fun a => absurd a (by simp [beginOp]), fun a => absurd a (by simp [beginOp]), fun a => absurd a (by simp [beginOp])⟩⟩⟩⟩, ((Fr.alloc _ _ _).trans (Fr.alloc _ _ _)).trans (Fr.alloc _ _ _), ⟨by omega, by omega, by omega⟩, by simp; omega⟩
  all_goals have := hown _ h; omega

set_option maxHeartbeats 400000 in
theorem beg_push {b : MB} {M : Mach} {most : Int} {w : World} (x : Int) (hM : IsM w b M) :
    Calls Try.prog 16 #[.agg #[.int .i64 0, .int .i64 most], .int .i64 x] w (BegPost b most (beginOp 0 x) w) := by
  have HF := hid (fun T1 T2 T3 => fin_push (b := b) (M := M) (most := most) (w := w) x hM T1 T2 T3)
  clear hM
  go_enter Try.func16, Try.ntmps16
  go_wp2
  go_ret
  exact HF.out _ _ _

theorem fin_pop {b : MB} {M : Mach} {most : Int} {w : World} (x : Int) (hM : IsM w b M) (T1 T2 T3 : TypeId) :
    BegPost b most (beginOp 1 0) w (.returned (.pointer (some ⟨w.heap.size + 1 + 1, 0, none⟩)))
      (((w.alloc (.cells #[.int .i64 0, .int .i64 most] T1)).alloc (.cells (popC most (beginOp 1 0) 53) T2)).alloc (.cells #[.iface 115 (.pointer (some ⟨w.heap.size + 1, 0, none⟩))] T3)) := by
  have hown := hM.own_lt
  have hB : Blk (((w.alloc (.cells #[.int .i64 0, .int .i64 most] T1)).alloc (.cells (popC most (beginOp 1 0) 53) T2)).alloc (.cells #[.iface 115 (.pointer (some ⟨w.heap.size + 1, 0, none⟩))] T3)) (w.heap.size + 1) (popC most (beginOp 1 0) 53) := (Blk.alloc (Blk.new _ _ _) _).at (by simp)
  have hO : Blk (((w.alloc (.cells #[.int .i64 0, .int .i64 most] T1)).alloc (.cells (popC most (beginOp 1 0) 53) T2)).alloc (.cells #[.iface 115 (.pointer (some ⟨w.heap.size + 1, 0, none⟩))] T3)) (w.heap.size + 1 + 1) #[.iface 115 (.pointer (some ⟨w.heap.size + 1, 0, none⟩))] := (Blk.new _ _ _).at (by simp)
  refine ⟨w.heap.size + 1 + 1, w.heap.size + 1, w.heap.size, rfl, ⟨⟨by omega, by omega, by omega, fun h => ?_, fun h => ?_, fun h => ?_⟩, by show 1 ≤ 2; omega, hO, .inl ⟨by show ¬ (0 : Nat) = 6; omega, .inr (.inl ⟨rfl, _, hB, rfl, fun a => absurd a (by simp [beginOp]), fun _ => ⟨rfl, fun _ => rfl⟩⟩)⟩⟩, ((Fr.alloc _ _ _).trans (Fr.alloc _ _ _)).trans (Fr.alloc _ _ _), ⟨by omega, by omega, by omega⟩, by simp; omega⟩
  all_goals have := hown _ h; omega

set_option maxHeartbeats 400000 in
theorem beg_pop {b : MB} {M : Mach} {most : Int} {w : World} (x : Int) (hM : IsM w b M) :
    Calls Try.prog 17 #[.agg #[.int .i64 0, .int .i64 most]] w (BegPost b most (beginOp 1 0) w) := by
  have HF := hid (fun T1 T2 T3 => fin_pop (b := b) (M := M) (most := most) (w := w) x hM T1 T2 T3)
  clear hM
  go_enter Try.func17, Try.ntmps17
  go_wp2
  go_ret
  exact HF.out _ _ _

theorem fin_steal {b : MB} {M : Mach} {most : Int} {w : World} (x : Int) (hM : IsM w b M) (T1 T2 T3 : TypeId) :
    BegPost b most (beginOp 2 0) w (.returned (.pointer (some ⟨w.heap.size + 1 + 1, 0, none⟩)))
      (((w.alloc (.cells #[.int .i64 0, .int .i64 most] T1)).alloc (.cells (stealC most (beginOp 2 0) 0 51) T2)).alloc (.cells #[.iface 100 (.pointer (some ⟨w.heap.size + 1, 0, none⟩))] T3)) := by
  have hown := hM.own_lt
  have hB : Blk (((w.alloc (.cells #[.int .i64 0, .int .i64 most] T1)).alloc (.cells (stealC most (beginOp 2 0) 0 51) T2)).alloc (.cells #[.iface 100 (.pointer (some ⟨w.heap.size + 1, 0, none⟩))] T3)) (w.heap.size + 1) (stealC most (beginOp 2 0) 0 51) := (Blk.alloc (Blk.new _ _ _) _).at (by simp)
  have hO : Blk (((w.alloc (.cells #[.int .i64 0, .int .i64 most] T1)).alloc (.cells (stealC most (beginOp 2 0) 0 51) T2)).alloc (.cells #[.iface 100 (.pointer (some ⟨w.heap.size + 1, 0, none⟩))] T3)) (w.heap.size + 1 + 1) #[.iface 100 (.pointer (some ⟨w.heap.size + 1, 0, none⟩))] := (Blk.new _ _ _).at (by simp)
  refine ⟨w.heap.size + 1 + 1, w.heap.size + 1, w.heap.size, rfl, ⟨⟨by omega, by omega, by omega, fun h => ?_, fun h => ?_, fun h => ?_⟩, by show 2 ≤ 2; omega, hO, .inl ⟨by show ¬ (0 : Nat) = 6; omega, .inr (.inr ⟨rfl, _, _, hB, rfl, fun _ => rfl, fun _ => rfl⟩)⟩⟩, ((Fr.alloc _ _ _).trans (Fr.alloc _ _ _)).trans (Fr.alloc _ _ _), ⟨by omega, by omega, by omega⟩, by simp; omega⟩
  all_goals have := hown _ h; omega

set_option maxHeartbeats 400000 in
theorem beg_steal {b : MB} {M : Mach} {most : Int} {w : World} (x : Int) (hM : IsM w b M) :
    Calls Try.prog 14 #[.agg #[.int .i64 0, .int .i64 most]] w (BegPost b most (beginOp 2 0) w) := by
  have HF := hid (fun T1 T2 T3 => fin_steal (b := b) (M := M) (most := most) (w := w) x hM T1 T2 T3)
  clear hM
  go_enter Try.func14, Try.ntmps14
  go_wp2
  go_ret
  exact HF.out _ _ _

end Go.Proofs.Ytiofdfgcghiibaa
