/-
  Stage 7: Parse of any text.
-/
import Derived.Test.YtnlbellbeepkaaaGreatDoorParse
namespace Go.Proofs.YtnlbellbeepkaaaGreatDoor
open Go.RowKit Go.Shelf
set_option linter.unusedVariables false
set_option linter.unusedSimpArgs false

theorem three (w : World) (o1 o2 o3 : Obj) : Fr (fun _ => False) w (((w.alloc o1).alloc o2).alloc o3) := ((Fr.alloc _ _ _).trans (Fr.alloc _ _ _)).trans (Fr.alloc _ _ _)
theorem three_set (w : World) (o1 o2 o3 : Obj) (v0 v1 v2 : Value) : Fr (fun _ => False) w ((((((w.alloc o1).alloc o2).alloc o3).setCell ⟨w.heap.size, 0, none⟩ v0).setCell ⟨w.heap.size + 1, 0, none⟩ v1).setCell ⟨w.heap.size + 1 + 1, 0, none⟩ v2) :=
  (three w o1 o2 o3).since (((Fr.setCell (S := fun k => w.heap.size ≤ k) _ _ _ (Nat.le_refl _)).trans (Fr.setCell _ _ _ (Nat.le_succ _))).trans (Fr.setCell _ _ _ (by show w.heap.size ≤ w.heap.size + 1 + 1; omega))) (fun i hi hl => absurd hl (by omega))

set_option maxRecDepth 100000 in
set_option maxHeartbeats 2000000 in
theorem parse_nil (w : World) : Calls Tryz.prog 7 #[.string (bs [])] w (PaPost [] w) := by
  rw [show bs [] = ⟨#[]⟩ from rfl]
  go_enter Tryz.func7, Tryz.ntmps7
  go_wp2_with fail
  refine bodyPost_ret (v := .tuple #[.slice none 0 0, .int .i64 0, .int .i64 17]) ?_ rfl ?_
  · (simp [results, Tryz.results7, go_sem]; try rfl)
  · refine .inr ⟨fun h => h.1 rfl, 0, 17, by decide, rfl, ?_⟩
    first
    | exact three _ _ _ _
    | exact three_set _ _ _ _ _ _ _

theorem parse_any (s : Bs) (w : World) (hs : s.length ≤ 131072) (ht : Tabz w) : Calls Tryz.prog 7 #[.string (bs s)] w (PaPost s w) := by
  by_cases h : s = []
  · subst h
    exact parse_nil w
  · exact parse_main s h hs w ht

theorem back_all (A : Option Addr) (n c : Nat) (l : List Tw) (s : ByteArray) (hs : s.size ≤ 9223372036854775807) (W : World) (hT : Tabz W) (ho : Opn W A n c l) :
    Calls Tryz.prog 3 #[.slice A n c, .string s] W (LawPost W) := by
  rw [← bs_of s]
  have h : s.data.toList.length = s.size := by simp
  exact back_law parse_any A n c l s.data.toList W hT ho (by omega)

end Go.Proofs.YtnlbellbeepkaaaGreatDoor
