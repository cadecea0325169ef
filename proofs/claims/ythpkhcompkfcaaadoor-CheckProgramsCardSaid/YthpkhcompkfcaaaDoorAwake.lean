/-
  The chapter's examples, run.
-/
import Derived.Test.YthpkhcompkfcaaaDoorPrg
import Derived.Test.YthpkhcompkfcaaaDoorEx
namespace Go.Proofs.YthpkhcompkfcaaaDoor
open Go.RowKit
set_option linter.unusedVariables false

/-- A program of one function is handed back. -/
def OnePost (w : World) (A : Option Addr) (n c : Nat) (e : Ending) (w' : World) : Prop :=
  ∃ b, e = .returned (.agg #[.slice (some ⟨b, 0, none⟩) 1 1]) ∧ b < w'.heap.size ∧ w'.cell? ⟨b, 0, none⟩ = some (.int .i64 0) ∧ w'.cell? ⟨b, 1, none⟩ = some (.slice A n c) ∧ Fr (fun _ => False) w w'

set_option maxHeartbeats 400000 in
theorem one_any (A : Option Addr) (n c : Nat) (w : World) : Calls Tryd.prog 23 #[.slice A n c] w (OnePost w A n c) := by
  go_enter Tryd.func23, Tryd.ntmps23
  go_wp2_with fail
  have r0 : ((w.alloc (.cells #[.slice (some ⟨w.heap.size + 1, 0, none⟩) 1 1] 34)).alloc (.cells #[.int .i64 0, .slice A n c] 29)).cell? ⟨w.heap.size, 0, none⟩ = some (.slice (some ⟨w.heap.size + 1, 0, none⟩) 1 1) := ((Blk.new _ _ _).alloc _).cell rfl
  refine bodyPost_ret (v := .agg #[.slice (some ⟨w.heap.size + 1, 0, none⟩) 1 1]) (by simp [results, Tryd.results23, go_sem, r0]; try rfl) rfl ⟨w.heap.size + 1, rfl, by simp, ((Blk.new _ _ _).at (by simp)).cell rfl, ((Blk.new _ _ _).at (by simp)).cell rfl, (Fr.alloc _ _ _).trans (Fr.alloc _ _ _)⟩

theorem prg_one {w : World} {b : Nat} {A : Option Addr} {n c : Nat} {l : List Ins} (hb : b < w.heap.size) (h0 : w.cell? ⟨b, 0, none⟩ = some (.int .i64 0)) (h1 : w.cell? ⟨b, 1, none⟩ = some (.slice A n c)) (hl : l.length = n) (hc : Cod w w.heap.size A l) : Prg w w.heap.size (some ⟨b, 0, none⟩) [⟨0, l⟩] := fun _ => by
  refine ⟨b, 0, rfl, hb, fun k f hk => ?_⟩
  match k, hk with
  | 0, hk =>
    cases hk
    subst hl
    exact ⟨A, c, h0, h1, hc⟩
  | k + 1, hk => cases hk

theorem cod_list {w : World} {B b o : Nat} {l : List Ins} (h : ∀ j u, (l.flatMap Ins.cells)[j]? = some u → w.cell? ⟨b, o + j, none⟩ = some u) (hb : b < B) : Cod w B (some ⟨b, o, none⟩) l := fun hl => by
  refine ⟨b, o, rfl, hb, fun k i hi => ?_⟩
  have hh : ∀ j, j < 5 → w.cell? ⟨b, o + k * 5 + j, none⟩ = i.cells[j]? := fun j hj => by
    obtain ⟨u, hu⟩ : ∃ u, i.cells[j]? = some u := ⟨_, List.getElem?_eq_getElem (by rw [Ins.cells_len]; exact hj)⟩
    rw [Nat.add_assoc, hu]
    exact h _ _ (by rw [flat_at Ins.cells 5 Ins.cells_len hi hj, hu])
  exact ⟨hh 0 (by omega), hh 1 (by omega), hh 2 (by omega), hh 3 (by omega), hh 4 (by omega)⟩

theorem cod_A {w : World} {B b : Nat} (h : Blk w b (exA.flatMap Ins.cells).toArray) (hb : b < B) : Cod w B (some ⟨b, 0, none⟩) exA :=
  cod_list (fun j u hu => by rw [Nat.zero_add]; exact h.cell (by simpa using hu)) hb

theorem cod_B {w : World} {B b : Nat} (h : Blk w b (exA.flatMap Ins.cells).toArray) (hb : b < B) : Cod w B (some ⟨b, 5, none⟩) exB :=
  cod_list (fun j u hu => h.cell (by
    rw [List.getElem?_toArray]
    show (Ins.cells ⟨8, 1, 0, 0, 0⟩ ++ exB.flatMap Ins.cells)[5 + j]? = some u
    rw [List.getElem?_append_right (by rw [Ins.cells_len]; omega), Ins.cells_len, show 5 + j - 5 = j by omega]
    exact hu)) hb

theorem cod_C {w : World} {B b : Nat} (h : Blk w b (exC.flatMap Ins.cells).toArray) (hb : b < B) : Cod w B (some ⟨b, 0, none⟩) exC :=
  cod_list (fun j u hu => by rw [Nat.zero_add]; exact h.cell (by simpa using hu)) hb

set_option maxRecDepth 100000 in
set_option maxHeartbeats 1000000 in
theorem awake_any (w : World) (ht : Tabs w) : Calls Tryd.prog 10 #[] w fun e w' => e = .returned (.bool true) ∧ Fr (fun _ => False) w w' := by
  obtain ⟨w1, hw1⟩ : ∃ w1, w1 = w.alloc (.cells (exA.flatMap Ins.cells).toArray 44) := ⟨_, rfl⟩
  have HF1 := hid (show Fr (fun _ => False) w w1 by rw [hw1]; exact Fr.alloc _ _ _)
  have HB1 := hid (show Blk w1 w.heap.size (exA.flatMap Ins.cells).toArray by rw [hw1]; exact Blk.new _ _ _)
  go_enter Tryd.func10, Tryd.ntmps10
  go_wp2_with fail
  change Calls _ _ _ (w.alloc (.cells (exA.flatMap Ins.cells).toArray 44)) _
  rw [← hw1]
  clear hw1
  refine (one_any _ _ _ _).mono ?_
  rintro e w2 ⟨b, rfl, hb, h0, h1, hF2⟩
  have HC2 := hid (prg_one hb h0 h1 (l := exA) rfl (cod_A (HB1.out.keep hF2 (fun h => h)) (Nat.lt_of_lt_of_le HB1.out.lt hF2.size)))
  have HF2 := hid (HF1.out.trans hF2)
  have HF12 := hid hF2
  clear hb h0 h1 hF2
  go_wp2_with fail
  refine (program_any _ 1 1 [⟨0, exA⟩] w2 (ht.same HF2.out) HC2.out rfl (by omega)).mono ?_
  rintro e w3 ⟨rfl, hF3⟩
  rw [prgF_A]
  unfold Flt.none Flt.val
  simp only
  obtain ⟨w4, hw4⟩ : ∃ w4, w4 = w3.alloc (.cells #[.int .i64 0, .int .i64 0, .int .i64 0] 38) := ⟨_, rfl⟩
  have hX := Blk.new w3 #[.int .i64 0, .int .i64 0, .int .i64 0] 38
  have HF14 := hid (show Fr (fun _ => False) w1 w4 by rw [hw4]; exact (HF12.out.trans hF3).trans (Fr.alloc _ _ _))
  rw [← hw4] at hX
  have HX := hid hX
  clear hX hF3 HC2
  go_upto_region 3 with fail
  rw [← hw4]
  clear hw4
  go_wp2_with fail
  refine (one_any _ _ _ _).mono ?_
  rintro e w5 ⟨b2, rfl, hb, h0, h1, hF5⟩
  have HC5 := hid (prg_one hb h0 h1 (l := exB) rfl (cod_B (HB1.out.keep (HF14.out.trans hF5) (fun h => h)) (Nat.lt_of_lt_of_le HB1.out.lt (HF14.out.trans hF5).size)))
  have HF45 := hid hF5
  clear hb h0 h1 hF5
  go_wp2_with fail
  refine (program_any _ 1 1 [⟨0, exB⟩] w5 (ht.same (HF1.out.trans (HF14.out.trans HF45.out))) HC5.out rfl (by omega)).mono ?_
  rintro e w6 ⟨rfl, hF6⟩
  rw [prgF_B]
  unfold Flt.val
  simp only
  obtain ⟨w7, hw7⟩ : ∃ w7, w7 = w6.alloc (.cells #[.int .i64 0, .int .i64 0, .int .i64 16] 38) := ⟨_, rfl⟩
  have hY := Blk.new w6 #[.int .i64 0, .int .i64 0, .int .i64 16] 38
  have HF47 := hid (show Fr (fun _ => False) w4 w7 by rw [hw7]; exact (HF45.out.trans hF6).trans (Fr.alloc _ _ _))
  rw [← hw7] at hY
  have HY := hid hY
  clear hY hF6 HC5
  go_upto_region 4 with fail
  rw [← hw7]
  clear hw7
  go_wp2_with fail
  obtain ⟨w8, hw8⟩ : ∃ w8, w8 = w7.alloc (.cells (exC.flatMap Ins.cells).toArray 44) := ⟨_, rfl⟩
  have HF8 := hid (show Fr (fun _ => False) w7 w8 by rw [hw8]; exact Fr.alloc _ _ _)
  have HB8 := hid (show Blk w8 w7.heap.size (exC.flatMap Ins.cells).toArray by rw [hw8]; exact Blk.new _ _ _)
  change Calls _ _ _ (w7.alloc (.cells (exC.flatMap Ins.cells).toArray 44)) _
  rw [← hw8]
  clear hw8
  refine (one_any _ _ _ _).mono ?_
  rintro e w9 ⟨b3, rfl, hb, h0, h1, hF9⟩
  have HC9 := hid (prg_one hb h0 h1 (l := exC) rfl (cod_C (HB8.out.keep hF9 (fun h => h)) (Nat.lt_of_lt_of_le HB8.out.lt hF9.size)))
  have HF79 := hid (HF8.out.trans hF9)
  clear hb h0 h1 hF9
  go_wp2_with fail
  refine (program_any _ 1 1 [⟨0, exC⟩] w9 (ht.same (HF1.out.trans (HF14.out.trans (HF47.out.trans HF79.out)))) HC9.out rfl (by omega)).mono ?_
  rintro e wa ⟨rfl, hFa⟩
  rw [prgF_C]
  unfold Flt.val
  simp only
  obtain ⟨wb, hwb⟩ : ∃ wb, wb = wa.alloc (.cells #[.int .i64 0, .int .i64 1, .int .i64 15] 38) := ⟨_, rfl⟩
  have hZ := Blk.new wa #[.int .i64 0, .int .i64 1, .int .i64 15] 38
  have hF7b : Fr (fun _ => False) w7 wb := by rw [hwb]; exact (HF79.out.trans hFa).trans (Fr.alloc _ _ _)
  rw [← hwb] at hZ
  have hY := HY.out.keep hF7b (fun h => h)
  have hX := HX.out.keep (HF47.out.trans hF7b) (fun h => h)
  have x0 := hX.cell (i := 0) rfl
  have x1 := hX.cell (i := 1) rfl
  have x2 := hX.cell (i := 2) rfl
  have y0 := hY.cell (i := 0) rfl
  have y1 := hY.cell (i := 1) rfl
  have y2 := hY.cell (i := 2) rfl
  have z0 := hZ.cell (i := 0) rfl
  have z1 := hZ.cell (i := 1) rfl
  have z2 := hZ.cell (i := 2) rfl
  simp only [List.getElem_toArray, List.getElem_cons_zero, List.getElem_cons_succ] at x0 x1 x2 y0 y1 y2 z0 z1 z2
  have HF := hid (HF1.out.trans (HF14.out.trans (HF47.out.trans hF7b)))
  clear hX hY hZ hF7b hFa HC9
  go_upto_region 5 with fail
  rw [← hwb]
  clear hwb
  go_wp2_with fail
  go_ret
  exact ⟨rfl, HF.out⟩

end Go.Proofs.YthpkhcompkfcaaaDoor
