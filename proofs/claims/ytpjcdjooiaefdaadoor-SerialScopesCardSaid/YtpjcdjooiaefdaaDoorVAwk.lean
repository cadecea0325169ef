/-
  The chapter's examples, run.
-/
import Derived.Test.YtpjcdjooiaefdaaDoorVExP
import Derived.Test.YtpjcdjooiaefdaaDoorVRowsC
namespace Go.Proofs.YtpjcdjooiaefdaaDoor
open Go.RowKit
set_option linter.unusedVariables false

theorem cod_blk {w : World} {b : Nat} {l : List Ins} {c : Array Value} (h : Blk w b c) (hc : c = (l.flatMap Ins.cells).toArray) {B : Nat} (hb : b < B) : Cod w B (some ⟨b, 0, none⟩) l := fun hl => by
  subst hc
  refine ⟨b, 0, rfl, hb, fun k i hi => ?_⟩
  have hh : ∀ j, j < 5 → w.cell? ⟨b, 0 + k * 5 + j, none⟩ = i.cells[j]? := fun j hj => by
    obtain ⟨u, hu⟩ : ∃ u, i.cells[j]? = some u := ⟨_, List.getElem?_eq_getElem (by rw [Ins.cells_len]; exact hj)⟩
    rw [hu, Nat.zero_add]
    exact h.cell (by
      rw [List.getElem?_toArray, flat_at Ins.cells 5 Ins.cells_len hi hj, hu])
  exact ⟨hh 0 (by omega), hh 1 (by omega), hh 2 (by omega), hh 3 (by omega), hh 4 (by omega)⟩

theorem run_one {P : List Fn} {N : Nat} {rows R : List Rw} {st s n : Nat} {er : Int} (A : Acc P) (hN : N ≤ 1048576) (h : RunIs P N rows st er) (he : exec P N n 0 0 rootT rootG = some (.done ⟨R, s⟩)) : rows = R ∧ st = s ∧ er = 0 := by
  rcases h with ⟨h, _⟩ | ⟨_, h, _⟩ | ⟨_, _, _, n', o, h1, h2⟩
  · exact absurd A h
  · omega
  · rw [Int.toNat_natCast] at h1
    have := exec_one he h1
    subst this
    exact h2

theorem prg_two {w : World} {b c1 c2 k1 k2 B : Nat} {l1 l2 : List Ins} {n1 n2 : Nat} (h : Blk w b #[.int .i64 0, .slice (some ⟨c1, 0, none⟩) n1 k1, .int .i64 0, .slice (some ⟨c2, 0, none⟩) n2 k2]) (hb : b < B) (h1 : Cod w B (some ⟨c1, 0, none⟩) l1) (h2 : Cod w B (some ⟨c2, 0, none⟩) l2) (e1 : l1.length = n1) (e2 : l2.length = n2) :
    Prg w B (some ⟨b, 0, none⟩) [⟨0, l1⟩, ⟨0, l2⟩] := fun _ => by
  subst e1 e2
  refine ⟨b, 0, rfl, hb, two_fns ?_ ?_⟩
  · exact ⟨_, _, h.cell (i := 0) rfl, h.cell (i := 1) rfl, h1⟩
  · exact ⟨_, _, h.cell (i := 2) rfl, h.cell (i := 3) rfl, h2⟩

theorem blk_rdR {w : World} {g : Nat} {l : List Rw} {c : Array Value} (h : Blk w g c) (hc : c = (flatR l).toArray) : RdR w (some ⟨g, 0, none⟩) l := fun _ => by
  subst hc
  exact ⟨g, rfl, h.lt, fun j v hv => h.cell (by simpa using hv)⟩

set_option maxRecDepth 100000 in
set_option maxHeartbeats 2000000 in
theorem awake_any (w : World) (ht : Tabs w) : Calls Tryd.prog 8 #[] w fun e w' => e = .returned (.bool true) ∧ Fr (fun _ => False) w w' := by
  obtain ⟨w1, hw1⟩ : ∃ w1, w1 = ((((((((w.alloc (.cells #[.int .i64 0, .int .i64 2, .int .i64 0, .int .i64 0, .int .i64 5, .int .i64 16, .int .i64 2, .int .i64 0, .int .i64 0, .int .i64 0] 43)).alloc (.cells #[.int .i64 0, .slice (some ⟨w.heap.size, 0, none⟩) 2 2] 40)).alloc (.cells #[.int .i64 8, .int .i64 1, .int .i64 0, .int .i64 0, .int .i64 1, .int .i64 9, .int .i64 0, .int .i64 1, .int .i64 0, .int .i64 0, .int .i64 16, .int .i64 0, .int .i64 0, .int .i64 0, .int .i64 0] 43)).alloc (.cells #[.int .i64 0, .slice (some ⟨w.heap.size + 1 + 1, 0, none⟩) 3 3, .int .i64 0, .slice (some ⟨w.heap.size, 0, none⟩) 2 2] 40)).alloc (.cells #[.slice (some ⟨w.heap.size + 1 + 1 + 1, 0, none⟩) 2 2] 24)).alloc (.cells #[.int .i64 11, .int .i64 0, .int .i64 0, .int .i64 0, .int .i64 0, .int .i64 13, .int .i64 0, .int .i64 0, .int .i64 0, .int .i64 0, .int .i64 8, .int .i64 1, .int .i64 0, .int .i64 0, .int .i64 1, .int .i64 12, .int .i64 3, .int .i64 0, .int .i64 0, .int .i64 0, .int .i64 16, .int .i64 3, .int .i64 0, .int .i64 0, .int .i64 0] 43)).alloc (.cells #[.int .i64 0, .slice (some ⟨w.heap.size + 1 + 1 + 1 + 1 + 1, 0, none⟩) 5 5, .int .i64 0, .slice (some ⟨w.heap.size, 0, none⟩) 2 2] 40)).alloc (.cells #[.slice (some ⟨w.heap.size + 1 + 1 + 1 + 1 + 1 + 1, 0, none⟩) 2 2] 24)) := ⟨_, rfl⟩
  have HF1 := hid (show Fr (fun _ => False) w w1 by rw [hw1]; exact ((((((((Fr.alloc _ _ _).trans (Fr.alloc _ _ _)).trans (Fr.alloc _ _ _)).trans (Fr.alloc _ _ _)).trans (Fr.alloc _ _ _)).trans (Fr.alloc _ _ _)).trans (Fr.alloc _ _ _)).trans (Fr.alloc _ _ _)))
  have HB0 := hid (show TBlk w1 (w.heap.size) #[.int .i64 0, .int .i64 2, .int .i64 0, .int .i64 0, .int .i64 5, .int .i64 16, .int .i64 2, .int .i64 0, .int .i64 0, .int .i64 0] 43 by rw [hw1]; exact ((((((((TBlk.new _ _ _).alloc _).alloc _).alloc _).alloc _).alloc _).alloc _).alloc _))
  have HB1 := hid (show TBlk w1 (w.heap.size + 1) #[.int .i64 0, .slice (some ⟨w.heap.size, 0, none⟩) 2 2] 40 by rw [hw1]; exact ((((((((TBlk.new _ _ _).at (by simp)).alloc _).alloc _).alloc _).alloc _).alloc _).alloc _))
  have HB2 := hid (show TBlk w1 (w.heap.size + 1 + 1) #[.int .i64 8, .int .i64 1, .int .i64 0, .int .i64 0, .int .i64 1, .int .i64 9, .int .i64 0, .int .i64 1, .int .i64 0, .int .i64 0, .int .i64 16, .int .i64 0, .int .i64 0, .int .i64 0, .int .i64 0] 43 by rw [hw1]; exact (((((((TBlk.new _ _ _).at (by simp)).alloc _).alloc _).alloc _).alloc _).alloc _))
  have HB3 := hid (show TBlk w1 (w.heap.size + 1 + 1 + 1) #[.int .i64 0, .slice (some ⟨w.heap.size + 1 + 1, 0, none⟩) 3 3, .int .i64 0, .slice (some ⟨w.heap.size, 0, none⟩) 2 2] 40 by rw [hw1]; exact ((((((TBlk.new _ _ _).at (by simp)).alloc _).alloc _).alloc _).alloc _))
  have HB4 := hid (show TBlk w1 (w.heap.size + 1 + 1 + 1 + 1) #[.slice (some ⟨w.heap.size + 1 + 1 + 1, 0, none⟩) 2 2] 24 by rw [hw1]; exact (((((TBlk.new _ _ _).at (by simp)).alloc _).alloc _).alloc _))
  have HB5 := hid (show TBlk w1 (w.heap.size + 1 + 1 + 1 + 1 + 1) #[.int .i64 11, .int .i64 0, .int .i64 0, .int .i64 0, .int .i64 0, .int .i64 13, .int .i64 0, .int .i64 0, .int .i64 0, .int .i64 0, .int .i64 8, .int .i64 1, .int .i64 0, .int .i64 0, .int .i64 1, .int .i64 12, .int .i64 3, .int .i64 0, .int .i64 0, .int .i64 0, .int .i64 16, .int .i64 3, .int .i64 0, .int .i64 0, .int .i64 0] 43 by rw [hw1]; exact ((((TBlk.new _ _ _).at (by simp)).alloc _).alloc _))
  have HB6 := hid (show TBlk w1 (w.heap.size + 1 + 1 + 1 + 1 + 1 + 1) #[.int .i64 0, .slice (some ⟨w.heap.size + 1 + 1 + 1 + 1 + 1, 0, none⟩) 5 5, .int .i64 0, .slice (some ⟨w.heap.size, 0, none⟩) 2 2] 40 by rw [hw1]; exact (((TBlk.new _ _ _).at (by simp)).alloc _))
  have HB7 := hid (show TBlk w1 (w.heap.size + 1 + 1 + 1 + 1 + 1 + 1 + 1) #[.slice (some ⟨w.heap.size + 1 + 1 + 1 + 1 + 1 + 1, 0, none⟩) 2 2] 24 by rw [hw1]; exact ((TBlk.new _ _ _).at (by simp)))
  have hz : w1.heap.size = w.heap.size + 8 := by rw [hw1]; simp
  have HP1 := hid (show Prg w1 w1.heap.size (some ⟨w.heap.size + 1 + 1 + 1, 0, none⟩) exP from prg_two (TBlk.blk HB3.out) (by omega) (cod_blk (TBlk.blk HB2.out) rfl (by omega)) (cod_blk (TBlk.blk HB0.out) rfl (by omega)) rfl rfl)
  have HQ1 := hid (show Prg w1 w1.heap.size (some ⟨w.heap.size + 1 + 1 + 1 + 1 + 1 + 1, 0, none⟩) exQ from prg_two (TBlk.blk HB6.out) (by omega) (cod_blk (TBlk.blk HB5.out) rfl (by omega)) (cod_blk (TBlk.blk HB0.out) rfl (by omega)) rfl rfl)
  have HT := hid ht
  clear hz ht HB0 HB1 HB2 HB3 HB5 HB6
  go_enter Tryd.func8, Tryd.ntmps8
  go_upto_region 4 with fail
  rw [← hw1]
  clear hw1
  have p4 := (TBlk.blk HB4.out).cell (i := 0) rfl
  simp only [List.getElem_toArray, List.getElem_cons_zero] at p4
  have l4 := (TBlk.blk HB4.out).lt
  go_wp2_with fail
  refine (run_any _ 2 2 exP 100 w1 (HT.out.same HF1.out) HP1.out rfl (by omega)).mono ?_
  rintro e w2 ⟨rows, st, er, A1, cap1, hri, rfl, hO1, hF2⟩
  obtain ⟨rfl, rfl, rfl⟩ := run_one (N := 100) exP_acc (by omega) hri exP_run
  have HR2 := hid (OwnR.rdR hO1)
  have HF2 := hid hF2
  have HB72 := hid (HB7.out.keep hF2 (fun h => h))
  have HQ2 := hid ((HQ1.out.same hF2 (Nat.le_refl _)).more hF2.size)
  have p7 := (TBlk.blk HB72.out).cell (i := 0) rfl
  simp only [List.getElem_toArray, List.getElem_cons_zero] at p7
  have l7 := (TBlk.blk HB72.out).lt
  simp only [show exPr.length = 2 from rfl]
  clear hri hO1 hF2 p4 l4
  go_wp2_with fail
  refine (run_any _ 2 2 exQ 100 w2 (HT.out.same (HF1.out.trans HF2.out)) HQ2.out rfl (by omega)).mono ?_
  rintro e w3 ⟨rows, st, er, A2, cap2, hri, rfl, hO2, hF3⟩
  obtain ⟨rfl, rfl, rfl⟩ := run_one (N := 100) exQ_acc (by omega) hri exQ_run
  have HR3 := hid (OwnR.rdR hO2)
  have HR23 := hid (HR2.out.same hF3)
  have HF3 := hid hF3
  simp only [show exQr.length = 2 from rfl]
  clear hri hO2 hF3 p7 l7
  go_wp2_with fail
  obtain ⟨w4, hw4⟩ : ∃ w4, w4 = w3.alloc (.cells (flatR exPr).toArray 33) := ⟨_, rfl⟩
  have HF4 := hid (show Fr (fun _ => False) w3 w4 by rw [hw4]; exact Fr.alloc _ _ _)
  have HB4 := hid (show Blk w4 w3.heap.size (flatR exPr).toArray by rw [hw4]; exact Blk.new _ _ _)
  change Calls _ _ _ (w3.alloc (.cells (flatR exPr).toArray 33)) _
  rw [← hw4]
  clear hw4
  refine (rows_any _ _ 2 _ 2 _ exPr exPr w4 (HR23.out.same HF4.out) (blk_rdR HB4.out rfl) rfl rfl (by omega) (by omega)).mono ?_
  rintro e w5 ⟨rfl, hF5⟩
  have hd : decide (exPr = exPr) = true := decide_eq_true rfl
  rw [hd]
  have HF5 := hid hF5
  clear hF5 hd HB4
  go_wp2_with fail
  obtain ⟨w6, hw6⟩ : ∃ w6, w6 = w5.alloc (.cells (flatR exQr).toArray 33) := ⟨_, rfl⟩
  have HF6 := hid (show Fr (fun _ => False) w5 w6 by rw [hw6]; exact Fr.alloc _ _ _)
  have HB6 := hid (show Blk w6 w5.heap.size (flatR exQr).toArray by rw [hw6]; exact Blk.new _ _ _)
  change Calls _ _ _ (w5.alloc (.cells (flatR exQr).toArray 33)) _
  rw [← hw6]
  clear hw6
  refine (rows_any _ _ 2 _ 2 _ exQr exQr w6 (HR3.out.same (HF4.out.trans (HF5.out.trans HF6.out))) (blk_rdR HB6.out rfl) rfl rfl (by omega) (by omega)).mono ?_
  rintro e w7 ⟨rfl, hF7⟩
  have hd : decide (exQr = exQr) = true := decide_eq_true rfl
  rw [hd]
  have HF7 := hid hF7
  clear hF7 hd HB6
  go_wp2_with fail
  go_ret
  exact ⟨rfl, HF1.out.trans (HF2.out.trans (HF3.out.trans (HF4.out.trans (HF5.out.trans (HF6.out.trans HF7.out)))))⟩

end Go.Proofs.YtpjcdjooiaefdaaDoor
