/-
  FrameRing.
-/
import Derived.Test.YtedpgfldkjimpaaDoorRing
import Derived.Deep.LoopGhost
namespace Go.Proofs.YtedpgfldkjimpaaDoor
open Go.RowKit
set_option linter.unusedVariables false

theorem flat5 {l : List Ins} {i : Nat} {x : Ins} (hi : l[i]? = some x) {j : Nat} (hj : j < 5) : (l.flatMap Ins.cells)[i * 5 + j]? = x.cells[j]? := by
  induction l generalizing i with
  | nil => simp at hi
  | cons y r ih =>
    rw [List.flatMap_cons]
    cases i with
    | zero =>
      simp at hi
      subst hi
      rw [Nat.zero_mul, Nat.zero_add, List.getElem?_append_left (by show j < 5; exact hj)]
    | succ i =>
      simp only [List.getElem?_cons_succ] at hi
      rw [List.getElem?_append_right (by show 5 ≤ _; rw [Nat.succ_mul]; omega), show (i + 1) * 5 + j - y.cells.length = i * 5 + j by show _ - 5 = _; rw [Nat.succ_mul]; omega]
      exact ih hi

/-- The instructions of a list, as they lie. -/
def insRow (L : List Ins) : Array Value := (L.flatMap Ins.cells).toArray

theorem insRow_at {w : World} {s : Nat} {L : List Ins} (h : Blk w s (insRow L)) {k : Nat} (hk : k < L.length) :
    w.cell? ⟨s, k * 5, none⟩ = some (.int .i64 (L.getD k ⟨0, 0, 0, 0, 0⟩).op) ∧ w.cell? ⟨s, k * 5 + 1, none⟩ = some (.int .i64 (L.getD k ⟨0, 0, 0, 0, 0⟩).a) ∧ w.cell? ⟨s, k * 5 + 2, none⟩ = some (.int .i64 (L.getD k ⟨0, 0, 0, 0, 0⟩).b) ∧ w.cell? ⟨s, k * 5 + 3, none⟩ = some (.int .i64 (L.getD k ⟨0, 0, 0, 0, 0⟩).c) ∧ w.cell? ⟨s, k * 5 + 4, none⟩ = some (.int .i64 (L.getD k ⟨0, 0, 0, 0, 0⟩).n) := by
  have hx : L[k]? = some (L.getD k ⟨0, 0, 0, 0, 0⟩) := by
    rw [List.getD_eq_getElem?_getD, List.getElem?_eq_getElem hk]
    rfl
  have hh : ∀ j, j < 5 → ∀ v, (L.getD k ⟨0, 0, 0, 0, 0⟩).cells[j]? = some v → w.cell? ⟨s, k * 5 + j, none⟩ = some v := fun j hj v hv => h.cell (by
    unfold insRow
    rw [List.getElem?_toArray, flat5 hx hj]
    exact hv)
  exact ⟨hh 0 (by omega) _ rfl, hh 1 (by omega) _ rfl, hh 2 (by omega) _ rfl, hh 3 (by omega) _ rfl, hh 4 (by omega) _ rfl⟩

/-- A round's beginning. -/
def RgRel (cel : Frm → Array Value) (F : Frm) (L : List Ins) (n g s : Nat) (w0 : World) (d : Nat) (x : Value) (wr : World) : Prop := ∃ k : Nat, k ≤ n ∧ d = n - k ∧ x = .int .i64 k ∧ Blk wr g (cel (runs F L k)) ∧ Blk wr s (insRow L) ∧ w0.heap.size ≤ wr.heap.size ∧ Fr (fun j => j = g) w0 wr


set_option maxRecDepth 100000 in
set_option maxHeartbeats 8000000 in
theorem ringLawC {cel : Frm → Array Value} (hC : Cel cel) (a b c : Int) (W : World) (ht : Tabs W) (ha : wrap64 a = a) : Calls Tryd.prog 8 #[.int .i64 a, .int .i64 b, .int .i64 c] W (LawPost W) := by
  have HT := hid (fun (w' : World) (F' : Fr (fun _ => False) W w') => ht.same F')
  clear ht
  obtain ⟨N, hN, hN1, hN2⟩ := nineteen
  have hsz : ∀ F, (cel F).size = N := fun F => by rw [hC.size, hN]
  have HN := hid hN
  clear hN
  obtain ⟨F0, hF0⟩ : ∃ F0, F0 = regs3 a b c := ⟨_, rfl⟩
  have HF0 := hid hF0
  go_enter Tryd.func8, Tryd.ntmps8
  go_wp2_with fail
  refine (root_any hC W).mono ?_
  rintro e w1 ⟨rfl, hF1⟩
  have HA1 := hid hF1
  have hst1 := store_at (P := Tryd.prog) (Blk.new w1 zeros 25) rfl (hC.size Frm.root) (hC.one Frm.root)
  have hz1 : (w1.alloc (.cells zeros 25)).setRow w1.heap.size (cel Frm.root) = w1.alloc (.cells (cel Frm.root) 25) := setRowA _ _ _ _
  rw [hz1] at hst1
  unfold zeros at hst1
  have p0 : (cel Frm.root).setIfInBounds 2 (.int .i64 a) = cel (Frm.root.put 0 a) := hC.put Frm.root 0 a (by omega)
  have p1 : (cel (Frm.root.put 0 a)).setIfInBounds 3 (.int .i64 b) = cel ((Frm.root.put 0 a).put 1 b) := hC.put _ 1 b (by omega)
  have p2 : (cel ((Frm.root.put 0 a).put 1 b)).setIfInBounds 4 (.int .i64 c) = cel F0 := by rw [hF0]; exact hC.put _ 2 c (by omega)
  have r0 : (cel Frm.root)[2]? = some (.int .i64 (Frm.root.r 0)) := hC.r Frm.root 0 (by omega)
  have r1 : (cel (Frm.root.put 0 a))[3]? = some (.int .i64 ((Frm.root.put 0 a).r 1)) := hC.r _ 1 (by omega)
  have r2 : (cel ((Frm.root.put 0 a).put 1 b))[4]? = some (.int .i64 (((Frm.root.put 0 a).put 1 b).r 2)) := hC.r _ 2 (by omega)
  clear hF0 hF1 hz1
  obtain ⟨w2, hw2⟩ : ∃ w2, w2 = w1.alloc (.cells (cel F0) 25) := ⟨_, rfl⟩
  have HA2 := hid (show Fr (fun _ => False) w1 w2 by rw [hw2]; exact Fr.alloc _ _ _)
  have HG2 := hid (show Blk w2 w1.heap.size (cel F0) by rw [hw2]; exact Blk.new _ _ _)
  obtain ⟨w3, hw3⟩ : ∃ w3, w3 = w2.alloc (.cells (insRow ringL) 27) := ⟨_, rfl⟩
  have HA3 := hid (show Fr (fun _ => False) w2 w3 by rw [hw3]; exact Fr.alloc _ _ _)
  have HS3 := hid (show Blk w3 w2.heap.size (insRow ringL) by rw [hw3]; exact Blk.new _ _ _)
  rw [show insRow ringL = #[.int .i64 2, .int .i64 3, .int .i64 0, .int .i64 1, .int .i64 0, .int .i64 2, .int .i64 4, .int .i64 1, .int .i64 0, .int .i64 0, .int .i64 3, .int .i64 5, .int .i64 3, .int .i64 1, .int .i64 0, .int .i64 4, .int .i64 6, .int .i64 3, .int .i64 2, .int .i64 0] from rfl] at hw3
  go_upto_region 5 with fail
  rw [← hw2]
  clear hw2 hst1 p0 p1 p2 r0 r1 r2
  go_upto_region 6 with fail
  rw [← hw3]
  clear hw3
  have HGs := hid (HG2.out.keep HA3.out (fun h => h))
  have HSs := hid HS3.out
  have HAs := hid (HA1.out.trans (HA2.out.trans HA3.out))
  have HLs := hid HA1.out.size
  have HNE := hid (show ¬ (w2.heap.size = w1.heap.size) by have := HG2.out.lt; omega)
  go_wp2_with fail
  go_loopg [9] 4 (fun d x wr => RgRel cel F0 ringL 4 w1.heap.size w2.heap.size w3 d x wr)
  case atStart => exact ⟨0, by omega, by omega, rfl, HGs.out, HSs.out, Nat.le_refl _, Fr.refl _ _⟩
  case round =>
    obtain ⟨wo, hwo⟩ : ∃ wo, wo = wr := ⟨_, rfl⟩
    subst hwo
    obtain ⟨k, hk, hd, rfl, hG, hS, hsize, hF⟩ := hrel
    have HD := hid hd
    have HG := hid hG
    have HSL := hid hS
    have HSZ := hid hsize
    have HFR := hid hF
    clear hd hG hS hsize hF
    have HAk := hid (HAs.out.over HFR.out HLs.out)
    by_cases hlt : k < 4
    · obtain ⟨c0, c1, c2, c3, c4⟩ := insRow_at HSL.out (show k < ringL.length from hlt)
      have hbk := ringL_ok k hlt
      have HC := hid (fun w' (F' : Fr (fun _ => False) W w') => fplain_any hC (runs F0 ringL k) (ringL.getD k ⟨0, 0, 0, 0, 0⟩) w' (HT.out w' F'))
      rw [hbk, show (runs F0 ringL k).plain (ringL.getD k ⟨0, 0, 0, 0, 0⟩) = runs F0 ringL (k + 1) from rfl] at HC
      clear hbk
      obtain ⟨X, hX⟩ : ∃ X, runs F0 ringL k = X := ⟨_, rfl⟩
      obtain ⟨Y, hY⟩ : ∃ Y, runs F0 ringL (k + 1) = Y := ⟨_, rfl⟩
      rw [hX] at HC HG
      rw [hY] at HC
      have HY := hid hY
      clear hX hY
      obtain ⟨i, hi⟩ : ∃ i, ringL.getD k ⟨0, 0, 0, 0, 0⟩ = i := ⟨_, rfl⟩
      rw [hi] at HC c0 c1 c2 c3 c4
      clear hi
      obtain ⟨op, ia, ib, ic, im⟩ := i
      simp only at c0 c1 c2 c3 c4
      unfold Ins.val at HC
      simp only at HC
      have hsz : ∀ F, (cel F).size = N := fun F => by rw [hC.size, HN.out]
      have hkb : (0 : Int) ≤ k ∧ (k : Int) < 4 := by omega
      have HCELLS := hid (show ∀ w', Fr (fun _ => False) wo w' → (loadCellsFrom ⟨w1.heap.size, 0, none⟩ 0 N #[]).run Tryd.prog w' = .ok (cel X) w' ∧ w'.cell? ⟨w2.heap.size, k * 5, none⟩ = some (.int .i64 op) ∧ w'.cell? ⟨w2.heap.size, k * 5 + 1, none⟩ = some (.int .i64 ia) ∧ w'.cell? ⟨w2.heap.size, k * 5 + 2, none⟩ = some (.int .i64 ib) ∧ w'.cell? ⟨w2.heap.size, k * 5 + 3, none⟩ = some (.int .i64 ic) ∧ w'.cell? ⟨w2.heap.size, k * 5 + 4, none⟩ = some (.int .i64 im) from fun w' F' => ⟨load_eq (HG.out.keep F' (fun h => h)) (hsz _), (cell_keep F' (p := ⟨w2.heap.size, k * 5, none⟩) HSL.out.lt (fun h => h)).trans c0, (cell_keep F' (p := ⟨w2.heap.size, k * 5 + 1, none⟩) HSL.out.lt (fun h => h)).trans c1, (cell_keep F' (p := ⟨w2.heap.size, k * 5 + 2, none⟩) HSL.out.lt (fun h => h)).trans c2, (cell_keep F' (p := ⟨w2.heap.size, k * 5 + 3, none⟩) HSL.out.lt (fun h => h)).trans c3, (cell_keep F' (p := ⟨w2.heap.size, k * 5 + 4, none⟩) HSL.out.lt (fun h => h)).trans c4⟩)
      clear c0 c1 c2 c3 c4
      go_upto_region 9 with fail
      go_cut [10, 11] from 38 to 45 (fun u v wx => CameB cel Y true wo u v wx)
      case first =>
        have HFd := hid (Fr.refl (fun _ => False) wo)
        have hstC : ∀ (V : World) (Z : Frm), (storeCells ⟨V.heap.size, 0, none⟩ (cel Z).toList 0).run Tryd.prog (V.alloc (.cells zeros 25)) = .ok () ((V.alloc (.cells zeros 25)).setRow V.heap.size (cel Z)) := fun V Z => store_at (Blk.new V zeros _) rfl (hC.size Z) (hC.one Z)
        have hstD : ∀ (V : World) (Z : Frm), (storeCells ⟨V.heap.size, 0, none⟩ (cel Z).toList 0).run Tryd.prog (V.alloc (.cells zeros 25)).drew = .ok () ((V.alloc (.cells zeros 25)).drew.setRow V.heap.size (cel Z)) := fun V Z => store_at (Blk.new V zeros _).drew rfl (hC.size Z) (hC.one Z)
        unfold zeros at hstC hstD
        go_region_held3 (fun w' => (loadCellsFrom ⟨w1.heap.size, 0, none⟩ 0 N #[]).run Tryd.prog w' = .ok (cel X) w' ∧ w'.cell? ⟨w2.heap.size, k * 5, none⟩ = some (.int .i64 op) ∧ w'.cell? ⟨w2.heap.size, k * 5 + 1, none⟩ = some (.int .i64 ia) ∧ w'.cell? ⟨w2.heap.size, k * 5 + 2, none⟩ = some (.int .i64 ib) ∧ w'.cell? ⟨w2.heap.size, k * 5 + 3, none⟩ = some (.int .i64 ic) ∧ w'.cell? ⟨w2.heap.size, k * 5 + 4, none⟩ = some (.int .i64 im))
          (first | exact HCELLS.out _ HFd.out | exact HCELLS.out _ (HFd.out.trans (Fr.drew _ _)) | exact HCELLS.out _ (HFd.out.trans (Fr.alloc _ _ _)) | exact HCELLS.out _ (HFd.out.trans ((Fr.alloc _ _ _).trans (Fr.drew _ _))) | exact HCELLS.out _ (HFd.out.over (setRow_fr _ _ _ rfl) (Nat.le_refl _)) | exact HCELLS.out _ ((HFd.out.trans (Fr.alloc _ _ _)).over (setRow_fr _ _ _ rfl) HFd.out.size) | exact HCELLS.out _ ((HFd.out.trans ((Fr.alloc _ _ _).trans (Fr.drew _ _))).over (setRow_fr _ _ _ rfl) HFd.out.size))
          (first
            | (go_at_call 13; (with_reducible refine (HC.out _ (HAk.out.trans (by first | exact HFd.out | exact HFd.out.trans (Fr.drew _ _) | exact HFd.out.trans (Fr.alloc _ _ _) | exact HFd.out.trans ((Fr.alloc _ _ _).trans (Fr.drew _ _))))).mono ?_); rintro e w7 ⟨rfl, hF7⟩; (try (have HBB := hid (blk_of' hF7); have hst := fun Z => store_at (P := Tryd.prog) HBB.out rfl (hC.size Z) (hC.one Z))); (try (have HBB := hid (blk_of hF7); have hst := fun Z => store_at (P := Tryd.prog) HBB.out rfl (hC.size Z) (hC.one Z))); have HFd := hid (HFd.out.trans (Fr.trans (by first | exact Fr.refl _ _ | exact Fr.drew _ _ | exact Fr.alloc _ _ _ | exact (Fr.alloc _ _ _).trans (Fr.drew _ _)) hF7)); clear hF7))
        all_goals
          go_wp2_with fail
          go_meet
          case rel => first
            | exact ⟨_, rfl, rfl, setRow_blk HBB.out _, HFd.out.over (setRow_fr _ _ _ rfl) (Nat.le_refl _)⟩
            | exact ⟨_, rfl, rfl, setRow_blk (Blk.new _ _ _) _, (HFd.out.trans (Fr.alloc _ _ _)).over (setRow_fr _ _ _ rfl) HFd.out.size⟩
            | exact ⟨_, rfl, rfl, setRow_blk (Blk.new _ _ _).drew _, (HFd.out.trans ((Fr.alloc _ _ _).trans (Fr.drew _ _))).over (setRow_fr _ _ _ rfl) HFd.out.size⟩
      case rest =>
        obtain ⟨g5, rfl, rfl, hB5, hF5⟩ := hcut
        have hG5 := HG.out.keep hF5 (fun h => h)
        have hS5 := HSL.out.keep hF5 (fun h => h)
        clear HCELLS hsz
        go_wp2_with (first
          | (refine row_load rfl 25 _ rfl _ rfl hB5 Tryd.underlying25 rfl infoF (hC.size _) ?_)
          | (refine row_store rfl 25 _ _ rfl _ _ rfl rfl hG5 infoF (hC.size _) (hC.size _) (hC.one _) ?_))
        intro w9 hB9 hF9
        go_wp2_with fail
        go_roundg (4 - (k + 1))
        case rel => exact ⟨k + 1, by omega, by omega, by go_num, by rw [HY.out]; exact hB9, hS5.keep hF9 (show ¬ (w2.heap.size = w1.heap.size) from HNE.out), Nat.le_trans HSZ.out (Nat.le_trans hF5.size hF9.size), HFR.out.trans ((hF5.mono (fun _ h => h.elim)).trans hF9)⟩
        case measure => have := HD.out; omega
    · obtain rfl : k = 4 := by omega
      obtain ⟨e3, e4, e5⟩ := ring_34 a b c
      rw [← HF0.out] at e3 e4 e5
      rw [ha] at e5
      obtain ⟨G4, hG4⟩ : ∃ G4, runs F0 ringL 4 = G4 := ⟨_, rfl⟩
      rw [hG4] at HG e3 e4 e5
      have HG4 := hid hG4
      clear hG4
      obtain ⟨s, hs⟩ : ∃ s, wrap64 (a + b) = s := ⟨_, rfl⟩
      rw [hs] at e3 e4
      have q3 := HG.out.cell (hC.r G4 3 (by omega))
      have q4 := HG.out.cell (hC.r G4 4 (by omega))
      have q5 := HG.out.cell (hC.r G4 5 (by omega))
      rw [e3] at q3
      rw [e4] at q4
      rw [e5] at q5
      simp only [Nat.reduceAdd] at q3 q4 q5
      clear e3 e4 e5 hs
      obtain ⟨w5, hw5⟩ : ∃ w5, w5 = wo.alloc (.cells (insRow ringM) 27) := ⟨_, rfl⟩
      have HA5 := hid (show Fr (fun _ => False) wo w5 by rw [hw5]; exact Fr.alloc _ _ _)
      have HS5 := hid (show Blk w5 wo.heap.size (insRow ringM) by rw [hw5]; exact Blk.new _ _ _)
      rw [show insRow ringM = #[.int .i64 4, .int .i64 3, .int .i64 0, .int .i64 2, .int .i64 0, .int .i64 4, .int .i64 4, .int .i64 2, .int .i64 1, .int .i64 0, .int .i64 2, .int .i64 3, .int .i64 3, .int .i64 4, .int .i64 0] from rfl] at hw5
      go_upto_region 16 with fail
      rw [← hw5]
      clear hw5 q3 q4 q5
      have HGs := hid (HG.out.keep HA5.out (fun h => h))
      have HSs := hid HS5.out
      have HAs := hid (HAk.out.trans HA5.out)
      have HNE := hid (show ¬ (wo.heap.size = w1.heap.size) by have := HG.out.lt; omega)
      clear HG HSL HSZ HFR HD HAk
      go_wp2_with fail
      go_loopg [13] 3 (fun d x wr => RgRel cel G4 ringM 3 w1.heap.size wo.heap.size w5 d x wr)
      case atStart => exact ⟨0, by omega, by omega, rfl, HGs.out, HSs.out, Nat.le_refl _, Fr.refl _ _⟩
      case round =>
        obtain ⟨wp, hwo⟩ : ∃ wp, wp = wr := ⟨_, rfl⟩
        subst hwo
        obtain ⟨k, hk, hd, rfl, hG, hS, hsize, hF⟩ := hrel
        have HD := hid hd
        have HG := hid hG
        have HSL := hid hS
        have HSZ := hid hsize
        have HFR := hid hF
        clear hd hG hS hsize hF
        have HAk := hid (HAs.out.over HFR.out HLs.out)
        by_cases hlt : k < 3
        · obtain ⟨c0, c1, c2, c3, c4⟩ := insRow_at HSL.out (show k < ringM.length from hlt)
          have hbk := ringM_ok k hlt
          have HC := hid (fun w' (F' : Fr (fun _ => False) W w') => fplain_any hC (runs G4 ringM k) (ringM.getD k ⟨0, 0, 0, 0, 0⟩) w' (HT.out w' F'))
          rw [hbk, show (runs G4 ringM k).plain (ringM.getD k ⟨0, 0, 0, 0, 0⟩) = runs G4 ringM (k + 1) from rfl] at HC
          clear hbk
          obtain ⟨X, hX⟩ : ∃ X, runs G4 ringM k = X := ⟨_, rfl⟩
          obtain ⟨Y, hY⟩ : ∃ Y, runs G4 ringM (k + 1) = Y := ⟨_, rfl⟩
          rw [hX] at HC HG
          rw [hY] at HC
          have HY := hid hY
          clear hX hY
          obtain ⟨i, hi⟩ : ∃ i, ringM.getD k ⟨0, 0, 0, 0, 0⟩ = i := ⟨_, rfl⟩
          rw [hi] at HC c0 c1 c2 c3 c4
          clear hi
          obtain ⟨op, ia, ib, ic, im⟩ := i
          simp only at c0 c1 c2 c3 c4
          unfold Ins.val at HC
          simp only at HC
          have hsz : ∀ F, (cel F).size = N := fun F => by rw [hC.size, HN.out]
          have hkb : (0 : Int) ≤ k ∧ (k : Int) < 3 := by omega
          have HCELLS := hid (show ∀ w', Fr (fun _ => False) wp w' → (loadCellsFrom ⟨w1.heap.size, 0, none⟩ 0 N #[]).run Tryd.prog w' = .ok (cel X) w' ∧ w'.cell? ⟨wo.heap.size, k * 5, none⟩ = some (.int .i64 op) ∧ w'.cell? ⟨wo.heap.size, k * 5 + 1, none⟩ = some (.int .i64 ia) ∧ w'.cell? ⟨wo.heap.size, k * 5 + 2, none⟩ = some (.int .i64 ib) ∧ w'.cell? ⟨wo.heap.size, k * 5 + 3, none⟩ = some (.int .i64 ic) ∧ w'.cell? ⟨wo.heap.size, k * 5 + 4, none⟩ = some (.int .i64 im) from fun w' F' => ⟨load_eq (HG.out.keep F' (fun h => h)) (hsz _), (cell_keep F' (p := ⟨wo.heap.size, k * 5, none⟩) HSL.out.lt (fun h => h)).trans c0, (cell_keep F' (p := ⟨wo.heap.size, k * 5 + 1, none⟩) HSL.out.lt (fun h => h)).trans c1, (cell_keep F' (p := ⟨wo.heap.size, k * 5 + 2, none⟩) HSL.out.lt (fun h => h)).trans c2, (cell_keep F' (p := ⟨wo.heap.size, k * 5 + 3, none⟩) HSL.out.lt (fun h => h)).trans c3, (cell_keep F' (p := ⟨wo.heap.size, k * 5 + 4, none⟩) HSL.out.lt (fun h => h)).trans c4⟩)
          clear c0 c1 c2 c3 c4
          go_upto_region 19 with fail
          go_cut [14, 15] from 74 to 81 (fun u v wx => CameB cel Y true wp u v wx)
          case first =>
            have HFd := hid (Fr.refl (fun _ => False) wp)
            have hstC : ∀ (V : World) (Z : Frm), (storeCells ⟨V.heap.size, 0, none⟩ (cel Z).toList 0).run Tryd.prog (V.alloc (.cells zeros 25)) = .ok () ((V.alloc (.cells zeros 25)).setRow V.heap.size (cel Z)) := fun V Z => store_at (Blk.new V zeros _) rfl (hC.size Z) (hC.one Z)
            have hstD : ∀ (V : World) (Z : Frm), (storeCells ⟨V.heap.size, 0, none⟩ (cel Z).toList 0).run Tryd.prog (V.alloc (.cells zeros 25)).drew = .ok () ((V.alloc (.cells zeros 25)).drew.setRow V.heap.size (cel Z)) := fun V Z => store_at (Blk.new V zeros _).drew rfl (hC.size Z) (hC.one Z)
            unfold zeros at hstC hstD
            go_region_held3 (fun w' => (loadCellsFrom ⟨w1.heap.size, 0, none⟩ 0 N #[]).run Tryd.prog w' = .ok (cel X) w' ∧ w'.cell? ⟨wo.heap.size, k * 5, none⟩ = some (.int .i64 op) ∧ w'.cell? ⟨wo.heap.size, k * 5 + 1, none⟩ = some (.int .i64 ia) ∧ w'.cell? ⟨wo.heap.size, k * 5 + 2, none⟩ = some (.int .i64 ib) ∧ w'.cell? ⟨wo.heap.size, k * 5 + 3, none⟩ = some (.int .i64 ic) ∧ w'.cell? ⟨wo.heap.size, k * 5 + 4, none⟩ = some (.int .i64 im))
              (first | exact HCELLS.out _ HFd.out | exact HCELLS.out _ (HFd.out.trans (Fr.drew _ _)) | exact HCELLS.out _ (HFd.out.trans (Fr.alloc _ _ _)) | exact HCELLS.out _ (HFd.out.trans ((Fr.alloc _ _ _).trans (Fr.drew _ _))) | exact HCELLS.out _ (HFd.out.over (setRow_fr _ _ _ rfl) (Nat.le_refl _)) | exact HCELLS.out _ ((HFd.out.trans (Fr.alloc _ _ _)).over (setRow_fr _ _ _ rfl) HFd.out.size) | exact HCELLS.out _ ((HFd.out.trans ((Fr.alloc _ _ _).trans (Fr.drew _ _))).over (setRow_fr _ _ _ rfl) HFd.out.size))
              (first
                | (go_at_call 13; (with_reducible refine (HC.out _ (HAk.out.trans (by first | exact HFd.out | exact HFd.out.trans (Fr.drew _ _) | exact HFd.out.trans (Fr.alloc _ _ _) | exact HFd.out.trans ((Fr.alloc _ _ _).trans (Fr.drew _ _))))).mono ?_); rintro e w7 ⟨rfl, hF7⟩; (try (have HBB := hid (blk_of' hF7); have hst := fun Z => store_at (P := Tryd.prog) HBB.out rfl (hC.size Z) (hC.one Z))); (try (have HBB := hid (blk_of hF7); have hst := fun Z => store_at (P := Tryd.prog) HBB.out rfl (hC.size Z) (hC.one Z))); have HFd := hid (HFd.out.trans (Fr.trans (by first | exact Fr.refl _ _ | exact Fr.drew _ _ | exact Fr.alloc _ _ _ | exact (Fr.alloc _ _ _).trans (Fr.drew _ _)) hF7)); clear hF7))
            all_goals
              go_wp2_with fail
              go_meet
              case rel => first
                | exact ⟨_, rfl, rfl, setRow_blk HBB.out _, HFd.out.over (setRow_fr _ _ _ rfl) (Nat.le_refl _)⟩
                | exact ⟨_, rfl, rfl, setRow_blk (Blk.new _ _ _) _, (HFd.out.trans (Fr.alloc _ _ _)).over (setRow_fr _ _ _ rfl) HFd.out.size⟩
                | exact ⟨_, rfl, rfl, setRow_blk (Blk.new _ _ _).drew _, (HFd.out.trans ((Fr.alloc _ _ _).trans (Fr.drew _ _))).over (setRow_fr _ _ _ rfl) HFd.out.size⟩
          case rest =>
            obtain ⟨g5, rfl, rfl, hB5, hF5⟩ := hcut
            have hG5 := HG.out.keep hF5 (fun h => h)
            have hS5 := HSL.out.keep hF5 (fun h => h)
            clear HCELLS hsz
            go_wp2_with (first
              | (refine row_load rfl 25 _ rfl _ rfl hB5 Tryd.underlying25 rfl infoF (hC.size _) ?_)
              | (refine row_store rfl 25 _ _ rfl _ _ rfl rfl hG5 infoF (hC.size _) (hC.size _) (hC.one _) ?_))
            intro w9 hB9 hF9
            go_wp2_with fail
            go_roundg (3 - (k + 1))
            case rel => exact ⟨k + 1, by omega, by omega, by go_num, by rw [HY.out]; exact hB9, hS5.keep hF9 (show ¬ (wo.heap.size = w1.heap.size) from HNE.out), Nat.le_trans HSZ.out (Nat.le_trans hF5.size hF9.size), HFR.out.trans ((hF5.mono (fun _ h => h.elim)).trans hF9)⟩
            case measure => have := HD.out; omega
        · obtain rfl : k = 3 := by omega
          obtain ⟨e3, e6, est, epc⟩ := ring_end a b c
          rw [← HF0.out, HG4.out] at e3 e6 est epc
          obtain ⟨G7, hG7⟩ : ∃ G7, runs G4 ringM 3 = G7 := ⟨_, rfl⟩
          rw [hG7] at HG e3 e6 est epc
          obtain ⟨t, ht⟩ : ∃ t, wrap64 ((a + b) * c) = t := ⟨_, rfl⟩
          rw [ht] at e3 e6
          have q3 := HG.out.cell (hC.r G7 3 (by omega))
          have q6 := HG.out.cell (hC.r G7 6 (by omega))
          have q1 := HG.out.cell (hC.pc G7)
          have q18 := HG.out.cell (hC.st G7)
          rw [e3] at q3
          rw [e6] at q6
          rw [epc] at q1
          rw [est] at q18
          simp only [Nat.reduceAdd] at q3 q6
          clear e3 e6 est epc ht hG7
          go_wp2_with fail
          refine (awake_any _ (HT.out _ HAk.out)).mono ?_
          rintro e w9 ⟨rfl, hF9⟩
          go_wp2_with fail
          go_ret
          exact ⟨rfl, HAk.out.trans hF9⟩

theorem ringLaw (a b c : Int) (hw : (Lit.int .i64 a).wf = true) (W : World) (ht : Tabs W) : Calls Tryd.prog 8 #[.int .i64 a, .int .i64 b, .int .i64 c] W (LawPost W) :=
  ringLawC cel_is a b c W ht (IntWalk.wrap64_in a (by
    have hmin : IntKind.i64.min = -9223372036854775808 := rfl
    have hmax : IntKind.i64.max = 9223372036854775807 := rfl
    simp only [Lit.wf, Bool.and_eq_true, decide_eq_true_eq] at hw
    omega))

end Go.Proofs.YtedpgfldkjimpaaDoor
