/-
  The document's Plain.
-/
import Derived.Test.YtedpgfldkjimpaaDoorIns
import Derived.Deep.RegionHeld3
import Derived.Deep.DeepCutAuto
namespace Go.Proofs.YtedpgfldkjimpaaDoor
open Go.RowKit
set_option linter.unusedVariables false

set_option maxRecDepth 100000 in
theorem rplain_no {cel : Frm → Array Value} (hC : Cel cel) (F : Frm) (i : Ins) (w : World) (hk : chk i ≠ 0) :
    Calls Tryd.prog 15 #[.agg (cel F), i.val] w fun e w' => e = .returned (.tuple #[.agg (cel F), .bool false]) ∧ Fr (fun _ => False) w w' := by
  have HM := hid (rcheck_any i)
  obtain ⟨x, hx⟩ : ∃ x, chk i = x := ⟨_, rfl⟩
  rw [hx] at HM hk
  have t0 : (x != 0) = true := by simpa using hk
  clear hx
  unfold Ins.val at *
  obtain ⟨w1, hw1⟩ : ∃ w1, w1 = ((w.alloc (.cells (cel F) 32)).alloc (.cells #[.int .i64 i.op, .int .i64 i.a, .int .i64 i.b, .int .i64 i.c, .int .i64 i.n] 27)).alloc (.cells zeros 32) := ⟨_, rfl⟩
  have HA := hid (show Fr (fun _ => False) w w1 by rw [hw1]; exact ((Fr.alloc _ _ _).trans (Fr.alloc _ _ _)).trans (Fr.alloc _ _ _))
  have HB := hid (show Blk w1 w.heap.size (cel F) by rw [hw1]; exact ((Blk.new _ _ _).alloc _).alloc _)
  have HI := hid (show Blk w1 (w.heap.size + 1) #[.int .i64 i.op, .int .i64 i.a, .int .i64 i.b, .int .i64 i.c, .int .i64 i.n] by rw [hw1]; exact ((Blk.new _ _ _).at (by simp)).alloc _)
  have HZ := hid (show Blk w1 (w.heap.size + 2) zeros by rw [hw1]; exact (Blk.new _ _ _).at (by simp))
  unfold zeros at hw1
  have i0 := HI.out.cell (i := 0) rfl
  have i1 := HI.out.cell (i := 1) rfl
  have i2 := HI.out.cell (i := 2) rfl
  have i3 := HI.out.cell (i := 3) rfl
  have i4 := HI.out.cell (i := 4) rfl
  simp only [List.getElem_toArray, List.getElem_cons_zero, List.getElem_cons_succ] at i0 i1 i2 i3 i4
  go_enter Tryd.func15, Tryd.ntmps15
  go_upto_region 1 with fail
  rw [← hw1]
  clear hw1
  go_wp2_with fail
  refine (HM.out _).mono ?_
  rintro e w2 ⟨rfl, hF2⟩
  have HB2 := HB.out.keep hF2 (fun h => h)
  have HZ2 := HZ.out.keep hF2 (fun h => h)
  go_wp2_with (first
    | (refine row_load rfl 32 _ rfl _ rfl HB2 Tryd.underlying32 rfl infoT (hC.size _) ?_)
    | (refine row_store rfl 32 _ _ rfl _ _ rfl rfl HZ2 infoT rfl (hC.size _) (hC.one _) ?_))
  intro w9 hB9 hF9
  go_wp2_with fail
  exact bodyPost_ret (res_two rfl rfl hB9 Tryd.underlying32 rfl infoT (hC.size _) rfl) rfl ⟨rfl, (HA.out.trans hF2).over hF9 (by omega)⟩

set_option maxRecDepth 100000 in
set_option maxHeartbeats 4000000 in
theorem rplain_in {cel : Frm → Array Value} (hC : Cel cel) (F : Frm) (o a b c : Nat) (n : Int) (w : World) (hk : chk ⟨o, a, b, c, n⟩ = 0) (ho : o ≤ 16) (ha : a < 8) (hb : b < 8) (hc : c < 8) :
    Calls Tryd.prog 15 #[.agg (cel F), Ins.val ⟨o, a, b, c, n⟩] w fun e w' => e = .returned (.tuple #[.agg (cel (F.did o a b c n)), .bool (decide (o ≤ 7))]) ∧ Fr (fun _ => False) w w' := by
  have HM := hid (rcheck_any ⟨o, a, b, c, n⟩)
  rw [hk] at HM
  unfold Ins.val at *
  simp only at *
  clear hk
  obtain ⟨w1, hw1⟩ : ∃ w1, w1 = ((w.alloc (.cells (cel F) 32)).alloc (.cells #[.int .i64 o, .int .i64 a, .int .i64 b, .int .i64 c, .int .i64 n] 27)).alloc (.cells zeros 32) := ⟨_, rfl⟩
  have HA := hid (show Fr (fun _ => False) w w1 by rw [hw1]; exact ((Fr.alloc _ _ _).trans (Fr.alloc _ _ _)).trans (Fr.alloc _ _ _))
  have HB := hid (show Blk w1 w.heap.size (cel F) by rw [hw1]; exact ((Blk.new _ _ _).alloc _).alloc _)
  have HI := hid (show Blk w1 (w.heap.size + 1) (insC o a b c n) by rw [hw1]; exact ((Blk.new _ _ _).at (by simp)).alloc _)
  have HZ := hid (show Blk w1 (w.heap.size + 2) zeros by rw [hw1]; exact (Blk.new _ _ _).at (by simp))
  unfold zeros at hw1
  have hi0 := HI.out
  unfold insC at hi0
  have i0 := hi0.cell (i := 0) rfl
  have i1 := hi0.cell (i := 1) rfl
  have i2 := hi0.cell (i := 2) rfl
  have i3 := hi0.cell (i := 3) rfl
  have i4 := hi0.cell (i := 4) rfl
  simp only [List.getElem_toArray, List.getElem_cons_zero, List.getElem_cons_succ] at i0 i1 i2 i3 i4
  clear hi0
  go_enter Tryd.func15, Tryd.ntmps15
  go_upto_region 1 with fail
  rw [← hw1]
  clear hw1
  go_wp2_with fail
  refine (HM.out _).mono ?_
  rintro e w2 ⟨rfl, hF2⟩
  have HA2 := hid (HA.out.trans hF2)
  have HB2 := hid (HB.out.keep hF2 (fun h => h))
  have HI2 := hid (HI.out.keep hF2 (fun h => h))
  have HZ2 := hid (HZ.out.keep hF2 (fun h => h))
  clear HB HI HZ HA i0 i1 i2 i3 i4 hF2 HM
  go_wp2_with (first
    | (refine mid_load rfl 22 _ rfl w.heap.size 2 rfl (fun j hj => HB2.out.cell (hC.r F j hj)) Tryd.underlying22 rfl infoR ?_)
    | (refine row_store rfl 22 _ _ rfl _ _ rfl rfl (Blk.new w2 #[.int .i64 0, .int .i64 0, .int .i64 0, .int .i64 0, .int .i64 0, .int .i64 0, .int .i64 0, .int .i64 0] 22) infoR rfl rfl (by simp [Value.oneCell']) ?_))
  intro w3 hB3 hF3
  have hR3 : Blk w3 w2.heap.size (row8 F.r) := hB3
  have hF23 : Fr (fun _ => False) w2 w3 := (Fr.alloc _ _ _).over hF3 (Nat.le_refl _)
  have HA3 := hid (HA2.out.trans hF23)
  have HB3 := hid (HB2.out.keep hF23 (fun h => h))
  have HI3 := hid (HI2.out.keep hF23 (fun h => h))
  have HZ3 := hid (HZ2.out.keep hF23 (fun h => h))
  have HR3 := hid hR3
  have HL2 := hid HZ2.out.lt
  clear HA2 HB2 HI2 HZ2 hF23 hF3 hB3 hR3
  have j0 : w3.cell? ⟨w.heap.size + 1, 0, none⟩ = some (.int .i64 o) := HI3.out.cell rfl
  have j1 : w3.cell? ⟨w.heap.size + 1, 1, none⟩ = some (.int .i64 a) := HI3.out.cell rfl
  have j2 : w3.cell? ⟨w.heap.size + 1, 2, none⟩ = some (.int .i64 b) := HI3.out.cell rfl
  have j3 : w3.cell? ⟨w.heap.size + 1, 3, none⟩ = some (.int .i64 c) := HI3.out.cell rfl
  have j4 : w3.cell? ⟨w.heap.size + 1, 4, none⟩ = some (.int .i64 n) := HI3.out.cell rfl
  have ra : w3.cell? ⟨w2.heap.size, a, none⟩ = some (.int .i64 (F.r a)) := HR3.out.cell (row8_at _ a ha)
  have rb : w3.cell? ⟨w2.heap.size, b, none⟩ = some (.int .i64 (F.r b)) := HR3.out.cell (row8_at _ b hb)
  have rc : w3.cell? ⟨w2.heap.size, c, none⟩ = some (.int .i64 (F.r c)) := HR3.out.cell (row8_at _ c hc)
  obtain ⟨z, hz⟩ : ∃ z, F.r a = z := ⟨_, rfl⟩
  obtain ⟨x, hx⟩ : ∃ x, F.r b = x := ⟨_, rfl⟩
  obtain ⟨y, hy⟩ : ∃ y, F.r c = y := ⟨_, rfl⟩
  rw [hz] at ra
  rw [hx] at rb
  rw [hy] at rc
  have HV := hid hz
  have HX := hid hx
  have HY := hid hy
  clear hx hy hz
  have ha0 : (0 : Int) ≤ a ∧ (a : Int) < 8 := by omega
  have hb0 : (0 : Int) ≤ b ∧ (b : Int) < 8 := by omega
  have hc0 : (0 : Int) ≤ c ∧ (c : Int) < 8 := by omega
  go_upto_region 4 with fail
  have hm : o = 0 ∨ o = 1 ∨ o = 2 ∨ o = 3 ∨ o = 4 ∨ o = 5 ∨ o = 6 ∨ o = 7 ∨ (8 ≤ o) := by omega
  rcases hm with rfl | rfl | rfl | rfl | rfl | rfl | rfl | rfl | hm
  · rw [show ((0 : Nat) : Int) = 0 from rfl] at j0
    go_wp2_with (refine row_load rfl 32 _ rfl _ rfl HB3.out Tryd.underlying32 rfl infoT (hC.size _) ?_)
    refine (rwith_any hC F a n _ ha).mono ?_
    rintro e w4 ⟨rfl, hF4⟩
    go_wp2_with fail
    refine (ron_any hC _ _).mono ?_
    rintro e w5 ⟨rfl, hF5⟩
    have hF4 : Fr (fun _ => False) w3 w4 := by first | exact hF4 | exact (Fr.drewN _ _ _).trans hF4
    have hZ5 := HZ3.out.keep (hF4.trans hF5) (fun h => h)
    go_wp2_with (refine row_store rfl 32 _ _ rfl _ _ rfl rfl hZ5 infoT rfl (hC.size _) (hC.one _) ?_)
    intro w9 hB9 hF9
    go_wp2_with fail
    exact bodyPost_ret (res_two rfl rfl hB9 Tryd.underlying32 rfl infoT (hC.size _) rfl) rfl ⟨rfl, (HA3.out.trans (hF4.trans hF5)).over hF9 (by omega)⟩
  · rw [show ((1 : Nat) : Int) = 1 from rfl] at j0
    go_upto_region 8 with fail
    obtain ⟨N, hN, hN1, hN2⟩ := nineteen
    have hsz : ∀ F, (cel F).size = N := fun F => by rw [hC.size, hN]
    have HN := hid hN
    clear hN
    have HS := hid (show ∀ w', Fr (fun k => k = w.heap.size + 2) w3 w' → w'.cell? ⟨w.heap.size + 1, 1, none⟩ = some (.int .i64 a) ∧ w'.cell? ⟨w.heap.size + 1, 2, none⟩ = some (.int .i64 b) ∧ w'.cell? ⟨w2.heap.size, b, none⟩ = some (.int .i64 x) ∧ (loadCellsFrom ⟨w.heap.size, 0, none⟩ 0 N #[]).run Tryd.prog w' = .ok (cel F) w' from fun w' F' => ⟨(cell_keep F' (p := ⟨w.heap.size + 1, 1, none⟩) HI3.out.lt (show ¬ (w.heap.size + 1 = w.heap.size + 2) by omega)).trans j1, (cell_keep F' (p := ⟨w.heap.size + 1, 2, none⟩) HI3.out.lt (show ¬ (w.heap.size + 1 = w.heap.size + 2) by omega)).trans j2, (cell_keep F' (p := ⟨w2.heap.size, b, none⟩) HR3.out.lt (show ¬ (w2.heap.size = w.heap.size + 2) by have := HL2.out; omega)).trans rb, load_eq (HB3.out.keep F' (show ¬ (w.heap.size = w.heap.size + 2) by omega)) (hsz _)⟩)
    have HFd := hid (Fr.refl (fun k => k = w.heap.size + 2) w3)
    have HG := hid (Fr.refl (fun _ => False) w3)
    clear j0 j1 j2 j3 j4 ra rb rc
    go_region_held3 (fun w' => w'.cell? ⟨w.heap.size + 1, 1, none⟩ = some (.int .i64 a) ∧ w'.cell? ⟨w.heap.size + 1, 2, none⟩ = some (.int .i64 b) ∧ w'.cell? ⟨w2.heap.size, b, none⟩ = some (.int .i64 x) ∧ (loadCellsFrom ⟨w.heap.size, 0, none⟩ 0 N #[]).run Tryd.prog w' = .ok (cel F) w')
      (first | exact HS.out _ HFd.out | exact HS.out _ (HFd.out.trans (Fr.drew _ _)) | exact HS.out _ (HFd.out.trans (setRow_fr _ _ _ rfl)))
      (first
        | (go_at_call 45; (with_reducible refine (rwith_any hC F a _ _ ha).mono ?_); rintro e w6 ⟨rfl, hF6⟩; have HG := hid (HG.out.trans (Fr.trans (by first | exact Fr.refl _ _ | exact Fr.drew _ _) hF6)); have HFd := hid (HFd.out.trans (Fr.trans (by first | exact Fr.refl _ _ | exact Fr.drew _ _) (hF6.mono (fun _ h => h.elim)))); clear hF6)
        | (go_at_call 30; (with_reducible refine (ron_any hC _ _).mono ?_); rintro e w7 ⟨rfl, hF7⟩; have HG := hid (HG.out.trans (Fr.trans (by first | exact Fr.refl _ _ | exact Fr.drew _ _) hF7)); have HFd := hid (HFd.out.trans (Fr.trans (by first | exact Fr.refl _ _ | exact Fr.drew _ _) (hF7.mono (fun _ h => h.elim)))); have hst := fun v => store_eq (P := Tryd.prog) (HZ3.out.keep HG.out (fun h => h)) (hC.size (F.put a v).on) (hC.one _); clear hF7))
    all_goals
      go_wp2_with fail
      exact bodyPost_ret (res_two rfl rfl (setRow_blk (HZ3.out.keep HG.out (fun h => h)) _) Tryd.underlying32 rfl infoT (hC.size _) rfl) rfl ⟨by unfold Frm.did; rw [HX.out]; rfl, (HA3.out.trans HG.out).over (setRow_fr _ _ _ rfl) (by omega)⟩
  · rw [show ((2 : Nat) : Int) = 2 from rfl] at j0
    go_upto_region 10 with fail
    obtain ⟨N, hN, hN1, hN2⟩ := nineteen
    have hsz : ∀ F, (cel F).size = N := fun F => by rw [hC.size, hN]
    have HN := hid hN
    clear hN
    have HS := hid (show ∀ w', Fr (fun k => k = w.heap.size + 2) w3 w' → w'.cell? ⟨w.heap.size + 1, 1, none⟩ = some (.int .i64 a) ∧ w'.cell? ⟨w.heap.size + 1, 2, none⟩ = some (.int .i64 b) ∧ w'.cell? ⟨w2.heap.size, b, none⟩ = some (.int .i64 x) ∧ w'.cell? ⟨w.heap.size + 1, 3, none⟩ = some (.int .i64 c) ∧ w'.cell? ⟨w2.heap.size, c, none⟩ = some (.int .i64 y) ∧ (loadCellsFrom ⟨w.heap.size, 0, none⟩ 0 N #[]).run Tryd.prog w' = .ok (cel F) w' from fun w' F' => ⟨(cell_keep F' (p := ⟨w.heap.size + 1, 1, none⟩) HI3.out.lt (show ¬ (w.heap.size + 1 = w.heap.size + 2) by omega)).trans j1, (cell_keep F' (p := ⟨w.heap.size + 1, 2, none⟩) HI3.out.lt (show ¬ (w.heap.size + 1 = w.heap.size + 2) by omega)).trans j2, (cell_keep F' (p := ⟨w2.heap.size, b, none⟩) HR3.out.lt (show ¬ (w2.heap.size = w.heap.size + 2) by have := HL2.out; omega)).trans rb, (cell_keep F' (p := ⟨w.heap.size + 1, 3, none⟩) HI3.out.lt (show ¬ (w.heap.size + 1 = w.heap.size + 2) by omega)).trans j3, (cell_keep F' (p := ⟨w2.heap.size, c, none⟩) HR3.out.lt (show ¬ (w2.heap.size = w.heap.size + 2) by have := HL2.out; omega)).trans rc, load_eq (HB3.out.keep F' (show ¬ (w.heap.size = w.heap.size + 2) by omega)) (hsz _)⟩)
    have HFd := hid (Fr.refl (fun k => k = w.heap.size + 2) w3)
    have HG := hid (Fr.refl (fun _ => False) w3)
    have hwr : IntKind.i64.wrap (x + y) = wrap64 (x + y) := IntWalk.i64_left _
    clear j0 j1 j2 j3 j4 ra rb rc
    go_region_held3 (fun w' => w'.cell? ⟨w.heap.size + 1, 1, none⟩ = some (.int .i64 a) ∧ w'.cell? ⟨w.heap.size + 1, 2, none⟩ = some (.int .i64 b) ∧ w'.cell? ⟨w2.heap.size, b, none⟩ = some (.int .i64 x) ∧ w'.cell? ⟨w.heap.size + 1, 3, none⟩ = some (.int .i64 c) ∧ w'.cell? ⟨w2.heap.size, c, none⟩ = some (.int .i64 y) ∧ (loadCellsFrom ⟨w.heap.size, 0, none⟩ 0 N #[]).run Tryd.prog w' = .ok (cel F) w')
      (first | exact HS.out _ HFd.out | exact HS.out _ (HFd.out.trans (Fr.drew _ _)) | exact HS.out _ (HFd.out.trans (setRow_fr _ _ _ rfl)))
      (first
        | (go_at_call 45; (with_reducible refine (rwith_any hC F a _ _ ha).mono ?_); rintro e w6 ⟨rfl, hF6⟩; have HG := hid (HG.out.trans (Fr.trans (by first | exact Fr.refl _ _ | exact Fr.drew _ _) hF6)); have HFd := hid (HFd.out.trans (Fr.trans (by first | exact Fr.refl _ _ | exact Fr.drew _ _) (hF6.mono (fun _ h => h.elim)))); clear hF6)
        | (go_at_call 30; (with_reducible refine (ron_any hC _ _).mono ?_); rintro e w7 ⟨rfl, hF7⟩; have HG := hid (HG.out.trans (Fr.trans (by first | exact Fr.refl _ _ | exact Fr.drew _ _) hF7)); have HFd := hid (HFd.out.trans (Fr.trans (by first | exact Fr.refl _ _ | exact Fr.drew _ _) (hF7.mono (fun _ h => h.elim)))); have hst := fun v => store_eq (P := Tryd.prog) (HZ3.out.keep HG.out (fun h => h)) (hC.size (F.put a v).on) (hC.one _); clear hF7))
    all_goals
      go_wp2_with fail
      exact bodyPost_ret (res_two rfl rfl (setRow_blk (HZ3.out.keep HG.out (fun h => h)) _) Tryd.underlying32 rfl infoT (hC.size _) rfl) rfl ⟨by unfold Frm.did; rw [HX.out, HY.out]; rfl, (HA3.out.trans HG.out).over (setRow_fr _ _ _ rfl) (by omega)⟩
  · rw [show ((3 : Nat) : Int) = 3 from rfl] at j0
    go_upto_region 12 with fail
    obtain ⟨N, hN, hN1, hN2⟩ := nineteen
    have hsz : ∀ F, (cel F).size = N := fun F => by rw [hC.size, hN]
    have HN := hid hN
    clear hN
    have HS := hid (show ∀ w', Fr (fun k => k = w.heap.size + 2) w3 w' → w'.cell? ⟨w.heap.size + 1, 1, none⟩ = some (.int .i64 a) ∧ w'.cell? ⟨w.heap.size + 1, 2, none⟩ = some (.int .i64 b) ∧ w'.cell? ⟨w2.heap.size, b, none⟩ = some (.int .i64 x) ∧ w'.cell? ⟨w.heap.size + 1, 3, none⟩ = some (.int .i64 c) ∧ w'.cell? ⟨w2.heap.size, c, none⟩ = some (.int .i64 y) ∧ (loadCellsFrom ⟨w.heap.size, 0, none⟩ 0 N #[]).run Tryd.prog w' = .ok (cel F) w' from fun w' F' => ⟨(cell_keep F' (p := ⟨w.heap.size + 1, 1, none⟩) HI3.out.lt (show ¬ (w.heap.size + 1 = w.heap.size + 2) by omega)).trans j1, (cell_keep F' (p := ⟨w.heap.size + 1, 2, none⟩) HI3.out.lt (show ¬ (w.heap.size + 1 = w.heap.size + 2) by omega)).trans j2, (cell_keep F' (p := ⟨w2.heap.size, b, none⟩) HR3.out.lt (show ¬ (w2.heap.size = w.heap.size + 2) by have := HL2.out; omega)).trans rb, (cell_keep F' (p := ⟨w.heap.size + 1, 3, none⟩) HI3.out.lt (show ¬ (w.heap.size + 1 = w.heap.size + 2) by omega)).trans j3, (cell_keep F' (p := ⟨w2.heap.size, c, none⟩) HR3.out.lt (show ¬ (w2.heap.size = w.heap.size + 2) by have := HL2.out; omega)).trans rc, load_eq (HB3.out.keep F' (show ¬ (w.heap.size = w.heap.size + 2) by omega)) (hsz _)⟩)
    have HFd := hid (Fr.refl (fun k => k = w.heap.size + 2) w3)
    have HG := hid (Fr.refl (fun _ => False) w3)
    have hwr : IntKind.i64.wrap (x - y) = wrap64 (x - y) := IntWalk.i64_left _
    clear j0 j1 j2 j3 j4 ra rb rc
    go_region_held3 (fun w' => w'.cell? ⟨w.heap.size + 1, 1, none⟩ = some (.int .i64 a) ∧ w'.cell? ⟨w.heap.size + 1, 2, none⟩ = some (.int .i64 b) ∧ w'.cell? ⟨w2.heap.size, b, none⟩ = some (.int .i64 x) ∧ w'.cell? ⟨w.heap.size + 1, 3, none⟩ = some (.int .i64 c) ∧ w'.cell? ⟨w2.heap.size, c, none⟩ = some (.int .i64 y) ∧ (loadCellsFrom ⟨w.heap.size, 0, none⟩ 0 N #[]).run Tryd.prog w' = .ok (cel F) w')
      (first | exact HS.out _ HFd.out | exact HS.out _ (HFd.out.trans (Fr.drew _ _)) | exact HS.out _ (HFd.out.trans (setRow_fr _ _ _ rfl)))
      (first
        | (go_at_call 45; (with_reducible refine (rwith_any hC F a _ _ ha).mono ?_); rintro e w6 ⟨rfl, hF6⟩; have HG := hid (HG.out.trans (Fr.trans (by first | exact Fr.refl _ _ | exact Fr.drew _ _) hF6)); have HFd := hid (HFd.out.trans (Fr.trans (by first | exact Fr.refl _ _ | exact Fr.drew _ _) (hF6.mono (fun _ h => h.elim)))); clear hF6)
        | (go_at_call 30; (with_reducible refine (ron_any hC _ _).mono ?_); rintro e w7 ⟨rfl, hF7⟩; have HG := hid (HG.out.trans (Fr.trans (by first | exact Fr.refl _ _ | exact Fr.drew _ _) hF7)); have HFd := hid (HFd.out.trans (Fr.trans (by first | exact Fr.refl _ _ | exact Fr.drew _ _) (hF7.mono (fun _ h => h.elim)))); have hst := fun v => store_eq (P := Tryd.prog) (HZ3.out.keep HG.out (fun h => h)) (hC.size (F.put a v).on) (hC.one _); clear hF7))
    all_goals
      go_wp2_with fail
      exact bodyPost_ret (res_two rfl rfl (setRow_blk (HZ3.out.keep HG.out (fun h => h)) _) Tryd.underlying32 rfl infoT (hC.size _) rfl) rfl ⟨by unfold Frm.did; rw [HX.out, HY.out]; rfl, (HA3.out.trans HG.out).over (setRow_fr _ _ _ rfl) (by omega)⟩
  · rw [show ((4 : Nat) : Int) = 4 from rfl] at j0
    go_upto_region 14 with fail
    obtain ⟨N, hN, hN1, hN2⟩ := nineteen
    have hsz : ∀ F, (cel F).size = N := fun F => by rw [hC.size, hN]
    have HN := hid hN
    clear hN
    have HS := hid (show ∀ w', Fr (fun k => k = w.heap.size + 2) w3 w' → w'.cell? ⟨w.heap.size + 1, 1, none⟩ = some (.int .i64 a) ∧ w'.cell? ⟨w.heap.size + 1, 2, none⟩ = some (.int .i64 b) ∧ w'.cell? ⟨w2.heap.size, b, none⟩ = some (.int .i64 x) ∧ w'.cell? ⟨w.heap.size + 1, 3, none⟩ = some (.int .i64 c) ∧ w'.cell? ⟨w2.heap.size, c, none⟩ = some (.int .i64 y) ∧ (loadCellsFrom ⟨w.heap.size, 0, none⟩ 0 N #[]).run Tryd.prog w' = .ok (cel F) w' from fun w' F' => ⟨(cell_keep F' (p := ⟨w.heap.size + 1, 1, none⟩) HI3.out.lt (show ¬ (w.heap.size + 1 = w.heap.size + 2) by omega)).trans j1, (cell_keep F' (p := ⟨w.heap.size + 1, 2, none⟩) HI3.out.lt (show ¬ (w.heap.size + 1 = w.heap.size + 2) by omega)).trans j2, (cell_keep F' (p := ⟨w2.heap.size, b, none⟩) HR3.out.lt (show ¬ (w2.heap.size = w.heap.size + 2) by have := HL2.out; omega)).trans rb, (cell_keep F' (p := ⟨w.heap.size + 1, 3, none⟩) HI3.out.lt (show ¬ (w.heap.size + 1 = w.heap.size + 2) by omega)).trans j3, (cell_keep F' (p := ⟨w2.heap.size, c, none⟩) HR3.out.lt (show ¬ (w2.heap.size = w.heap.size + 2) by have := HL2.out; omega)).trans rc, load_eq (HB3.out.keep F' (show ¬ (w.heap.size = w.heap.size + 2) by omega)) (hsz _)⟩)
    have HFd := hid (Fr.refl (fun k => k = w.heap.size + 2) w3)
    have HG := hid (Fr.refl (fun _ => False) w3)
    have hwr : IntKind.i64.wrap (x * y) = wrap64 (x * y) := IntWalk.i64_left _
    clear j0 j1 j2 j3 j4 ra rb rc
    go_region_held3 (fun w' => w'.cell? ⟨w.heap.size + 1, 1, none⟩ = some (.int .i64 a) ∧ w'.cell? ⟨w.heap.size + 1, 2, none⟩ = some (.int .i64 b) ∧ w'.cell? ⟨w2.heap.size, b, none⟩ = some (.int .i64 x) ∧ w'.cell? ⟨w.heap.size + 1, 3, none⟩ = some (.int .i64 c) ∧ w'.cell? ⟨w2.heap.size, c, none⟩ = some (.int .i64 y) ∧ (loadCellsFrom ⟨w.heap.size, 0, none⟩ 0 N #[]).run Tryd.prog w' = .ok (cel F) w')
      (first | exact HS.out _ HFd.out | exact HS.out _ (HFd.out.trans (Fr.drew _ _)) | exact HS.out _ (HFd.out.trans (setRow_fr _ _ _ rfl)))
      (first
        | (go_at_call 45; (with_reducible refine (rwith_any hC F a _ _ ha).mono ?_); rintro e w6 ⟨rfl, hF6⟩; have HG := hid (HG.out.trans (Fr.trans (by first | exact Fr.refl _ _ | exact Fr.drew _ _) hF6)); have HFd := hid (HFd.out.trans (Fr.trans (by first | exact Fr.refl _ _ | exact Fr.drew _ _) (hF6.mono (fun _ h => h.elim)))); clear hF6)
        | (go_at_call 30; (with_reducible refine (ron_any hC _ _).mono ?_); rintro e w7 ⟨rfl, hF7⟩; have HG := hid (HG.out.trans (Fr.trans (by first | exact Fr.refl _ _ | exact Fr.drew _ _) hF7)); have HFd := hid (HFd.out.trans (Fr.trans (by first | exact Fr.refl _ _ | exact Fr.drew _ _) (hF7.mono (fun _ h => h.elim)))); have hst := fun v => store_eq (P := Tryd.prog) (HZ3.out.keep HG.out (fun h => h)) (hC.size (F.put a v).on) (hC.one _); clear hF7))
    all_goals
      go_wp2_with fail
      exact bodyPost_ret (res_two rfl rfl (setRow_blk (HZ3.out.keep HG.out (fun h => h)) _) Tryd.underlying32 rfl infoT (hC.size _) rfl) rfl ⟨by unfold Frm.did; rw [HX.out, HY.out]; rfl, (HA3.out.trans HG.out).over (setRow_fr _ _ _ rfl) (by omega)⟩
  · rw [show ((5 : Nat) : Int) = 5 from rfl] at j0
    go_upto_region 16 with fail
    go_quiet (fail)
    by_cases hxy : x < y
    · go_wp2_with (refine row_load rfl 32 _ rfl _ rfl HB3.out Tryd.underlying32 rfl infoT (hC.size _) ?_)
      refine (rwith_any hC F a 1 _ ha).mono ?_
      rintro e w4 ⟨rfl, hF4⟩
      go_wp2_with fail
      refine (ron_any hC _ _).mono ?_
      rintro e w5 ⟨rfl, hF5⟩
      have hF4 : Fr (fun _ => False) w3 w4 := by first | exact hF4 | exact (Fr.drewN _ _ _).trans hF4
      have hZ5 := HZ3.out.keep (hF4.trans hF5) (fun h => h)
      go_wp2_with (refine row_store rfl 32 _ _ rfl _ _ rfl rfl hZ5 infoT rfl (hC.size _) (hC.one _) ?_)
      intro w9 hB9 hF9
      go_wp2_with fail
      exact bodyPost_ret (res_two rfl rfl hB9 Tryd.underlying32 rfl infoT (hC.size _) rfl) rfl ⟨by unfold Frm.did; rw [HX.out, HY.out, if_pos hxy]; rfl, (HA3.out.trans (hF4.trans hF5)).over hF9 (by omega)⟩
    · go_wp2_with (refine row_load rfl 32 _ rfl _ rfl HB3.out Tryd.underlying32 rfl infoT (hC.size _) ?_)
      refine (rwith_any hC F a 0 _ ha).mono ?_
      rintro e w4 ⟨rfl, hF4⟩
      go_wp2_with fail
      refine (ron_any hC _ _).mono ?_
      rintro e w5 ⟨rfl, hF5⟩
      have hF4 : Fr (fun _ => False) w3 w4 := by first | exact hF4 | exact (Fr.drewN _ _ _).trans hF4
      have hZ5 := HZ3.out.keep (hF4.trans hF5) (fun h => h)
      go_wp2_with (refine row_store rfl 32 _ _ rfl _ _ rfl rfl hZ5 infoT rfl (hC.size _) (hC.one _) ?_)
      intro w9 hB9 hF9
      go_wp2_with fail
      exact bodyPost_ret (res_two rfl rfl hB9 Tryd.underlying32 rfl infoT (hC.size _) rfl) rfl ⟨by unfold Frm.did; rw [HX.out, HY.out, if_neg (show ¬ x < y by omega)]; rfl, (HA3.out.trans (hF4.trans hF5)).over hF9 (by omega)⟩
  · rw [show ((6 : Nat) : Int) = 6 from rfl] at j0
    go_wp2_with (refine row_load rfl 32 _ rfl _ rfl HB3.out Tryd.underlying32 rfl infoT (hC.size _) ?_)
    refine (rto_any hC F n w3).mono ?_
    rintro e w5 ⟨rfl, hF5⟩
    have hZ5 := HZ3.out.keep hF5 (fun h => h)
    go_wp2_with (refine row_store rfl 32 _ _ rfl _ _ rfl rfl hZ5 infoT rfl (hC.size _) (hC.one _) ?_)
    intro w9 hB9 hF9
    go_wp2_with fail
    exact bodyPost_ret (res_two rfl rfl hB9 Tryd.underlying32 rfl infoT (hC.size _) rfl) rfl ⟨rfl, (HA3.out.trans hF5).over hF9 (by omega)⟩
  · rw [show ((7 : Nat) : Int) = 7 from rfl] at j0
    by_cases h0 : z = 0
    · subst h0
      go_wp2_with (refine row_load rfl 32 _ rfl _ rfl HB3.out Tryd.underlying32 rfl infoT (hC.size _) ?_)
      refine (ron_any hC F w3).mono ?_
      rintro e w5 ⟨rfl, hF5⟩
      have hZ5 := HZ3.out.keep hF5 (fun h => h)
      go_wp2_with (refine row_store rfl 32 _ _ rfl _ _ rfl rfl hZ5 infoT rfl (hC.size _) (hC.one _) ?_)
      intro w9 hB9 hF9
      go_wp2_with fail
      exact bodyPost_ret (res_two rfl rfl hB9 Tryd.underlying32 rfl infoT (hC.size _) rfl) rfl ⟨by unfold Frm.did; rw [if_pos HV.out]; rfl, (HA3.out.trans hF5).over hF9 (by omega)⟩
    · have t0 : (z != 0) = true := by simpa using h0
      go_wp2_with (refine row_load rfl 32 _ rfl _ rfl HB3.out Tryd.underlying32 rfl infoT (hC.size _) ?_)
      refine (rto_any hC F n w3).mono ?_
      rintro e w5 ⟨rfl, hF5⟩
      have hZ5 := HZ3.out.keep hF5 (fun h => h)
      go_wp2_with (refine row_store rfl 32 _ _ rfl _ _ rfl rfl hZ5 infoT rfl (hC.size _) (hC.one _) ?_)
      intro w9 hB9 hF9
      go_wp2_with fail
      exact bodyPost_ret (res_two rfl rfl hB9 Tryd.underlying32 rfl infoT (hC.size _) rfl) rfl ⟨by unfold Frm.did; rw [if_neg (show ¬ F.r a = 0 by rw [HV.out]; exact h0)]; rfl, (HA3.out.trans hF5).over hF9 (by omega)⟩
  · have t0 : ((o : Int) == 0) = false := beq_eq_false_iff_ne.2 (by omega)
    have t1 : ((o : Int) == 1) = false := beq_eq_false_iff_ne.2 (by omega)
    have t2 : ((o : Int) == 2) = false := beq_eq_false_iff_ne.2 (by omega)
    have t3 : ((o : Int) == 3) = false := beq_eq_false_iff_ne.2 (by omega)
    have t4 : ((o : Int) == 4) = false := beq_eq_false_iff_ne.2 (by omega)
    have t5 : ((o : Int) == 5) = false := beq_eq_false_iff_ne.2 (by omega)
    have t6 : ((o : Int) == 6) = false := beq_eq_false_iff_ne.2 (by omega)
    have t7 : ((o : Int) == 7) = false := beq_eq_false_iff_ne.2 (by omega)
    go_wp2_with (first
      | (refine row_load rfl 32 _ rfl _ rfl HB3.out Tryd.underlying32 rfl infoT (hC.size _) ?_)
      | (refine row_store rfl 32 _ _ rfl _ _ rfl rfl HZ3.out infoT rfl (hC.size _) (hC.one _) ?_))
    intro w9 hB9 hF9
    go_wp2_with fail
    exact bodyPost_ret (res_two rfl rfl hB9 Tryd.underlying32 rfl infoT (hC.size _) rfl) rfl ⟨by rw [F.did_high o a b c n (by omega), show decide (o ≤ 7) = false from decide_eq_false (by omega)]; rfl, (HA3.out).over hF9 (by omega)⟩

end Go.Proofs.YtedpgfldkjimpaaDoor
