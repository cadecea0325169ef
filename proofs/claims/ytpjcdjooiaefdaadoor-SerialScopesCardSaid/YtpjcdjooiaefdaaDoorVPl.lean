/-
  Plain.
-/
import Derived.Test.YtpjcdjooiaefdaaDoorVHeap
import Derived.Laws.EntriesVeiled
namespace Go.Proofs.YtpjcdjooiaefdaaDoor
open Go.RowKit
set_option linter.unusedVariables false

theorem infoD : (Tryd.prog.info? 112).map (·.size) = some 17 := by kernel_rfl

theorem fn_nil (fn : Go.Fn) (x y : Array Value) (w : World) : (binOp .eql 67 (.func fn x y) .nilFunc).run Tryd.prog w = .ok (.bool false) w := by kernel_rfl
theorem nil_nil (w : World) : (binOp .eql 67 .nilFunc .nilFunc).run Tryd.prog w = .ok (.bool true) w := by kernel_rfl

/-- Two numbers in boxes of their own. -/
def TwoAt (w : World) (x y : Int) (u v : Value) (wx : World) : Prop := ∃ bb bc, u = .pointer (some ⟨bb, 0, none⟩) ∧ v = .pointer (some ⟨bc, 0, none⟩) ∧ wx.cell? ⟨bb, 0, none⟩ = some (.int .i64 x) ∧ wx.cell? ⟨bc, 0, none⟩ = some (.int .i64 y) ∧ bb < wx.heap.size ∧ bc < wx.heap.size ∧ Fr (fun _ => False) w wx

theorem two_up (w : World) (x y : Int) (t : TypeId) : TwoAt w x y (.pointer (some ⟨w.heap.size, 0, none⟩)) (.pointer (some ⟨w.heap.size + 1, 0, none⟩)) ((w.alloc (.cells #[.int .i64 x] t)).alloc (.cells #[.int .i64 y] t)).drew := by
  have h0 : Blk ((w.alloc (.cells #[.int .i64 x] t)).alloc (.cells #[.int .i64 y] t)).drew w.heap.size #[.int .i64 x] := ((Blk.new w _ t).alloc _).drew
  have h1 : Blk ((w.alloc (.cells #[.int .i64 x] t)).alloc (.cells #[.int .i64 y] t)).drew (w.heap.size + 1) #[.int .i64 y] := ((Blk.new _ _ t).at (by simp)).drew
  exact ⟨_, _, rfl, rfl, h0.cell rfl, h1.cell rfl, h0.lt, h1.lt, ((Fr.alloc _ _ _).trans (Fr.alloc _ _ _)).trans (Fr.drew _ _)⟩
theorem two_down (w : World) (x y : Int) (t : TypeId) : TwoAt w x y (.pointer (some ⟨w.heap.size + 1, 0, none⟩)) (.pointer (some ⟨w.heap.size, 0, none⟩)) ((w.alloc (.cells #[.int .i64 y] t)).alloc (.cells #[.int .i64 x] t)).drew := by
  have h0 : Blk ((w.alloc (.cells #[.int .i64 y] t)).alloc (.cells #[.int .i64 x] t)).drew w.heap.size #[.int .i64 y] := ((Blk.new w _ t).alloc _).drew
  have h1 : Blk ((w.alloc (.cells #[.int .i64 y] t)).alloc (.cells #[.int .i64 x] t)).drew (w.heap.size + 1) #[.int .i64 x] := ((Blk.new _ _ t).at (by simp)).drew
  exact ⟨_, _, rfl, rfl, h1.cell rfl, h0.cell rfl, h1.lt, h0.lt, ((Fr.alloc _ _ _).trans (Fr.alloc _ _ _)).trans (Fr.drew _ _)⟩

theorem plain_no {cel : Frm → Array Value} (hC : Cel cel) (F : Frm) (i : Ins) (w : World) (ht : Tabs w) (hk : chk i ≠ 0) :
    Calls Tryd.prog 48 #[.agg (cel F), i.val] w fun e w' => e = .returned (.tuple #[.agg (cel F), .bool false]) ∧ Fr (fun _ => False) w w' := by
  have HM := hid (may_any i)
  rw [show (chk i == 0) = false from beq_eq_false_iff_ne.2 hk] at HM
  unfold Ins.val at *
  obtain ⟨w1, hw1⟩ : ∃ w1, w1 = ((w.alloc (.cells (cel F) 59)).alloc (.cells #[.int .i64 i.op, .int .i64 i.a, .int .i64 i.b, .int .i64 i.c, .int .i64 i.n] 43)).alloc (.cells zeros 59) := ⟨_, rfl⟩
  have HA := hid (show Fr (fun _ => False) w w1 by rw [hw1]; exact ((Fr.alloc _ _ _).trans (Fr.alloc _ _ _)).trans (Fr.alloc _ _ _))
  have HB := hid (show Blk w1 w.heap.size (cel F) by rw [hw1]; exact ((Blk.new _ _ _).alloc _).alloc _)
  have HI := hid (show Blk w1 (w.heap.size + 1) #[.int .i64 i.op, .int .i64 i.a, .int .i64 i.b, .int .i64 i.c, .int .i64 i.n] by rw [hw1]; exact ((Blk.new _ _ _).at (by simp)).alloc _)
  have HZ := hid (show Blk w1 (w.heap.size + 2) zeros by rw [hw1]; exact (Blk.new _ _ _).at (by simp))
  unfold zeros at hw1
  have i0 := HI.out.cell (i := 0) rfl
  have i1 := HI.out.cell (i := 1) rfl
  have i2 := HI.out.cell (i := 2) rfl
  have i3 := HI.out.cell (i := 3) rfl
  have i4 := HI.out.cell (i := 4) rfl
  simp only [List.getElem_toArray, List.getElem_cons_zero, List.getElem_cons_succ] at i0 i1 i2 i3 i4
  go_enter Tryd.func48, Tryd.ntmps48
  go_upto_region 1 with fail
  rw [← hw1]
  clear hw1
  go_wp2_with fail
  refine (HM.out _ (ht.same HA.out)).mono ?_
  rintro e w2 ⟨rfl, hF2⟩
  have HB2 := HB.out.keep hF2 (fun h => h)
  have HZ2 := HZ.out.keep hF2 (fun h => h)
  go_wp2_with (first
    | (refine row_load rfl 59 _ rfl _ rfl HB2 Tryd.underlying59 rfl infoF (hC.size _) ?_)
    | (refine row_store rfl 59 _ _ rfl _ _ rfl rfl HZ2 infoF rfl (hC.size _) (hC.one _) ?_))
  intro w9 hB9 hF9
  go_wp2_with fail
  exact bodyPost_ret (res_two rfl rfl hB9 Tryd.underlying59 rfl infoF (hC.size _) rfl) rfl ⟨rfl, (HA.out.trans hF2).over hF9 (by omega)⟩

set_option maxRecDepth 100000 in
set_option maxHeartbeats 4000000 in
theorem plain_in {cel : Frm → Array Value} (hC : Cel cel) (F : Frm) (o a b c : Nat) (n : Int) (w : World) (ht : Tabs w) (hk : chk ⟨o, a, b, c, n⟩ = 0) (ho : o ≤ 16) (ha : a < 8) (hb : b < 8) (hc : c < 8) :
    Calls Tryd.prog 48 #[.agg (cel F), Ins.val ⟨o, a, b, c, n⟩] w fun e w' => e = .returned (.tuple #[.agg (cel (F.did o a b c n)), .bool (decide (o ≤ 7))]) ∧ Fr (fun _ => False) w w' := by
  have HM := hid (may_any ⟨o, a, b, c, n⟩)
  rw [show (chk ⟨o, a, b, c, n⟩ == 0) = true by rw [hk]; rfl] at HM
  unfold Ins.val at *
  simp only at *
  clear hk
  obtain ⟨w1, hw1⟩ : ∃ w1, w1 = ((w.alloc (.cells (cel F) 59)).alloc (.cells #[.int .i64 o, .int .i64 a, .int .i64 b, .int .i64 c, .int .i64 n] 43)).alloc (.cells zeros 59) := ⟨_, rfl⟩
  have HA := hid (show Fr (fun _ => False) w w1 by rw [hw1]; exact ((Fr.alloc _ _ _).trans (Fr.alloc _ _ _)).trans (Fr.alloc _ _ _))
  have HB := hid (show Blk w1 w.heap.size (cel F) by rw [hw1]; exact ((Blk.new _ _ _).alloc _).alloc _)
  have HI := hid (show Blk w1 (w.heap.size + 1) (insC o a b c n) by rw [hw1]; exact ((Blk.new _ _ _).at (by simp)).alloc _)
  have HZ := hid (show Blk w1 (w.heap.size + 2) zeros by rw [hw1]; exact (Blk.new _ _ _).at (by simp))
  unfold zeros at hw1
  have hi0 := HI.out
  unfold insC at hi0
  have i0 := hi0.cell (i := 0) rfl
  have i1 := hi0.cell (i := 1) rfl
  have i2 := hi0.cell (i := 2) rfl
  have i3 := hi0.cell (i := 3) rfl
  have i4 := hi0.cell (i := 4) rfl
  simp only [List.getElem_toArray, List.getElem_cons_zero, List.getElem_cons_succ] at i0 i1 i2 i3 i4
  clear hi0
  go_enter Tryd.func48, Tryd.ntmps48
  go_upto_region 1 with fail
  rw [← hw1]
  clear hw1
  go_wp2_with fail
  refine (HM.out _ (ht.same HA.out)).mono ?_
  rintro e w2 ⟨rfl, hF2⟩
  have HA2 := hid (HA.out.trans hF2)
  have HB2 := hid (HB.out.keep hF2 (fun h => h))
  have HI2 := hid (HI.out.keep hF2 (fun h => h))
  have HZ2 := hid (HZ.out.keep hF2 (fun h => h))
  clear HB HI HZ HA i0 i1 i2 i3 i4 hF2 HM
  have j0 : w2.cell? ⟨w.heap.size + 1, 0, none⟩ = some (.int .i64 o) := HI2.out.cell rfl
  have j2 : w2.cell? ⟨w.heap.size + 1, 2, none⟩ = some (.int .i64 b) := HI2.out.cell rfl
  have j3 : w2.cell? ⟨w.heap.size + 1, 3, none⟩ = some (.int .i64 c) := HI2.out.cell rfl
  have r1 : w2.cell? ⟨w.heap.size, 2 + b, none⟩ = some (.int .i64 (F.r b)) := HB2.out.cell (hC.r F b hb)
  have r2 : w2.cell? ⟨w.heap.size, 2 + c, none⟩ = some (.int .i64 (F.r c)) := HB2.out.cell (hC.r F c hc)
  obtain ⟨x, hx⟩ : ∃ x, F.r b = x := ⟨_, rfl⟩
  obtain ⟨y, hy⟩ : ∃ y, F.r c = y := ⟨_, rfl⟩
  rw [hx] at r1
  rw [hy] at r2
  have HX := hid hx
  have HY := hid hy
  clear hx hy
  have hb0 : (0 : Int) ≤ b ∧ (b : Int) < 8 := by omega
  have hc0 : (0 : Int) ≤ c ∧ (c : Int) < 8 := by omega
  have hlt : w.heap.size + 2 < w2.heap.size := HZ2.out.lt
  go_upto_region 3 with fail
  go_cut [6, 7] from 15 to 24 (fun u v wx => TwoAt w2 x y u v wx)
  case first =>
    have n1 := World.new_ne w2 _ j2
    have n2 := World.new_ne w2 _ j3
    have n3 := World.new_ne w2 _ r1
    have n4 := World.new_ne w2 _ r2
    go_region_held3 (fun w' => w'.cell? ⟨w.heap.size + 1, 2, none⟩ = some (.int .i64 b) ∧ w'.cell? ⟨w.heap.size + 1, 3, none⟩ = some (.int .i64 c) ∧ w'.cell? ⟨w.heap.size, 2 + b, none⟩ = some (.int .i64 x) ∧ w'.cell? ⟨w.heap.size, 2 + c, none⟩ = some (.int .i64 y)) (go_keep) (fail)
    all_goals
      go_wp2_with fail
      go_meet
      case rel => first | exact two_up _ _ _ _ | exact two_down _ _ _ _
  case rest =>
    obtain ⟨bb, bc, rfl, rfl, qx, qy, hlb, hlc, hF3⟩ := hcut
    clear r1 r2 j2 j3
    have HA3 := hid (HA2.out.trans hF3)
    have HB3 := hid (HB2.out.keep hF3 (fun h => h))
    have HI3 := hid (HI2.out.keep hF3 (fun h => h))
    have HZ3 := hid (HZ2.out.keep hF3 (fun h => h))
    clear HA2 HB2 HI2 HZ2 j0 hlt hF3 hb0 hc0
    obtain ⟨w4, hw4⟩ : ∃ w4, w4 = wc.alloc (.cells #[putV w.heap.size (w.heap.size + 1)] 109) := ⟨_, rfl⟩
    have hFw4 : Fr (fun _ => False) wc w4 := by rw [hw4]; exact Fr.alloc _ _ _
    have HP4 := hid (show Blk w4 wc.heap.size #[putV w.heap.size (w.heap.size + 1)] by rw [hw4]; exact Blk.new _ _ _)
    unfold putV at hw4
    go_upto_region 5 with fail
    rw [← hw4]
    clear hw4
    have hN := Blk.new w4 #[.nilFunc, .nilFunc, .nilFunc, .nilFunc, .nilFunc, .nilFunc, .nilFunc, .nilFunc, .nilFunc, .nilFunc, .nilFunc, .nilFunc, .nilFunc, .nilFunc, .nilFunc, .nilFunc, .nilFunc] 112
    go_wp2_with (refine row_store rfl 112 _ _ rfl _ _ rfl rfl hN infoD rfl rfl (by simp [Value.oneCell']) ?_)
    intro w6 hB6 hF6
    have hF7 : Fr (fun _ => False) wc w6 := (hFw4.trans (Fr.alloc _ _ _)).over hF6 hFw4.size
    have hF8 : Fr (fun _ => False) w4 w6 := (Fr.alloc _ _ _).over hF6 (Nat.le_refl _)
    have HA6 := hid (HA3.out.trans hF7)
    have HB6 := hid (HB3.out.keep hF7 (fun h => h))
    have HI6 := hid (HI3.out.keep hF7 (fun h => h))
    have HZ6 := hid (HZ3.out.keep hF7 (fun h => h))
    have HP6 := hid (HP4.out.keep hF8 (fun h => h))
    have QX := hid ((cell_keep hF7 (p := ⟨bb, 0, none⟩) hlb (fun h => h)).trans qx)
    have QY := hid ((cell_keep hF7 (p := ⟨bc, 0, none⟩) hlc (fun h => h)).trans qy)
    have QLX := hid (Nat.lt_of_lt_of_le hlb hF7.size)
    have QLY := hid (Nat.lt_of_lt_of_le hlc hF7.size)
    have j0 : w6.cell? ⟨w.heap.size + 1, 0, none⟩ = some (.int .i64 o) := HI6.out.cell rfl
    have qn := fn_nil
    have qm := nil_nil
    clear HA3 HB3 HI3 HZ3 HP4 qx qy hlb hlc hF6 hF7 hF8 hFw4 hN
    go_upto_region 6 with fail
    have hm : o = 0 ∨ o = 1 ∨ o = 2 ∨ o = 3 ∨ o = 4 ∨ o = 5 ∨ o = 6 ∨ o = 7 ∨ o = 8 ∨ o = 9 ∨ o = 10 ∨ o = 11 ∨ o = 12 ∨ o = 13 ∨ o = 14 ∨ o = 15 ∨ o = 16 := by omega
    rcases hm with rfl | rfl | rfl | rfl | rfl | rfl | rfl | rfl | rfl | rfl | rfl | rfl | rfl | rfl | rfl | rfl | rfl
    · have b0 := hB6.cell (i := 0) rfl
      simp only [List.getElem_toArray, List.getElem_cons_zero] at b0
      clear hB6
      rw [show ((0 : Nat) : Int) = 0 from rfl] at j0
      go_wp2_with fail
      refine (const_ok hC F 0 a b c n x y w.heap.size (w.heap.size + 1) _ bb bc w6 ha HB6.out HI6.out HP6.out).mono ?_
      rintro e w7 ⟨rfl, hF9⟩
      have HZ7 := HZ6.out.keep hF9 (fun h => h)
      have HA7 := hid (HA6.out.trans hF9)
      clear b0 hF9
      go_wp2_with (refine row_store rfl 59 _ _ rfl _ _ rfl rfl HZ7 infoF rfl (hC.size _) (hC.one _) ?_)
      intro w9 hB9 hF9
      go_wp2_with fail
      exact bodyPost_ret (res_two rfl rfl hB9 Tryd.underlying59 rfl infoF (hC.size _) rfl) rfl ⟨by rfl, HA7.out.over hF9 (by omega)⟩
    · have b0 := hB6.cell (i := 1) rfl
      simp only [List.getElem_toArray, List.getElem_cons_zero, List.getElem_cons_succ] at b0
      clear hB6
      rw [show ((1 : Nat) : Int) = 1 from rfl] at j0
      go_wp2_with fail
      refine (move_ok hC F 1 a b c n x y w.heap.size (w.heap.size + 1) _ bb bc w6 ha HB6.out HI6.out HP6.out QX.out QLX.out).mono ?_
      rintro e w7 ⟨rfl, hF9⟩
      have HZ7 := HZ6.out.keep hF9 (fun h => h)
      have HA7 := hid (HA6.out.trans hF9)
      clear b0 hF9
      go_wp2_with (refine row_store rfl 59 _ _ rfl _ _ rfl rfl HZ7 infoF rfl (hC.size _) (hC.one _) ?_)
      intro w9 hB9 hF9
      go_wp2_with fail
      exact bodyPost_ret (res_two rfl rfl hB9 Tryd.underlying59 rfl infoF (hC.size _) rfl) rfl ⟨by unfold Frm.did; rw [HX.out]; rfl, HA7.out.over hF9 (by omega)⟩
    · have b0 := hB6.cell (i := 2) rfl
      simp only [List.getElem_toArray, List.getElem_cons_zero, List.getElem_cons_succ] at b0
      clear hB6
      rw [show ((2 : Nat) : Int) = 2 from rfl] at j0
      go_wp2_with fail
      refine (add_ok hC F 2 a b c n x y w.heap.size (w.heap.size + 1) _ bb bc w6 ha HB6.out HI6.out HP6.out QX.out QLX.out QY.out QLY.out).mono ?_
      rintro e w7 ⟨rfl, hF9⟩
      have HZ7 := HZ6.out.keep hF9 (fun h => h)
      have HA7 := hid (HA6.out.trans hF9)
      clear b0 hF9
      go_wp2_with (refine row_store rfl 59 _ _ rfl _ _ rfl rfl HZ7 infoF rfl (hC.size _) (hC.one _) ?_)
      intro w9 hB9 hF9
      go_wp2_with fail
      exact bodyPost_ret (res_two rfl rfl hB9 Tryd.underlying59 rfl infoF (hC.size _) rfl) rfl ⟨by unfold Frm.did; rw [HX.out, HY.out]; rfl, HA7.out.over hF9 (by omega)⟩
    · have b0 := hB6.cell (i := 3) rfl
      simp only [List.getElem_toArray, List.getElem_cons_zero, List.getElem_cons_succ] at b0
      clear hB6
      rw [show ((3 : Nat) : Int) = 3 from rfl] at j0
      go_wp2_with fail
      refine (sub_ok hC F 3 a b c n x y w.heap.size (w.heap.size + 1) _ bb bc w6 ha HB6.out HI6.out HP6.out QX.out QLX.out QY.out QLY.out).mono ?_
      rintro e w7 ⟨rfl, hF9⟩
      have HZ7 := HZ6.out.keep hF9 (fun h => h)
      have HA7 := hid (HA6.out.trans hF9)
      clear b0 hF9
      go_wp2_with (refine row_store rfl 59 _ _ rfl _ _ rfl rfl HZ7 infoF rfl (hC.size _) (hC.one _) ?_)
      intro w9 hB9 hF9
      go_wp2_with fail
      exact bodyPost_ret (res_two rfl rfl hB9 Tryd.underlying59 rfl infoF (hC.size _) rfl) rfl ⟨by unfold Frm.did; rw [HX.out, HY.out]; rfl, HA7.out.over hF9 (by omega)⟩
    · have b0 := hB6.cell (i := 4) rfl
      simp only [List.getElem_toArray, List.getElem_cons_zero, List.getElem_cons_succ] at b0
      clear hB6
      rw [show ((4 : Nat) : Int) = 4 from rfl] at j0
      go_wp2_with fail
      refine (mul_ok hC F 4 a b c n x y w.heap.size (w.heap.size + 1) _ bb bc w6 ha HB6.out HI6.out HP6.out QX.out QLX.out QY.out QLY.out).mono ?_
      rintro e w7 ⟨rfl, hF9⟩
      have HZ7 := HZ6.out.keep hF9 (fun h => h)
      have HA7 := hid (HA6.out.trans hF9)
      clear b0 hF9
      go_wp2_with (refine row_store rfl 59 _ _ rfl _ _ rfl rfl HZ7 infoF rfl (hC.size _) (hC.one _) ?_)
      intro w9 hB9 hF9
      go_wp2_with fail
      exact bodyPost_ret (res_two rfl rfl hB9 Tryd.underlying59 rfl infoF (hC.size _) rfl) rfl ⟨by unfold Frm.did; rw [HX.out, HY.out]; rfl, HA7.out.over hF9 (by omega)⟩
    · have b0 := hB6.cell (i := 5) rfl
      simp only [List.getElem_toArray, List.getElem_cons_zero, List.getElem_cons_succ] at b0
      clear hB6
      rw [show ((5 : Nat) : Int) = 5 from rfl] at j0
      go_wp2_with fail
      have hL := less_ok hC F 5 a b c n x y w.heap.size (w.heap.size + 1) _ bb bc w6 ha HB6.out HI6.out HP6.out QX.out QLX.out QY.out QLY.out
      obtain ⟨t, ht'⟩ : ∃ t : Int, t = if x < y then 1 else 0 := ⟨_, rfl⟩
      rw [← ht'] at hL
      have HT := hid ht'
      clear ht'
      refine hL.mono ?_
      clear hL
      rintro e w7 ⟨rfl, hF9⟩
      have HZ7 := HZ6.out.keep hF9 (fun h => h)
      have HA7 := hid (HA6.out.trans hF9)
      clear b0 hF9
      go_wp2_with (refine row_store rfl 59 _ _ rfl _ _ rfl rfl HZ7 infoF rfl (hC.size _) (hC.one _) ?_)
      intro w9 hB9 hF9
      go_wp2_with fail
      exact bodyPost_ret (res_two rfl rfl hB9 Tryd.underlying59 rfl infoF (hC.size _) rfl) rfl ⟨by unfold Frm.did; rw [HX.out, HY.out, HT.out]; rfl, HA7.out.over hF9 (by omega)⟩
    · have b0 := hB6.cell (i := 6) rfl
      simp only [List.getElem_toArray, List.getElem_cons_zero, List.getElem_cons_succ] at b0
      clear hB6
      rw [show ((6 : Nat) : Int) = 6 from rfl] at j0
      go_wp2_with fail
      refine (jump_ok hC F 6 a b c n w.heap.size (w.heap.size + 1) w6 HB6.out HI6.out).mono ?_
      rintro e w7 ⟨rfl, hF9⟩
      have HZ7 := HZ6.out.keep hF9 (fun h => h)
      have HA7 := hid (HA6.out.trans hF9)
      clear b0 hF9
      go_wp2_with (refine row_store rfl 59 _ _ rfl _ _ rfl rfl HZ7 infoF rfl (hC.size _) (hC.one _) ?_)
      intro w9 hB9 hF9
      go_wp2_with fail
      exact bodyPost_ret (res_two rfl rfl hB9 Tryd.underlying59 rfl infoF (hC.size _) rfl) rfl ⟨by rfl, HA7.out.over hF9 (by omega)⟩
    · have b0 := hB6.cell (i := 7) rfl
      simp only [List.getElem_toArray, List.getElem_cons_zero, List.getElem_cons_succ] at b0
      clear hB6
      rw [show ((7 : Nat) : Int) = 7 from rfl] at j0
      go_wp2_with fail
      have hL := if_ok hC F 7 a b c n w.heap.size (w.heap.size + 1) w6 ha HB6.out HI6.out
      obtain ⟨G, hG⟩ : ∃ G : Frm, G = if F.r a = 0 then F.on else F.to n := ⟨_, rfl⟩
      rw [← hG] at hL
      have HT := hid hG
      clear hG
      refine hL.mono ?_
      clear hL
      rintro e w7 ⟨rfl, hF9⟩
      have HZ7 := HZ6.out.keep hF9 (fun h => h)
      have HA7 := hid (HA6.out.trans hF9)
      clear b0 hF9
      go_wp2_with (refine row_store rfl 59 _ _ rfl _ _ rfl rfl HZ7 infoF rfl (hC.size _) (hC.one _) ?_)
      intro w9 hB9 hF9
      go_wp2_with fail
      exact bodyPost_ret (res_two rfl rfl hB9 Tryd.underlying59 rfl infoF (hC.size _) rfl) rfl ⟨by unfold Frm.did; rw [← HT.out]; rfl, HA7.out.over hF9 (by omega)⟩
    · have b0 := hB6.cell (i := 8) rfl
      simp only [List.getElem_toArray, List.getElem_cons_zero, List.getElem_cons_succ] at b0
      clear hB6
      rw [show ((8 : Nat) : Int) = 8 from rfl] at j0
      go_wp2_with (first
        | (refine row_load rfl 59 _ rfl _ rfl HB6.out Tryd.underlying59 rfl infoF (hC.size _) ?_)
        | (refine row_store rfl 59 _ _ rfl _ _ rfl rfl HZ6.out infoF rfl (hC.size _) (hC.one _) ?_))
      intro w9 hB9 hF9
      go_wp2_with fail
      exact bodyPost_ret (res_two rfl rfl hB9 Tryd.underlying59 rfl infoF (hC.size _) rfl) rfl ⟨rfl, HA6.out.over hF9 (by omega)⟩
    · have b0 := hB6.cell (i := 9) rfl
      simp only [List.getElem_toArray, List.getElem_cons_zero, List.getElem_cons_succ] at b0
      clear hB6
      rw [show ((9 : Nat) : Int) = 9 from rfl] at j0
      go_wp2_with (first
        | (refine row_load rfl 59 _ rfl _ rfl HB6.out Tryd.underlying59 rfl infoF (hC.size _) ?_)
        | (refine row_store rfl 59 _ _ rfl _ _ rfl rfl HZ6.out infoF rfl (hC.size _) (hC.one _) ?_))
      intro w9 hB9 hF9
      go_wp2_with fail
      exact bodyPost_ret (res_two rfl rfl hB9 Tryd.underlying59 rfl infoF (hC.size _) rfl) rfl ⟨rfl, HA6.out.over hF9 (by omega)⟩
    · have b0 := hB6.cell (i := 10) rfl
      simp only [List.getElem_toArray, List.getElem_cons_zero, List.getElem_cons_succ] at b0
      clear hB6
      rw [show ((10 : Nat) : Int) = 10 from rfl] at j0
      go_wp2_with (first
        | (refine row_load rfl 59 _ rfl _ rfl HB6.out Tryd.underlying59 rfl infoF (hC.size _) ?_)
        | (refine row_store rfl 59 _ _ rfl _ _ rfl rfl HZ6.out infoF rfl (hC.size _) (hC.one _) ?_))
      intro w9 hB9 hF9
      go_wp2_with fail
      exact bodyPost_ret (res_two rfl rfl hB9 Tryd.underlying59 rfl infoF (hC.size _) rfl) rfl ⟨rfl, HA6.out.over hF9 (by omega)⟩
    · have b0 := hB6.cell (i := 11) rfl
      simp only [List.getElem_toArray, List.getElem_cons_zero, List.getElem_cons_succ] at b0
      clear hB6
      rw [show ((11 : Nat) : Int) = 11 from rfl] at j0
      go_wp2_with (first
        | (refine row_load rfl 59 _ rfl _ rfl HB6.out Tryd.underlying59 rfl infoF (hC.size _) ?_)
        | (refine row_store rfl 59 _ _ rfl _ _ rfl rfl HZ6.out infoF rfl (hC.size _) (hC.one _) ?_))
      intro w9 hB9 hF9
      go_wp2_with fail
      exact bodyPost_ret (res_two rfl rfl hB9 Tryd.underlying59 rfl infoF (hC.size _) rfl) rfl ⟨rfl, HA6.out.over hF9 (by omega)⟩
    · have b0 := hB6.cell (i := 12) rfl
      simp only [List.getElem_toArray, List.getElem_cons_zero, List.getElem_cons_succ] at b0
      clear hB6
      rw [show ((12 : Nat) : Int) = 12 from rfl] at j0
      go_wp2_with (first
        | (refine row_load rfl 59 _ rfl _ rfl HB6.out Tryd.underlying59 rfl infoF (hC.size _) ?_)
        | (refine row_store rfl 59 _ _ rfl _ _ rfl rfl HZ6.out infoF rfl (hC.size _) (hC.one _) ?_))
      intro w9 hB9 hF9
      go_wp2_with fail
      exact bodyPost_ret (res_two rfl rfl hB9 Tryd.underlying59 rfl infoF (hC.size _) rfl) rfl ⟨rfl, HA6.out.over hF9 (by omega)⟩
    · have b0 := hB6.cell (i := 13) rfl
      simp only [List.getElem_toArray, List.getElem_cons_zero, List.getElem_cons_succ] at b0
      clear hB6
      rw [show ((13 : Nat) : Int) = 13 from rfl] at j0
      go_wp2_with (first
        | (refine row_load rfl 59 _ rfl _ rfl HB6.out Tryd.underlying59 rfl infoF (hC.size _) ?_)
        | (refine row_store rfl 59 _ _ rfl _ _ rfl rfl HZ6.out infoF rfl (hC.size _) (hC.one _) ?_))
      intro w9 hB9 hF9
      go_wp2_with fail
      exact bodyPost_ret (res_two rfl rfl hB9 Tryd.underlying59 rfl infoF (hC.size _) rfl) rfl ⟨rfl, HA6.out.over hF9 (by omega)⟩
    · have b0 := hB6.cell (i := 14) rfl
      simp only [List.getElem_toArray, List.getElem_cons_zero, List.getElem_cons_succ] at b0
      clear hB6
      rw [show ((14 : Nat) : Int) = 14 from rfl] at j0
      go_wp2_with (first
        | (refine row_load rfl 59 _ rfl _ rfl HB6.out Tryd.underlying59 rfl infoF (hC.size _) ?_)
        | (refine row_store rfl 59 _ _ rfl _ _ rfl rfl HZ6.out infoF rfl (hC.size _) (hC.one _) ?_))
      intro w9 hB9 hF9
      go_wp2_with fail
      exact bodyPost_ret (res_two rfl rfl hB9 Tryd.underlying59 rfl infoF (hC.size _) rfl) rfl ⟨rfl, HA6.out.over hF9 (by omega)⟩
    · have b0 := hB6.cell (i := 15) rfl
      simp only [List.getElem_toArray, List.getElem_cons_zero, List.getElem_cons_succ] at b0
      clear hB6
      rw [show ((15 : Nat) : Int) = 15 from rfl] at j0
      go_wp2_with (first
        | (refine row_load rfl 59 _ rfl _ rfl HB6.out Tryd.underlying59 rfl infoF (hC.size _) ?_)
        | (refine row_store rfl 59 _ _ rfl _ _ rfl rfl HZ6.out infoF rfl (hC.size _) (hC.one _) ?_))
      intro w9 hB9 hF9
      go_wp2_with fail
      exact bodyPost_ret (res_two rfl rfl hB9 Tryd.underlying59 rfl infoF (hC.size _) rfl) rfl ⟨rfl, HA6.out.over hF9 (by omega)⟩
    · have b0 := hB6.cell (i := 16) rfl
      simp only [List.getElem_toArray, List.getElem_cons_zero, List.getElem_cons_succ] at b0
      clear hB6
      rw [show ((16 : Nat) : Int) = 16 from rfl] at j0
      go_wp2_with (first
        | (refine row_load rfl 59 _ rfl _ rfl HB6.out Tryd.underlying59 rfl infoF (hC.size _) ?_)
        | (refine row_store rfl 59 _ _ rfl _ _ rfl rfl HZ6.out infoF rfl (hC.size _) (hC.one _) ?_))
      intro w9 hB9 hF9
      go_wp2_with fail
      exact bodyPost_ret (res_two rfl rfl hB9 Tryd.underlying59 rfl infoF (hC.size _) rfl) rfl ⟨rfl, HA6.out.over hF9 (by omega)⟩
end Go.Proofs.YtpjcdjooiaefdaaDoor
