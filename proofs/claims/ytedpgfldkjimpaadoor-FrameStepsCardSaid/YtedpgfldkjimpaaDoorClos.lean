/-
  What the closures of Plain do, and bit.
-/
import Derived.Test.YtedpgfldkjimpaaDoorTo
import Derived.Deep.RegionHeld3
import Derived.Deep.DeepCutAuto
namespace Go.Proofs.YtedpgfldkjimpaaDoor
open Go.RowKit
set_option linter.unusedVariables false

/-- An instruction that may be, as a row of cells. -/
def insC (o a b c n : Int) : Array Value := #[.int .i64 o, .int .i64 a, .int .i64 b, .int .i64 c, .int .i64 n]

/-- What 'put' is, in its box. -/
def putV (bf bi : Nat) : Value := .func (.func 33) #[] #[.pointer (some ⟨bf, 0, none⟩), .pointer (some ⟨bi, 0, none⟩)]

theorem bit_any (x : Bool) (w : World) : Calls Tryd.prog 41 #[.bool x] w fun e w' => e = .returned (.int .i64 (if x then 1 else 0)) ∧ w = w' := by
  cases x
  all_goals
    go_enter Tryd.func41, Tryd.ntmps41
    go_wp2
    go_ret
    exact ⟨rfl, rfl⟩

set_option maxRecDepth 100000 in
theorem put_ok {cel : Frm → Array Value} (hC : Cel cel) (F : Frm) (o a b c : Nat) (n v : Int) (bf bi : Nat) (w : World) (ha : a < 8) (hf : Blk w bf (cel F)) (hi : Blk w bi (insC o a b c n)) :
    Calls Tryd.prog 33 #[.int .i64 v, .pointer (some ⟨bf, 0, none⟩), .pointer (some ⟨bi, 0, none⟩)] w fun e w' => e = .returned (.agg (cel (F.put a v).on)) ∧ Fr (fun _ => False) w w' := by
  obtain ⟨w1, hw1⟩ : ∃ w1, w1 = w.alloc (.cells zeros 25) := ⟨_, rfl⟩
  have HA := hid (show Fr (fun _ => False) w w1 by rw [hw1]; exact Fr.alloc _ _ _)
  have HZ := hid (show Blk w1 w.heap.size zeros by rw [hw1]; exact Blk.new _ _ _)
  have hb1 := hf.keep HA.out (fun h => h)
  clear hf
  have hi1 := hi.keep HA.out (fun h => h)
  clear hi
  unfold zeros at hw1
  have q1 : w1.cell? ⟨bi, 1, none⟩ = some (.int .i64 a) := hi1.cell rfl
  go_enter Tryd.func33, Tryd.ntmps33
  go_upto_region 1 with fail
  rw [← hw1]
  clear hw1
  go_wp2_with (refine row_load rfl 25 _ rfl _ rfl hb1 Tryd.underlying25 rfl infoF (hC.size _) ?_)
  refine (with_any hC F a v w1 ha).mono ?_
  rintro e w2 ⟨rfl, hF2⟩
  go_wp2_with fail
  refine (passed_any hC _ _).mono ?_
  rintro e w3 ⟨rfl, hF3⟩
  have hz := HZ.out.keep (hF2.trans hF3) (fun h => h)
  go_wp2_with (refine row_store rfl 25 _ _ rfl _ _ rfl rfl hz infoF rfl (hC.size _) (hC.one _) ?_)
  intro w9 hB9 hF9
  go_wp2
  exact bodyPost_ret (res_one rfl rfl hB9 Tryd.underlying25 rfl infoF (hC.size _)) rfl ⟨rfl, (HA.out.trans (hF2.trans hF3)).over hF9 (Nat.le_refl _)⟩

set_option maxRecDepth 100000 in
theorem const_ok {cel : Frm → Array Value} (hC : Cel cel) (F : Frm) (o a b c : Nat) (n x y : Int) (bf bi bp bb bc : Nat) (w : World) (ha : a < 8) (hf : Blk w bf (cel F)) (hi : Blk w bi (insC o a b c n)) (hp : Blk w bp #[putV bf bi]) :
    Calls Tryd.prog 35 #[.pointer (some ⟨bp, 0, none⟩), .pointer (some ⟨bi, 0, none⟩)] w fun e w' => e = .returned (.agg (cel (F.put a (n)).on)) ∧ Fr (fun _ => False) w w' := by
  obtain ⟨w1, hw1⟩ : ∃ w1, w1 = w.alloc (.cells zeros 25) := ⟨_, rfl⟩
  have HA := hid (show Fr (fun _ => False) w w1 by rw [hw1]; exact Fr.alloc _ _ _)
  have HZ := hid (show Blk w1 w.heap.size zeros by rw [hw1]; exact Blk.new _ _ _)
  have hb1 := hf.keep HA.out (fun h => h)
  clear hf
  have hi1 := hi.keep HA.out (fun h => h)
  clear hi
  have hp1 := hp.keep HA.out (fun h => h)
  clear hp
  unfold zeros at hw1
  have qp : w1.cell? ⟨bp, 0, none⟩ = some (putV bf bi) := hp1.cell rfl
  unfold putV at qp
  have q4 : w1.cell? ⟨bi, 4, none⟩ = some (.int .i64 n) := hi1.cell rfl
  go_enter Tryd.func35, Tryd.ntmps35
  go_upto_region 1 with fail
  rw [← hw1]
  clear hw1
  go_wp2_with fail
  refine (put_ok hC F o a b c n _ bf bi w1 ha hb1 hi1).mono ?_
  rintro e w3 ⟨rfl, hF3⟩
  have hz := HZ.out.keep hF3 (fun h => h)
  go_wp2_with (refine row_store rfl 25 _ _ rfl _ _ rfl rfl hz infoF rfl (hC.size _) (hC.one _) ?_)
  intro w9 hB9 hF9
  go_wp2
  exact bodyPost_ret (res_one rfl rfl hB9 Tryd.underlying25 rfl infoF (hC.size _)) rfl ⟨rfl, (HA.out.trans hF3).over hF9 (Nat.le_refl _)⟩

set_option maxRecDepth 100000 in
theorem move_ok {cel : Frm → Array Value} (hC : Cel cel) (F : Frm) (o a b c : Nat) (n x y : Int) (bf bi bp bb bc : Nat) (w : World) (ha : a < 8) (hf : Blk w bf (cel F)) (hi : Blk w bi (insC o a b c n)) (hp : Blk w bp #[putV bf bi]) (hx : w.cell? ⟨bb, 0, none⟩ = some (.int .i64 x)) (hxl : bb < w.heap.size) :
    Calls Tryd.prog 36 #[.pointer (some ⟨bp, 0, none⟩), .pointer (some ⟨bb, 0, none⟩)] w fun e w' => e = .returned (.agg (cel (F.put a (x)).on)) ∧ Fr (fun _ => False) w w' := by
  obtain ⟨w1, hw1⟩ : ∃ w1, w1 = w.alloc (.cells zeros 25) := ⟨_, rfl⟩
  have HA := hid (show Fr (fun _ => False) w w1 by rw [hw1]; exact Fr.alloc _ _ _)
  have HZ := hid (show Blk w1 w.heap.size zeros by rw [hw1]; exact Blk.new _ _ _)
  have hb1 := hf.keep HA.out (fun h => h)
  clear hf
  have hi1 := hi.keep HA.out (fun h => h)
  clear hi
  have hp1 := hp.keep HA.out (fun h => h)
  clear hp
  unfold zeros at hw1
  have qx : w1.cell? ⟨bb, 0, none⟩ = some (.int .i64 x) := (cell_keep HA.out (p := ⟨bb, 0, none⟩) hxl (fun h => h)).trans hx
  clear hx
  have qp : w1.cell? ⟨bp, 0, none⟩ = some (putV bf bi) := hp1.cell rfl
  unfold putV at qp
  go_enter Tryd.func36, Tryd.ntmps36
  go_upto_region 1 with fail
  rw [← hw1]
  clear hw1
  go_wp2_with fail
  refine (put_ok hC F o a b c n _ bf bi w1 ha hb1 hi1).mono ?_
  rintro e w3 ⟨rfl, hF3⟩
  have hz := HZ.out.keep hF3 (fun h => h)
  go_wp2_with (refine row_store rfl 25 _ _ rfl _ _ rfl rfl hz infoF rfl (hC.size _) (hC.one _) ?_)
  intro w9 hB9 hF9
  go_wp2
  exact bodyPost_ret (res_one rfl rfl hB9 Tryd.underlying25 rfl infoF (hC.size _)) rfl ⟨rfl, (HA.out.trans hF3).over hF9 (Nat.le_refl _)⟩

set_option maxRecDepth 100000 in
theorem add_ok {cel : Frm → Array Value} (hC : Cel cel) (F : Frm) (o a b c : Nat) (n x y : Int) (bf bi bp bb bc : Nat) (w : World) (ha : a < 8) (hf : Blk w bf (cel F)) (hi : Blk w bi (insC o a b c n)) (hp : Blk w bp #[putV bf bi]) (hx : w.cell? ⟨bb, 0, none⟩ = some (.int .i64 x)) (hxl : bb < w.heap.size) (hy : w.cell? ⟨bc, 0, none⟩ = some (.int .i64 y)) (hyl : bc < w.heap.size) :
    Calls Tryd.prog 37 #[.pointer (some ⟨bp, 0, none⟩), .pointer (some ⟨bb, 0, none⟩), .pointer (some ⟨bc, 0, none⟩)] w fun e w' => e = .returned (.agg (cel (F.put a (wrap64 (x + y))).on)) ∧ Fr (fun _ => False) w w' := by
  obtain ⟨w1, hw1⟩ : ∃ w1, w1 = w.alloc (.cells zeros 25) := ⟨_, rfl⟩
  have HA := hid (show Fr (fun _ => False) w w1 by rw [hw1]; exact Fr.alloc _ _ _)
  have HZ := hid (show Blk w1 w.heap.size zeros by rw [hw1]; exact Blk.new _ _ _)
  have hb1 := hf.keep HA.out (fun h => h)
  clear hf
  have hi1 := hi.keep HA.out (fun h => h)
  clear hi
  have hp1 := hp.keep HA.out (fun h => h)
  clear hp
  unfold zeros at hw1
  have qy : w1.cell? ⟨bc, 0, none⟩ = some (.int .i64 y) := (cell_keep HA.out (p := ⟨bc, 0, none⟩) hyl (fun h => h)).trans hy
  clear hy
  have qx : w1.cell? ⟨bb, 0, none⟩ = some (.int .i64 x) := (cell_keep HA.out (p := ⟨bb, 0, none⟩) hxl (fun h => h)).trans hx
  clear hx
  have qp : w1.cell? ⟨bp, 0, none⟩ = some (putV bf bi) := hp1.cell rfl
  unfold putV at qp
  go_enter Tryd.func37, Tryd.ntmps37
  go_upto_region 1 with fail
  rw [← hw1]
  clear hw1
  go_wp2_with fail
  refine (put_ok hC F o a b c n _ bf bi w1 ha hb1 hi1).mono ?_
  rintro e w3 ⟨rfl, hF3⟩
  have hz := HZ.out.keep hF3 (fun h => h)
  go_wp2_with (refine row_store rfl 25 _ _ rfl _ _ rfl rfl hz infoF rfl (hC.size _) (hC.one _) ?_)
  intro w9 hB9 hF9
  go_wp2
  exact bodyPost_ret (res_one rfl rfl hB9 Tryd.underlying25 rfl infoF (hC.size _)) rfl ⟨rfl, (HA.out.trans hF3).over hF9 (Nat.le_refl _)⟩

set_option maxRecDepth 100000 in
theorem sub_ok {cel : Frm → Array Value} (hC : Cel cel) (F : Frm) (o a b c : Nat) (n x y : Int) (bf bi bp bb bc : Nat) (w : World) (ha : a < 8) (hf : Blk w bf (cel F)) (hi : Blk w bi (insC o a b c n)) (hp : Blk w bp #[putV bf bi]) (hx : w.cell? ⟨bb, 0, none⟩ = some (.int .i64 x)) (hxl : bb < w.heap.size) (hy : w.cell? ⟨bc, 0, none⟩ = some (.int .i64 y)) (hyl : bc < w.heap.size) :
    Calls Tryd.prog 38 #[.pointer (some ⟨bp, 0, none⟩), .pointer (some ⟨bb, 0, none⟩), .pointer (some ⟨bc, 0, none⟩)] w fun e w' => e = .returned (.agg (cel (F.put a (wrap64 (x - y))).on)) ∧ Fr (fun _ => False) w w' := by
  obtain ⟨w1, hw1⟩ : ∃ w1, w1 = w.alloc (.cells zeros 25) := ⟨_, rfl⟩
  have HA := hid (show Fr (fun _ => False) w w1 by rw [hw1]; exact Fr.alloc _ _ _)
  have HZ := hid (show Blk w1 w.heap.size zeros by rw [hw1]; exact Blk.new _ _ _)
  have hb1 := hf.keep HA.out (fun h => h)
  clear hf
  have hi1 := hi.keep HA.out (fun h => h)
  clear hi
  have hp1 := hp.keep HA.out (fun h => h)
  clear hp
  unfold zeros at hw1
  have qy : w1.cell? ⟨bc, 0, none⟩ = some (.int .i64 y) := (cell_keep HA.out (p := ⟨bc, 0, none⟩) hyl (fun h => h)).trans hy
  clear hy
  have qx : w1.cell? ⟨bb, 0, none⟩ = some (.int .i64 x) := (cell_keep HA.out (p := ⟨bb, 0, none⟩) hxl (fun h => h)).trans hx
  clear hx
  have qp : w1.cell? ⟨bp, 0, none⟩ = some (putV bf bi) := hp1.cell rfl
  unfold putV at qp
  go_enter Tryd.func38, Tryd.ntmps38
  go_upto_region 1 with fail
  rw [← hw1]
  clear hw1
  go_wp2_with fail
  refine (put_ok hC F o a b c n _ bf bi w1 ha hb1 hi1).mono ?_
  rintro e w3 ⟨rfl, hF3⟩
  have hz := HZ.out.keep hF3 (fun h => h)
  go_wp2_with (refine row_store rfl 25 _ _ rfl _ _ rfl rfl hz infoF rfl (hC.size _) (hC.one _) ?_)
  intro w9 hB9 hF9
  go_wp2
  exact bodyPost_ret (res_one rfl rfl hB9 Tryd.underlying25 rfl infoF (hC.size _)) rfl ⟨rfl, (HA.out.trans hF3).over hF9 (Nat.le_refl _)⟩

set_option maxRecDepth 100000 in
theorem mul_ok {cel : Frm → Array Value} (hC : Cel cel) (F : Frm) (o a b c : Nat) (n x y : Int) (bf bi bp bb bc : Nat) (w : World) (ha : a < 8) (hf : Blk w bf (cel F)) (hi : Blk w bi (insC o a b c n)) (hp : Blk w bp #[putV bf bi]) (hx : w.cell? ⟨bb, 0, none⟩ = some (.int .i64 x)) (hxl : bb < w.heap.size) (hy : w.cell? ⟨bc, 0, none⟩ = some (.int .i64 y)) (hyl : bc < w.heap.size) :
    Calls Tryd.prog 39 #[.pointer (some ⟨bp, 0, none⟩), .pointer (some ⟨bb, 0, none⟩), .pointer (some ⟨bc, 0, none⟩)] w fun e w' => e = .returned (.agg (cel (F.put a (wrap64 (x * y))).on)) ∧ Fr (fun _ => False) w w' := by
  obtain ⟨w1, hw1⟩ : ∃ w1, w1 = w.alloc (.cells zeros 25) := ⟨_, rfl⟩
  have HA := hid (show Fr (fun _ => False) w w1 by rw [hw1]; exact Fr.alloc _ _ _)
  have HZ := hid (show Blk w1 w.heap.size zeros by rw [hw1]; exact Blk.new _ _ _)
  have hb1 := hf.keep HA.out (fun h => h)
  clear hf
  have hi1 := hi.keep HA.out (fun h => h)
  clear hi
  have hp1 := hp.keep HA.out (fun h => h)
  clear hp
  unfold zeros at hw1
  have qy : w1.cell? ⟨bc, 0, none⟩ = some (.int .i64 y) := (cell_keep HA.out (p := ⟨bc, 0, none⟩) hyl (fun h => h)).trans hy
  clear hy
  have qx : w1.cell? ⟨bb, 0, none⟩ = some (.int .i64 x) := (cell_keep HA.out (p := ⟨bb, 0, none⟩) hxl (fun h => h)).trans hx
  clear hx
  have qp : w1.cell? ⟨bp, 0, none⟩ = some (putV bf bi) := hp1.cell rfl
  unfold putV at qp
  go_enter Tryd.func39, Tryd.ntmps39
  go_upto_region 1 with fail
  rw [← hw1]
  clear hw1
  go_wp2_with fail
  refine (put_ok hC F o a b c n _ bf bi w1 ha hb1 hi1).mono ?_
  rintro e w3 ⟨rfl, hF3⟩
  have hz := HZ.out.keep hF3 (fun h => h)
  go_wp2_with (refine row_store rfl 25 _ _ rfl _ _ rfl rfl hz infoF rfl (hC.size _) (hC.one _) ?_)
  intro w9 hB9 hF9
  go_wp2
  exact bodyPost_ret (res_one rfl rfl hB9 Tryd.underlying25 rfl infoF (hC.size _)) rfl ⟨rfl, (HA.out.trans hF3).over hF9 (Nat.le_refl _)⟩

set_option maxRecDepth 100000 in
theorem less_ok {cel : Frm → Array Value} (hC : Cel cel) (F : Frm) (o a b c : Nat) (n x y : Int) (bf bi bp bb bc : Nat) (w : World) (ha : a < 8) (hf : Blk w bf (cel F)) (hi : Blk w bi (insC o a b c n)) (hp : Blk w bp #[putV bf bi]) (hx : w.cell? ⟨bb, 0, none⟩ = some (.int .i64 x)) (hxl : bb < w.heap.size) (hy : w.cell? ⟨bc, 0, none⟩ = some (.int .i64 y)) (hyl : bc < w.heap.size) :
    Calls Tryd.prog 40 #[.pointer (some ⟨bp, 0, none⟩), .pointer (some ⟨bb, 0, none⟩), .pointer (some ⟨bc, 0, none⟩)] w fun e w' => e = .returned (.agg (cel (F.put a (if x < y then 1 else 0)).on)) ∧ Fr (fun _ => False) w w' := by
  have HF0 := hid hf
  have HI0 := hid hi
  have HP0 := hid hp
  have HX0 := hid hx
  have HY0 := hid hy
  obtain ⟨w1, hw1⟩ : ∃ w1, w1 = w.alloc (.cells zeros 25) := ⟨_, rfl⟩
  have HA := hid (show Fr (fun _ => False) w w1 by rw [hw1]; exact Fr.alloc _ _ _)
  have HZ := hid (show Blk w1 w.heap.size zeros by rw [hw1]; exact Blk.new _ _ _)
  have hb1 := hf.keep HA.out (fun h => h)
  clear hf
  have hi1 := hi.keep HA.out (fun h => h)
  clear hi
  have hp1 := hp.keep HA.out (fun h => h)
  clear hp
  unfold zeros at hw1
  have qy : w1.cell? ⟨bc, 0, none⟩ = some (.int .i64 y) := (cell_keep HA.out (p := ⟨bc, 0, none⟩) hyl (fun h => h)).trans hy
  clear hy
  have qx : w1.cell? ⟨bb, 0, none⟩ = some (.int .i64 x) := (cell_keep HA.out (p := ⟨bb, 0, none⟩) hxl (fun h => h)).trans hx
  clear hx
  have qp : w1.cell? ⟨bp, 0, none⟩ = some (putV bf bi) := hp1.cell rfl
  unfold putV at qp
  obtain ⟨t, ht⟩ : ∃ t : Int, t = if x < y then 1 else 0 := ⟨_, rfl⟩
  have hbit := fun w' => bit_any (decide (x < y)) w'
  rw [show (if decide (x < y) = true then (1 : Int) else 0) = t by rw [ht]; simp] at hbit
  rw [← ht]
  have HBIT := hid hbit
  clear hbit ht
  have HP := hid (fun (w' : World) (F' : Fr (fun _ => False) w w') => put_ok hC F o a b c n t bf bi w' ha (HF0.out.keep F' (fun h => h)) (HI0.out.keep F' (fun h => h)))
  have HS := hid (show ∀ w', Fr (fun _ => False) w w' → w'.cell? ⟨bp, 0, none⟩ = some (putV bf bi) ∧ w'.cell? ⟨bb, 0, none⟩ = some (.int .i64 x) ∧ w'.cell? ⟨bc, 0, none⟩ = some (.int .i64 y) from fun w' F' => ⟨(HP0.out.keep F' (fun h => h)).cell rfl, (cell_keep F' (p := ⟨bb, 0, none⟩) hxl (fun h => h)).trans HX0.out, (cell_keep F' (p := ⟨bc, 0, none⟩) hyl (fun h => h)).trans HY0.out⟩)
  unfold putV at HS
  have HFd := hid HA.out
  have HZ' := hid (fun (w' : World) (F' : Fr (fun _ => False) w1 w') => HZ.out.keep F' (fun h => h))
  have HG := hid (Fr.refl (fun _ => False) w1)
  clear hb1 hi1 hp1
  go_enter Tryd.func40, Tryd.ntmps40
  go_upto_region 1 with fail
  rw [← hw1]
  clear hw1
  go_region_held3 (fun w' => w'.cell? ⟨bp, 0, none⟩ = some (.func (.func 33) #[] #[.pointer (some ⟨bf, 0, none⟩), .pointer (some ⟨bi, 0, none⟩)]) ∧ w'.cell? ⟨bb, 0, none⟩ = some (.int .i64 x) ∧ w'.cell? ⟨bc, 0, none⟩ = some (.int .i64 y))
    (first | exact HS.out _ HFd.out | exact HS.out _ (HFd.out.trans (Fr.drew _ _)) | exact HS.out _ (HFd.out.over (setRow_fr _ _ _ rfl) (Nat.le_refl _)))
    (first
      | (go_at_call 41; (with_reducible refine (HBIT.out _).mono ?_); rintro e w6 ⟨rfl, rfl⟩)
      | (go_at_call 33; (with_reducible refine (HP.out _ (by first | exact HFd.out | exact HFd.out.trans (Fr.drew _ _))).mono ?_); rintro e w7 ⟨rfl, hF7⟩; have HG := hid (HG.out.trans (Fr.trans (by first | exact Fr.refl _ _ | exact Fr.drew _ _) hF7)); have HFd := hid (HFd.out.trans (Fr.trans (by first | exact Fr.refl _ _ | exact Fr.drew _ _) hF7)); have hst := store_eq (P := Tryd.prog) (HZ'.out _ HG.out) (hC.size (F.put a t).on) (hC.one _); have hsz := hC.size (F.put a t).on; clear hF7))
  all_goals
    go_wp2_with fail
    exact bodyPost_ret (res_one rfl rfl (setRow_blk (HZ'.out _ HG.out) _) Tryd.underlying25 rfl infoF (hC.size _)) rfl ⟨rfl, HFd.out.over (setRow_fr _ _ _ rfl) (Nat.le_refl _)⟩

set_option maxRecDepth 100000 in
theorem jump_ok {cel : Frm → Array Value} (hC : Cel cel) (F : Frm) (o a b c : Nat) (n : Int) (bf bi : Nat) (w : World) (hf : Blk w bf (cel F)) (hi : Blk w bi (insC o a b c n)) :
    Calls Tryd.prog 42 #[.pointer (some ⟨bf, 0, none⟩), .pointer (some ⟨bi, 0, none⟩)] w fun e w' => e = .returned (.agg (cel (F.to n))) ∧ Fr (fun _ => False) w w' := by
  obtain ⟨w1, hw1⟩ : ∃ w1, w1 = w.alloc (.cells zeros 25) := ⟨_, rfl⟩
  have HA := hid (show Fr (fun _ => False) w w1 by rw [hw1]; exact Fr.alloc _ _ _)
  have HZ := hid (show Blk w1 w.heap.size zeros by rw [hw1]; exact Blk.new _ _ _)
  have hb1 := hf.keep HA.out (fun h => h)
  clear hf
  have hi1 := hi.keep HA.out (fun h => h)
  clear hi
  unfold zeros at hw1
  have q4 : w1.cell? ⟨bi, 4, none⟩ = some (.int .i64 n) := hi1.cell rfl
  go_enter Tryd.func42, Tryd.ntmps42
  go_upto_region 1 with fail
  rw [← hw1]
  clear hw1
  go_wp2_with (refine row_load rfl 25 _ rfl _ rfl hb1 Tryd.underlying25 rfl infoF (hC.size _) ?_)
  refine (to_any hC F n w1).mono ?_
  rintro e w3 ⟨rfl, hF3⟩
  have hz := HZ.out.keep hF3 (fun h => h)
  go_wp2_with (refine row_store rfl 25 _ _ rfl _ _ rfl rfl hz infoF rfl (hC.size _) (hC.one _) ?_)
  intro w9 hB9 hF9
  go_wp2
  exact bodyPost_ret (res_one rfl rfl hB9 Tryd.underlying25 rfl infoF (hC.size _)) rfl ⟨rfl, (HA.out.trans hF3).over hF9 (Nat.le_refl _)⟩

set_option maxRecDepth 100000 in
theorem if_ok {cel : Frm → Array Value} (hC : Cel cel) (F : Frm) (o a b c : Nat) (n : Int) (bf bi : Nat) (w : World) (ha : a < 8) (hf : Blk w bf (cel F)) (hi : Blk w bi (insC o a b c n)) :
    Calls Tryd.prog 44 #[.pointer (some ⟨bf, 0, none⟩), .pointer (some ⟨bi, 0, none⟩)] w fun e w' => e = .returned (.agg (cel (if F.r a = 0 then F.on else F.to n))) ∧ Fr (fun _ => False) w w' := by
  obtain ⟨w1, hw1⟩ : ∃ w1, w1 = w.alloc (.cells zeros 25) := ⟨_, rfl⟩
  have HA := hid (show Fr (fun _ => False) w w1 by rw [hw1]; exact Fr.alloc _ _ _)
  have HZ := hid (show Blk w1 w.heap.size zeros by rw [hw1]; exact Blk.new _ _ _)
  have hb1 := hf.keep HA.out (fun h => h)
  clear hf
  have hi1 := hi.keep HA.out (fun h => h)
  clear hi
  unfold zeros at hw1
  have q1 : w1.cell? ⟨bi, 1, none⟩ = some (.int .i64 a) := hi1.cell rfl
  have q4 : w1.cell? ⟨bi, 4, none⟩ = some (.int .i64 n) := hi1.cell rfl
  have q5 : w1.cell? ⟨bf, 2 + a, none⟩ = some (.int .i64 (F.r a)) := hb1.cell (hC.r F a ha)
  have hb0 : (0 : Int) ≤ a ∧ (a : Int) < 8 := by omega
  obtain ⟨x, hx⟩ : ∃ x, F.r a = x := ⟨_, rfl⟩
  rw [hx] at q5 ⊢
  clear hx
  by_cases h0 : x = 0
  · subst h0
    rw [if_pos rfl]
    go_enter Tryd.func44, Tryd.ntmps44
    go_upto_region 1 with fail
    rw [← hw1]
    clear hw1
    go_wp2_with (refine row_load rfl 25 _ rfl _ rfl hb1 Tryd.underlying25 rfl infoF (hC.size _) ?_)
    refine (passed_any hC F w1).mono ?_
    rintro e w3 ⟨rfl, hF3⟩
    have hz := HZ.out.keep hF3 (fun h => h)
    go_wp2_with (refine row_store rfl 25 _ _ rfl _ _ rfl rfl hz infoF rfl (hC.size _) (hC.one _) ?_)
    intro w9 hB9 hF9
    go_wp2
    exact bodyPost_ret (res_one rfl rfl hB9 Tryd.underlying25 rfl infoF (hC.size _)) rfl ⟨rfl, (HA.out.trans hF3).over hF9 (Nat.le_refl _)⟩
  · rw [if_neg h0]
    have t0 : (x == 0) = false := beq_eq_false_iff_ne.2 h0
    go_enter Tryd.func44, Tryd.ntmps44
    go_upto_region 1 with fail
    rw [← hw1]
    clear hw1
    go_wp2_with (refine row_load rfl 25 _ rfl _ rfl hb1 Tryd.underlying25 rfl infoF (hC.size _) ?_)
    refine (to_any hC F n w1).mono ?_
    rintro e w3 ⟨rfl, hF3⟩
    have hz := HZ.out.keep hF3 (fun h => h)
    go_wp2_with (refine row_store rfl 25 _ _ rfl _ _ rfl rfl hz infoF rfl (hC.size _) (hC.one _) ?_)
    intro w9 hB9 hF9
    go_wp2
    exact bodyPost_ret (res_one rfl rfl hB9 Tryd.underlying25 rfl infoF (hC.size _)) rfl ⟨rfl, (HA.out.trans hF3).over hF9 (Nat.le_refl _)⟩

end Go.Proofs.YtedpgfldkjimpaaDoor
