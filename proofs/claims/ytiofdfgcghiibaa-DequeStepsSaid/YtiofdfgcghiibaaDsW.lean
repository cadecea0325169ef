/-
  DequeSteps answers true at every input.
-/
import Derived.Test.YtiofdfgcghiibaaMgB
import Derived.Test.YtiofdfgcghiibaaOpen
import Derived.Deep.RegionHeld3
import Derived.Deep.CutBlock
namespace Go.Proofs.Ytiofdfgcghiibaa
open Go.RowKit
set_option linter.unusedVariables false

def DsRel (w0 : World) (b : MB) (B c bd bq bo br : Nat) (size : Nat) (most : Int) (n : Nat) (d : Nat) (z : Value) (wr : World) : Prop :=
  ∃ (i : Nat) (M : Mach) (s : List Int) (A : Nat → Bool) (O Q C : Nat → Nat) (f : Nat → DOp) (did : Int) (P D : Nat → Nat) (g cap : Nat), i ≤ n ∧ d = n + 1 - i ∧ z = .int .i64 i ∧ DsS w0 b B c bd bq bo br size most i M s A O Q C f did P D g cap wr

/-- One of them has something under way. -/
def CameD (w0 : World) (b : MB) (B c bd bq bo br : Nat) (size : Nat) (most : Int) (K u : Nat) (M : Mach) (s : List Int) (did : Int) (g cap : Nat) (w : World) : Prop :=
  ∃ (A : Nat → Bool) (O Q C : Nat → Nat) (f : Nat → DOp) (P D : Nat → Nat), DsS w0 b B c bd bq bo br size most K M s A O Q C f did P D g cap w ∧ A u = true ∧ (f u).Going

def PkRel (w : World) (U : Nat) (d : Nat) (z : Value) (wr : World) : Prop := ∃ j : Nat, j ≤ U ∧ d = U + 1 - j ∧ z = .int .i64 j ∧ Fr (fun _ => False) w wr

/-- The program's Push has begun, and lies in its place. -/
def PushB (w0 : World) (b : MB) (B c bd bq bo br : Nat) (size : Nat) (most : Int) (K u : Nat) (x : Int) (M : Mach) (s : List Int) (A : Nat → Bool) (O Q C : Nat → Nat) (f : Nat → DOp) (did : Int) (P D : Nat → Nat) (g cap N0 : Nat) (w : World) : Prop :=
  ∃ o1 q1 c1 : Nat, StM w0 b B c bd bq bo br (size : Int) most M s (upd A u false) A O Q C f did M P D f g cap w ∧ IsOp w b o1 q1 c1 most (beginOp 0 x) ∧ ((N0 ≤ o1 ∧ N0 ≤ q1 ∧ N0 ≤ c1) ∧ (o1 < w.heap.size ∧ q1 < w.heap.size ∧ c1 < w.heap.size)) ∧ w.cell? ⟨bo, u, none⟩ = some (.pointer (some ⟨o1, 0, none⟩))

set_option maxRecDepth 100000 in
set_option maxHeartbeats 20000000 in
theorem stepsLaw (sz p q : Int) (A : Option Addr) (n c0 : Nat) (f : Nat → Nat → Int) (w0 : World) (hr : Row w0 A n 3 f) :
    Calls Try.prog 3 #[.int .i64 sz, .agg #[.int .i64 p, .int .i64 q], .slice A n c0] w0 fun e w' => e = .returned (.bool true) ∧ Below w0.heap.size w0 w' := by
  have HROW := hid hr
  clear hr
  rcases ht0 : decide (sz < 1) with _ | _
  rotate_left 1
  · go_enter Try.func3, Try.ntmps3
    go_wp2_with fail
    refine (awake_ok _).mono ?_
    rintro e w9 ⟨rfl, hF9⟩
    go_wp2_with fail
    go_ret
    exact ⟨rfl, ((Fr.alloc (fun _ => False) _ _).trans hF9).below (Nat.le_refl _) (fun _ hh => hh.elim)⟩
  rcases ht1 : decide (600 < sz) with _ | _
  rotate_left 1
  · go_enter Try.func3, Try.ntmps3
    go_wp2_with fail
    refine (awake_ok _).mono ?_
    rintro e w9 ⟨rfl, hF9⟩
    go_wp2_with fail
    go_ret
    exact ⟨rfl, ((Fr.alloc (fun _ => False) _ _).trans hF9).below (Nat.le_refl _) (fun _ hh => hh.elim)⟩
  rcases ht2 : decide ((400 : Int) < (n : Int)) with _ | _
  rotate_left 1
  · go_enter Try.func3, Try.ntmps3
    go_wp2_with fail
    refine (awake_ok _).mono ?_
    rintro e w9 ⟨rfl, hF9⟩
    go_wp2_with fail
    go_ret
    exact ⟨rfl, ((Fr.alloc (fun _ => False) _ _).trans hF9).below (Nat.le_refl _) (fun _ hh => hh.elim)⟩
  obtain ⟨z, rfl⟩ := Int.eq_ofNat_of_zero_le (show 0 ≤ sz by simp at ht0; omega)
  have hz1 : 1 ≤ z := by simp at ht0; omega
  have hz6 : z ≤ 600 := by simp at ht1; omega
  have HN4 := hid (show n ≤ 400 from by simp at ht2; omega)
  go_enter Try.func3, Try.ntmps3
  go_wp2_with fail
  refine (new_ok z 4 _ hz1 (by omega) (by omega) (by omega)).mono ?_
  rintro e w1 ⟨b, rfl, hM, hF, hown⟩
  clear ht0 ht1 ht2
  have HM1 := hid (show IsM w1 b (MO ⟨List.replicate z 0, 0, []⟩ (List.replicate 5 0)) from hM)
  have HBx := hid ((Blk.new w0 #[.int .i64 p, .int .i64 q] 22).same hF)
  have HF1 := hid ((Fr.alloc (fun _ => False) w0 (.cells #[.int .i64 p, .int .i64 q] 22)).trans hF)
  have HBO := hid (show ∀ k, b.own k → w0.heap.size < k from fun k hk => by have := hown k hk; simp at this; omega)
  have HOL := hid (show ∀ k, b.own k → k < w1.heap.size from hM.own_lt)
  clear hM hF hown
  go_upto_region 7 with fail
  obtain ⟨c, hc⟩ : ∃ c, w1.heap.size = c := ⟨_, rfl⟩
  obtain ⟨w2, hw2⟩ : ∃ w2, w1.alloc (.cells #[.slice none 0 0, .int .i64 (z : Nat), .int .i64 0] 32) = w2 := ⟨_, rfl⟩
  have HC2 := hid (show TBlk w2 c #[.slice none 0 0, .int .i64 (z : Nat), .int .i64 0] 32 from by rw [← hw2]; exact (TBlk.new _ _ _).at hc)
  have hF : Fr (fun _ => False) w1 w2 := by rw [← hw2]; exact Fr.alloc _ _ _
  have HM2 := hid (HM1.out.same hF)
  have HBx2 := hid (HBx.out.same hF)
  have HF2 := hid (HF1.out.trans hF)
  have HWC := hid (show w0.heap.size < c from by have := HBx.out.lt; omega)
  rw [hc] at HOL
  rw [hw2, hc]
  clear hw2 hc hF HM1 HBx HF1
  have x0 := HBx2.out.cell (i := 0) rfl
  have x1 := HBx2.out.cell (i := 1) rfl
  by_cases hl : 0 ≤ p ∧ p ≤ q ∧ q ≤ 8
  rotate_left 1
  · as_aux_lemma =>
      go_wp2_with fail
      refine (dnew_log b 4 p q _ hl).mono ?_
      rintro e w3 ⟨rfl, hF⟩
      have HF3 := hid (HF2.out.since hF (fun i hi hlt => hi.elim))
      have HBx3 := hid (HBx2.out.keep hF (fun hh => hh))
      have HC3 := hid (HC2.out.keep hF (fun hh => hh))
      clear hF x0 x1 HF2 HBx2 HC2 
      go_upto_region 8 with fail
      obtain ⟨bd, hbd⟩ : ∃ c, w3.heap.size = c := ⟨_, rfl⟩
      obtain ⟨w4, hw4⟩ : ∃ w2, w3.alloc (.cells #[.int .i64 0, .int .i64 0] 34) = w2 := ⟨_, rfl⟩
      have HD4 := hid (show Blk w4 bd #[.int .i64 0, .int .i64 0] from by rw [← hw4]; exact (Blk.new _ _ _).at hbd)
      have hF : Fr (fun _ => False) w3 w4 := by rw [← hw4]; exact Fr.alloc _ _ _
      have HF4 := hid (HF3.out.trans hF)
      have HBx4 := hid (HBx3.out.same hF)
      have HC4 := hid (HC3.out.keep hF (fun h => h))
      rw [hw4, hbd]
      clear hw4 hbd hF HF3 HBx3 HC3
      have x0 := HBx4.out.cell (i := 0) rfl
      have x1 := HBx4.out.cell (i := 1) rfl
      go_wp2_with fail
      refine (rdnew_log c p q _ hl).mono ?_
      rintro e w5 ⟨rfl, hF⟩
      have HF5 := hid (HF4.out.trans hF)
      have HD5 := hid (HD4.out.same hF)
      clear hF x0 x1 HF4 HBx4 HC4 HD4
      go_upto_region 9 with fail
      obtain ⟨bq, hbq⟩ : ∃ c, w5.heap.size = c := ⟨_, rfl⟩
      obtain ⟨w6, hw6⟩ : ∃ w2, w5.alloc (.cells #[.int .i64 0, .int .i64 0] 37) = w2 := ⟨_, rfl⟩
      have HQ6 := hid (show Blk w6 bq #[.int .i64 0, .int .i64 0] from by rw [← hw6]; exact (Blk.new _ _ _).at hbq)
      have hF : Fr (fun _ => False) w5 w6 := by rw [← hw6]; exact Fr.alloc _ _ _
      have HF6 := hid (HF5.out.trans hF)
      have HD6 := hid (HD5.out.same hF)
      rw [hw6, hbq]
      clear hw6 hbq hF HF5 HD5
      have d0 := HD6.out.cell (i := 0) rfl
      have d1 := HD6.out.cell (i := 1) rfl
      have e0 := HQ6.out.cell (i := 0) rfl
      have e1 := HQ6.out.cell (i := 1) rfl
      go_wp2_with fail
      refine (awake_ok _).mono ?_
      rintro e w9 ⟨rfl, hF9⟩
      go_wp2_with fail
      go_ret
      exact ⟨rfl, (HF6.out.trans hF9).below (Nat.le_refl _) (fun _ hh => hh.elim)⟩
  obtain ⟨hp0, hpq, hq8⟩ := hl
  by_cases hroom : 3 + pow p ≤ z
  rotate_left 1
  · as_aux_lemma =>
      go_wp2_with fail
      refine (dnew_full b _ 4 4 p q _ HM2.out rfl (by show 4 < (List.replicate 5 (0 : Int)).length; simp) hp0 hpq hq8 (by show ((List.replicate z (0 : Int)).length : Int) - ((0 : Nat) : Int) < 3 + pow p; simp; omega)).mono ?_
      rintro e w3 ⟨rfl, hM, hF⟩
      have HF3 := hid (HF2.out.since hF (fun i hi hlt => by have := HBO.out i hi; omega))
      have HBx3 := hid (HBx2.out.keep hF (fun hh => by have := HBO.out _ hh; omega))
      have HC3 := hid (HC2.out.keep hF (fun hh => by have := HOL.out _ hh; omega))
      clear hF x0 x1 HF2 HBx2 HC2 hM
      go_upto_region 8 with fail
      obtain ⟨bd, hbd⟩ : ∃ c, w3.heap.size = c := ⟨_, rfl⟩
      obtain ⟨w4, hw4⟩ : ∃ w2, w3.alloc (.cells #[.int .i64 0, .int .i64 0] 34) = w2 := ⟨_, rfl⟩
      have HD4 := hid (show Blk w4 bd #[.int .i64 0, .int .i64 0] from by rw [← hw4]; exact (Blk.new _ _ _).at hbd)
      have hF : Fr (fun _ => False) w3 w4 := by rw [← hw4]; exact Fr.alloc _ _ _
      have HF4 := hid (HF3.out.trans hF)
      have HBx4 := hid (HBx3.out.same hF)
      have HC4 := hid (HC3.out.keep hF (fun h => h))
      rw [hw4, hbd]
      clear hw4 hbd hF HF3 HBx3 HC3
      have x0 := HBx4.out.cell (i := 0) rfl
      have x1 := HBx4.out.cell (i := 1) rfl
      go_wp2_with fail
      refine (rdnew_full c z p q _ HC4.out hp0 hpq hq8 (by omega) (by omega) (by omega)).mono ?_
      rintro e w5 ⟨rfl, hF⟩
      have HF5 := hid (HF4.out.trans hF)
      have HD5 := hid (HD4.out.same hF)
      clear hF x0 x1 HF4 HBx4 HC4 HD4
      go_upto_region 9 with fail
      obtain ⟨bq, hbq⟩ : ∃ c, w5.heap.size = c := ⟨_, rfl⟩
      obtain ⟨w6, hw6⟩ : ∃ w2, w5.alloc (.cells #[.int .i64 0, .int .i64 0] 37) = w2 := ⟨_, rfl⟩
      have HQ6 := hid (show Blk w6 bq #[.int .i64 0, .int .i64 0] from by rw [← hw6]; exact (Blk.new _ _ _).at hbq)
      have hF : Fr (fun _ => False) w5 w6 := by rw [← hw6]; exact Fr.alloc _ _ _
      have HF6 := hid (HF5.out.trans hF)
      have HD6 := hid (HD5.out.same hF)
      rw [hw6, hbq]
      clear hw6 hbq hF HF5 HD5
      have d0 := HD6.out.cell (i := 0) rfl
      have d1 := HD6.out.cell (i := 1) rfl
      have e0 := HQ6.out.cell (i := 0) rfl
      have e1 := HQ6.out.cell (i := 1) rfl
      go_wp2_with fail
      refine (awake_ok _).mono ?_
      rintro e w9 ⟨rfl, hF9⟩
      go_wp2_with fail
      go_ret
      exact ⟨rfl, (HF6.out.trans hF9).below (Nat.le_refl _) (fun _ hh => hh.elim)⟩
  obtain ⟨N, hN⟩ := Int.eq_ofNat_of_zero_le (show 0 ≤ 3 + pow p by have := pow_pos p; omega)
  have hNz : N ≤ z := by omega
  have HSS := hid (newM_ss z [] p q hp0 hpq hq8 hz6 (by omega))
  have HTK := hid (newM_take z [] p N hN hNz)
  go_wp2_with fail
  refine (dnew_ok b _ _ 4 4 p q _ HM2.out rfl rfl (by simp) hp0 hpq hq8 (by rw [List.length_replicate]; omega)).mono ?_
  rintro e w3 ⟨rfl, hM, hF⟩
  obtain ⟨s0, hs0⟩ : ∃ s0, stp (stp (List.replicate 5 0) 4) 4 = s0 := ⟨_, rfl⟩
  have HSL := hid (show s0.length = 5 ∧ sum5 s0 = 2 ∧ ∀ j, j < 5 → 0 ≤ s0.getD j 0 ∧ s0.getD j 0 ≤ 2 + ((0 : Nat) : Int) from by rw [← hs0]; decide +kernel)
  rw [hs0] at hM
  obtain ⟨M0, hM0⟩ : ∃ M0, newM ⟨List.replicate z 0, 0, []⟩ p = M0 := ⟨_, rfl⟩
  rw [hM0] at hM HSS HTK
  have HM3 := hid hM
  have HF3 := hid (HF2.out.since hF (fun i hi hlt => by have := HBO.out i hi; omega))
  have HBx3 := hid (HBx2.out.keep hF (fun hh => by have := HBO.out _ hh; omega))
  have HC3 := hid (HC2.out.keep hF (fun hh => by have := HOL.out _ hh; omega))
  clear hF hM hs0 hM0 x0 x1 HF2 HBx2 HC2 HM2
  go_upto_region 8 with fail
  obtain ⟨bd, hbd⟩ : ∃ c, w3.heap.size = c := ⟨_, rfl⟩
  obtain ⟨w4, hw4⟩ : ∃ w2, w3.alloc (.cells #[.int .i64 0, .int .i64 q] 34) = w2 := ⟨_, rfl⟩
  have HD4 := hid (show Blk w4 bd #[.int .i64 0, .int .i64 q] from by rw [← hw4]; exact (Blk.new _ _ _).at hbd)
  have hF : Fr (fun _ => False) w3 w4 := by rw [← hw4]; exact Fr.alloc _ _ _
  have HM4 := hid (HM3.out.same hF)
  have HF4 := hid (HF3.out.trans hF)
  have HBx4 := hid (HBx3.out.same hF)
  have HC4 := hid (HC3.out.keep hF (fun h => h))
  have HCD := hid (show c < bd from by have := HC3.out.lt; omega)
  rw [hw4, hbd]
  clear hw4 hbd hF HF3 HBx3 HC3 HM3
  have x0 := HBx4.out.cell (i := 0) rfl
  have x1 := HBx4.out.cell (i := 1) rfl
  go_wp2_with fail
  refine (rdnew_ok c z p q _ HC4.out hp0 hpq hq8 (by omega) (by omega) N hN).mono ?_
  rintro e w5 ⟨g, cap, rfl, hC, hgl, hF⟩
  have HB := hid (show ∃ B, B = w4.heap.size from ⟨_, rfl⟩)
  obtain ⟨B, hB⟩ : ∃ B, w4.heap.size = B := ⟨_, rfl⟩
  rw [hB] at hC hgl
  have HC5 := hid hC
  have HGL := hid (show bd < g from by have := HD4.out.lt; omega)
  have HF5 := hid (HF4.out.since hF (fun i hi hlt => by have := HWC.out; have h2 : i = c := hi; omega))
  have HD5 := hid (HD4.out.keep hF (fun hh => by have := HCD.out; have h2 : bd = c := hh; omega))
  have HM5 := hid (HM4.out.keep hF (fun k hk hh => by have := HOL.out _ hk; have h2 : k = c := hh; omega))
  clear hF hC hgl hB HB x0 x1 HF4 HBx4 HC4 HD4 HM4
  go_upto_region 9 with fail
  obtain ⟨bq, hbq⟩ : ∃ c, w5.heap.size = c := ⟨_, rfl⟩
  obtain ⟨w6, hw6⟩ : ∃ w2, w5.alloc (.cells #[.int .i64 0, .int .i64 q] 37) = w2 := ⟨_, rfl⟩
  have HQ6 := hid (show Blk w6 bq #[.int .i64 0, .int .i64 q] from by rw [← hw6]; exact (Blk.new _ _ _).at hbq)
  have hF : Fr (fun _ => False) w5 w6 := by rw [← hw6]; exact Fr.alloc _ _ _
  have HF6 := hid (HF5.out.trans hF)
  have HD6 := hid (HD5.out.same hF)
  have HC6 := hid (HC5.out.same hF)
  have HM6 := hid (HM5.out.same hF)
  have HGQ := hid (show g < bq from by obtain ⟨_, hb⟩ := HC5.out.blk; have := hb.lt; omega)
  rw [hw6, hbq]
  clear hw6 hbq hF HF5 HD5 HC5 HM5
  have d0 := HD6.out.cell (i := 0) rfl
  have d1 := HD6.out.cell (i := 1) rfl
  have e0 := HQ6.out.cell (i := 0) rfl
  have e1 := HQ6.out.cell (i := 1) rfl
  have tq : (q != q) = false := by simp
  have m1 := run_make_row' (P := Try.prog) 40 51 (.pointer none) 8 Try.underlying40 Try.infoop rfl .i64 .i64 4 (by omega) (by omega)
  have m2 := run_make_row' (P := Try.prog) 41 45 (.pointer none) 8 Try.underlying41 Try.infoor rfl .i64 .i64 4 (by omega) (by omega)
  rw [show ((4 : Nat) : Int) = 4 from rfl] at m1 m2
  go_wp2_with fail
  clear m1 m2 tq d0 d1 e0 e1
  obtain ⟨bo, hbo⟩ : ∃ x, w6.heap.size = x := ⟨_, rfl⟩
  obtain ⟨br, hbr⟩ : ∃ x, bo + 1 = x := ⟨_, rfl⟩
  obtain ⟨w7, hw7⟩ : ∃ w7, (w6.alloc (.cells (madeCells #[.pointer none] 4) 51)).alloc (.cells (madeCells #[.pointer none] 4) 45) = w7 := ⟨_, rfl⟩
  have HO7 := hid (show Blk w7 bo (madeCells #[.pointer none] 4) from by rw [← hw7]; exact ((Blk.new _ _ _).at hbo).alloc _)
  have HR7 := hid (show Blk w7 br (madeCells #[.pointer none] 4) from by rw [← hw7]; exact (Blk.new _ _ _).at (by simp; omega))
  have hF : Fr (fun _ => False) w6 w7 := by rw [← hw7]; exact (Fr.alloc _ _ _).trans (Fr.alloc _ _ _)
  have HQB := hid (show bq < bo from by have := HQ6.out.lt; omega)
  have HE := hid (show EnS w0 b c bd bq bo br from ⟨fun k hk => ⟨by have := HBO.out k hk; omega, HOL.out k hk⟩, by have := HWC.out; omega, HCD.out, by have := HGL.out; have := HGQ.out; omega, HQB.out, by omega⟩)
  have HS7 := hid (show DsS w0 b B c bd bq bo br z q 0 M0 s0 (fun _ => false) (fun _ => 0) (fun _ => 0) (fun _ => 0) (fun _ => beginOp 2 0) 2 (fun _ => 0) (fun _ => 0) g cap w7 from by
    have hE := HE.out
    have h1 := hE.l0; have h2 := hE.l1; have h3 := hE.l2; have h4 := hE.l3; have h5 := hE.l4
    have h6 := HGL.out; have h7 := HGQ.out
    have h8 := HR7.out.lt
    have hss := HSS.out
    refine ⟨⟨⟨HM6.out.same hF, HSL.out.1, fun v _ hh => (by cases hh)⟩, ⟨?_, fun v _ hh => (by cases hh)⟩, HD6.out.same hF, HQ6.out.same hF, ⟨_, HO7.out, by rw [size_madeCells], fun v _ hh => (by cases hh)⟩, ⟨_, HR7.out, by rw [size_madeCells], fun v _ hh => (by cases hh), fun v hv _ => ?_⟩, ⟨fun v _ hh => (by cases hh), fun v v' _ _ _ hh => (by cases hh), fun v _ hh => (by cases hh), fun v _ hh => (by cases hh), by omega, by omega⟩, ⟨fun hh => by have := hE.ob _ hh; omega, by omega, by omega, by omega, by omega, by omega, by omega⟩, HF6.out.trans hF⟩, ⟨⟨⟨3, p⟩, ⟨hss, by omega, fun v hh => (by cases hh), fun v _ hh => (by cases hh), fun hh => (by cases hh)⟩⟩, ⟨⟨by have := hss.t0; omega, hss.tN, hss.b0, hss.bN⟩, fun v hh => (by cases hh), by omega⟩, HSL.out.2.1, HSL.out.1, HSL.out.2.2, by omega, by omega⟩⟩
    · rw [HTK.out.1, HTK.out.2]
      exact HC6.out.same hF
    · simp [madeCells, hv, Nat.mod_one])
  rw [hw7, hbo, hbr]
  clear hw7 hbo hbr hF HO7 HR7 HQB HGQ HGL HSL HTK HSS HCD HWC HOL HBO HC6 HD6 HM6 HQ6 HF6 hN hNz hp0 hpq hq8 hroom
  have HZ := hid (show 1 ≤ z ∧ z ≤ 600 from ⟨hz1, hz6⟩)
  clear hz1 hz6
  have HREL := hid (show DsRel w0 b B c bd bq bo br z q n (n + 1) (.int .i64 0) w7 from ⟨0, _, _, _, _, _, _, _, _, _, _, _, _, Nat.zero_le _, by omega, rfl, HS7.out⟩)
  clear HS7
  go_loopg [15] (n + 1) (fun d zz wr => DsRel w0 b B c bd bq bo br z q n d zz wr)
  case atStart => exact HREL.out
  case round =>
    clear HREL

    obtain ⟨i, M, s, AA, O, Q, C, fo, did, P, D, g, cap, hi, rfl, rfl, hS⟩ := hrel
    have HS := hid hS
    clear hS
    by_cases hlt : i < n
    · have hlt2 : (i : Int) < n := by omega
      have HLT := hid hlt
      obtain ⟨gl, ol, rfl, hcl⟩ := row_at3 HROW.out hlt
      obtain ⟨ka, hka⟩ : ∃ X, f i 0 = X := ⟨_, rfl⟩
      obtain ⟨kd, hkd⟩ : ∃ X, f i 1 = X := ⟨_, rfl⟩
      obtain ⟨kx, hkx⟩ : ∃ X, f i 2 = X := ⟨_, rfl⟩
      rw [hka, hkd, hkx] at hcl
      have HCL := hid hcl
      clear hka hkd hkx hcl
      obtain ⟨k0, k1, k2⟩ := HCL.out _ HS.out.1.fm
      have h3 := Int.emod_nonneg ka (show (4 : Int) ≠ 0 by omega)
      have h4 := Int.emod_lt_of_pos ka (show 0 < (4 : Int) by omega)
      obtain ⟨u, hu⟩ := Int.eq_ofNat_of_zero_le h3
      rw [hu] at h4
      have HU4 := hid (show u < 4 from by omega)
      have HWHO := hid (fun (v : World) => hu ▸ who_ok ka kd kx v)
      clear h3 h4 hu hi
      go_wp2_with fail
      refine (HWHO.out _).mono ?_
      rintro e w8 ⟨rfl, hF⟩
      have HS3 := hid (show DsS w0 b B c bd bq bo br z q i M s AA O Q C fo did P D g cap w8 from ⟨HS.out.1.same hF, HS.out.2⟩)
      clear hF HS k0 k1 k2 HWHO
      have u4 := HU4.out
      have bu0 : (0 : Int) ≤ (u : Int) := by omega
      have bu4 : (u : Int) < 4 := by omega
      have cr : w8.cell? ⟨br, u, none⟩ = some (.pointer (if AA u then some ⟨P u, 0, none⟩ else none)) := by
        obtain ⟨cc, d1, d2, d3, d4⟩ := HS3.out.1.hr
        refine d1.cell ?_
        rcases hau : AA u with _ | _
        · exact d4 u u4 hau
        · exact d3 u u4 hau
      go_upto_region 19 with fail
      go_cut [17] from 94 to 98 (fun zz wx => zz = .bool (!AA u) ∧ w8 = wx)
      case first =>
        rcases hau : AA u with _ | _
        · rw [hau] at cr
          go_wp2_with fail
          go_meet
          exact ⟨by rw [hau]; rfl, rfl⟩
        · rw [hau] at cr
          go_wp2_with fail
          go_meet
          exact ⟨by rw [hau]; rfl, rfl⟩
      case rest =>
        obtain ⟨rfl, rfl⟩ := hcut
        obtain ⟨bg, hbg⟩ : ∃ b, (!AA u) = b := ⟨_, rfl⟩
        rw [hbg]
        have HBG := hid hbg
        clear hbg
        go_upto_if 100 with fail
        go_cut [17] from 101 to 136 (fun zz wx => ∃ v, zz = .bool v ∧ w8 = wx ∧ (v = false → AA u = true ∧ (fo u).Going))
        case first =>
          rcases bg with _ | _
          · have hau : AA u = true := by have := HBG.out; simpa using this
            rw [hau] at cr
            have kh : w8.cell? ⟨P u, 13, none⟩ = some (.int .i64 ((fo u).how : Nat)) := by
              obtain ⟨cv, h1, _⟩ := (HS3.out.1.rm.ir u HU4.out hau).1
              exact h1.cell rfl
            have lp : P u < w8.heap.size := (HS3.out.1.lay.up u HU4.out hau _ (.inr (.inl rfl))).2
            obtain ⟨k0, k1, k2⟩ := HCL.out _ HS3.out.1.fm
            have HAU := hid hau
            clear hau
            obtain ⟨hw, hhw⟩ : ∃ hw, (fo u).how = hw := ⟨_, rfl⟩
            rw [hhw] at kh
            have HHW := hid hhw
            clear hhw
            rcases t1 : ((hw : Int) != 0) with _ | _
            · have h0 : hw = 0 := by simp at t1; omega
              subst h0
              go_wp2_with fail
              go_meet
              exact ⟨false, rfl, rfl, fun _ => ⟨HAU.out, .inl HHW.out⟩⟩
            · rcases t2 : ((hw : Int) != 2) with _ | _
              · have h0 : hw = 2 := by simp at t2; omega
                subst h0
                rcases t4 : (kd == 7) with _ | _
                · go_wp2_with fail
                  go_meet
                  exact ⟨false, rfl, rfl, fun _ => ⟨HAU.out, .inr HHW.out⟩⟩
                · go_wp2_with fail
                  go_meet
                  exact ⟨true, rfl, rfl, fun h => by cases h⟩
              · go_wp2_with fail
                go_meet
                exact ⟨true, rfl, rfl, fun h => by cases h⟩
          · go_wp2_with fail
            go_meet
            exact ⟨true, rfl, rfl, fun h => by cases h⟩
        case rest =>
          obtain ⟨v, rfl, rfl, hv⟩ := hcut
          have HV := hid hv
          clear hv cr

          go_upto_if 137 with fail
          go_cut [17] from 138 to 186 (fun zz wx => CameD w0 b B c bd bq bo br z q i u M s did g cap wx)
          case first =>
            rcases v with _ | _
            · go_wp2_with fail
              go_meet
              exact ⟨AA, O, Q, C, fo, P, D, HS3.out, (HV.out (by simp)).1, (HV.out (by simp)).2⟩
            · clear HV
              by_cases hu0 : u = 0
              · have tu3 : decide ((0 : Int) < (u : Int)) = false := by simp; omega
                have tu4 : decide (0 < u) = false := by simp; omega
                have HU0 := hid hu0
                clear hu0
                obtain ⟨k0, k1, k2⟩ := HCL.out _ HS3.out.1.fm
                rcases hd2 : (Int.tmod kd 2 == 0) with _ | _
                · as_aux_lemma =>
                    obtain ⟨AA2, hAA⟩ : ∃ X, upd AA u true = X := ⟨_, rfl⟩
                    have HAA := hid hAA
                    have HA2 := hid (show AA2 u = true from by rw [← hAA]; exact upd_same _ _ _)
                    have HDI := hid (show DsI q z M s (upd fo u (beginOp 1 0)) AA2 did i from by rw [← hAA]; exact HS3.out.2.begin u _ 1 0 rfl ⟨fun _ => .inr ⟨rfl, rfl⟩, fun h => absurd HU0.out h⟩)
                    clear hAA
                    have pd := HS3.out.1.hd.cell (i := 0) rfl
                    have pe := HS3.out.1.hd.cell (i := 1) rfl
                    go_wp2_with fail
                    refine (beg_pop (most := q) 0 HS3.out.1.pm.hM).mono ?_
                    rintro e w9 ⟨o1, q1, c1, rfl, hI1, hF, hl, hlt1⟩
                    have HI := hid hI1
                    have HT := hid ((HS3.out.1.drop u).same hF)
                    have HLB := hid (show o1 < w9.heap.size ∧ q1 < w9.heap.size ∧ c1 < w9.heap.size from ⟨hI1.ob.lt, hI1.qlt, hlt1⟩)
                    have HLL := hid hl
                    clear hI1 hF hl hlt1 pd pe
                    obtain ⟨vo, co, foz⟩ : ∃ v, w9.cell? ⟨bo, u, none⟩ = some v ∧ w9.frozen? ⟨bo, u, none⟩ = false := by
                      obtain ⟨cc, d1, d2, _⟩ := HT.out.ho
                      exact ⟨_, d1.cell (i := u) (Array.getElem?_eq_getElem (by have := HU4.out; omega)), d1.frozen u⟩
                    go_upto_region 30 with fail
                    obtain ⟨w10, hw10⟩ : ∃ x, w9.setCell ⟨bo, u, none⟩ (.pointer (some ⟨o1, 0, none⟩)) = x := ⟨_, rfl⟩
                    have hst := HT.out.setO HE.out u (upd_same _ _ _) HU4.out (.pointer (some ⟨o1, 0, none⟩))
                    rw [hw10] at hst
                    have hFo : Fr (fun k => k = bo) w9 w10 := by rw [← hw10]; exact Fr.setCell _ _ _ rfl
                    have hz10 : w10.heap.size = w9.heap.size := by rw [← hw10]; simp [World.setCell]
                    have HBL := hid (show bo < w10.heap.size from by have := hst.1.lay.zn; have := HE.out.l4; omega)
                    have HI := hid (HI.out.keep hFo (by have := HLL.out; have := HS3.out.1.lay.zn; have := HE.out.l4; omega) (by have := HLL.out; have := HS3.out.1.lay.zn; have := HE.out.l4; omega) (by have := HLL.out; have := HS3.out.1.lay.zn; have := HE.out.l4; omega))
                    have HT := hid hst.1
                    have HCO := hid hst.2
                    have L0 := hid (HS3.out.1.drop u).lay
                    have HLO := hid (show (w8.heap.size ≤ o1 ∧ w8.heap.size ≤ q1 ∧ w8.heap.size ≤ c1) ∧ (o1 < w10.heap.size ∧ q1 < w10.heap.size ∧ c1 < w10.heap.size) from ⟨HLL.out, by rw [hz10]; exact HLB.out⟩)
                    rw [hw10]
                    clear hw10 hst hFo hz10 co foz
                    have pd := HT.out.hq.cell (i := 0) rfl
                    have pe := HT.out.hq.cell (i := 1) rfl
                    go_wp2_with fail
                    refine (rbegin2 q 0 1 1 rfl _).mono ?_
                    rintro e w11 ⟨r, d, rfl, hR, hF, hr1, hr2, hr3, hr4, hr5⟩
                    have hCE := hF.block bo HBL.out id
                    have HT := hid (HT.out.same hF)
                    have HI := hid (HI.out.same hF)
                    have HRR := hid (hR d)
                    have HBD := hid (show w10.heap.size ≤ r ∧ r < w11.heap.size ∧ w10.heap.size ≤ d ∧ d < w11.heap.size ∧ d ≠ r from ⟨hr1, hr2, hr3, hr4, hr5⟩)
                    have HCE := hid ((World.cell?_of_block (w := w10) hCE).trans HCO.out)
                    clear hF hR hr1 hr2 hr3 hr4 hr5 pd pe hCE
                    obtain ⟨vo, co, foz⟩ : ∃ v, w11.cell? ⟨br, u, none⟩ = some v ∧ w11.frozen? ⟨br, u, none⟩ = false := by
                      obtain ⟨cc, d1, d2, _⟩ := HT.out.hr
                      exact ⟨_, d1.cell (i := u) (Array.getElem?_eq_getElem (by have := HU4.out; omega)), d1.frozen u⟩
                    have HBN := hid (HT.out.born HE.out u (upd_same _ _ _) HU4.out L0.out HI.out HLO.out.1 HLO.out.2 HCE.out HRR.out HBD.out)
                    have hz := HBN.out
                    rw [upd_upd, HAA.out] at hz
                    have HBN := hid hz
                    clear hz
                    have HGG := hid (show (upd fo u (beginOp 1 0) u).Going from by rw [upd_same]; exact .inl rfl)
                    have HFIN := hid (show CameD w0 b B c bd bq bo br z q i u M s did g cap (w11.setCell ⟨br, u, none⟩ (.pointer (some ⟨r, 0, none⟩))) from ⟨AA2, upd O u o1, upd Q u q1, upd C u c1, upd fo u (beginOp 1 0), upd P u r, upd D u d, ⟨HBN.out, HDI.out⟩, HA2.out, HGG.out⟩)
                    clear HBN
                    go_wp2_with fail
                    go_meet
                    exact HFIN.out
                · as_aux_lemma =>
                    obtain ⟨AA2, hAA⟩ : ∃ X, upd AA u true = X := ⟨_, rfl⟩
                    have HAA := hid hAA
                    have HA2 := hid (show AA2 u = true from by rw [← hAA]; exact upd_same _ _ _)
                    have HDI := hid (show DsI q z M s (upd fo u (beginOp 0 kx)) AA2 did i from by rw [← hAA]; exact HS3.out.2.begin u _ 0 kx rfl ⟨fun _ => .inl rfl, fun h => absurd HU0.out h⟩)
                    clear hAA
                    have HSs := hid (show ∀ v, Fr (fun _ => False) w8 v → v.cell? ⟨bd, 0, none⟩ = some (.int .i64 0) ∧ v.cell? ⟨bd, 1, none⟩ = some (.int .i64 q) ∧ v.cell? ⟨gl, ol + i * 3 + 2, none⟩ = some (.int .i64 kx) from fun v F => ⟨(HS3.out.1.hd.same F).cell rfl, (HS3.out.1.hd.same F).cell rfl, (HCL.out _ (HS3.out.1.fm.trans F)).2.2⟩)
                    have HMM := hid (show ∀ v, Fr (fun _ => False) w8 v → IsM v b (MO M s) from fun v F => HS3.out.1.pm.hM.same F)
                    have HSt := hid (show ∀ v x, Fr (fun _ => False) w8 v → (v.setCell ⟨bo, u, none⟩ x).cell? ⟨bd, 0, none⟩ = some (.int .i64 0) ∧ (v.setCell ⟨bo, u, none⟩ x).cell? ⟨bd, 1, none⟩ = some (.int .i64 q) ∧ (v.setCell ⟨bo, u, none⟩ x).cell? ⟨gl, ol + i * 3 + 2, none⟩ = some (.int .i64 kx) from fun v x F => by
                      have hbo := HE.out.l2; have hbo2 := HE.out.l3
                      have F2 : Fr (fun k => k = bo) v (v.setCell ⟨bo, u, none⟩ x) := Fr.setCell _ _ _ rfl
                      have hfm := (HS3.out.1.fm.trans F).since F2 (fun i hi hl => by have := HE.out.l0; have := HE.out.l1; have h2 : i = bo := hi; omega)
                      have hd2 := (HS3.out.1.hd.same F).keep F2 (by omega)
                      exact ⟨hd2.cell rfl, hd2.cell rfl, (HCL.out _ hfm).2.2⟩)
                    have HFd := hid (Fr.refl (fun _ => False) w8)
                    go_upto_region 27 with fail
                    clear k0 k1 k2 hd2
                    go_cut [17] from 157 to 166 (fun zz wx => PushB w0 b B c bd bq bo br z q i u kx M s AA O Q C fo did P D g cap w8.heap.size wx)
                    case first =>
                      go_region_held3 (fun v => v.cell? ⟨bd, 0, none⟩ = some (.int .i64 0) ∧ v.cell? ⟨bd, 1, none⟩ = some (.int .i64 q) ∧ v.cell? ⟨gl, ol + i * 3 + 2, none⟩ = some (.int .i64 kx))
                        (first | exact HSs.out _ HFd.out | exact HSs.out _ (HFd.out.trans (Fr.drew _ _)) | exact HSt.out _ _ HFd.out | exact HSt.out _ _ (HFd.out.trans (Fr.drew _ _)))
                        (first
                          | (go_at_call 16; go_must ((with_reducible refine (beg_push (most := q) kx (HMM.out _ (by first | exact HFd.out | exact HFd.out.trans (Fr.drew _ _)))).mono ?_); rintro e w9 ⟨o1, q1, c1, rfl, hI1, hF, hl, hlt1⟩; have HFx := hid hF; have HFd := hid (HFd.out.trans (Fr.trans (by first | exact Fr.refl _ _ | exact Fr.drew _ _) hF)); have HI := hid hI1; have HLB := hid (show o1 < w9.heap.size ∧ q1 < w9.heap.size ∧ c1 < w9.heap.size from ⟨hI1.ob.lt, hI1.qlt, hlt1⟩); have HLL := hid (show w8.heap.size ≤ o1 ∧ w8.heap.size ≤ q1 ∧ w8.heap.size ≤ c1 from hl); have HT := hid ((HS3.out.1.drop u).same HFd.out); clear hI1 hF hl hlt1; obtain ⟨vo, co, foz⟩ : ∃ v, w9.cell? ⟨bo, u, none⟩ = some v ∧ w9.frozen? ⟨bo, u, none⟩ = false := (by obtain ⟨cc, d1, d2, _⟩ := HT.out.ho; exact ⟨_, d1.cell (i := u) (Array.getElem?_eq_getElem (by have := HU4.out; omega)), d1.frozen u⟩))))
                      all_goals
                        have hst := HT.out.setO HE.out u (upd_same _ _ _) HU4.out (.pointer (some ⟨o1, 0, none⟩))
                        have hFo : Fr (fun k => k = bo) w9 (w9.setCell ⟨bo, u, none⟩ (.pointer (some ⟨o1, 0, none⟩))) := Fr.setCell _ _ _ rfl
                        have hz10 : (w9.setCell ⟨bo, u, none⟩ (.pointer (some ⟨o1, 0, none⟩))).heap.size = w9.heap.size := by simp [World.setCell]
                        have hPB := hid (show PushB w0 b B c bd bq bo br z q i u kx M s AA O Q C fo did P D g cap w8.heap.size (w9.setCell ⟨bo, u, none⟩ (.pointer (some ⟨o1, 0, none⟩))) from
                          ⟨o1, q1, c1, hst.1, HI.out.keep hFo (by have := HLL.out; have := HS3.out.1.lay.zn; have := HE.out.l4; omega) (by have := HLL.out; have := HS3.out.1.lay.zn; have := HE.out.l4; omega) (by have := HLL.out; have := HS3.out.1.lay.zn; have := HE.out.l4; omega), ⟨HLL.out, by rw [hz10]; exact HLB.out⟩, hst.2⟩)
                        clear hst hFo hz10
                        go_wp2_with fail
                        go_meet
                        exact hPB.out
                    case rest =>
                      obtain ⟨o1, q1, c1, hT, hI, hLO, hCO⟩ := hcut
                      have HT := hid hT
                      have HI := hid hI
                      have HLO := hid hLO
                      have HCO := hid hCO
                      have L0 := hid (HS3.out.1.drop u).lay
                      have HBL := hid (show bo < wc.heap.size from by have := hT.lay.zn; have := HE.out.l4; omega)
                      clear hT hI hLO hCO HSs HMM HSt HFd
                      have HSs := hid (show ∀ v, Fr (fun _ => False) wc v → v.cell? ⟨bq, 0, none⟩ = some (.int .i64 0) ∧ v.cell? ⟨bq, 1, none⟩ = some (.int .i64 q) ∧ v.cell? ⟨gl, ol + i * 3 + 2, none⟩ = some (.int .i64 kx) from fun v F => ⟨(HT.out.hq.same F).cell rfl, (HT.out.hq.same F).cell rfl, (HCL.out _ (HT.out.fm.trans F)).2.2⟩)
                      have HSt := hid (show ∀ v x, Fr (fun _ => False) wc v → (v.setCell ⟨br, u, none⟩ x).cell? ⟨bq, 0, none⟩ = some (.int .i64 0) ∧ (v.setCell ⟨br, u, none⟩ x).cell? ⟨bq, 1, none⟩ = some (.int .i64 q) ∧ (v.setCell ⟨br, u, none⟩ x).cell? ⟨gl, ol + i * 3 + 2, none⟩ = some (.int .i64 kx) from fun v x F => by
                        have hbo := HE.out.l3; have hbo2 := HE.out.l4
                        have F2 : Fr (fun k => k = br) v (v.setCell ⟨br, u, none⟩ x) := Fr.setCell _ _ _ rfl
                        have hfm := (HT.out.fm.trans F).since F2 (fun i hi hl => by have := HE.out.l0; have := HE.out.l1; have := HE.out.l2; have h2 : i = br := hi; omega)
                        have hd2 := (HT.out.hq.same F).keep F2 (by omega)
                        exact ⟨hd2.cell rfl, hd2.cell rfl, (HCL.out _ hfm).2.2⟩)
                      have HFd := hid (Fr.refl (fun _ => False) wc)
                      obtain ⟨k0, k1, k2⟩ := HCL.out _ HT.out.fm
                      go_upto_region 28 with fail
                      clear k0 k1 k2
                      go_region_held3 (fun v => v.cell? ⟨bq, 0, none⟩ = some (.int .i64 0) ∧ v.cell? ⟨bq, 1, none⟩ = some (.int .i64 q) ∧ v.cell? ⟨gl, ol + i * 3 + 2, none⟩ = some (.int .i64 kx))
                        (first | exact HSs.out _ HFd.out | exact HSs.out _ (HFd.out.trans (Fr.drew _ _)) | exact HSt.out _ _ HFd.out | exact HSt.out _ _ (HFd.out.trans (Fr.drew _ _)))
                        (first
                          | (go_at_call 15; go_must ((with_reducible refine (rbegin2 q kx 0 0 rfl _).mono ?_); rintro e w11 ⟨r, d, rfl, hR, hF, hr1, hr2, hr3, hr4, hr5⟩; have HFx := hid (show Fr (fun _ => False) wc w11 from HFd.out.trans (Fr.trans (by first | exact Fr.refl _ _ | exact Fr.drew _ _) hF)); have HRR := hid (hR d); have HBD := hid (show wc.heap.size ≤ r ∧ r < w11.heap.size ∧ wc.heap.size ≤ d ∧ d < w11.heap.size ∧ d ≠ r from ⟨hr1, hr2, hr3, hr4, hr5⟩); have HFd := hid HFx.out; have HT := hid (HT.out.same HFx.out); have HI := hid (HI.out.same HFx.out); have HCE := hid ((World.cell?_of_block (w := wc) (HFx.out.block bo HBL.out id)).trans HCO.out); clear hF hR hr1 hr2 hr3 hr4 hr5; obtain ⟨vo, co, foz⟩ : ∃ v, w11.cell? ⟨br, u, none⟩ = some v ∧ w11.frozen? ⟨br, u, none⟩ = false := (by obtain ⟨cc, d1, d2, _⟩ := HT.out.hr; exact ⟨_, d1.cell (i := u) (Array.getElem?_eq_getElem (by have := HU4.out; omega)), d1.frozen u⟩))))
                      all_goals
                        have HBN := hid (HT.out.born HE.out u (upd_same _ _ _) HU4.out L0.out HI.out HLO.out.1 HLO.out.2 HCE.out HRR.out HBD.out)
                        have hz := HBN.out
                        rw [upd_upd, HAA.out] at hz
                        have HBN := hid hz
                        clear hz
                        have HGG := hid (show (upd fo u (beginOp 0 kx) u).Going from by rw [upd_same]; exact .inl rfl)
                        have HFIN := hid (show CameD w0 b B c bd bq bo br z q i u M s did g cap (w11.setCell ⟨br, u, none⟩ (.pointer (some ⟨r, 0, none⟩))) from ⟨AA2, upd O u o1, upd Q u q1, upd C u c1, upd fo u (beginOp 0 kx), upd P u r, upd D u d, ⟨HBN.out, HDI.out⟩, HA2.out, HGG.out⟩)
                        clear HBN
                        go_wp2_with fail
                        go_meet
                        exact HFIN.out
              · have tu3 : (0 : Int) < (u : Int) := by omega
                have HU0 := hid hu0
                clear hu0
                as_aux_lemma =>
                  obtain ⟨AA2, hAA⟩ : ∃ X, upd AA u true = X := ⟨_, rfl⟩
                  have HAA := hid hAA
                  have HA2 := hid (show AA2 u = true from by rw [← hAA]; exact upd_same _ _ _)
                  have HDI := hid (show DsI q z M s (upd fo u (beginOp 2 0)) AA2 did i from by rw [← hAA]; exact HS3.out.2.begin u _ 2 0 rfl ⟨fun h => absurd h HU0.out, fun _ => ⟨rfl, rfl⟩⟩)
                  clear hAA
                  have pd := HS3.out.1.hd.cell (i := 0) rfl
                  have pe := HS3.out.1.hd.cell (i := 1) rfl
                  go_wp2_with fail
                  refine (beg_steal (most := q) 0 HS3.out.1.pm.hM).mono ?_
                  rintro e w9 ⟨o1, q1, c1, rfl, hI1, hF, hl, hlt1⟩
                  have HI := hid hI1
                  have HT := hid ((HS3.out.1.drop u).same hF)
                  have HLB := hid (show o1 < w9.heap.size ∧ q1 < w9.heap.size ∧ c1 < w9.heap.size from ⟨hI1.ob.lt, hI1.qlt, hlt1⟩)
                  have HLL := hid hl
                  clear hI1 hF hl hlt1 pd pe
                  obtain ⟨vo, co, foz⟩ : ∃ v, w9.cell? ⟨bo, u, none⟩ = some v ∧ w9.frozen? ⟨bo, u, none⟩ = false := by
                    obtain ⟨cc, d1, d2, _⟩ := HT.out.ho
                    exact ⟨_, d1.cell (i := u) (Array.getElem?_eq_getElem (by have := HU4.out; omega)), d1.frozen u⟩
                  go_upto_region 25 with fail
                  obtain ⟨w10, hw10⟩ : ∃ x, w9.setCell ⟨bo, u, none⟩ (.pointer (some ⟨o1, 0, none⟩)) = x := ⟨_, rfl⟩
                  have hst := HT.out.setO HE.out u (upd_same _ _ _) HU4.out (.pointer (some ⟨o1, 0, none⟩))
                  rw [hw10] at hst
                  have hFo : Fr (fun k => k = bo) w9 w10 := by rw [← hw10]; exact Fr.setCell _ _ _ rfl
                  have hz10 : w10.heap.size = w9.heap.size := by rw [← hw10]; simp [World.setCell]
                  have HBL := hid (show bo < w10.heap.size from by have := hst.1.lay.zn; have := HE.out.l4; omega)
                  have HI := hid (HI.out.keep hFo (by have := HLL.out; have := HS3.out.1.lay.zn; have := HE.out.l4; omega) (by have := HLL.out; have := HS3.out.1.lay.zn; have := HE.out.l4; omega) (by have := HLL.out; have := HS3.out.1.lay.zn; have := HE.out.l4; omega))
                  have HT := hid hst.1
                  have HCO := hid hst.2
                  have L0 := hid (HS3.out.1.drop u).lay
                  have HLO := hid (show (w8.heap.size ≤ o1 ∧ w8.heap.size ≤ q1 ∧ w8.heap.size ≤ c1) ∧ (o1 < w10.heap.size ∧ q1 < w10.heap.size ∧ c1 < w10.heap.size) from ⟨HLL.out, by rw [hz10]; exact HLB.out⟩)
                  rw [hw10]
                  clear hw10 hst hFo hz10 co foz
                  have pd := HT.out.hq.cell (i := 0) rfl
                  have pe := HT.out.hq.cell (i := 1) rfl
                  go_wp2_with fail
                  refine (rbegin2 q 0 2 2 rfl _).mono ?_
                  rintro e w11 ⟨r, d, rfl, hR, hF, hr1, hr2, hr3, hr4, hr5⟩
                  have hCE := hF.block bo HBL.out id
                  have HT := hid (HT.out.same hF)
                  have HI := hid (HI.out.same hF)
                  have HRR := hid (hR d)
                  have HBD := hid (show w10.heap.size ≤ r ∧ r < w11.heap.size ∧ w10.heap.size ≤ d ∧ d < w11.heap.size ∧ d ≠ r from ⟨hr1, hr2, hr3, hr4, hr5⟩)
                  have HCE := hid ((World.cell?_of_block (w := w10) hCE).trans HCO.out)
                  clear hF hR hr1 hr2 hr3 hr4 hr5 pd pe hCE
                  obtain ⟨vo, co, foz⟩ : ∃ v, w11.cell? ⟨br, u, none⟩ = some v ∧ w11.frozen? ⟨br, u, none⟩ = false := by
                    obtain ⟨cc, d1, d2, _⟩ := HT.out.hr
                    exact ⟨_, d1.cell (i := u) (Array.getElem?_eq_getElem (by have := HU4.out; omega)), d1.frozen u⟩
                  have HBN := hid (HT.out.born HE.out u (upd_same _ _ _) HU4.out L0.out HI.out HLO.out.1 HLO.out.2 HCE.out HRR.out HBD.out)
                  have hz := HBN.out
                  rw [upd_upd, HAA.out] at hz
                  have HBN := hid hz
                  clear hz
                  have HGG := hid (show (upd fo u (beginOp 2 0) u).Going from by rw [upd_same]; exact .inl rfl)
                  have HFIN := hid (show CameD w0 b B c bd bq bo br z q i u M s did g cap (w11.setCell ⟨br, u, none⟩ (.pointer (some ⟨r, 0, none⟩))) from ⟨AA2, upd O u o1, upd Q u q1, upd C u c1, upd fo u (beginOp 2 0), upd P u r, upd D u d, ⟨HBN.out, HDI.out⟩, HA2.out, HGG.out⟩)
                  clear HBN
                  go_wp2_with fail
                  go_meet
                  exact HFIN.out
          case rest =>
            as_aux_lemma =>
              clear HS3 HV HBG
              obtain ⟨AA, O, Q, C, fo, P, D, hS, hau, hgo⟩ := hcut
              have HS4 := hid hS
              have HAU := hid hau
              have HGO := hid hgo
              clear hS hau hgo
              have HK := hid (show i ≤ 600 from by have := HN4.out; have := HLT.out; omega)
              obtain ⟨k0, k1, k2⟩ := HCL.out _ HS4.out.1.fm
              obtain ⟨b9, t9⟩ : ∃ b, (kd == 9) = b := ⟨_, rfl⟩
              go_upto_if 193 with fail
              clear t9
              go_cut [18] from 193 to 194 (fun zz wx => ∃ y : Int, zz = .int .i64 y ∧ wc = wx ∧ (y = u ∨ y = -1))
              case first =>
                rcases b9 with _ | _
                · go_wp2_with fail
                  go_meet
                  exact ⟨u, rfl, rfl, .inl rfl⟩
                · go_wp2_with fail
                  go_meet
                  exact ⟨-1, rfl, rfl, .inr rfl⟩
              case rest =>
                obtain ⟨y, rfl, rfl, hy⟩ := hcut
                have HY := hid hy
                clear k0 k1 k2 hy
                have co : wc.cell? ⟨bo, u, none⟩ = some (.pointer (some ⟨O u, 0, none⟩)) := by
                  obtain ⟨cc, d1, d2, d3⟩ := HS4.out.1.ho
                  exact d1.cell (d3 u HU4.out HAU.out)
                go_wp2_with fail
                refine (stepP_all HE.out HS4.out HK.out HU4.out HAU.out HGO.out y HY.out).mono ?_
                rintro e w13 ⟨how, rfl, hM⟩
                have HMD := hid hM
                have cr : w13.cell? ⟨br, u, none⟩ = some (.pointer (some ⟨P u, 0, none⟩)) := by
                  obtain ⟨_, M', s', C', f', hT, _⟩ := hM
                  obtain ⟨cc, d1, d2, d3, _⟩ := hT.hr
                  exact d1.cell (d3 u HU4.out HAU.out)
                clear hM co
                go_wp2_with fail
                refine (stepR_all HE.out HS4.out.2 HK.out HU4.out HAU.out HGO.out y how HMD.out).mono ?_
                rintro e w14 ⟨rfl, hEnd⟩
                clear cr HMD HS4 HGO HY
                obtain ⟨M, s, C, fo, did, D, g, cap, hS, hhow, hfive⟩ := hEnd
                have HS5 := hid hS
                have HHOW := hid hhow
                have HFIVE := hid hfive
                clear hS hhow hfive
                have HT5 := hid HS5.out.1
                have co : w14.cell? ⟨bo, u, none⟩ = some (.pointer (some ⟨O u, 0, none⟩)) := by
                  obtain ⟨cc, d1, d2, d3⟩ := HT5.out.ho
                  exact d1.cell (d3 u HU4.out HAU.out)
                have cr : w14.cell? ⟨br, u, none⟩ = some (.pointer (some ⟨P u, 0, none⟩)) := by
                  obtain ⟨cc, d1, d2, d3, _⟩ := HT5.out.hr
                  exact d1.cell (d3 u HU4.out HAU.out)
                have HRO := hid (HT5.out.rm.ir u HU4.out HAU.out).1
                have HIO := hid (HT5.out.pm.io u HU4.out HAU.out)
                obtain ⟨er, her⟩ : ∃ x, (fo u).err = x := ⟨_, rfl⟩
                obtain ⟨tl, htl⟩ : ∃ x, (fo u).tellR = x := ⟨_, rfl⟩
                have kh : w14.cell? ⟨P u, 13, none⟩ = some (.int .i64 how) := by
                  obtain ⟨cv, h1, _⟩ := HRO.out
                  rw [HHOW.out]
                  exact h1.cell rfl
                have ke : w14.cell? ⟨P u, 15, none⟩ = some (.int .i64 er) := by
                  obtain ⟨cv, h1, _⟩ := HRO.out
                  rw [← her]
                  exact h1.cell rfl
                have lp : P u < w14.heap.size := (HT5.out.lay.up u HU4.out HAU.out _ (.inr (.inl rfl))).2
                have HGT := hid (show ∀ v, Fr (fun _ => False) w14 v → Calls Try.prog 20 #[.pointer (some ⟨O u, 0, none⟩)] v fun e w' => e = .returned (.int .i64 tl) ∧ v = w' from fun v F => by
                  have h1 := op_got' (HIO.out.same F) HFIVE.out
                  rw [tell_is HIO.out, htl] at h1
                  exact h1)
                have HRG := hid (show ∀ v, Fr (fun _ => False) w14 v → Calls Try.prog 21 #[.pointer (some ⟨P u, 0, none⟩)] v fun e w' => e = .returned (.int .i64 tl) ∧ v = w' from fun v F => by
                  have h1 := rgot_ok (P u) (D u) q (fo u) v (HRO.out.keep F id id)
                  rw [htl] at h1
                  exact h1)
                have HER := hid (show ∀ v, Fr (fun _ => False) w14 v → Calls Try.prog 22 #[.pointer (some ⟨O u, 0, none⟩)] v fun e w' => e = .returned (.int .i64 er) ∧ v = w' from fun v F => by
                  have h1 := op_err' (HIO.out.same F)
                  rw [her] at h1
                  exact h1)
                have t1 : (how != how) = false := by simp
                have t2 : (tl != tl) = false := by simp
                have t3 : (er != er) = false := by simp
                clear her htl HRO HIO HFIVE HHOW
                go_upto_region 36 with fail
                go_quiet ((first
                  | (go_at_call 20; exact (HGT.out _ (Fr.drewN _ _ _)).mono fun _ _ ⟨he, hm⟩ => ⟨he, _, hm.symm⟩)
                  | (go_at_call 21; exact (HRG.out _ (Fr.drewN _ _ _)).mono fun _ _ ⟨he, hm⟩ => ⟨he, _, hm.symm⟩)
                  | (go_at_call 22; exact (HER.out _ (Fr.drewN _ _ _)).mono fun _ _ ⟨he, hm⟩ => ⟨he, _, hm.symm⟩)))
                generalize hw15 : w14.drewN _ = w15
                have HS6 := hid (show DsS w0 b B c bd bq bo br z q (i + 1) M s AA O Q C fo did P D g cap w15 from ⟨HT5.out.same (by rw [← hw15]; exact Fr.drewN _ _ _), HS5.out.2⟩)
                clear hw15 HS5 HT5 co cr kh ke lp t1 t2 t3 HGT HRG HER
                as_aux_lemma =>
                  obtain ⟨R, hwd, hR, h3, hru, hle, hbd, hlen, hus, hz6⟩ := HS6.out.2.reads (show i + 1 ≤ 600 from by have := HN4.out; have := HLT.out; omega)
                  have HDL := hid (show ∀ v, Fr (fun _ => False) w15 v → Calls Try.prog 26 #[.agg #[.int .i64 0, .int .i64 q], .pointer (some ⟨b.m, 0, none⟩)] v (ListPost (dqL M R) v) from fun v F => dlist_ok b M s R q v (HS6.out.1.pm.hM.same F) hwd hR h3 hru hle hbd)
                  have HRL := hid (show ∀ v, Fr (fun _ => False) w15 v → Calls Try.prog 27 #[.pointer (some ⟨c, 0, none⟩), .agg #[.int .i64 0, .int .i64 q]] v (ListPost (dqL M R) v) from fun v F => rlist_ok B c g cap M R z did q v (HS6.out.1.rm.hC.same F) hwd hR h3 hru hle hbd)
                  obtain ⟨L, hL⟩ : ∃ L, dqL M R = L := ⟨_, rfl⟩
                  obtain ⟨nL, hnL⟩ : ∃ k, L.length = k := ⟨_, rfl⟩
                  have HNL := hid (show L.length = nL ∧ nL ≤ 1000 from ⟨hnL, by
                    have hp := pow_le R.l hR.2.1
                    have : (dqL M R).length ≤ 256 := by
                      show (dqN M R _).length ≤ 256
                      rw [dqN_len]
                      omega
                    rw [hL, hnL] at this
                    omega⟩)
                  have HUS := hid (show ∀ v, Fr (fun _ => False) w15 v → Calls Try.prog 23 #[.pointer (some ⟨b.m, 0, none⟩)] v fun e w' => e = .returned (.int .i64 (M.used : Nat)) ∧ v = w' from fun v F => used_ok b (MO M s) v (HS6.out.1.pm.hM.same F))
                  have HST := hid (show ∀ (k : Nat) (x sv : Int), x = k → k < 5 → s.getD k 0 = sv → ∀ v, Fr (fun _ => False) w15 v → Calls Try.prog 24 #[.pointer (some ⟨b.m, 0, none⟩), .int .i64 x] v fun e w' => e = .returned (.int .i64 sv) ∧ v = w' from fun k x sv hx hk hv v F => by
                    subst hx hv
                    exact steps_in b (MO M s) k v (HS6.out.1.pm.hM.same F) (by show k < s.length; rw [HS6.out.2.sl]; exact hk))
                  obtain ⟨s0, hs0⟩ : ∃ x, s.getD 0 0 = x := ⟨_, rfl⟩
                  obtain ⟨s1, hs1⟩ : ∃ x, s.getD 1 0 = x := ⟨_, rfl⟩
                  obtain ⟨s2, hs2⟩ : ∃ x, s.getD 2 0 = x := ⟨_, rfl⟩
                  obtain ⟨s3, hs3⟩ : ∃ x, s.getD 3 0 = x := ⟨_, rfl⟩
                  obtain ⟨s4, hs4⟩ : ∃ x, s.getD 4 0 = x := ⟨_, rfl⟩
                  have HST0 := hid (HST.out 0 0 s0 rfl (by omega) hs0)
                  have HST1 := hid (HST.out 1 1 s1 rfl (by omega) hs1)
                  have HST2 := hid (HST.out 2 2 s2 rfl (by omega) hs2)
                  have HST3 := hid (HST.out 3 3 s3 rfl (by omega) hs3)
                  have HST4 := hid (HST.out 4 4 s4 rfl (by omega) hs4)
                  have hsum := HS6.out.2.sm
                  unfold sum5 at hsum
                  rw [hs0, hs1, hs2, hs3, hs4] at hsum
                  have b0 := HS6.out.2.sb 0 (by omega)
                  have b1 := HS6.out.2.sb 1 (by omega)
                  have b2 := HS6.out.2.sb 2 (by omega)
                  have b3 := HS6.out.2.sb 3 (by omega)
                  have b4 := HS6.out.2.sb 4 (by omega)
                  rw [hs0] at b0
                  rw [hs1] at b1
                  rw [hs2] at b2
                  rw [hs3] at b3
                  rw [hs4] at b4
                  have hiN := HN4.out
                  have hiL := HLT.out
                  obtain ⟨y1, wz1⟩ : ∃ x, IntKind.i64.wrap (s0 + s1) = x := ⟨_, rfl⟩
                  have e1 : y1 = s0 + s1 := by rw [← wz1, IntWalk.i64_left]; unfold wrap64; omega
                  obtain ⟨y2, wz2⟩ : ∃ x, IntKind.i64.wrap (y1 + s2) = x := ⟨_, rfl⟩
                  have e2 : y2 = s0 + s1 + s2 := by rw [← wz2, e1, IntWalk.i64_left]; unfold wrap64; omega
                  obtain ⟨y3, wz3⟩ : ∃ x, IntKind.i64.wrap (y2 + s3) = x := ⟨_, rfl⟩
                  have e3 : y3 = s0 + s1 + s2 + s3 := by rw [← wz3, e2, IntWalk.i64_left]; unfold wrap64; omega
                  have wz4 : IntKind.i64.wrap (y3 + s4) = did := by rw [← hsum, e3, IntWalk.i64_left]; unfold wrap64; omega
                  obtain ⟨U, hU⟩ : ∃ k, M.used = k := ⟨_, rfl⟩
                  have HPK := hid (show ∀ (j : Nat) (v : World), j < U → Fr (fun _ => False) w15 v → Calls Try.prog 28 #[.pointer (some ⟨b.m, 0, none⟩), .int .i64 j] v fun e w' => e = .returned (.int .i64 (rd M j)) ∧ v = w' from fun j v hj F => peek_rd b M s j v (HS6.out.1.pm.hM.same F) (by omega) (by rw [hU]; omega))
                  have HCC := hid (show ∀ v, Fr (fun _ => False) w15 v → v.cell? ⟨c, 0, none⟩ = some (.slice (some ⟨g, 0, none⟩) U cap) ∧ v.cell? ⟨c, 2, none⟩ = some (.int .i64 did) ∧ v.cell? ⟨bd, 0, none⟩ = some (.int .i64 0) ∧ v.cell? ⟨bd, 1, none⟩ = some (.int .i64 q) ∧ v.cell? ⟨bq, 0, none⟩ = some (.int .i64 0) ∧ v.cell? ⟨bq, 1, none⟩ = some (.int .i64 q) ∧ c < v.heap.size from fun v F => by
                    have h1 := HS6.out.1.same F
                    rw [← hU]
                    exact ⟨h1.rm.hC.hc.cell rfl, h1.rm.hC.hc.cell rfl, h1.hd.cell rfl, h1.hd.cell rfl, h1.hq.cell rfl, h1.hq.cell rfl, h1.rm.hC.hc.lt⟩)
                  have HCG := hid (show ∀ v, Fr (fun _ => False) w15 v → ∀ j, j < U → v.cell? ⟨g, j, none⟩ = some (.int .i64 (rd M j)) from fun v F j hj => by
                    have h1 := (HS6.out.1.same F).rm.hC.cell (k := j) (by rw [hU]; exact hj)
                    rw [take_rd M j (by rw [hU]; exact hj)] at h1
                    exact h1)
                  have HU6 := hid (show U ≤ 600 from by omega)
                  rw [hU] at HUS
                  rw [hL] at HDL HRL
                  unfold ListPost at HDL HRL
                  rw [hnL] at HDL HRL
                  have tU : ((U : Int) != (U : Int)) = false := by simp
                  have tD : (did != did) = false := by simp
                  clear hwd hR h3 hru hle hbd hlen hus hz6 hL hnL hs0 hs1 hs2 hs3 hs4 hsum b0 b1 b2 b3 b4 e1 e2 e3 hU HST hiN hiL
                  have HFd := hid (Fr.refl (fun _ => False) w15)
                  have HSS := hid (show ∀ v, Fr (fun _ => False) w15 v → v.cell? ⟨c, 0, none⟩ = some (.slice (some ⟨g, 0, none⟩) U cap) ∧ v.cell? ⟨c, 2, none⟩ = some (.int .i64 did) ∧ v.cell? ⟨bd, 0, none⟩ = some (.int .i64 0) ∧ v.cell? ⟨bd, 1, none⟩ = some (.int .i64 q) ∧ v.cell? ⟨bq, 0, none⟩ = some (.int .i64 0) ∧ v.cell? ⟨bq, 1, none⟩ = some (.int .i64 q) from fun v F => ⟨(HCC.out v F).1, (HCC.out v F).2.1, (HCC.out v F).2.2.1, (HCC.out v F).2.2.2.1, (HCC.out v F).2.2.2.2.1, (HCC.out v F).2.2.2.2.2.1⟩)
                  go_upto_region 38 with fail
                  go_region_held3 (fun v => v.cell? ⟨c, 0, none⟩ = some (.slice (some ⟨g, 0, none⟩) U cap) ∧ v.cell? ⟨c, 2, none⟩ = some (.int .i64 did) ∧ v.cell? ⟨bd, 0, none⟩ = some (.int .i64 0) ∧ v.cell? ⟨bd, 1, none⟩ = some (.int .i64 q) ∧ v.cell? ⟨bq, 0, none⟩ = some (.int .i64 0) ∧ v.cell? ⟨bq, 1, none⟩ = some (.int .i64 q))
                    (first | exact HSS.out _ HFd.out | exact HSS.out _ (HFd.out.trans (Fr.drew _ _)))
                    (first
                      | (go_at_call 23; (with_reducible refine (HUS.out _ (by first | exact HFd.out | exact HFd.out.trans (Fr.drew _ _))).mono ?_); rintro e w17 ⟨rfl, hw⟩; have HFd := hid (show Fr (fun _ => False) w15 w17 from by first | exact hw ▸ HFd.out | exact hw ▸ HFd.out.trans (Fr.drew _ _)); (try have HA := hid (show Fr (fun _ => False) wA w17 from by first | exact hw ▸ HA.out | exact hw ▸ HA.out.trans (Fr.drew _ _))); (try have HB := hid (show Fr (fun _ => False) wB w17 from by first | exact hw ▸ HB.out | exact hw ▸ HB.out.trans (Fr.drew _ _))); clear hw)
                      | (go_at_call 24; (with_reducible refine (HST0.out _ (by first | exact HFd.out | exact HFd.out.trans (Fr.drew _ _))).mono ?_); rintro e w17 ⟨rfl, hw⟩; have HFd := hid (show Fr (fun _ => False) w15 w17 from by first | exact hw ▸ HFd.out | exact hw ▸ HFd.out.trans (Fr.drew _ _)); (try have HA := hid (show Fr (fun _ => False) wA w17 from by first | exact hw ▸ HA.out | exact hw ▸ HA.out.trans (Fr.drew _ _))); (try have HB := hid (show Fr (fun _ => False) wB w17 from by first | exact hw ▸ HB.out | exact hw ▸ HB.out.trans (Fr.drew _ _))); clear hw)
                      | (go_at_call 24; (with_reducible refine (HST1.out _ (by first | exact HFd.out | exact HFd.out.trans (Fr.drew _ _))).mono ?_); rintro e w17 ⟨rfl, hw⟩; have HFd := hid (show Fr (fun _ => False) w15 w17 from by first | exact hw ▸ HFd.out | exact hw ▸ HFd.out.trans (Fr.drew _ _)); (try have HA := hid (show Fr (fun _ => False) wA w17 from by first | exact hw ▸ HA.out | exact hw ▸ HA.out.trans (Fr.drew _ _))); (try have HB := hid (show Fr (fun _ => False) wB w17 from by first | exact hw ▸ HB.out | exact hw ▸ HB.out.trans (Fr.drew _ _))); clear hw)
                      | (go_at_call 24; (with_reducible refine (HST2.out _ (by first | exact HFd.out | exact HFd.out.trans (Fr.drew _ _))).mono ?_); rintro e w17 ⟨rfl, hw⟩; have HFd := hid (show Fr (fun _ => False) w15 w17 from by first | exact hw ▸ HFd.out | exact hw ▸ HFd.out.trans (Fr.drew _ _)); (try have HA := hid (show Fr (fun _ => False) wA w17 from by first | exact hw ▸ HA.out | exact hw ▸ HA.out.trans (Fr.drew _ _))); (try have HB := hid (show Fr (fun _ => False) wB w17 from by first | exact hw ▸ HB.out | exact hw ▸ HB.out.trans (Fr.drew _ _))); clear hw)
                      | (go_at_call 24; (with_reducible refine (HST3.out _ (by first | exact HFd.out | exact HFd.out.trans (Fr.drew _ _))).mono ?_); rintro e w17 ⟨rfl, hw⟩; have HFd := hid (show Fr (fun _ => False) w15 w17 from by first | exact hw ▸ HFd.out | exact hw ▸ HFd.out.trans (Fr.drew _ _)); (try have HA := hid (show Fr (fun _ => False) wA w17 from by first | exact hw ▸ HA.out | exact hw ▸ HA.out.trans (Fr.drew _ _))); (try have HB := hid (show Fr (fun _ => False) wB w17 from by first | exact hw ▸ HB.out | exact hw ▸ HB.out.trans (Fr.drew _ _))); clear hw)
                      | (go_at_call 24; (with_reducible refine (HST4.out _ (by first | exact HFd.out | exact HFd.out.trans (Fr.drew _ _))).mono ?_); rintro e w17 ⟨rfl, hw⟩; have HFd := hid (show Fr (fun _ => False) w15 w17 from by first | exact hw ▸ HFd.out | exact hw ▸ HFd.out.trans (Fr.drew _ _)); (try have HA := hid (show Fr (fun _ => False) wA w17 from by first | exact hw ▸ HA.out | exact hw ▸ HA.out.trans (Fr.drew _ _))); (try have HB := hid (show Fr (fun _ => False) wB w17 from by first | exact hw ▸ HB.out | exact hw ▸ HB.out.trans (Fr.drew _ _))); clear hw)
                      | (go_at_call 26; (with_reducible refine (HDL.out _ (by first | exact HFd.out | exact HFd.out.trans (Fr.drew _ _))).mono ?_); rintro e wA ⟨A1, cp1, rfl, ho, hF⟩; have HFd := hid (show Fr (fun _ => False) w15 wA from by first | exact HFd.out.trans hF | exact (HFd.out.trans (Fr.drew _ _)).trans hF); (try have HB := hid (show Fr (fun _ => False) wB wA from by first | exact HB.out.trans hF | exact (HB.out.trans (Fr.drew _ _)).trans hF)); have HO1 := hid (show ∀ v, Fr (fun _ => False) wA v → IntR v A1 L from fun v F => (ho.intR HNL.out.1.symm).same F); have HA := hid (Fr.refl (fun _ => False) wA); clear ho hF)
                      | (go_at_call 27; (with_reducible refine (HRL.out _ (by first | exact HFd.out | exact HFd.out.trans (Fr.drew _ _))).mono ?_); rintro e wB ⟨A2, cp2, rfl, ho, hF⟩; have HFd := hid (show Fr (fun _ => False) w15 wB from by first | exact HFd.out.trans hF | exact (HFd.out.trans (Fr.drew _ _)).trans hF); (try have HA := hid (show Fr (fun _ => False) wA wB from by first | exact HA.out.trans hF | exact (HA.out.trans (Fr.drew _ _)).trans hF)); have HO2 := hid (show ∀ v, Fr (fun _ => False) wB v → IntR v A2 L from fun v F => (ho.intR HNL.out.1.symm).same F); have HB := hid (Fr.refl (fun _ => False) wB); clear ho hF)
                      | (go_at_call 25; (with_reducible refine (same_yes A1 A2 L nL cp1 cp2 _ (HO1.out _ (by first | exact HA.out | exact HA.out.trans (Fr.drew _ _))) (HO2.out _ (by first | exact HB.out | exact HB.out.trans (Fr.drew _ _))) HNL.out.1 HNL.out.2).mono ?_); rintro e w18 ⟨rfl, hF⟩; have HFd := hid (show Fr (fun _ => False) w15 w18 from by first | exact HFd.out.trans hF | exact (HFd.out.trans (Fr.drew _ _)).trans hF); clear hF))
                  all_goals
                    go_wp2_with fail
                    as_aux_lemma =>
                      clear HDL HRL HUS HST0 HST1 HST2 HST3 HST4 HNL HSS tU tD wz1 wz2 wz3 wz4 HO1 HO2 HA HB
                      go_loopg [20] (U + 1) (fun dd zz wr => PkRel w15 U dd zz wr)
                      case atStart => exact ⟨0, by omega, by omega, rfl, by first | exact HFd.out | exact HFd.out.trans (Fr.drew _ _)⟩
                      case round =>
                        obtain ⟨j, hj, rfl, rfl, hF⟩ := hrel
                        have HF := hid hF
                        have HJ := hid hj
                        have cl := (HCC.out _ hF).1
                        have clt := (HCC.out _ hF).2.2.2.2.2.2
                        clear hF hj
                        by_cases hjl : j < U
                        · have hjl2 : (j : Int) < U := by omega
                          obtain ⟨pv, hpv⟩ : ∃ x, rd M j = x := ⟨_, rfl⟩
                          have cg := HCG.out _ HF.out j hjl
                          have HPJ := hid (fun v F => HPK.out j v hjl F)
                          rw [hpv] at cg HPJ
                          have tp : (pv != pv) = false := by simp
                          clear hpv
                          go_wp2_with fail
                          go_quiet ((go_at_call 28; exact (HPJ.out _ (HF.out.trans (Fr.drewN _ _ _))).mono fun _ _ ⟨he, hm⟩ => ⟨he, _, hm.symm⟩))
                          have hj6 : j ≤ 600 := by have := HU6.out; omega
                          go_wp2_with fail
                          go_roundg (U + 1 - (j + 1))
                          case rel => exact ⟨j + 1, by omega, rfl, by go_num, HF.out.trans (Fr.drewN _ _ _)⟩
                          case measure => omega
                        · obtain rfl : j = U := by have := HJ.out; omega
                          have hi3 : i ≤ 400 := by have := HN4.out; have := HLT.out; omega
                          go_wp2_with fail
                          go_roundg (n + 1 - (i + 1))
                          case rel => exact ⟨i + 1, M, s, AA, O, Q, C, fo, did, P, D, g, cap, by have := HLT.out; omega, rfl, by go_num, HS6.out.1.same HF.out, HS6.out.2⟩
                          case measure => have := HLT.out; omega
    · obtain rfl : i = n := by omega
      have HS9 := hid HS.out.1.fm
      go_wp2_with fail
      refine (awake_ok _).mono ?_
      rintro e w9 ⟨rfl, hF9⟩
      go_wp2_with fail
      go_ret
      exact ⟨rfl, (HS9.out.trans hF9).below (Nat.le_refl _) (fun _ hh => hh.elim)⟩
end Go.Proofs.Ytiofdfgcghiibaa
