/-
  DequeGrows answers true at every input.
-/
import Derived.Test.YtecpdhfncmlbaaaSame
import Derived.Test.YtecpdhfncmlbaaaDqGrow
import Derived.Test.YtecpdhfncmlbaaaAloneW
import Derived.Deep.RegionHeld3
import Derived.Deep.DeepCutAuto
import Derived.Deep.DeepMust
import Derived.Deep.LoopGhost
namespace Go.Proofs.Ytecpdhfncmlbaaa
open Go.RowKit
set_option linter.unusedVariables false

set_option maxRecDepth 100000 in
set_option maxHeartbeats 800000 in
theorem grows_no (p q : Int) (A : Option Addr) (n c : Nat) (x : Int) (w : World) (h : ¬ (0 ≤ p ∧ p ≤ q ∧ q ≤ 8 ∧ 1 ≤ n)) :
    Calls Try.prog 6 #[.agg #[.int .i64 p, .int .i64 q], .slice A n c, .int .i64 x] w fun e w' => e = .returned (.bool true) ∧ Below w.heap.size w w' := by
  have H := hid h
  clear h
  rcases ht0 : decide (p < 0) with _ | _
  rotate_left 1
  · clear H
    go_enter Try.func6, Try.ntmps6
    go_wp2_with fail
    refine (awake_ok _).mono ?_
    rintro e w9 ⟨rfl, hF9⟩
    go_wp2_with fail
    go_ret
    exact ⟨rfl, ((Fr.alloc (fun _ => False) _ _).trans hF9).below (Nat.le_refl _) (fun _ hh => hh.elim)⟩
  rcases ht1 : decide (q < p) with _ | _
  rotate_left 1
  · clear H
    go_enter Try.func6, Try.ntmps6
    go_wp2_with fail
    refine (awake_ok _).mono ?_
    rintro e w9 ⟨rfl, hF9⟩
    go_wp2_with fail
    go_ret
    exact ⟨rfl, ((Fr.alloc (fun _ => False) _ _).trans hF9).below (Nat.le_refl _) (fun _ hh => hh.elim)⟩
  rcases ht2 : decide (8 < q) with _ | _
  rotate_left 1
  · clear H
    go_enter Try.func6, Try.ntmps6
    go_wp2_with fail
    refine (awake_ok _).mono ?_
    rintro e w9 ⟨rfl, hF9⟩
    go_wp2_with fail
    go_ret
    exact ⟨rfl, ((Fr.alloc (fun _ => False) _ _).trans hF9).below (Nat.le_refl _) (fun _ hh => hh.elim)⟩
  rcases ht3 : decide ((n : Int) < 1) with _ | _
  rotate_left 1
  · clear H
    go_enter Try.func6, Try.ntmps6
    go_wp2_with fail
    refine (awake_ok _).mono ?_
    rintro e w9 ⟨rfl, hF9⟩
    go_wp2_with fail
    go_ret
    exact ⟨rfl, ((Fr.alloc (fun _ => False) _ _).trans hF9).below (Nat.le_refl _) (fun _ hh => hh.elim)⟩
  exfalso
  have := H.out
  simp only [decide_eq_false_iff_not] at ht0 ht1 ht2 ht3
  omega


def GaRel (w : World) (b : MB) (q p : Int) (gd B N : Nat) (d : Nat) (y k : Value) (wr : World) : Prop :=
  ∃ (i : Nat) (L : List Int) (M : Mach) (s : List Int) (g cap : Nat), i ≤ N ∧ d = N + 1 - i ∧ L.length = i ∧ y = .slice (some ⟨g, 0, none⟩) i cap ∧ k = .int .i64 i ∧ OwnR wr B 2 1 (some ⟨g, 0, none⟩) i cap (intsV L) ∧ IsM wr b (MO M s) ∧ s.length = 3
    ∧ SeqI q M ⟨3, p⟩ (1 + i) L ∧ M.used = 3 + N ∧ Fr (fun _ => False) w wr ∧ Blk wr gd #[.int .i64 0, .int .i64 q] ∧ B ≤ wr.heap.size

def GbRel (w : World) (b : MB) (q x : Int) (gd gx B N g cap o1 q1 : Nat) (p : Int) (L : List Int) (d : Nat) (k : Value) (wr : World) : Prop :=
  ∃ (i : Nat) (op : DOp) (M : Mach) (s : List Int) (R : Rg) (c1 : Nat), i + 1 ≤ 7 + 2 * N ∧ d = 7 + 2 * N - i ∧ k = .int .i64 ((i : Int) + 1) ∧ Gr q x (3 + N) N L i op M R ∧ St wr b o1 q1 c1 q op M s (1000 + i) ∧ op.Live ∧ s.length = 3
    ∧ OwnR wr B 2 1 (some ⟨g, 0, none⟩) N cap (intsV L) ∧ Fr (fun _ => False) w wr ∧ Blk wr gd #[.int .i64 0, .int .i64 q] ∧ B ≤ wr.heap.size ∧ (B ≤ q1 ∧ B ≤ c1 ∧ g ≠ q1 ∧ g ≠ c1 ∧ gd < B) ∧ (op.kind = 0 ∧ op.got = 0 ∧ op.err = 0)

theorem st_known {w : World} {b : MB} {o q cp : Nat} {most : Int} {op op2 : DOp} {M M2 : Mach} {s : List Int} {B : Int} {j H : Nat} (h : St w b o q cp most op M s B) (hl : op.Live) (hs : op.safe M) (he : op.act most M = (op2, M2)) (hw : op2.how = H) (hj : j < s.length) (h0 : 0 ≤ B) (hB : B ≤ 100000) :
    Calls Try.prog 18 #[.pointer (some ⟨o, 0, none⟩), .pointer (some ⟨b.m, 0, none⟩), .int .i64 j] w fun e w' => ∃ cp', (cp' = cp ∨ w.heap.size ≤ cp') ∧ e = .returned (.int .i64 (H : Nat)) ∧ St w' b o q cp' most op2 M2 (stp s j) (B + 1) ∧ Fr (OM b q cp) w w' := by
  have h9 := st_step h hl hs hj h0 hB
  unfold StepPost at h9
  rw [he] at h9
  dsimp only at h9
  rw [hw] at h9
  exact h9

set_option maxRecDepth 100000 in
set_option maxHeartbeats 20000000 in
theorem grows_yes (p q : Int) (A : Option Addr) (n c : Nat) (f : Nat → Nat → Int) (x : Int) (w : World) (hp0 : 0 ≤ p) (hpq : p ≤ q) (hq8 : q ≤ 8) (hn : 1 ≤ n) (hr : Row w A n 1 f) :
    Calls Try.prog 6 #[.agg #[.int .i64 p, .int .i64 q], .slice A n c, .int .i64 x] w fun e w' => e = .returned (.bool true) ∧ Below w.heap.size w w' := by
  have HR1 := hid hr
  have HSQ := hid (new_seq [] p q hp0 hpq hq8)
  have HUS0 := hid (z600 [] p hp0 (by omega)).2.1
  have t1 : decide (p < 0) = false := by simp; omega
  have t2 : decide (q < p) = false := by simp; omega
  have t3 : decide (8 < q) = false := by simp; omega
  have t4 : decide ((n : Int) < 1) = false := by simp; omega
  obtain ⟨i0, hi, hz⟩ := Option.map_eq_some_iff.1 infoint64
  simp only [Prod.mk.injEq] at hz
  obtain ⟨hz0, hz1, hz2⟩ := hz
  have HII := hid hi
  have HZ0 := hid hz0
  have HZ1 := hid hz1
  have HZ2 := hid hz2
  clear hi hz0 hz1 hz2 hr
  go_enter Try.func6, Try.ntmps6
  go_wp2_with fail
  refine (new_ok 600 2 _ (by omega) (by omega) (by omega) (by omega)).mono ?_
  rintro e w1 ⟨b, rfl, hM, hF, hown⟩
  have HOWN := hid hown
  have HM1 := hid (show IsM w1 b (MO ⟨List.replicate 600 0, 0, []⟩ (List.replicate 3 0)) from hM)
  have HBx := hid ((Blk.new w #[.int .i64 p, .int .i64 q] 22).same hF)
  have HF1 := hid ((Fr.alloc (fun _ => False) w (.cells #[.int .i64 p, .int .i64 q] 22)).trans hF)
  have HBO := hid (show ∀ k, b.own k → w.heap.size < k from fun k hk => by have := hown k hk; simp at this; omega)
  clear hM hF hown
  have x0 := HBx.out.cell (i := 0) rfl
  have x1 := HBx.out.cell (i := 1) rfl
  go_wp2_with fail
  refine (dnew_ok b _ _ 2 2 p q _ HM1.out rfl rfl (by simp) (by omega) (by omega) (by omega) (by have := pow_le p (by omega); rw [List.length_replicate]; omega)).mono ?_
  rintro e w2 ⟨rfl, hM, hF⟩
  have HF2 := hid (HF1.out.since hF (fun i hi hlt => by have := HBO.out i hi; omega))
  have HBx2 := hid (HBx.out.keep hF (fun hh => by have := HBO.out _ hh; omega))
  obtain ⟨s0, hs0⟩ : ∃ s0, stp (stp (List.replicate 3 0) 2) 2 = s0 := ⟨_, rfl⟩
  have HSL := hid (show s0.length = 3 from by rw [← hs0]; decide +kernel)
  rw [hs0] at hM
  have HM2 := hid hM
  have HOL := hid (show ∀ k, b.own k → k < w2.heap.size from hM.own_lt)
  clear hM hF hs0 x0 x1
  have HBd := hid (Blk.new w2 #[.int .i64 0, .int .i64 q] 34)
  have HMd := hid (HM2.out.same (Fr.alloc _ w2 (.cells #[.int .i64 0, .int .i64 q] 34)))
  have HFd := hid (HF2.out.trans (Fr.alloc _ w2 (.cells #[.int .i64 0, .int .i64 q] 34)))
  have HBxd := hid (HBx2.out.same (Fr.alloc _ w2 (.cells #[.int .i64 0, .int .i64 q] 34)))
  obtain ⟨wd, hwd⟩ : ∃ wd, w2.alloc (.cells #[.int .i64 0, .int .i64 q] 34) = wd := ⟨_, rfl⟩
  have HSZ := hid (show wd.heap.size = w2.heap.size + 1 from by rw [← hwd]; simp)
  have HWS := hid (show w.heap.size < w2.heap.size from HBx2.out.lt)
  rw [hwd] at HBd HMd HFd HBxd
  have x0 := HBxd.out.cell (i := 0) rfl
  have x1 := HBxd.out.cell (i := 1) rfl
  have a0 := HBd.out.cell (i := 0) rfl
  have a1 := HBd.out.cell (i := 1) rfl
  go_wp2_with fail
  clear hwd
  obtain ⟨N, hN⟩ := Int.eq_ofNat_of_zero_le (show 0 ≤ p by omega)
  have HNN := hid hN
  have hN8 : N ≤ 8 := by omega
  rw [hN] at x0
  clear hN
  go_loopg [11, 12] (N + 1) (fun d x k wr => RmRel wd N d x k wr)
  case atStart => exact ⟨0, by omega, by omega, rfl, rfl, rfl⟩
  case round =>
    obtain ⟨i, hi, rfl, rfl, rfl, hwr⟩ := hrel
    subst hwr
    by_cases hlt : i < N
    · have hp := Nat.pow_le_pow_right (n := 2) (by omega) (show i ≤ 8 by omega)
      obtain ⟨z, hz⟩ : ∃ z, 2 ^ i = z := ⟨_, rfl⟩
      have HZ := hid hz
      rw [hz] at hp ⊢
      have hlt2 : (i : Int) < N := by omega
      clear hz
      go_wp2_with fail
      go_roundg (N + 1 - (i + 1))
      case rel => exact ⟨i + 1, by omega, rfl, by rw [Nat.pow_succ, HZ.out]; go_num, by go_num, rfl⟩
      case measure => omega
    · obtain rfl : i = N := by omega
      have HRM := hid (show ((2 ^ i : Nat) : Int) = pow p from by unfold pow; rw [HNN.out]; simp)
      obtain ⟨rm, hrm⟩ : ∃ rm, (2 ^ i : Nat) = rm := ⟨_, rfl⟩
      rw [hrm] at HRM ⊢
      have hrm8 : (rm : Int) ≤ 256 := by have := pow_le p (by omega); have := HRM.out; omega
      clear hrm hlt hi
      go_wp2_with fail
      have HOL2 := hid (show ∀ k, b.own k → k < wd.heap.size from fun k hk => by have := HOL.out k hk; have := HSZ.out; omega)
      have HBW := hid (show ¬ b.own w2.heap.size ∧ w2.heap.size < wd.heap.size from ⟨fun hh => by have := HOL.out _ hh; omega, by have := HSZ.out; omega⟩)
      have HBxk := hid (show ∀ u, Fr (fun _ => False) w u → True from fun _ _ => trivial)
      have HXK := hid (show w.heap.size < wd.heap.size from by have := HSZ.out; have := HWS.out; omega)
      clear x0 x1 a0 a1
      go_loopg [13, 14] (rm + 1) (fun d x k wr => GaRel w b q p w2.heap.size wd.heap.size rm d x k wr ∧ Blk wr w.heap.size #[.int .i64 p, .int .i64 q])
      case atStart => exact ⟨⟨0, [], _, s0, wd.heap.size, 0, by omega, by omega, rfl, rfl, rfl, empty_own _ _ _ (Nat.le_refl _), HMd.out.same (Fr.alloc _ _ _), HSL.out, by simpa using HSQ.out, by have := HUS0.out; have := HRM.out; omega, HFd.out.trans (Fr.alloc _ _ _), HBd.out.alloc _, by simp⟩, HBxd.out.alloc _⟩
      case round =>
        obtain ⟨⟨j, L, M, s, g, cap, hjn, rfl, hL, rfl, rfl, hO, hM, hs, hSq, hU, hF, hBd, hB⟩, hBx⟩ := hrel
        have HO := hid hO
        have HM := hid hM
        have HS := hid hs
        have HSQ2 := hid hSq
        have HF := hid hF
        have HBD := hid hBd
        have HB := hid hB
        have HLL := hid hL
        have HUU := hid hU
        have HBX := hid hBx
        clear hO hM hs hSq hF hBd hB hL hU hBx
        have hj300 : j ≤ 256 := by omega
        by_cases hlt : j < rm
        · have hl1 : (j : Int) < rm := by omega
          have hmod : j % n < n := Nat.mod_lt _ (by omega)
          obtain ⟨gl, ol, rfl, hcl⟩ := HR1.out.at_one hmod
          obtain ⟨X, hX⟩ : ∃ X, f (j % n) 0 = X := ⟨_, rfl⟩
          rw [hX] at hcl
          obtain ⟨jm, hjm⟩ : ∃ jm, j % n = jm := ⟨_, rfl⟩
          have htm : Int.tmod (j : Int) (n : Int) = (jm : Int) := by rw [← hjm]; exact (Int.ofNat_tmod j n).symm
          rw [hjm] at hcl hmod
          have HCL := hid hcl
          have l0 := hcl _ HF.out
          have hnn1 : (n : Int) ≠ 0 := by omega
          clear hcl hX hjm
          obtain ⟨o', M', hRun, hhow, hSN, hUs⟩ := HSQ2.out.push5 X (by show (L.length : Int) < pow p; have := HLL.out; have := HRM.out; omega)
          have HG8 := hid (HF.out.trans (Fr.alloc _ wr (.cells #[.int .i64 X] 2)))
          have HO7a := hid (HO.out.same (Fr.alloc (fun _ => False) wr (.cells #[.int .i64 X] 2)))
          have HB7a := hid (HBD.out.same (Fr.alloc (fun _ => False) wr (.cells #[.int .i64 X] 2)))
          have HX7a := hid (HBX.out.same (Fr.alloc (fun _ => False) wr (.cells #[.int .i64 X] 2)))
          have HM7a := hid (HM.out.same (Fr.alloc (fun _ => False) wr (.cells #[.int .i64 X] 2)))
          have HNW := hid (newk wr 2 (.int .i64 X))
          have HSA := hid (show wd.heap.size ≤ (wr.alloc (.cells #[.int .i64 X] 2)).heap.size from by have := HB.out; simp; omega)
          have HRN0 := hid hRun
          have HHW := hid hhow
          have HSN := hid hSN
          have HUs := hid (hUs.trans HUU.out)
          clear hRun hhow hSN hUs
          go_upto_region 16 with fail
          go_wp2_with (at_builtin; refine wpList_append_own _ rfl _ _ 30 rfl wd.heap.size 2 i0 (.int .i64 0) 1 8 Try.underlying30 HII.out HZ0.out HZ1.out HZ2.out rfl (by decide) (.slice (some ⟨g, 0, none⟩) j cap) j _ rfl HO7a.out ⟨wr.heap.size, 0, none⟩ 1 1 [.int .i64 X] rfl rfl HNW.out (by simp [Value.oneCell']) (by unfold maxLen; omega) (by omega) HSA.out ?_; intro v2 w10 hown2 hgrow2 hnil2; obtain ⟨g2, c2', rfl, ho2⟩ := OwnR.stays hown2 (fun hh => by have := hnil2.1 hh; cases this.1); have HO9 := hid (OwnR.eq (ys := intsV (L ++ [X])) ho2 (by simp [intsV])); have HFG := hid (Fr.of_grown hgrow2); clear hown2 hgrow2 ho2 hnil2)
          have HG9 := hid (HG8.out.since HFG.out (fun i hi hlt => by have := (OwnR.lt HO7a.out i hi).1; have := HXK.out; omega))
          have HB9 := hid (HB7a.out.keep HFG.out (fun hh => by have := (OwnR.lt HO7a.out _ hh).1; have := HSZ.out; omega))
          have HX9 := hid (HX7a.out.keep HFG.out (fun hh => by have := (OwnR.lt HO7a.out _ hh).1; have := HXK.out; omega))
          have HM9 := hid (HM7a.out.keep HFG.out (fun k hk hh => by have := (OwnR.lt HO7a.out _ hh).1; have := HOL2.out _ hk; omega))
          have HS9 := hid (show wd.heap.size ≤ w10.heap.size from Nat.le_trans HSA.out HFG.out.size)
          have HLN := hid (show (L ++ [X]).length = j + 1 from by rw [List.length_append, HLL.out]; rfl)
          have HCJ := hid (show ∀ u, Fr (fun _ => False) w10 u → u.cell? ⟨g2, j, none⟩ = some (.int .i64 X) from fun u F => by
            refine own_cells (HO9.out.same F) HLN.out j _ ?_
            rw [intsV_at _ _ (by rw [HLN.out]; omega)]
            rw [List.getD_eq_getElem?_getD, List.getElem?_append_right (by rw [HLL.out]; omega), HLL.out]
            simp)
          have HBE := hid (fun (u : World) (F : Fr (fun _ => False) w10 u) => beg_push (most := q) X (HM9.out.same F))
          have HRN := hid (show ∀ (u : World) (o1 q1 c1 : Nat), Fr (fun _ => False) w10 u → IsOp u b o1 q1 c1 q (beginOp 0 X) → Calls Try.prog 31 #[.pointer (some ⟨b.m, 0, none⟩), .pointer (some ⟨o1, 0, none⟩), .int .i64 0] u (fun e w' => e = .returned (.int .i64 1) ∧ ∃ cp' s', (cp' = c1 ∨ u.heap.size ≤ cp') ∧ IsM w' b (MO M' s') ∧ s'.length = 3 ∧ Fr (OM b q1 c1) u w') from
            fun u o1 q1 c1 F hI => (show Calls Try.prog 31 #[.pointer (some ⟨b.m, 0, none⟩), .pointer (some ⟨o1, 0, none⟩), .int .i64 0] u _ from run_ok b o1 q1 c1 q _ o' M M' s 0 5 u HRN0.out (live_begin 0 X) (St.begin_ hI (HM9.out.same F) (HSQ2.out.cb (by omega)).1 (by omega) (HSQ2.out.cb (by omega)).2) (by rw [HS.out]; omega) (by omega)).mono fun e w' ⟨h1, cp', s', h2, _, h4, h5, h6⟩ => ⟨by rw [h1, HHW.out]; rfl, cp', s', h2, h4, h5.trans HS.out, h6⟩)
          have HFd2 := hid (Fr.refl (fun _ => False) w10)
          have HT := hid (show ∀ u, Fr (fun _ => False) w10 u → u.cell? ⟨g2, j, none⟩ = some (.int .i64 X) ∧ u.cell? ⟨w2.heap.size, 0, none⟩ = some (.int .i64 0) ∧ u.cell? ⟨w2.heap.size, 1, none⟩ = some (.int .i64 q) from
            fun u F => ⟨HCJ.out _ F, (HB9.out.same F).cell rfl, (HB9.out.same F).cell rfl⟩)
          have hb1 : (0 : Int) ≤ (j : Int) := by omega
          have hb2 : (j : Int) < ((j + 1 : Nat) : Int) := by omega
          have hb3 : (j : Int) < (j : Int) + 1 := by omega
          go_upto_region 17 with fail
          go_region_held3 (fun u => u.cell? ⟨g2, j, none⟩ = some (.int .i64 X) ∧ u.cell? ⟨w2.heap.size, 0, none⟩ = some (.int .i64 0) ∧ u.cell? ⟨w2.heap.size, 1, none⟩ = some (.int .i64 q))
            (first | exact ⟨own_cells HO7.out HLN.out j _ HIV.out, HB7.out.cell rfl, HB7.out.cell rfl⟩ | exact HT.out _ HFd2.out | exact HT.out _ (HFd2.out.trans (Fr.drew _ _)))
            (first
              | (go_at_call 16; (with_reducible refine (HBE.out _ (by first | exact HFd2.out | exact HFd2.out.trans (Fr.drew _ _))).mono ?_); rintro e w6 ⟨o1, q1, c1, rfl, hI1, hF6, ⟨ho1, hq1, hc1⟩, hlt1⟩; have HI1 := hid hI1; have HQ1 := hid (show w10.heap.size ≤ q1 ∧ w10.heap.size ≤ c1 from ⟨Nat.le_trans HFd2.out.size hq1, Nat.le_trans HFd2.out.size hc1⟩); have HFd2 := hid (HFd2.out.trans (Fr.trans (by first | exact Fr.refl _ _ | exact Fr.drew _ _) hF6)); clear hF6 hI1 ho1 hq1 hc1 hlt1)
              | (go_at_call 31; (with_reducible refine (HRN.out _ _ _ _ (by first | exact HFd2.out | exact HFd2.out.trans (Fr.drew _ _)) (by first | exact HI1.out | exact HI1.out.same (Fr.drew _ _))).mono ?_); rintro e w7 ⟨rfl, cp7, s7, hcp7, hM7, hs7, hF7⟩; have HG7 := hid (fr_op_own (S := fun _ => False) (HG9.out.trans (HFd2.out.trans (by first | exact Fr.refl _ _ | exact Fr.drew _ _))) hF7 (fun k h hlt => by have := HBO.out _ h; omega) (by have := HQ1.out; have := HG9.out.size; omega) (by have := HQ1.out; have := HG9.out.size; omega)); have HB7 := hid ((HB9.out.same (HFd2.out.trans (by first | exact Fr.refl _ _ | exact Fr.drew _ _))).keep hF7 (om_not HOL.out HBW.out HQ1.out HS9.out)); have HO7 := hid ((HO9.out.same (HFd2.out.trans (by first | exact Fr.refl _ _ | exact Fr.drew _ _))).keep hF7 (om_row HO9.out HOL2.out HQ1.out)); have HX7 := hid ((HX9.out.same (HFd2.out.trans (by first | exact Fr.refl _ _ | exact Fr.drew _ _))).keep hF7 (fun hh => by
                  have := HQ1.out; have := HS9.out; have := HXK.out
                  rcases hh with (h | h) | h
                  · have := HBO.out _ h; omega
                  · omega
                  · omega)); have HMN := hid hM7; have HSLN := hid hs7; have HBN := hid (show wd.heap.size ≤ w7.heap.size from Nat.le_trans HS9.out (Nat.le_trans HFd2.out.size hF7.size)); have HIV := hid (show (intsV (L ++ [X]))[j]? = some (.int .i64 X) from by rw [intsV_at _ _ (by rw [HLN.out]; omega), List.getD_eq_getElem?_getD, List.getElem?_append_right (by rw [HLL.out]; omega), HLL.out]; simp); clear hF7 hM7 hs7 hcp7))
          all_goals
            go_wp2_with fail
            go_roundg (rm + 1 - (j + 1))
            case rel => exact ⟨⟨j + 1, L ++ [X], M', s7, g2, c2', by omega, rfl, HLN.out, rfl, by go_num, HO7.out, HMN.out, HSLN.out, by
              have := HSN.out
              rw [show (1 : Int) + ((j + 1 : Nat) : Int) = 1 + (j : Int) + 1 by omega]
              exact this, HUs.out, HG7.out, HB7.out, HBN.out⟩, HX7.out⟩
            case measure => omega
        · obtain rfl : j = rm := by omega
          have hl1 : ¬ (j : Int) < j := by omega
          have x0 := HBX.out.cell (i := 0) rfl
          have x1 := HBX.out.cell (i := 1) rfl
          have a0 := HBD.out.cell (i := 0) rfl
          have a1 := HBD.out.cell (i := 1) rfl
          have HUSE := hid (used_ok b (MO M s) wr HM.out)
          rw [show (((MO M s).used : Nat) : Int) = 3 + (j : Int) from by show ((M.used : Nat) : Int) = _; have := HUU.out; omega] at HUSE
          have HBE := hid (beg_push (most := q) x HM.out)
          go_wp2_with fail
          refine HUSE.out.mono ?_
          rintro e w' ⟨rfl, rfl⟩
          go_wp2_with fail
          refine HBE.out.mono ?_
          rintro e w6 ⟨o1, q1, c1, rfl, hI1, hF6, ⟨ho1, hq1, hc1⟩, hlt1⟩
          have HI1 := hid hI1
          have HQ1 := hid (show wr.heap.size ≤ o1 ∧ wr.heap.size ≤ q1 ∧ wr.heap.size ≤ c1 from ⟨ho1, hq1, hc1⟩)
          have HF6 := hid hF6
          have HBX6 := hid (HBX.out.same HF6.out)
          have HBD6 := hid (HBD.out.same HF6.out)
          have HO6 := hid (HO.out.same HF6.out)
          have HM6 := hid (HM.out.same HF6.out)
          have HG6 := hid (HF.out.trans HF6.out)
          have HGW := hid (OwnR.lt HO.out g ⟨_, rfl, rfl⟩)
          clear hI1 hF6 ho1 hq1 hc1 hlt1 x0 x1 a0 a1 HUSE
          have x0 := HBX6.out.cell (i := 0) rfl
          have x1 := HBX6.out.cell (i := 1) rfl
          by_cases hpe : p = q
          · have HPE := hid hpe
            have tpq : (p == q) = true := by simpa using hpe
            have HRMQ := hid (show (L.length : Int) = pow q from by rw [← hpe]; have := HLL.out; have := HRM.out; omega)
            obtain ⟨p1, p2, p3, e1, e2, e3, v1, v2, v3, u1, u2, u3, k3⟩ := HSQ2.out.full3 x HRMQ.out
            have HE0 := hid (St.begin_ HI1.out HM6.out (HSQ2.out.cb (by omega)).1 (by omega) (HSQ2.out.cb (by omega)).2)
            have HL0 := hid (live_begin 0 x)
            have HL1 := hid (show p1.Live from by have h := act_live (M := M) (most := q) HL0.out v1.2.1 (by rw [e1]; exact .inl u1); rw [e1] at h; exact h)
            have HL2 := hid (show p2.Live from by have h := act_live (M := M) (most := q) HL1.out v2.2.1 (by rw [e2]; exact .inl u2); rw [e2] at h; exact h)
            have HGE0 := hid HG6.out
            have HDE0 := hid HBD6.out
            have HOE0 := hid HO6.out
            have HBE0 := hid (Nat.le_trans HB.out HF6.out.size)
            have HFE0 := hid (show wd.heap.size ≤ q1 ∧ wd.heap.size ≤ c1 ∧ g ≠ q1 ∧ g ≠ c1 ∧ w2.heap.size < wd.heap.size from by have := HB.out; have := HQ1.out; have := HGW.out; have := HSZ.out; omega)
            have K1 := hid (fun (u : World) (h : St u b o1 q1 c1 q (beginOp 0 x) M s 1000) => st_known (j := 0) h HL0.out v1 e1 u1 (by rw [HS.out]; omega) (by omega) (by omega))
            have K2 := hid (fun (u : World) (c : Nat) (h : St u b o1 q1 c q p1 M (stp s 0) 1001) => st_known (j := 0) h HL1.out v2 e2 u2 (by rw [stp_len, HS.out]; omega) (by omega) (by omega))
            have K3 := hid (fun (u : World) (c : Nat) (h : St u b o1 q1 c q p2 M (stp (stp s 0) 0) 1002) => st_known (j := 0) h HL2.out v3 e3 u3 (by rw [stp_len, stp_len, HS.out]; omega) (by omega) (by omega))
            have U3 := hid u3
            have KK := hid k3
            clear e1 e2 e3 v1 v2 v3 u1 u2 u3 k3
            go_wp2_with fail
            refine (K1.out _ HE0.out).mono ?_
            rintro e y1 ⟨d1, hc, rfl, hS, hF⟩
            have HE1 := hid hS
            have HGE1 := hid (fr_op_own (S := fun _ => False) HGE0.out hF (fun k h hlt => by have := HBO.out _ h; omega) (by have := HFE0.out; have := HXK.out; omega) (by have := HFE0.out; have := HXK.out; omega))
            have HDE1 := hid (HDE0.out.keep hF (fun hh => by
              have := HFE0.out
              rcases hh with (h | h) | h
              · have := HOL.out _ h; omega
              · omega
              · omega))
            have HOE1 := hid (HOE0.out.keep hF (fun j hj hh => by
              have hlo := (OwnR.lt HOE0.out j hj).1
              obtain ⟨a, ha, hk⟩ := hj
              injection ha with ha
              subst ha
              simp only at hk
              have := HFE0.out
              rcases hh with (h | h) | h
              · have := HOL2.out _ h; omega
              · omega
              · omega))
            have HBE1 := hid (Nat.le_trans HBE0.out hF.size)
            have HFE1 := hid (show wd.heap.size ≤ q1 ∧ wd.heap.size ≤ d1 ∧ g ≠ q1 ∧ g ≠ d1 ∧ w2.heap.size < wd.heap.size from by
              have := HFE0.out
              have := HBE0.out
              have hgl := (OwnR.lt HOE0.out g ⟨_, rfl, rfl⟩).2
              rcases hc with h | h <;> omega)
            clear hS hF hc
            clear x0 x1
            go_wp2_with fail
            refine (K2.out _ _ HE1.out).mono ?_
            rintro e y2 ⟨d2, hc, rfl, hS, hF⟩
            have HE2 := hid hS
            have HGE2 := hid (fr_op_own (S := fun _ => False) HGE1.out hF (fun k h hlt => by have := HBO.out _ h; omega) (by have := HFE1.out; have := HXK.out; omega) (by have := HFE1.out; have := HXK.out; omega))
            have HDE2 := hid (HDE1.out.keep hF (fun hh => by
              have := HFE1.out
              rcases hh with (h | h) | h
              · have := HOL.out _ h; omega
              · omega
              · omega))
            have HOE2 := hid (HOE1.out.keep hF (fun j hj hh => by
              have hlo := (OwnR.lt HOE1.out j hj).1
              obtain ⟨a, ha, hk⟩ := hj
              injection ha with ha
              subst ha
              simp only at hk
              have := HFE1.out
              rcases hh with (h | h) | h
              · have := HOL2.out _ h; omega
              · omega
              · omega))
            have HBE2 := hid (Nat.le_trans HBE1.out hF.size)
            have HFE2 := hid (show wd.heap.size ≤ q1 ∧ wd.heap.size ≤ d2 ∧ g ≠ q1 ∧ g ≠ d2 ∧ w2.heap.size < wd.heap.size from by
              have := HFE1.out
              have := HBE1.out
              have hgl := (OwnR.lt HOE1.out g ⟨_, rfl, rfl⟩).2
              rcases hc with h | h <;> omega)
            clear hS hF hc
            go_wp2_with fail
            refine (K3.out _ _ HE2.out).mono ?_
            rintro e y3 ⟨d3, hc, rfl, hS, hF⟩
            have HE3 := hid hS
            have HGE3 := hid (fr_op_own (S := fun _ => False) HGE2.out hF (fun k h hlt => by have := HBO.out _ h; omega) (by have := HFE2.out; have := HXK.out; omega) (by have := HFE2.out; have := HXK.out; omega))
            have HDE3 := hid (HDE2.out.keep hF (fun hh => by
              have := HFE2.out
              rcases hh with (h | h) | h
              · have := HOL.out _ h; omega
              · omega
              · omega))
            have HOE3 := hid (HOE2.out.keep hF (fun j hj hh => by
              have hlo := (OwnR.lt HOE2.out j hj).1
              obtain ⟨a, ha, hk⟩ := hj
              injection ha with ha
              subst ha
              simp only at hk
              have := HFE2.out
              rcases hh with (h | h) | h
              · have := HOL2.out _ h; omega
              · omega
              · omega))
            have HBE3 := hid (Nat.le_trans HBE2.out hF.size)
            have HFE3 := hid (show wd.heap.size ≤ q1 ∧ wd.heap.size ≤ d3 ∧ g ≠ q1 ∧ g ≠ d3 ∧ w2.heap.size < wd.heap.size from by
              have := HFE2.out
              have := HBE2.out
              have hgl := (OwnR.lt HOE2.out g ⟨_, rfl, rfl⟩).2
              rcases hc with h | h <;> omega)
            clear hS hF hc
            have HST := hid (op_still' HE3.out.hI (by rw [U3.out]; omega) (by rw [U3.out]; omega) (.pointer (some ⟨b.m, 0, none⟩)) (.inr ⟨_, rfl⟩) 0)
            rw [U3.out] at HST
            go_wp2_with fail
            refine HST.out.mono ?_
            rintro e y4 ⟨rfl, rfl⟩
            have HLS := hid (dlist_ok b M (stp (stp (stp s 0) 0) 0) ⟨3, p⟩ q _ HE3.out.hM HSQ2.out.cells.1 HSQ2.out.cells.2.1 (by have := HUU.out; omega) HSQ2.out.cells.2.2.2.2.2.2.1 (by have := HSQ2.out.cells; have := HSQ2.out.room; omega) ((HSQ2.out.cb (by omega)).1.more (by omega)))
            rw [HSQ2.out.list] at HLS
            unfold ListPost at HLS
            rw [HLL.out] at HLS
            have HUSE := hid (fun u (F : Fr (fun _ => False) y3 u) => used_ok b (MO M (stp (stp (stp s 0) 0) 0)) u (HE3.out.hM.same F))
            rw [show (((MO M (stp (stp (stp s 0) 0) 0)).used : Nat) : Int) = 3 + (j : Int) from by show ((M.used : Nat) : Int) = _; have := HUU.out; omega] at HUSE
            have a0 := HDE3.out.cell (i := 0) rfl
            have a1 := HDE3.out.cell (i := 1) rfl
            go_wp2_with fail
            refine HLS.out.mono ?_
            rintro e y5 ⟨A8, cap8, rfl, hO8, hF8⟩
            have HSM := hid (fun cA cB => same_yes A8 (some ⟨g, 0, none⟩) L j cA cB y5 (hO8.intR HLL.out.symm) ((HOE3.out.same hF8).intR HLL.out.symm) HLL.out (by omega))
            have HF8 := hid hF8
            clear hO8 hF8 a0 a1
            go_wp2_with fail
            refine (HSM.out _ _).mono ?_
            rintro e y6 ⟨rfl, hF9⟩
            have HF9 := hid (HF8.out.trans hF9)
            clear hF9
            go_wp2_with fail
            refine (HUSE.out _ HF9.out).mono ?_
            rintro e w' ⟨rfl, rfl⟩
            go_wp2_with fail
            refine (awake_ok _).mono ?_
            rintro e y7 ⟨rfl, hF7⟩
            go_wp2_with fail
            go_ret
            exact ⟨rfl, ((HGE3.out.trans HF9.out).trans hF7).below (Nat.le_refl _) (fun _ hh => hh.elim)⟩
          · have tpq : (p == q) = false := by simpa using hpe
            have HST0 := hid (St.begin_ HI1.out HM6.out (HSQ2.out.cb (by omega)).1 (by omega) (HSQ2.out.cb (by omega)).2)
            have HGR := hid (Gr.begin_ (x := x) HSQ2.out (by show _ = pow p; have := HLL.out; have := HRM.out; omega) (by have := HLL.out; have := HRM.out; have h1 := pow_mono (a := p + 1) (b := q) (by omega) (by omega); have h2 := pow_succ p hp0; have h3 := pow_pos p; omega))
            have HRM2 := hid (show (L.length : Int) = j from by have := HLL.out; omega)
            go_wp2_with fail
            go_loopg [17] (7 + 2 * j) (fun d k wr => GbRel w b q x w2.heap.size w.heap.size wd.heap.size j g cap o1 q1 p L d k wr)
            case atStart => exact ⟨0, beginOp 0 x, M, s, ⟨3, p⟩, c1, by omega, by omega, by simp, by have := HGR.out; rw [HRM2.out, HUU.out] at this; exact this, by simpa using HST0.out, live_begin 0 x, HS.out, HO6.out, HG6.out, HBD6.out, Nat.le_trans HB.out HF6.out.size, by have := HB.out; have := HQ1.out; have := HGW.out; have := HSZ.out; omega, ⟨rfl, rfl, rfl⟩⟩
            case round =>
              obtain ⟨i, op, M1, s1, R1, cA, hi7, rfl, rfl, hGr, hSt, hLv, hs1, hO1, hF1, hBd1, hB1, hfoot, hkk⟩ := hrel
              have HGr := hid hGr
              have HSt := hid hSt
              have HLv := hid hLv
              have HS1 := hid hs1
              have HO1 := hid hO1
              have HF1 := hid hF1
              have HBD1 := hid hBd1
              have HB1 := hid hB1
              have HFT := hid hfoot
              have HK0 := hid hkk
              have HGL := hid hGr.list
              have HSTP := hid (show Calls Try.prog 18 #[.pointer (some ⟨o1, 0, none⟩), .pointer (some ⟨b.m, 0, none⟩), .int .i64 0] wr _ from st_step (j := 0) hSt hLv HGL.out.2.2.2.2.2.2.2.1 (by rw [hs1]; omega) (by omega) (by omega))
              clear hGr hSt hLv hs1 hO1 hF1 hBd1 hB1 hfoot hkk
              have hi300 : i ≤ 600 := by omega
              by_cases hlast : (i : Int) + 1 < 7 + 2 * (j : Int)
              · obtain ⟨hhow, R2, hGr2⟩ := HGr.out.step hlast
                have HGr2 := hid hGr2
                have HL2 := hid hGr2.list
                have HLV2 := hid (act_live (M := M1) (most := q) HLv.out HGL.out.2.2.2.2.2.2.2.1.2.1 (.inl hhow))
                obtain ⟨op2, hop2⟩ : ∃ op2, (op.act q M1).1 = op2 := ⟨_, rfl⟩
                obtain ⟨M2, hM2⟩ : ∃ M2, (op.act q M1).2 = M2 := ⟨_, rfl⟩
                unfold StepPost at HSTP
                rw [hop2, hM2] at HSTP
                rw [hop2] at hhow HLV2
                rw [hop2, hM2] at HGr2 
                rw [hM2] at HL2
                rw [hhow] at HSTP
                have HKP := hid (act_keep (M := M1) (most := q) HK0.out.1)
                rw [hop2] at HKP
                have HKK := hid (show op2.kind = 0 ∧ op2.got = 0 ∧ op2.err = 0 from ⟨HKP.out.1, HKP.out.2.1.trans HK0.out.2.1, HKP.out.2.2.trans HK0.out.2.2⟩)
                clear hop2 hM2 hGr2 hhow
                have HU2 := hid (show ∃ (u2 : Nat) (v : Bool), M2.used = u2 ∧ ((u2 : Int) == 3 + (j : Int)) = v ∧ decide ((i : Int) + 1 < 4) = v ∧ decide ((i : Int) < 3) = v from by
                  have := HGr2.out.us
                  have h1 := HGr2.out.n1
                  by_cases h4 : i + 1 ≤ 3
                  · rw [if_pos h4] at this
                    exact ⟨_, true, rfl, by simp; omega, by simp; omega, by simp; omega⟩
                  · rw [if_neg h4] at this
                    exact ⟨_, false, rfl, by simp; omega, by simp; omega, by simp; omega⟩)
                obtain ⟨u2, v, hu2, tu2, tu3, tu4⟩ := HU2.out
                have tlt : (i : Int) + 1 < 7 + 2 * (j : Int) := hlast
                go_wp2_with fail
                refine HSTP.out.mono ?_
                rintro e w7 ⟨cB, hcB, rfl, hS7, hF7⟩
                have HS7 := hid hS7
                have HG7 := hid (fr_op_own (S := fun _ => False) HF1.out hF7 (fun k h hlt => by have := HBO.out _ h; omega) (by have := HFT.out; have := HXK.out; omega) (by have := HFT.out; have := HXK.out; omega))
                have HBD7 := hid (HBD1.out.keep hF7 (fun hh => by
                  have := HFT.out
                  rcases hh with (h | h) | h
                  · have := HOL.out _ h; omega
                  · omega
                  · omega))
                have HO7 := hid (HO1.out.keep hF7 (fun j hj hh => by
                  have hlo := (OwnR.lt HO1.out j hj).1
                  obtain ⟨a, ha, hk⟩ := hj
                  injection ha with ha
                  subst ha
                  simp only at hk
                  have := HFT.out
                  rcases hh with (h | h) | h
                  · have := HOL2.out _ h; omega
                  · omega
                  · omega))
                have HB7 := hid (Nat.le_trans HB1.out hF7.size)
                have HFT7 := hid (show wd.heap.size ≤ q1 ∧ wd.heap.size ≤ cB ∧ g ≠ q1 ∧ g ≠ cB ∧ w2.heap.size < wd.heap.size from by
                  have := HFT.out
                  have := HB1.out
                  have hgl := (OwnR.lt HO1.out g ⟨_, rfl, rfl⟩).2
                  rcases hcB with h | h <;> omega)
                have HLS := hid (show Calls Try.prog 26 #[.agg #[.int .i64 0, .int .i64 q], .pointer (some ⟨b.m, 0, none⟩)] w7 (fun e w' => ∃ (A : Option Addr) (cap : Nat), e = .returned (.slice A j cap) ∧ OwnR w' w7.heap.size 2 1 A j cap (intsV L) ∧ Fr (fun _ => False) w7 w') from by
                  obtain ⟨l1, l2, l3, l4, l5, l6, l7, _⟩ := HL2.out
                  have h9 := dlist_ok b M2 (stp s1 0) R2 q w7 HS7.out.hM l1 l2 l3 l4 l6 (HS7.out.cb.more (by omega))
                  have e : dqL M2 R2 = L := by
                    unfold dqL
                    rw [show (rd M2 1 - rd M2 0).toNat = L.length by omega]
                    apply List.ext_getElem
                    · rw [dqN_len]
                    · intro i h1 h2
                      have := dqN_at M2 R2 L.length i h2
                      rw [l7 i h2] at this
                      rw [List.getD_eq_getElem?_getD, List.getD_eq_getElem?_getD, List.getElem?_eq_getElem h1, List.getElem?_eq_getElem h2] at this
                      exact this
                  rw [e] at h9
                  unfold ListPost at h9
                  rw [HLL.out] at h9
                  exact h9)
                clear hS7 hF7 hcB HSTP
                have HUSE := hid (fun u (F : Fr (fun _ => False) w7 u) => used_ok b (MO M2 (stp s1 0)) u (HS7.out.hM.same F))
                rw [show ((MO M2 (stp s1 0)).used : Nat) = u2 from hu2] at HUSE
                have a0 := HBD7.out.cell (i := 0) rfl
                have a1 := HBD7.out.cell (i := 1) rfl
                go_wp2_with fail
                refine HLS.out.mono ?_
                rintro e w8 ⟨A8, cap8, rfl, hO8, hF8⟩
                have HSM := hid (fun cA cB => same_yes A8 (some ⟨g, 0, none⟩) L j cA cB w8 (hO8.intR HLL.out.symm) ((HO7.out.same hF8).intR HLL.out.symm) HLL.out (by omega))
                have HF8 := hid hF8
                clear hO8 hF8 a0 a1
                go_wp2_with fail
                refine (HSM.out _ _).mono ?_
                rintro e w9 ⟨rfl, hF9⟩
                have HF9 := hid (HF8.out.trans hF9)
                clear hF9
                go_wp2_with fail
                refine (HUSE.out _ HF9.out).mono ?_
                rintro e w' ⟨rfl, rfl⟩
                go_wp2_with fail
                go_roundg (7 + 2 * j - (i + 1))
                case rel => exact ⟨i + 1, op2, M2, stp s1 0, R2, cB, by omega, by omega, by go_num, HGr2.out, by
                  have := HS7.out.same HF9.out
                  rw [show (1000 : Int) + ((i + 1 : Nat) : Int) = 1000 + (i : Int) + 1 by omega]
                  exact this, HLV2.out, by rw [stp_len]; exact HS1.out, HO7.out.same HF9.out, HG7.out.trans HF9.out, HBD7.out.same HF9.out, Nat.le_trans HB7.out HF9.out.size, HFT7.out, HKK.out⟩
                case measure => omega
              · have hlast2 : (i : Int) + 1 = 7 + 2 * (j : Int) := by omega
                obtain ⟨hhow, hus, nxt, hSN⟩ := HGr.out.last hlast2
                obtain ⟨op2, hop2⟩ : ∃ op2, (op.act q M1).1 = op2 := ⟨_, rfl⟩
                obtain ⟨M2, hM2⟩ : ∃ M2, (op.act q M1).2 = M2 := ⟨_, rfl⟩
                unfold StepPost at HSTP
                rw [hop2, hM2] at HSTP
                rw [hop2] at hhow
                rw [hM2] at hus hSN
                rw [hhow] at HSTP
                have HU2 := hid (show ∃ u2 : Nat, M2.used = u2 ∧ (u2 : Int) = 3 + (j : Int) + 2 * (j : Int) from ⟨_, rfl, by have := hus; push_cast at this; omega⟩)
                obtain ⟨u2, hu2, tu2⟩ := HU2.out
                have HHW := hid hhow
                have HSN := hid hSN
                have HKI := hid HGr.out
                clear hM2 hhow hus hSN
                have tlt : ¬ (i : Int) + 1 < 7 + 2 * (j : Int) := by omega
                go_wp2_with fail
                refine HSTP.out.mono ?_
                rintro e w7 ⟨cB, hcB, rfl, hS7, hF7⟩
                have HS7 := hid hS7
                have HG7 := hid (fr_op_own (S := fun _ => False) HF1.out hF7 (fun k h hlt => by have := HBO.out _ h; omega) (by have := HFT.out; have := HXK.out; omega) (by have := HFT.out; have := HXK.out; omega))
                have HBD7 := hid (HBD1.out.keep hF7 (fun hh => by
                  have := HFT.out
                  rcases hh with (h | h) | h
                  · have := HOL.out _ h; omega
                  · omega
                  · omega))
                have HO7 := hid (HO1.out.keep hF7 (fun j hj hh => by
                  have hlo := (OwnR.lt HO1.out j hj).1
                  obtain ⟨a, ha, hk⟩ := hj
                  injection ha with ha
                  subst ha
                  simp only at hk
                  have := HFT.out
                  rcases hh with (h | h) | h
                  · have := HOL2.out _ h; omega
                  · omega
                  · omega))
                have HB7 := hid (Nat.le_trans HB1.out hF7.size)
                have HFT7 := hid (show wd.heap.size ≤ q1 ∧ wd.heap.size ≤ cB ∧ g ≠ q1 ∧ g ≠ cB ∧ w2.heap.size < wd.heap.size from by
                  have := HFT.out
                  have := HB1.out
                  have hgl := (OwnR.lt HO1.out g ⟨_, rfl, rfl⟩).2
                  rcases hcB with h | h <;> omega)
                clear hS7 hF7 hcB HSTP
                have HUSE := hid (fun u (F : Fr (fun _ => False) w7 u) => used_ok b (MO M2 (stp s1 0)) u (HS7.out.hM.same F))
                rw [show ((MO M2 (stp s1 0)).used : Nat) = u2 from hu2] at HUSE
                rw [tu2] at HUSE
                clear tu2 hu2
                go_wp2_with fail
                refine (HUSE.out _ (Fr.refl _ _)).mono ?_
                rintro e w' ⟨rfl, rfl⟩
                have HLN := hid (show (L ++ [x]).length = j + 1 from by rw [List.length_append, HLL.out]; rfl)
                have HLS := hid (show ∀ u, Fr (fun _ => False) w7 u → Calls Try.prog 26 #[.agg #[.int .i64 0, .int .i64 q], .pointer (some ⟨b.m, 0, none⟩)] u (fun e w' => ∃ (A : Option Addr) (cap : Nat), e = .returned (.slice A (j + 1) cap) ∧ OwnR w' u.heap.size 2 1 A (j + 1) cap (intsV (L ++ [x])) ∧ Fr (fun _ => False) u w') from fun u F => by
                  have hq := HSN.out
                  have h9 := dlist_ok b M2 (stp s1 0) R1 q u (HS7.out.hM.same F) hq.cells.1 hq.cells.2.1 (by have := hq.cells; have := pow_pos R1.l; omega) hq.cells.2.2.2.2.2.2.1 (by have := hq.cells; have := hq.room; omega) (HS7.out.cb.more (by omega))
                  rw [hq.list] at h9
                  unfold ListPost at h9
                  rw [HLN.out] at h9
                  exact h9)
                have HKP := hid (act_keep (M := M1) (most := q) HK0.out.1)
                rw [hop2] at HKP
                have HGT0 := hid (show op2.got = 0 ∧ op2.err = 0 ∧ op2.kind = 0 from ⟨HKP.out.2.1.trans HK0.out.2.1, HKP.out.2.2.trans HK0.out.2.2, HKP.out.1⟩)
                clear hop2
                have a0 := HBD7.out.cell (i := 0) rfl
                have a1 := HBD7.out.cell (i := 1) rfl
                go_wp2_with fail
                refine (HLS.out _ (Fr.refl _ _)).mono ?_
                rintro e w8 ⟨A8, cap8, rfl, hO8, hF8⟩
                have HF8 := hid hF8
                have HOA := hid ((HO7.out.same hF8).same (Fr.alloc (fun _ => False) w8 (.cells #[.int .i64 x] 2)))
                have HA8 := hid (hO8.same (Fr.alloc (fun _ => False) w8 (.cells #[.int .i64 x] 2)))
                have HNW := hid (newk w8 2 (.int .i64 x))
                have HSA := hid (show wd.heap.size ≤ (w8.alloc (.cells #[.int .i64 x] 2)).heap.size from by have := HB7.out; have := hF8.size; simp; omega)
                have HLO := hid (fun i hi => (OwnR.lt HO7.out i hi).2)
                have HFA := hid (hF8.trans (Fr.alloc (fun _ => False) w8 (.cells #[.int .i64 x] 2)))
                clear hO8 hF8 a0 a1
                go_wp2_with (at_builtin; refine wpList_append_own _ rfl _ _ 30 rfl wd.heap.size 2 i0 (.int .i64 0) 1 8 Try.underlying30 HII.out HZ0.out HZ1.out HZ2.out rfl (by decide) (.slice (some ⟨g, 0, none⟩) j cap) j _ rfl HOA.out ⟨w8.heap.size, 0, none⟩ 1 1 [.int .i64 x] rfl rfl HNW.out (by simp [Value.oneCell']) (by unfold maxLen; omega) (by omega) HSA.out ?_; intro v2 w10 hown2 hgrow2 hnil2; obtain ⟨g2, c2', rfl, ho2⟩ := OwnR.stays hown2 (fun hh => by have := hnil2.1 hh; cases this.1); have HO9 := hid (OwnR.eq (ys := intsV (L ++ [x])) ho2 (by simp [intsV])); have HFG := hid (Fr.of_grown hgrow2); clear hown2 hgrow2 ho2 hnil2)
                have HA9 := hid (HA8.out.keep HFG.out (fun i hi hh => by have := (OwnR.lt HA8.out i hi).1; have := HLO.out i hh; omega))
                have HSM := hid (fun cA cB => same_yes A8 (some ⟨g2, 0, none⟩) (L ++ [x]) (j + 1) cA cB w10 (HA9.out.intR HLN.out.symm) (HO9.out.intR HLN.out.symm) HLN.out (by omega))
                have HS9 := hid ((HS7.out.same HFA.out).hI.keep HFG.out (fun hh => by
                  have := HLO.out _ hh
                  have hlo := (OwnR.lt HOA.out _ hh).1
                  have := HFT7.out
                  have hh2 : o1 = g := by
                    obtain ⟨a, ha, hk⟩ := hh
                    injection ha with ha
                    subst ha
                    have hk3 := hk.symm
                    simpa using hk3
                  have := HQ1.out
                  have := HGW.out
                  omega) (fun hh => by
                  have hh2 : q1 = g := by
                    obtain ⟨a, ha, hk⟩ := hh
                    injection ha with ha
                    subst ha
                    have hk3 := hk.symm
                    simpa using hk3
                  have := HFT7.out
                  omega) (fun hh => by
                  have hh2 : cB = g := by
                    obtain ⟨a, ha, hk⟩ := hh
                    injection ha with ha
                    subst ha
                    have hk3 := hk.symm
                    simpa using hk3
                  have := HFT7.out
                  omega))
                have HG9 := hid ((HG7.out.trans HFA.out).since HFG.out (fun i hi hlt => by have := (OwnR.lt HOA.out i hi).1; have := HXK.out; omega))
                have HGT := hid (fun u (F : Fr (fun _ => False) w10 u) => op_got' (HS9.out.same F) (fun h => absurd h (by rw [HGT0.out.2.2]; decide)))
                have HER := hid (fun u (F : Fr (fun _ => False) w10 u) => op_err' (HS9.out.same F))
                rw [show op2.tell = 0 from by unfold DOp.tell; rw [if_pos (.inr HHW.out)]; exact HGT0.out.1] at HGT
                rw [HGT0.out.2.1] at HER
                go_wp2_with fail
                refine (HSM.out _ _).mono ?_
                rintro e w11 ⟨rfl, hF11⟩
                have HF11 := hid hF11
                clear hF11
                go_wp2_with fail
                refine (HGT.out _ HF11.out).mono ?_
                rintro e w' ⟨rfl, rfl⟩
                go_wp2_with fail
                refine (HER.out _ HF11.out).mono ?_
                rintro e w' ⟨rfl, rfl⟩
                go_wp2_with fail
                refine (awake_ok _).mono ?_
                rintro e w12 ⟨rfl, hF12⟩
                go_wp2_with fail
                go_ret
                exact ⟨rfl, ((HG9.out.trans HF11.out).trans hF12).below (Nat.le_refl _) (fun _ hh => hh.elim)⟩

theorem growsLaw (p q : Int) (A : Option Addr) (n c : Nat) (f : Nat → Nat → Int) (x : Int) (w : World) (hr : Row w A n 1 f) :
    Calls Try.prog 6 #[.agg #[.int .i64 p, .int .i64 q], .slice A n c, .int .i64 x] w fun e w' => e = .returned (.bool true) ∧ Below w.heap.size w w' := by
  by_cases h : 0 ≤ p ∧ p ≤ q ∧ q ≤ 8 ∧ 1 ≤ n
  · exact grows_yes p q A n c f x w h.1 h.2.1 h.2.2.1 h.2.2.2 hr
  · exact grows_no p q A n c x w h

end Go.Proofs.Ytecpdhfncmlbaaa
