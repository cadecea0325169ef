/-
  DequeLets answers true at every input.
-/
import Derived.Test.YtecpdhfncmlbaaaSame
import Derived.Test.YtecpdhfncmlbaaaLetsP
import Derived.Test.YtecpdhfncmlbaaaClone
import Derived.Test.YtecpdhfncmlbaaaAloneW
import Derived.Deep.RegionHeld3
import Derived.Deep.DeepCutAuto
import Derived.Deep.DeepMust
import Derived.Deep.LoopGhost
namespace Go.Proofs.Ytecpdhfncmlbaaa
open Go.RowKit
set_option linter.unusedVariables false

set_option maxRecDepth 100000 in
set_option maxHeartbeats 800000 in
theorem lets_no (p q : Int) (A : Option Addr) (n c : Nat) (w : World) (h : ¬ (0 ≤ p ∧ p ≤ q ∧ q ≤ 8 ∧ n ≤ 256)) :
    Calls Try.prog 7 #[.agg #[.int .i64 p, .int .i64 q], .slice A n c] w fun e w' => e = .returned (.bool true) ∧ Below w.heap.size w w' := by
  have H := hid h
  clear h
  rcases ht0 : decide (p < 0) with _ | _
  rotate_left 1
  · clear H
    go_enter Try.func7, Try.ntmps7
    go_wp2_with fail
    refine (awake_ok _).mono ?_
    rintro e w9 ⟨rfl, hF9⟩
    go_wp2_with fail
    go_ret
    exact ⟨rfl, ((Fr.alloc (fun _ => False) _ _).trans hF9).below (Nat.le_refl _) (fun _ hh => hh.elim)⟩
  rcases ht1 : decide (q < p) with _ | _
  rotate_left 1
  · clear H
    go_enter Try.func7, Try.ntmps7
    go_wp2_with fail
    refine (awake_ok _).mono ?_
    rintro e w9 ⟨rfl, hF9⟩
    go_wp2_with fail
    go_ret
    exact ⟨rfl, ((Fr.alloc (fun _ => False) _ _).trans hF9).below (Nat.le_refl _) (fun _ hh => hh.elim)⟩
  rcases ht2 : decide (8 < q) with _ | _
  rotate_left 1
  · clear H
    go_enter Try.func7, Try.ntmps7
    go_wp2_with fail
    refine (awake_ok _).mono ?_
    rintro e w9 ⟨rfl, hF9⟩
    go_wp2_with fail
    go_ret
    exact ⟨rfl, ((Fr.alloc (fun _ => False) _ _).trans hF9).below (Nat.le_refl _) (fun _ hh => hh.elim)⟩
  rcases ht3 : decide ((256 : Int) < (n : Int)) with _ | _
  rotate_left 1
  · clear H
    go_enter Try.func7, Try.ntmps7
    go_wp2_with fail
    refine (awake_ok _).mono ?_
    rintro e w9 ⟨rfl, hF9⟩
    go_wp2_with fail
    go_ret
    exact ⟨rfl, ((Fr.alloc (fun _ => False) _ _).trans hF9).below (Nat.le_refl _) (fun _ hh => hh.elim)⟩
  exfalso
  have := H.out
  simp only [decide_eq_false_iff_not] at ht0 ht1 ht2 ht3
  omega

theorem st_lets {w : World} {b : MB} {o q cp : Nat} {most : Int} {op op2 : DOp} {M M2 : Mach} {s : List Int} {B : Int} {j H : Nat} (h : St w b o q cp most op M s B) (hl : op.Live) (hs : op.safe M) (he : op.act most M = (op2, M2)) (hw : op2.how = H) (hj : j < s.length) (h0 : 0 ≤ B) (hB : B ≤ 100000) :
    Calls Try.prog 18 #[.pointer (some ⟨o, 0, none⟩), .pointer (some ⟨b.m, 0, none⟩), .int .i64 j] w fun e w' => ∃ cp', (cp' = cp ∨ w.heap.size ≤ cp') ∧ e = .returned (.int .i64 (H : Nat)) ∧ St w' b o q cp' most op2 M2 (stp s j) (B + 1) ∧ Fr (OM b q cp) w w' := by
  have h9 := st_step h hl hs hj h0 hB
  unfold StepPost at h9
  rw [he] at h9
  dsimp only at h9
  rw [hw] at h9
  exact h9

theorem q_under {w : World} {b : MB} {o q cp : Nat} {most : Int} {op : DOp} (h : IsOp w b o q cp most op) : q < w.heap.size := by
  rcases h.rep with ⟨_, ⟨_, wa, wl, cv, f, hB, _⟩ | ⟨_, f, hB, _⟩ | ⟨_, gv, f, hB, _⟩⟩ | ⟨_, c, hB, _⟩
  all_goals exact hB.lt

theorem IsOp.recp {w : World} {b : MB} {o q cp cp2 : Nat} {most : Int} {op : DOp} (h : IsOp w b o q cp most op) (hs : Sep b o q cp2) (hk : op.kind = 2) : IsOp w b o q cp2 most op := by
  refine ⟨hs, h.kk, h.ob, ?_⟩
  rcases h.rep with ⟨h0, ⟨k, _⟩ | ⟨k, _⟩ | hT⟩ | hE
  · omega
  · omega
  · exact .inl ⟨h0, .inr (.inr hT)⟩
  · exact .inr hE

def LeRel (w : World) (b : MB) (q : Int) (gd B n : Nat) (d : Nat) (x k : Value) (wr : World) : Prop :=
  ∃ (i m : Nat) (L : List Int) (M : Mach) (s : List Int) (R : Rg) (g cap : Nat), i ≤ n ∧ d = n + 1 - i ∧ L.length = m ∧ x = .slice (some ⟨g, 0, none⟩) m cap ∧ k = .int .i64 i ∧ OwnR wr B 2 1 (some ⟨g, 0, none⟩) m cap (intsV L) ∧ IsM wr b (MO M s) ∧ s.length = 3
    ∧ SeqI q M R (1 + i) L ∧ Fr (fun _ => False) w wr ∧ Blk wr gd #[.int .i64 0, .int .i64 q] ∧ B ≤ wr.heap.size

set_option maxRecDepth 100000 in
set_option maxHeartbeats 20000000 in
theorem lets_yes (p q : Int) (A : Option Addr) (n c : Nat) (f : Nat → Nat → Int) (w : World) (hp0 : 0 ≤ p) (hpq : p ≤ q) (hq8 : q ≤ 8) (hn : n ≤ 256) (hr : Row w A n 1 f) :
    Calls Try.prog 7 #[.agg #[.int .i64 p, .int .i64 q], .slice A n c] w fun e w' => e = .returned (.bool true) ∧ Below w.heap.size w w' := by
  have HR1 := hid hr
  have HSQ := hid (new_seq [] p q hp0 hpq hq8)
  have t1 : decide (p < 0) = false := by simp; omega
  have t2 : decide (q < p) = false := by simp; omega
  have t3 : decide (8 < q) = false := by simp; omega
  have t4 : decide ((256 : Int) < (n : Int)) = false := by simp; omega
  obtain ⟨i0, hi, hz⟩ := Option.map_eq_some_iff.1 infoint64
  simp only [Prod.mk.injEq] at hz
  obtain ⟨hz0, hz1, hz2⟩ := hz
  have HII := hid hi
  have HZ0 := hid hz0
  have HZ1 := hid hz1
  have HZ2 := hid hz2
  clear hi hz0 hz1 hz2 hr
  go_enter Try.func7, Try.ntmps7
  go_wp2_with fail
  refine (new_ok 600 2 _ (by omega) (by omega) (by omega) (by omega)).mono ?_
  rintro e w1 ⟨b, rfl, hM, hF, hown⟩
  have HOWN := hid hown
  have HM1 := hid (show IsM w1 b (MO ⟨List.replicate 600 0, 0, []⟩ (List.replicate 3 0)) from hM)
  have HBx := hid ((Blk.new w #[.int .i64 p, .int .i64 q] 22).same hF)
  have HF1 := hid ((Fr.alloc (fun _ => False) w (.cells #[.int .i64 p, .int .i64 q] 22)).trans hF)
  have HBO := hid (show ∀ k, b.own k → w.heap.size < k from fun k hk => by have := hown k hk; simp at this; omega)
  clear hM hF hown
  have x0 := HBx.out.cell (i := 0) rfl
  have x1 := HBx.out.cell (i := 1) rfl
  go_wp2_with fail
  refine (dnew_ok b _ _ 2 2 p q _ HM1.out rfl rfl (by simp) (by omega) (by omega) (by omega) (by have := pow_le p (by omega); rw [List.length_replicate]; omega)).mono ?_
  rintro e w2 ⟨rfl, hM, hF⟩
  have HF2 := hid (HF1.out.since hF (fun i hi hlt => by have := HBO.out i hi; omega))
  have HBx2 := hid (HBx.out.keep hF (fun hh => by have := HBO.out _ hh; omega))
  obtain ⟨s0, hs0⟩ : ∃ s0, stp (stp (List.replicate 3 0) 2) 2 = s0 := ⟨_, rfl⟩
  have HSL := hid (show s0.length = 3 from by rw [← hs0]; decide +kernel)
  rw [hs0] at hM
  have HM2 := hid hM
  have HOL := hid (show ∀ k, b.own k → k < w2.heap.size from hM.own_lt)
  clear hM hF hs0 x0 x1
  have HBd := hid (Blk.new w2 #[.int .i64 0, .int .i64 q] 34)
  have HMd := hid (HM2.out.same (Fr.alloc _ w2 (.cells #[.int .i64 0, .int .i64 q] 34)))
  have HFd := hid (HF2.out.trans (Fr.alloc _ w2 (.cells #[.int .i64 0, .int .i64 q] 34)))
  have HBxd := hid (HBx2.out.same (Fr.alloc _ w2 (.cells #[.int .i64 0, .int .i64 q] 34)))
  obtain ⟨wd, hwd⟩ : ∃ wd, w2.alloc (.cells #[.int .i64 0, .int .i64 q] 34) = wd := ⟨_, rfl⟩
  have HSZ := hid (show wd.heap.size = w2.heap.size + 1 from by rw [← hwd]; simp)
  have HWS := hid (show w.heap.size < w2.heap.size from HBx2.out.lt)
  rw [hwd] at HBd HMd HFd HBxd
  have x0 := HBxd.out.cell (i := 0) rfl
  have x1 := HBxd.out.cell (i := 1) rfl
  have a0 := HBd.out.cell (i := 0) rfl
  have a1 := HBd.out.cell (i := 1) rfl
  go_wp2_with fail
  clear hwd
  have HOL2 := hid (show ∀ k, b.own k → k < wd.heap.size from fun k hk => by have := HOL.out k hk; have := HSZ.out; omega)
  have HBW := hid (show ¬ b.own w2.heap.size ∧ w2.heap.size < wd.heap.size from ⟨fun hh => by have := HOL.out _ hh; omega, by have := HSZ.out; omega⟩)
  clear x0 x1 a0 a1
  go_loopg [9, 10] (n + 1) (fun d x k wr => LeRel w b q w2.heap.size wd.heap.size n d x k wr)
  case atStart => exact ⟨0, 0, [], _, s0, ⟨3, p⟩, wd.heap.size, 0, by omega, rfl, rfl, rfl, rfl, empty_own _ _ _ (Nat.le_refl _), HMd.out.same (Fr.alloc _ _ _), HSL.out, by simpa using HSQ.out, HFd.out.trans (Fr.alloc _ _ _), HBd.out.alloc _, by simp⟩
  case round =>
    obtain ⟨j, m, L, M, s, R, g, cap, hjn, rfl, hL, rfl, rfl, hO, hM, hs, hSq, hF, hBd, hB⟩ := hrel
    have HO := hid hO
    have HM := hid hM
    have HS := hid hs
    have HSQ2 := hid hSq
    have HF := hid hF
    have HBD := hid hBd
    have HB := hid hB
    have HLL := hid hL
    clear hO hM hs hSq hF hBd hB hL
    have hm256 : m ≤ 256 := by have := HSQ2.out.room; have := pow_le q hq8; have := HLL.out; omega
    by_cases hlt : j < n
    · have hl1 : (j : Int) < n := by omega
      obtain ⟨gl, ol, rfl, hcl⟩ := HR1.out.at_one hlt
      obtain ⟨X, hX⟩ : ∃ X, f j 0 = X := ⟨_, rfl⟩
      rw [hX] at hcl
      have HCL := hid hcl
      have HBE := hid (fun (u : World) (F : Fr (fun _ => False) wr u) => beg_push (most := q) X (HM.out.same F))
      obtain ⟨nn, o', M', R', hRun, hnn, hTop, hcase⟩ := HSQ2.out.push'' X
      clear hcl hX hTop
      rcases hcase with hcase | hcase
      · obtain ⟨hlen, hhow, hSN⟩ := hcase
        have HRN := hid (show ∀ (u : World) (o1 q1 c1 : Nat), Fr (fun _ => False) wr u → IsOp u b o1 q1 c1 q (beginOp 0 X) → Calls Try.prog 31 #[.pointer (some ⟨b.m, 0, none⟩), .pointer (some ⟨o1, 0, none⟩), .int .i64 0] u (fun e w' => e = .returned (.int .i64 4) ∧ ∃ cp' s', (cp' = c1 ∨ u.heap.size ≤ cp') ∧ IsM w' b (MO M' s') ∧ s'.length = 3 ∧ Fr (OM b q1 c1) u w') from
          fun u o1 q1 c1 F hI => (show Calls Try.prog 31 #[.pointer (some ⟨b.m, 0, none⟩), .pointer (some ⟨o1, 0, none⟩), .int .i64 0] u _ from run_ok b o1 q1 c1 q _ o' M M' s 0 nn u hRun (live_begin 0 X) (St.begin_ hI (HM.out.same F) (HSQ2.out.cb (by omega)).1 (by omega) (HSQ2.out.cb (by omega)).2) (by rw [HS.out]; omega) hnn).mono fun e w' ⟨h1, cp', s', h2, _, h4, h5, h6⟩ => ⟨by rw [h1, hhow]; rfl, cp', s', h2, h4, h5.trans HS.out, h6⟩)
        have HSN0 := hid hSN
        have HL0 := hid hlen
        clear hRun hhow hSN hlen hnn
        have HFd := hid (Fr.refl (fun _ => False) wr)
        have HT := hid (show ∀ u, Fr (fun _ => False) wr u → u.cell? ⟨gl, ol + j, none⟩ = some (.int .i64 X) ∧ u.cell? ⟨w2.heap.size, 0, none⟩ = some (.int .i64 0) ∧ u.cell? ⟨w2.heap.size, 1, none⟩ = some (.int .i64 q) from
          fun u F => ⟨HCL.out _ (HF.out.trans F), (HBD.out.same F).cell rfl, (HBD.out.same F).cell rfl⟩)
        go_upto_region 11 with fail
        go_region_held3 (fun u => u.cell? ⟨gl, ol + j, none⟩ = some (.int .i64 X) ∧ u.cell? ⟨w2.heap.size, 0, none⟩ = some (.int .i64 0) ∧ u.cell? ⟨w2.heap.size, 1, none⟩ = some (.int .i64 q))
          (first | exact ⟨HCL.out _ HG7.out, HB7.out.cell rfl, HB7.out.cell rfl⟩ | exact HT.out _ HFd.out | exact HT.out _ (HFd.out.trans (Fr.drew _ _)))
          (first
            | (go_at_call 16; (with_reducible refine (HBE.out _ (by first | exact HFd.out | exact HFd.out.trans (Fr.drew _ _))).mono ?_); rintro e w6 ⟨o1, q1, c1, rfl, hI1, hF6, ⟨ho1, hq1, hc1⟩, hlt1⟩; have HI1 := hid hI1; have HQ1 := hid (show wr.heap.size ≤ q1 ∧ wr.heap.size ≤ c1 from ⟨Nat.le_trans HFd.out.size hq1, Nat.le_trans HFd.out.size hc1⟩); have HFd := hid (HFd.out.trans (Fr.trans (by first | exact Fr.refl _ _ | exact Fr.drew _ _) hF6)); clear hF6 hI1 ho1 hq1 hc1 hlt1)
            | (go_at_call 31; (with_reducible refine (HRN.out _ _ _ _ (by first | exact HFd.out | exact HFd.out.trans (Fr.drew _ _)) (by first | exact HI1.out | exact HI1.out.same (Fr.drew _ _))).mono ?_); rintro e w7 ⟨rfl, cp7, s7, hcp7, hM7, hs7, hF7⟩; have HG7 := hid (fr_op_own (S := fun _ => False) (HF.out.trans (HFd.out.trans (by first | exact Fr.refl _ _ | exact Fr.drew _ _))) hF7 (fun k h hlt => by have := HBO.out _ h; omega) (by have := HQ1.out; have := HF.out.size; omega) (by have := HQ1.out; have := HF.out.size; omega)); have HB7 := hid ((HBD.out.same (HFd.out.trans (by first | exact Fr.refl _ _ | exact Fr.drew _ _))).keep hF7 (om_not HOL.out HBW.out HQ1.out HB.out)); have HO7 := hid ((HO.out.same (HFd.out.trans (by first | exact Fr.refl _ _ | exact Fr.drew _ _))).keep hF7 (om_row HO.out HOL2.out HQ1.out)); have HMN := hid hM7; have HSLN := hid hs7; have HBN := hid (show wd.heap.size ≤ w7.heap.size from Nat.le_trans HB.out (Nat.le_trans HFd.out.size hF7.size)); clear hF7 hM7 hs7 hcp7))
        all_goals
          have HSN := hid (show SeqI q M' R' (1 + (((j + 1 : Nat)) : Int)) (L) from by
            have := HSN0.out
            rw [show (1 : Int) + ((j + 1 : Nat) : Int) = 1 + (j : Int) + 1 by omega]
            exact this)
          have HLN := hid (show (L).length = m from by exact HLL.out)
          go_wp2_with fail
          go_roundg (n + 1 - (j + 1))
          case rel => exact ⟨j + 1, m, L, M', s7, R', g, cap, by omega, rfl, HLN.out, rfl, by go_num, HO7.out, HMN.out, HSLN.out, HSN.out, HG7.out, HB7.out, HBN.out⟩
          case measure => omega
      · obtain ⟨hlen, hhow, hSN⟩ := hcase
        have HRN := hid (show ∀ (u : World) (o1 q1 c1 : Nat), Fr (fun _ => False) wr u → IsOp u b o1 q1 c1 q (beginOp 0 X) → Calls Try.prog 31 #[.pointer (some ⟨b.m, 0, none⟩), .pointer (some ⟨o1, 0, none⟩), .int .i64 0] u (fun e w' => e = .returned (.int .i64 1) ∧ ∃ cp' s', (cp' = c1 ∨ u.heap.size ≤ cp') ∧ IsM w' b (MO M' s') ∧ s'.length = 3 ∧ Fr (OM b q1 c1) u w') from
          fun u o1 q1 c1 F hI => (show Calls Try.prog 31 #[.pointer (some ⟨b.m, 0, none⟩), .pointer (some ⟨o1, 0, none⟩), .int .i64 0] u _ from run_ok b o1 q1 c1 q _ o' M M' s 0 nn u hRun (live_begin 0 X) (St.begin_ hI (HM.out.same F) (HSQ2.out.cb (by omega)).1 (by omega) (HSQ2.out.cb (by omega)).2) (by rw [HS.out]; omega) hnn).mono fun e w' ⟨h1, cp', s', h2, _, h4, h5, h6⟩ => ⟨by rw [h1, hhow]; rfl, cp', s', h2, h4, h5.trans HS.out, h6⟩)
        have HSN0 := hid hSN
        have HL0 := hid hlen
        clear hRun hhow hSN hlen hnn
        have HFd := hid (Fr.refl (fun _ => False) wr)
        have HT := hid (show ∀ u, Fr (fun _ => False) wr u → u.cell? ⟨gl, ol + j, none⟩ = some (.int .i64 X) ∧ u.cell? ⟨w2.heap.size, 0, none⟩ = some (.int .i64 0) ∧ u.cell? ⟨w2.heap.size, 1, none⟩ = some (.int .i64 q) from
          fun u F => ⟨HCL.out _ (HF.out.trans F), (HBD.out.same F).cell rfl, (HBD.out.same F).cell rfl⟩)
        go_upto_region 11 with fail
        go_region_held3 (fun u => u.cell? ⟨gl, ol + j, none⟩ = some (.int .i64 X) ∧ u.cell? ⟨w2.heap.size, 0, none⟩ = some (.int .i64 0) ∧ u.cell? ⟨w2.heap.size, 1, none⟩ = some (.int .i64 q))
          (first | exact ⟨HCL.out _ HG7.out, HB7.out.cell rfl, HB7.out.cell rfl⟩ | exact HT.out _ HFd.out | exact HT.out _ (HFd.out.trans (Fr.drew _ _)))
          (first
            | (go_at_call 16; (with_reducible refine (HBE.out _ (by first | exact HFd.out | exact HFd.out.trans (Fr.drew _ _))).mono ?_); rintro e w6 ⟨o1, q1, c1, rfl, hI1, hF6, ⟨ho1, hq1, hc1⟩, hlt1⟩; have HI1 := hid hI1; have HQ1 := hid (show wr.heap.size ≤ q1 ∧ wr.heap.size ≤ c1 from ⟨Nat.le_trans HFd.out.size hq1, Nat.le_trans HFd.out.size hc1⟩); have HFd := hid (HFd.out.trans (Fr.trans (by first | exact Fr.refl _ _ | exact Fr.drew _ _) hF6)); clear hF6 hI1 ho1 hq1 hc1 hlt1)
            | (go_at_call 31; (with_reducible refine (HRN.out _ _ _ _ (by first | exact HFd.out | exact HFd.out.trans (Fr.drew _ _)) (by first | exact HI1.out | exact HI1.out.same (Fr.drew _ _))).mono ?_); rintro e w7 ⟨rfl, cp7, s7, hcp7, hM7, hs7, hF7⟩; have HG7 := hid (fr_op_own (S := fun _ => False) (HF.out.trans (HFd.out.trans (by first | exact Fr.refl _ _ | exact Fr.drew _ _))) hF7 (fun k h hlt => by have := HBO.out _ h; omega) (by have := HQ1.out; have := HF.out.size; omega) (by have := HQ1.out; have := HF.out.size; omega)); have HB7 := hid ((HBD.out.same (HFd.out.trans (by first | exact Fr.refl _ _ | exact Fr.drew _ _))).keep hF7 (om_not HOL.out HBW.out HQ1.out HB.out)); have HO7 := hid ((HO.out.same (HFd.out.trans (by first | exact Fr.refl _ _ | exact Fr.drew _ _))).keep hF7 (om_row HO.out HOL2.out HQ1.out)); have HMN := hid hM7; have HSLN := hid hs7; have HBN := hid (show wd.heap.size ≤ w7.heap.size from Nat.le_trans HB.out (Nat.le_trans HFd.out.size hF7.size)); clear hF7 hM7 hs7 hcp7))
        all_goals
          have HSN := hid (show SeqI q M' R' (1 + (((j + 1 : Nat)) : Int)) (L ++ [X]) from by
            have := HSN0.out
            rw [show (1 : Int) + ((j + 1 : Nat) : Int) = 1 + (j : Int) + 1 by omega]
            exact this)
          have HLN := hid (show (L ++ [X]).length = m + 1 from by rw [List.length_append, HLL.out]; rfl)
          have l1 := HCL.out _ HG7.out
          have HG8 := hid (HG7.out.trans (Fr.alloc _ w7 (.cells #[.int .i64 X] 2)))
          have HO7a := hid (HO7.out.same (Fr.alloc (fun _ => False) w7 (.cells #[.int .i64 X] 2)))
          have HB7a := hid (HB7.out.same (Fr.alloc (fun _ => False) w7 (.cells #[.int .i64 X] 2)))
          have HM7a := hid (HMN.out.same (Fr.alloc (fun _ => False) w7 (.cells #[.int .i64 X] 2)))
          have HNW := hid (newk w7 2 (.int .i64 X))
          have HSA := hid (show wd.heap.size ≤ (w7.alloc (.cells #[.int .i64 X] 2)).heap.size from by have := HBN.out; simp; omega)
          go_upto_region 13 with fail
          go_wp2_with (at_builtin; refine wpList_append_own _ rfl _ _ 30 rfl wd.heap.size 2 i0 (.int .i64 0) 1 8 Try.underlying30 HII.out HZ0.out HZ1.out HZ2.out rfl (by decide) (.slice (some ⟨g, 0, none⟩) m cap) m _ rfl HO7a.out ⟨w7.heap.size, 0, none⟩ 1 1 [.int .i64 X] rfl rfl HNW.out (by simp [Value.oneCell']) (by unfold maxLen; omega) (by omega) HSA.out ?_; intro v2 w10 hown2 hgrow2 hnil2; obtain ⟨g2, c2', rfl, ho2⟩ := OwnR.stays hown2 (fun hh => by have := hnil2.1 hh; cases this.1); have HO9 := hid (OwnR.eq (ys := intsV (L ++ [X])) ho2 (by simp [intsV])); have HFG := hid (Fr.of_grown hgrow2); clear hown2 hgrow2 ho2 hnil2)
          have HB9 := hid (HB7a.out.keep HFG.out (fun hh => by have := (OwnR.lt HO7a.out _ hh).1; have := HSZ.out; omega))
          have HG9 := hid (HG8.out.since HFG.out (fun i hi hlt => by have := (OwnR.lt HO7a.out i hi).1; have := HSZ.out; have := HWS.out; omega))
          have HMN := hid (HM7a.out.keep HFG.out (fun k hk hh => by have := (OwnR.lt HO7a.out _ hh).1; have := HOL.out _ hk; have := HSZ.out; omega))
          have HBN := hid (show wd.heap.size ≤ w10.heap.size from Nat.le_trans HSA.out HFG.out.size)
          go_roundg (n + 1 - (j + 1))
          case rel => exact ⟨j + 1, m + 1, L ++ [X], M', s7, R', g2, c2', by omega, rfl, HLN.out, rfl, by go_num, HO9.out, HMN.out, HSLN.out, HSN.out, HG9.out, HB9.out, HBN.out⟩
          case measure => omega
    · obtain rfl : j = n := by omega
      have hl1 : ¬ (j : Int) < j := by omega
      have HCN := hid (clone_ok b (MO M s) wr HM.out (by show 1 ≤ M.all.length; have := (HSQ2.out.cb (by omega)).2; omega) (by show 0 < s.length; rw [HS.out]; omega))
      go_wp2_with fail
      refine HCN.out.mono ?_
      rintro e v1 ⟨b2, rfl, hM2, hF2, hown2⟩
      have HCM := hid (show IsM v1 b2 (MO M s) from hM2)
      have HCO := hid hown2
      have HCL2 := hid (show ∀ k, b2.own k → k < v1.heap.size from hM2.own_lt)
      have HM1 := hid (HM.out.same hF2)
      have HO1 := hid (HO.out.same hF2)
      have HBD1 := hid (HBD.out.same hF2)
      have HFv1 := hid (HF.out.trans hF2)
      have HB1 := hid (Nat.le_trans HB.out hF2.size)
      have HOLD := hid (show ∀ k, b.own k → k < wr.heap.size from HM.out.own_lt)
      clear hM2 hF2 hown2
      have HBS := hid (beg_steal (most := q) 0 HM1.out)
      have a0 := HBD1.out.cell (i := 0) rfl
      have a1 := HBD1.out.cell (i := 1) rfl
      go_wp2_with fail
      refine HBS.out.mono ?_
      rintro e v2 ⟨o1, q1, c1, rfl, hI1, hF3, ⟨ho1, hq1, hc1⟩, hlt1⟩
      have HI1 := hid hI1
      have HQ1 := hid (show v1.heap.size ≤ q1 ∧ v1.heap.size ≤ c1 from ⟨hq1, hc1⟩)
      have HQ0 := hid (show v1.heap.size ≤ o1 ∧ o1 < v2.heap.size ∧ q1 < v2.heap.size ∧ c1 < v2.heap.size from ⟨ho1, hI1.ob.lt, q_under hI1, hlt1⟩)
      have HF3 := hid hF3
      have HM2 := hid (HM1.out.same hF3)
      have HC2 := hid (HCM.out.same hF3)
      have HO2 := hid (HO1.out.same hF3)
      have HBD2 := hid (HBD1.out.same hF3)
      have HFv2 := hid (HFv1.out.trans hF3)
      clear hI1 hF3 ho1 hq1 hc1 hlt1 a0 a1
      have HST0 := hid (fun (u : World) (F : Fr (fun _ => False) v2 u) => St.begin_ (HI1.out.same F) (HM2.out.same F) (HSQ2.out.cb (by omega)).1 (by omega) (HSQ2.out.cb (by omega)).2)
      by_cases hm0 : m = 0
      · have tm : ((m : Int) == 0) = true := by simp; omega
        have hL0 : L = [] := List.length_eq_zero_iff.1 (by rw [HLL.out]; exact hm0)
        have h0 := HSQ2.out
        rw [hL0] at h0
        obtain ⟨o', hRun, hhow⟩ := h0.steal0
        have HRN := hid (show Calls Try.prog 31 #[.pointer (some ⟨b.m, 0, none⟩), .pointer (some ⟨o1, 0, none⟩), .int .i64 1] v2 (fun e w' => e = .returned (.int .i64 3) ∧ Fr (OM b q1 c1) v2 w') from (show Calls Try.prog 31 #[.pointer (some ⟨b.m, 0, none⟩), .pointer (some ⟨o1, 0, none⟩), .int .i64 1] v2 _ from run_ok b o1 q1 c1 q _ o' M M s 1 2 v2 hRun (live_begin 2 0) (HST0.out _ (Fr.refl _ _)) (by rw [HS.out]; omega) (by omega)).mono fun e w' ⟨h1, cp', s', h2, _, h4, h5, h6⟩ => ⟨by rw [h1, hhow]; rfl, h6⟩)
        clear h0 hRun hhow hL0
        go_wp2_with fail
        refine HRN.out.mono ?_
        rintro e v3 ⟨rfl, hF4⟩
        have HF4 := hid (fr_op_own (S := fun _ => False) HFv2.out hF4 (fun k h hlt => by have := HBO.out _ h; omega) (by have := HQ1.out; have := HFv1.out.size; omega) (by have := HQ1.out; have := HFv1.out.size; omega))
        clear hF4
        go_wp2_with fail
        refine (awake_ok _).mono ?_
        rintro e v4 ⟨rfl, hF5⟩
        go_wp2_with fail
        go_ret
        exact ⟨rfl, (HF4.out.trans hF5).below (Nat.le_refl _) (fun _ hh => hh.elim)⟩
      · have tm : ((m : Int) == 0) = false := by simp; omega
        obtain ⟨o4, o5, M', o', hTk, hw4, hg4, hk4, hRun, hw', hg', hSN, hsf, hact, hw5, hg5, hk5, hk'⟩ := HSQ2.out.lets (by rw [HLL.out]; omega)
        obtain ⟨X0, hX0⟩ : ∃ X, L.getD 0 0 = X := ⟨_, rfl⟩
        rw [hX0] at hg4 hg'
        have HTK := hid (show ∀ u, Fr (fun _ => False) v2 u → Calls Try.prog 33 #[.pointer (some ⟨b.m, 0, none⟩), .pointer (some ⟨o1, 0, none⟩), .int .i64 4] u (fun e w' => e = .returned (.int .i64 2) ∧ ∃ cp' s', (cp' = c1 ∨ u.heap.size ≤ cp') ∧ St w' b o1 q1 cp' q o4 M s' (1000 + ((4 : Nat) : Int)) ∧ o4.Live ∧ s'.length = 3 ∧ Fr (OM b q1 c1) u w') from
          fun u F => (show Calls Try.prog 33 #[.pointer (some ⟨b.m, 0, none⟩), .pointer (some ⟨o1, 0, none⟩), .int .i64 4] u _ from takes_ok b o1 q1 c1 q _ o4 M M s 4 u hTk (live_begin 2 0) (HST0.out _ F) (by rw [HS.out]; omega) (by omega)).mono fun e w' ⟨h1, cp', s', h2, h3, h4, h5, h6⟩ => ⟨by rw [h1, hw4]; rfl, cp', s', h2, h3, h4 (.inr hw4), h5.trans HS.out, h6⟩)
        have HX := hid (show ∀ u, Fr (fun _ => False) v2 u → u.cell? ⟨g, 0, none⟩ = some (.int .i64 X0) from fun u F => own_cells (HO2.out.same F) HLL.out 0 _ (by rw [intsV_at _ _ (by rw [HLL.out]; omega), hX0]))
        have H4 := hid (show o4.how = 2 ∧ o4.got = X0 ∧ o4.kind = 2 from ⟨hw4, hg4, hk4⟩)
        have HP := hid (show Run q (beginOp 2 0) M 5 o' M' ∧ o'.how = 1 ∧ o'.got = X0 ∧ o'.kind = 2 ∧ SeqI q M' R (1 + (j : Int)) (L.drop 1) from ⟨hRun, hw', hg', hk', hSN⟩)
        have H5 := hid (show o4.safe M' ∧ o4.act q M' = (o5, M') ∧ o5.how = 5 ∧ o5.got = 0 ∧ o5.kind = 2 from ⟨hsf, hact, hw5, hg5, hk5⟩)
        have HXX := hid hX0
        clear hTk hw4 hg4 hk4 hRun hw' hg' hSN hsf hact hw5 hg5 hk5 hk' hX0
        obtain ⟨u0, hu0⟩ : ∃ u0 : Nat, M.used = u0 := ⟨_, rfl⟩
        have HU0 := hid hu0
        clear hu0
        have HFd := hid (Fr.refl (fun _ => False) v2)
        have hb1 : (0 : Int) < (m : Int) := by omega
        have hb2 : 0 < m := by omega
        go_upto_region 20 with fail
        go_region_held3 (fun u => u.cell? ⟨g, 0, none⟩ = some (.int .i64 X0))
          (first | exact HX7.out _ HFe.out | exact HX7.out _ (HFe.out.trans (Fr.drew _ _)) | exact HX.out _ HFd.out | exact HX.out _ (HFd.out.trans (Fr.drew _ _)))
          (first
            | (go_at_call 33; (with_reducible refine (HTK.out _ (by first | exact HFd.out | exact HFd.out.trans (Fr.drew _ _))).mono ?_); rintro e w7 ⟨rfl, cB, s7, hcB, hS7, hLv, hs7, hF7⟩; have HG7 := hid (fr_op_own (S := fun _ => False) (HFv2.out.trans (HFd.out.trans (by first | exact Fr.refl _ _ | exact Fr.drew _ _))) hF7 (fun k h hlt => by have := HBO.out _ h; omega) (by have := HQ1.out; have := HFv1.out.size; omega) (by have := HQ1.out; have := HFv1.out.size; omega)); have HB7 := hid ((HBD2.out.same (HFd.out.trans (by first | exact Fr.refl _ _ | exact Fr.drew _ _))).keep hF7 (om_not HOL.out HBW.out HQ1.out HB1.out)); have HO7 := hid ((HO2.out.same (HFd.out.trans (by first | exact Fr.refl _ _ | exact Fr.drew _ _))).keep hF7 (om_row HO1.out HOL2.out HQ1.out)); have HC7 := hid ((HC2.out.same (HFd.out.trans (by first | exact Fr.refl _ _ | exact Fr.drew _ _))).keep hF7 (fun k hk hh => by
                  have h1 := HCO.out k hk
                  have h2 := HCL2.out k hk
                  have := HQ1.out
                  rcases hh with (h | h) | h
                  · have := HOLD.out _ h; omega
                  · omega
                  · omega)); have HCB := hid (show v1.heap.size ≤ cB from by
                  have := HQ1.out
                  rcases hcB with h | h
                  · omega
                  · exact Nat.le_trans (Nat.le_trans HF3.out.size (Fr.size (HFd.out.trans (by first | exact Fr.refl _ _ | exact Fr.drew _ _)))) h); have HS7 := hid hS7; have HSL7 := hid hs7; have HLV7 := hid hLv; have HBN8 := hid (show v2.heap.size ≤ w7.heap.size from Nat.le_trans HFd.out.size hF7.size); have HBN7 := hid (show v1.heap.size ≤ w7.heap.size from Nat.le_trans HF3.out.size (Nat.le_trans HFd.out.size hF7.size)); have HFe := hid (Fr.refl (fun _ => False) w7); have HX7 := hid (show ∀ u, Fr (fun _ => False) w7 u → u.cell? ⟨g, 0, none⟩ = some (.int .i64 X0) from fun u F => own_cells (HO7.out.same F) HLL.out 0 _ (by rw [intsV_at _ _ (by rw [HLL.out]; omega), HXX.out])); have HGT := hid (show ∀ u, Fr (fun _ => False) w7 u → Calls Try.prog 20 #[.pointer (some ⟨o1, 0, none⟩)] u (fun e w' => e = .returned (.int .i64 X0) ∧ Fr (fun _ => False) u w') from fun u F => by
                  have h9 := op_got (HS7.out.hI.same F) (fun _ h => by rw [H4.out.1] at h; cases h)
                  rw [show o4.tell = X0 from by unfold DOp.tell; rw [if_pos (.inl H4.out.1)]; exact H4.out.2.1] at h9
                  exact h9); have HU1 := hid (show ∀ u, Fr (fun _ => False) w7 u → Calls Try.prog 23 #[.pointer (some ⟨b.m, 0, none⟩)] u (fun e w' => e = .returned (.int .i64 (u0 : Int)) ∧ Fr (fun _ => False) u w') from fun u F => (used_ok b (MO M s7) u (HS7.out.hM.same F)).mono fun e w' ⟨h1, h2⟩ => ⟨by rw [h1, ← HU0.out]; rfl, Fr.of_eq h2⟩); have HU2 := hid (show ∀ u, Fr (fun _ => False) w7 u → Calls Try.prog 23 #[.pointer (some ⟨b2.m, 0, none⟩)] u (fun e w' => e = .returned (.int .i64 (u0 : Int)) ∧ Fr (fun _ => False) u w') from fun u F => (used_ok b2 (MO M s) u (HC7.out.same F)).mono fun e w' ⟨h1, h2⟩ => ⟨by rw [h1, ← HU0.out]; rfl, Fr.of_eq h2⟩); clear hF7 hS7 hs7 hLv hcB)
            | (go_at_call 20; (with_reducible refine (HGT.out _ (by first | exact HFe.out | exact HFe.out.trans (Fr.drew _ _))).mono ?_); rintro e w8 ⟨rfl, hF8⟩; have HFe := hid (HFe.out.trans (Fr.trans (by first | exact Fr.refl _ _ | exact Fr.drew _ _) hF8)); clear hF8)
            | (go_at_call 23; (first | (with_reducible refine (HU1.out _ (by first | exact HFe.out | exact HFe.out.trans (Fr.drew _ _))).mono ?_) | (with_reducible refine (HU2.out _ (by first | exact HFe.out | exact HFe.out.trans (Fr.drew _ _))).mono ?_)); rintro e w8 ⟨rfl, hF8⟩; have HFe := hid (HFe.out.trans (Fr.trans (by first | exact Fr.refl _ _ | exact Fr.drew _ _) hF8)); clear hF8))
        all_goals
          have HS7 := hid (show St w7 b o1 q1 c1 q o4 M s7 (1000 + ((4 : Nat) : Int)) from ⟨HS7.out.hI.recp HI1.out.sep H4.out.2.2, HS7.out.hM, HS7.out.ob, HS7.out.cb, HS7.out.len⟩)
          have HPK1 := hid (show ∀ (u : World) (y : Int), Fr (fun _ => False) w7 u → Calls Try.prog 28 #[.pointer (some ⟨b.m, 0, none⟩), .int .i64 y] u (fun e w' => e = .returned (.int .i64 ((MO M s).peek y)) ∧ u = w') from fun u y F => peek_any b (MO M s7) y u (HS7.out.hM.same F))
          have HPK2 := hid (show ∀ (u : World) (y : Int), Fr (fun _ => False) w7 u → Calls Try.prog 28 #[.pointer (some ⟨b2.m, 0, none⟩), .int .i64 y] u (fun e w' => e = .returned (.int .i64 ((MO M s).peek y)) ∧ u = w') from fun u y F => peek_any b2 (MO M s) y u (HC7.out.same F))
          obtain ⟨pk, hpk⟩ : ∃ pk : Int → Int, (MO M s).peek = pk := ⟨_, rfl⟩
          rw [hpk] at HPK1 HPK2
          clear hpk
          go_wp2_with fail
          go_loopg [14] 601 (fun d k wr => ∃ i : Nat, i ≤ 600 ∧ d = 601 - i ∧ k = .int .i64 i ∧ Fr (fun _ => False) w7 wr)
          case atStart => exact ⟨0, by omega, rfl, rfl, HFe.out⟩
          case round =>
            obtain ⟨i, hi, rfl, rfl, hFi⟩ := hrel
            have HFi := hid hFi
            clear hFi
            by_cases hlt6 : i < 600
            · have hl2 : (i : Int) < 600 := by omega
              go_wp2_with fail
              refine (HPK1.out _ _ HFi.out).mono ?_
              rintro e w' ⟨rfl, rfl⟩
              go_wp2_with fail
              refine (HPK2.out _ _ HFi.out).mono ?_
              rintro e w' ⟨rfl, rfl⟩
              go_wp2_with fail
              go_roundg (601 - (i + 1))
              case rel => exact ⟨i + 1, by omega, rfl, by go_num, HFi.out⟩
              case measure => omega
            · obtain rfl : i = 600 := by omega
              have HMi := hid (HS7.out.hM.same HFi.out)
              have HBi := hid (HB7.out.same HFi.out)
              have HBS2 := hid (beg_steal (most := q) 0 HMi.out)
              have a0 := HBi.out.cell (i := 0) rfl
              have a1 := HBi.out.cell (i := 1) rfl
              go_wp2_with fail
              refine HBS2.out.mono ?_
              rintro e v4 ⟨o2, q2, c2, rfl, hI2, hF4, ⟨ho2, hq2, hc2⟩, hlt2⟩
              have HI2 := hid hI2
              have HF4 := hid (HFi.out.trans hF4)
              have HQ2 := hid (show w7.heap.size ≤ o2 ∧ w7.heap.size ≤ q2 ∧ w7.heap.size ≤ c2 from ⟨Nat.le_trans HFi.out.size ho2, Nat.le_trans HFi.out.size hq2, Nat.le_trans HFi.out.size hc2⟩)
              clear hI2 hF4 ho2 hq2 hc2 hlt2 a0 a1
              have HS4 := hid (HS7.out.same HF4.out)
              have HO4 := hid (HO7.out.same HF4.out)
              have HB4 := hid (HB7.out.same HF4.out)
              have HG4 := hid (HG7.out.trans HF4.out)
              have HQ9 := hid (show o1 < w7.heap.size ∧ q1 < w7.heap.size ∧ c1 < w7.heap.size ∧ w2.heap.size < w7.heap.size ∧ g < w7.heap.size ∧ wd.heap.size ≤ g from by
                have h1 := HQ0.out
                have h2 := HBN8.out
                have h3 := HB7.out.lt
                have h4 := OwnR.lt HO7.out g ⟨_, rfl, rfl⟩
                omega)
              have HOWB := hid (show ∀ k, b.own k → k < w2.heap.size from HOL.out)
              have HGE := hid (show w.heap.size ≤ v1.heap.size ∧ v1.heap.size ≤ w7.heap.size from ⟨HFv1.out.size, HBN7.out⟩)
              have HX4 := hid (show ∀ u, Fr (fun _ => False) v4 u → u.cell? ⟨g, 0, none⟩ = some (.int .i64 X0) from fun u F => HX7.out u (HF4.out.trans F))
              have HRN2 := hid (show ∀ u, Fr (fun _ => False) v4 u → Calls Try.prog 31 #[.pointer (some ⟨b.m, 0, none⟩), .pointer (some ⟨o2, 0, none⟩), .int .i64 2] u (fun e w' => e = .returned (.int .i64 1) ∧ ∃ cp' s', IsOp w' b o2 q2 cp' q o' ∧ IsM w' b (MO M' s') ∧ s'.length = 3 ∧ Fr (OM b q2 c2) u w') from
                fun u F => (show Calls Try.prog 31 #[.pointer (some ⟨b.m, 0, none⟩), .pointer (some ⟨o2, 0, none⟩), .int .i64 2] u _ from run_ok b o2 q2 c2 q _ o' M M' s7 2 5 u HP.out.1 (live_begin 2 0) (St.begin_ (HI2.out.same F) (HS4.out.hM.same F) (HSQ2.out.cb (by omega)).1 (by omega) (HSQ2.out.cb (by omega)).2) (by rw [HSL7.out]; omega) (by omega)).mono fun e w' ⟨h1, cp', s', _, h3, h4, h5, h6⟩ => ⟨by rw [h1, HP.out.2.1]; rfl, cp', s', h3, h4, h5.trans HSL7.out, h6⟩)
              have HFd := hid (Fr.refl (fun _ => False) v4)
              go_upto_region 28 with fail
              go_region_held3 (fun u => u.cell? ⟨g, 0, none⟩ = some (.int .i64 X0))
                (first | exact HXh.out _ HFh.out | exact HXh.out _ (HFh.out.trans (Fr.drew _ _)) | exact HX9.out _ HFg.out | exact HX9.out _ (HFg.out.trans (Fr.drew _ _)) | exact HX4.out _ HFd.out | exact HX4.out _ (HFd.out.trans (Fr.drew _ _)))
                (first
                  | (go_at_call 31; (with_reducible refine (HRN2.out _ (by first | exact HFd.out | exact HFd.out.trans (Fr.drew _ _))).mono ?_); rintro e w9 ⟨rfl, cp9, s9, hI9, hM9, hs9, hF9⟩; have HG9 := hid (fr_op_own (S := fun _ => False) (HG4.out.trans (HFd.out.trans (by first | exact Fr.refl _ _ | exact Fr.drew _ _))) hF9 (fun k h hlt => by have := HBO.out _ h; omega) (by have := HQ2.out; have := HGE.out; omega) (by have := HQ2.out; have := HGE.out; omega)); have HB9 := hid ((HB4.out.same (HFd.out.trans (by first | exact Fr.refl _ _ | exact Fr.drew _ _))).keep hF9 (fun hh => by
                        have := HQ2.out; have := HQ9.out
                        rcases hh with (h | h) | h
                        · have := HOWB.out _ h; omega
                        · omega
                        · omega)); have HO9 := hid ((HO4.out.same (HFd.out.trans (by first | exact Fr.refl _ _ | exact Fr.drew _ _))).keep hF9 (fun i hi hh => by
                        have h1 := OwnR.lt HO7.out i hi
                        have := HQ2.out
                        rcases hh with (h | h) | h
                        · have := HOL2.out _ h; omega
                        · omega
                        · omega)); have HS9 := hid (show St w9 b o1 q1 c1 q o4 M' s9 (1000 + ((4 : Nat) : Int)) from ⟨(HS4.out.hI.same (HFd.out.trans (by first | exact Fr.refl _ _ | exact Fr.drew _ _))).keep hF9 (fun hh => by
                        have := HQ2.out; have := HQ9.out
                        rcases hh with (h | h) | h
                        · exact HS4.out.hI.sep.bo h
                        · omega
                        · omega) (fun hh => by
                        have := HQ2.out; have := HQ9.out
                        rcases hh with (h | h) | h
                        · exact HS4.out.hI.sep.bq h
                        · omega
                        · omega) (fun hh => by
                        have := HQ2.out; have := HQ9.out
                        rcases hh with (h | h) | h
                        · exact HS4.out.hI.sep.bc h
                        · omega
                        · omega), hM9, HS4.out.ob, (HP.out.2.2.2.2.cb (by omega)).1.more (by omega), (HP.out.2.2.2.2.cb (by omega)).2⟩); have HSL9 := hid hs9; have HI9 := hid hI9; have HFg := hid (Fr.refl (fun _ => False) w9); have HX9 := hid (show ∀ u, Fr (fun _ => False) w9 u → u.cell? ⟨g, 0, none⟩ = some (.int .i64 X0) from fun u F => own_cells (HO9.out.same F) HLL.out 0 _ (by rw [intsV_at _ _ (by rw [HLL.out]; omega), HXX.out])); have HBN9 := hid (show w7.heap.size ≤ w9.heap.size from Nat.le_trans HF4.out.size (Nat.le_trans HFd.out.size hF9.size)); have HGP := hid (show ∀ u, Fr (fun _ => False) w9 u → Calls Try.prog 20 #[.pointer (some ⟨o2, 0, none⟩)] u (fun e w' => e = .returned (.int .i64 X0) ∧ Fr (fun _ => False) u w') from fun u F => by
                        have h9 := op_got (HI9.out.same F) (fun _ h => by rw [HP.out.2.1] at h; cases h)
                        rw [show o'.tell = X0 from by unfold DOp.tell; rw [if_pos (.inr HP.out.2.1)]; exact HP.out.2.2.1] at h9
                        exact h9); have HSTP := hid (show ∀ u, Fr (fun _ => False) w9 u → Calls Try.prog 18 #[.pointer (some ⟨o1, 0, none⟩), .pointer (some ⟨b.m, 0, none⟩), .int .i64 1] u (fun e w' => e = .returned (.int .i64 5) ∧ ∃ cp' s', IsOp w' b o1 q1 cp' q o5 ∧ IsM w' b (MO M' s') ∧ s'.length = 3 ∧ Fr (OM b q1 c1) u w') from fun u F => (show Calls Try.prog 18 #[.pointer (some ⟨o1, 0, none⟩), .pointer (some ⟨b.m, 0, none⟩), .int .i64 1] u _ from st_lets (j := 1) (HS9.out.same F) HLV7.out H5.out.1 H5.out.2.1 H5.out.2.2.1 (by rw [HSL9.out]; omega) (by omega) (by omega)).mono fun e w' ⟨cp', _, h1, h2, h3⟩ => ⟨by rw [h1]; rfl, cp', _, h2.hI, h2.hM, by rw [stp_len]; exact HSL9.out, h3⟩); clear hF9 hI9 hM9 hs9)
                  | (go_at_call 18; (with_reducible refine (HSTP.out _ (by first | exact HFg.out | exact HFg.out.trans (Fr.drew _ _))).mono ?_); rintro e wh ⟨rfl, cph, sh, hIh, hMh, hsh, hFh⟩; have HGh := hid (fr_op_own (S := fun _ => False) (HG9.out.trans (HFg.out.trans (by first | exact Fr.refl _ _ | exact Fr.drew _ _))) hFh (fun k h hlt => by have := HBO.out _ h; omega) (by have := HQ1.out; have := HGE.out; omega) (by have := HQ1.out; have := HGE.out; omega)); have HBh := hid ((HB9.out.same (HFg.out.trans (by first | exact Fr.refl _ _ | exact Fr.drew _ _))).keep hFh (om_not HOL.out HBW.out HQ1.out HB1.out)); have HOh := hid ((HO9.out.same (HFg.out.trans (by first | exact Fr.refl _ _ | exact Fr.drew _ _))).keep hFh (om_row HO1.out HOL2.out HQ1.out)); have HMh := hid hMh; have HSLh := hid hsh; have HIh := hid hIh; have HFh := hid (Fr.refl (fun _ => False) wh); have HXh := hid (show ∀ u, Fr (fun _ => False) wh u → u.cell? ⟨g, 0, none⟩ = some (.int .i64 X0) from fun u F => own_cells (HOh.out.same F) HLL.out 0 _ (by rw [intsV_at _ _ (by rw [HLL.out]; omega), HXX.out])); have HGO := hid (show ∀ u, Fr (fun _ => False) wh u → Calls Try.prog 20 #[.pointer (some ⟨o1, 0, none⟩)] u (fun e w' => e = .returned (.int .i64 0) ∧ Fr (fun _ => False) u w') from fun u F => by
                        have h9 := op_got (HIh.out.same F) (fun _ _ => H5.out.2.2.2.1)
                        rw [show o5.tell = 0 from by unfold DOp.tell; rw [if_neg (by rw [H5.out.2.2.1]; decide)]] at h9
                        exact h9); clear hFh hMh hsh hIh)
                  | (go_at_call 20; (with_reducible refine (HGO.out _ (by first | exact HFh.out | exact HFh.out.trans (Fr.drew _ _))).mono ?_); rintro e w8 ⟨rfl, hF8⟩; have HFh := hid (HFh.out.trans (Fr.trans (by first | exact Fr.refl _ _ | exact Fr.drew _ _) hF8)); clear hF8)
                  | (go_at_call 20; (with_reducible refine (HGP.out _ (by first | exact HFg.out | exact HFg.out.trans (Fr.drew _ _))).mono ?_); rintro e w8 ⟨rfl, hF8⟩; have HFg := hid (HFg.out.trans (Fr.trans (by first | exact Fr.refl _ _ | exact Fr.drew _ _) hF8)); clear hF8))
              all_goals
                have HSN := hid HP.out.2.2.2.2
                have HLD := hid (show (L.drop 1).length = m - 1 from by rw [List.length_drop, HLL.out])
                have HLS := hid (show ∀ u, Fr (fun _ => False) wh u → Calls Try.prog 26 #[.agg #[.int .i64 0, .int .i64 q], .pointer (some ⟨b.m, 0, none⟩)] u (fun e w' => ∃ (A : Option Addr) (cap : Nat), e = .returned (.slice A (m - 1) cap) ∧ OwnR w' u.heap.size 2 1 A (m - 1) cap (intsV (L.drop 1)) ∧ Fr (fun _ => False) u w') from fun u F => by
                  have h9 := dlist_ok b M' sh R q u (HMh.out.same F) HSN.out.cells.1 HSN.out.cells.2.1 (by have := HSN.out.cells; have := pow_pos R.l; omega) HSN.out.cells.2.2.2.2.2.2.1 (by have := HSN.out.cells; have := HSN.out.room; omega) ((HSN.out.cb (by omega)).1.more (by omega))
                  rw [HSN.out.list] at h9
                  unfold ListPost at h9
                  rw [HLD.out] at h9
                  exact h9)
                have HD := hid (show ∀ u, Fr (fun _ => False) wh u → u.cell? ⟨w2.heap.size, 0, none⟩ = some (.int .i64 0) ∧ u.cell? ⟨w2.heap.size, 1, none⟩ = some (.int .i64 q) from
                  fun u F => ⟨(HBh.out.same F).cell rfl, (HBh.out.same F).cell rfl⟩)
                have hcp := HOh.out.capy
                have hc1 : (1 : Int) ≤ (m : Int) := by omega
                have hc2 : (m : Int) ≤ (cap : Int) := by omega
                have hc3 : 1 ≤ m := by omega
                have hc4 : m ≤ cap := by omega
                have hc5 : (1 : Int) ≤ (cap : Int) := by omega
                by_cases hcap : cap = 1
                · have HIR := hid (show ∀ u, Fr (fun _ => False) wh u → IntR u (some ⟨g, 0, none⟩) (L.drop 1) from fun u F hl => by rw [HLD.out] at hl; omega)
                  go_upto_region 30 with fail
                  go_region_held3 (fun u => u.cell? ⟨w2.heap.size, 0, none⟩ = some (.int .i64 0) ∧ u.cell? ⟨w2.heap.size, 1, none⟩ = some (.int .i64 q))
                    (first | exact HD.out _ (HFw.out.trans HFk.out) | exact HD.out _ (HFw.out.trans (HFk.out.trans (Fr.drew _ _))) | exact HD.out _ HFh.out | exact HD.out _ (HFh.out.trans (Fr.drew _ _)))
                    (first
                      | (go_at_call 26; (with_reducible refine (HLS.out _ (by first | exact HFh.out | exact HFh.out.trans (Fr.drew _ _))).mono ?_); rintro e wl ⟨A8, cap8, rfl, hO8, hF8⟩; have HFw := hid (HFh.out.trans (Fr.trans (by first | exact Fr.refl _ _ | exact Fr.drew _ _) hF8)); have HO8 := hid hO8; have HFk := hid (Fr.refl (fun _ => False) wl); have HSM := hid (show ∀ u, Fr (fun _ => False) wl u → ∀ cA cB, Calls Try.prog 25 #[.slice A8 (m - 1) cA, .slice (some ⟨g, 0, none⟩) (m - 1) cB] u (fun e w' => e = .returned (.bool true) ∧ Fr (fun _ => False) u w') from fun u F cA cB => same_yes A8 (some ⟨g, 0, none⟩) (L.drop 1) (m - 1) cA cB u ((HO8.out.same F).intR HLD.out.symm) (HIR.out u (HFw.out.trans F)) HLD.out (by omega)); clear hO8 hF8)
                      | (go_at_call 25; (with_reducible refine (HSM.out _ (by first | exact HFk.out | exact HFk.out.trans (Fr.drew _ _)) _ _).mono ?_); rintro e wm ⟨rfl, hF9⟩; have HFk := hid (HFk.out.trans (Fr.trans (by first | exact Fr.refl _ _ | exact Fr.drew _ _) hF9)); clear hF9)
                      | (go_at_call 9; (with_reducible refine (awake_ok _).mono ?_); rintro e wn ⟨rfl, hF9⟩; have HFk := hid (HFk.out.trans (Fr.trans (by first | exact Fr.refl _ _ | exact Fr.drew _ _) hF9)); clear hF9))
                  all_goals
                    go_wp2_with fail
                    go_ret
                    exact ⟨rfl, (HGh.out.trans (HFw.out.trans HFk.out)).below (Nat.le_refl _) (fun _ hh => hh.elim)⟩
                · have HIR := hid (show ∀ u, Fr (fun _ => False) wh u → IntR u (some ⟨g, 1, none⟩) (L.drop 1) from fun u F hl => by
                    refine ⟨g, 1, rfl, (OwnR.lt (HOh.out.same F) g ⟨_, rfl, rfl⟩).2, fun k hk => ?_⟩
                    rw [HLD.out] at hk
                    refine own_cells (HOh.out.same F) HLL.out (1 + k) _ ?_
                    rw [intsV_at _ _ (by rw [HLL.out]; omega)]
                    rw [show (L.drop 1).getD k 0 = L.getD (1 + k) 0 from by rw [List.getD_eq_getElem?_getD, List.getD_eq_getElem?_getD, List.getElem?_drop]])
                  go_upto_region 30 with fail
                  go_region_held3 (fun u => u.cell? ⟨w2.heap.size, 0, none⟩ = some (.int .i64 0) ∧ u.cell? ⟨w2.heap.size, 1, none⟩ = some (.int .i64 q))
                    (first | exact HD.out _ (HFw.out.trans HFk.out) | exact HD.out _ (HFw.out.trans (HFk.out.trans (Fr.drew _ _))) | exact HD.out _ HFh.out | exact HD.out _ (HFh.out.trans (Fr.drew _ _)))
                    (first
                      | (go_at_call 26; (with_reducible refine (HLS.out _ (by first | exact HFh.out | exact HFh.out.trans (Fr.drew _ _))).mono ?_); rintro e wl ⟨A8, cap8, rfl, hO8, hF8⟩; have HFw := hid (HFh.out.trans (Fr.trans (by first | exact Fr.refl _ _ | exact Fr.drew _ _) hF8)); have HO8 := hid hO8; have HFk := hid (Fr.refl (fun _ => False) wl); have HSM := hid (show ∀ u, Fr (fun _ => False) wl u → ∀ cA cB, Calls Try.prog 25 #[.slice A8 (m - 1) cA, .slice (some ⟨g, 1, none⟩) (m - 1) cB] u (fun e w' => e = .returned (.bool true) ∧ Fr (fun _ => False) u w') from fun u F cA cB => same_yes A8 (some ⟨g, 1, none⟩) (L.drop 1) (m - 1) cA cB u ((HO8.out.same F).intR HLD.out.symm) (HIR.out u (HFw.out.trans F)) HLD.out (by omega)); clear hO8 hF8)
                      | (go_at_call 25; (with_reducible refine (HSM.out _ (by first | exact HFk.out | exact HFk.out.trans (Fr.drew _ _)) _ _).mono ?_); rintro e wm ⟨rfl, hF9⟩; have HFk := hid (HFk.out.trans (Fr.trans (by first | exact Fr.refl _ _ | exact Fr.drew _ _) hF9)); clear hF9)
                      | (go_at_call 9; (with_reducible refine (awake_ok _).mono ?_); rintro e wn ⟨rfl, hF9⟩; have HFk := hid (HFk.out.trans (Fr.trans (by first | exact Fr.refl _ _ | exact Fr.drew _ _) hF9)); clear hF9))
                  all_goals
                    go_wp2_with fail
                    go_ret
                    exact ⟨rfl, (HGh.out.trans (HFw.out.trans HFk.out)).below (Nat.le_refl _) (fun _ hh => hh.elim)⟩

theorem letsLaw (p q : Int) (A : Option Addr) (n c : Nat) (f : Nat → Nat → Int) (w : World) (hr : Row w A n 1 f) :
    Calls Try.prog 7 #[.agg #[.int .i64 p, .int .i64 q], .slice A n c] w fun e w' => e = .returned (.bool true) ∧ Below w.heap.size w w' := by
  by_cases h : 0 ≤ p ∧ p ≤ q ∧ q ≤ 8 ∧ n ≤ 256
  · exact lets_yes p q A n c f w h.1 h.2.1 h.2.2.1 h.2.2.2 hr
  · exact lets_no p q A n c w h

end Go.Proofs.Ytecpdhfncmlbaaa
