/-
  DequeNil answers true at every input.
-/
import Derived.Test.YtecpdhfncmlbaaaNilC
import Derived.Deep.RegionHeld3
import Derived.Deep.DeepCutAuto
import Derived.Deep.DeepMust
import Derived.Deep.LoopGhost
namespace Go.Proofs.Ytecpdhfncmlbaaa
open Go.RowKit
set_option linter.unusedVariables false

theorem q_lt {w : World} {b : MB} {o q cp : Nat} {most : Int} {op : DOp} (h : IsOp w b o q cp most op) : q < w.heap.size := by
  rcases h.rep with ⟨_, ⟨_, wa, wl, cv, f, hB, _⟩ | ⟨_, f, hB, _⟩ | ⟨_, gv, f, hB, _⟩⟩ | ⟨_, c, hB, _⟩
  all_goals exact hB.lt

set_option maxRecDepth 100000 in
set_option maxHeartbeats 2000000 in
theorem nil_big (p q : Int) (A : Option Addr) (n c : Nat) (f : Nat → Nat → Int) (z : Int) (w : World) (h : 100 < n) :
    Calls Try.prog 8 #[.agg #[.int .i64 p, .int .i64 q], .slice A n c, .int .i64 z] w fun e w' => e = .returned (.bool true) ∧ Below w.heap.size w w' := by
  have t0 : decide ((100 : Int) < n) = true := by simp; omega
  go_enter Try.func8, Try.ntmps8
  go_wp2_with fail
  refine (dnew_nil z p q _).mono ?_
  rintro e w1 ⟨rfl, hF⟩
  have HBx := hid ((Blk.new w #[.int .i64 p, .int .i64 q] 22).same hF)
  have HF1 := hid ((Fr.alloc (fun _ => False) w (.cells #[.int .i64 p, .int .i64 q] 22)).trans hF)
  clear hF
  have HBx0 := hid (HBx.out.alloc (.cells #[.int .i64 0, .int .i64 0] 34))
  have HBd := hid (Blk.new w1 #[.int .i64 0, .int .i64 0] 34)
  have HFd := hid (HF1.out.trans (Fr.alloc _ w1 (.cells #[.int .i64 0, .int .i64 0] 34)))
  have HLT := hid (show w.heap.size < w1.heap.size from HBx.out.lt)
  have HSZ := hid (show (w1.alloc (.cells #[.int .i64 0, .int .i64 0] 34)).heap.size = w1.heap.size + 1 from by simp)
  have x0 := HBx0.out.cell (i := 0) rfl
  have x1 := HBx0.out.cell (i := 1) rfl
  have a0 := HBd.out.cell (i := 0) rfl
  have a1 := HBd.out.cell (i := 1) rfl
  go_wp2_with fail
  refine (awake_ok _).mono ?_
  rintro e w9 ⟨rfl, hF9⟩
  go_wp2_with fail
  go_ret
  exact ⟨rfl, (HFd.out.trans hF9).below (Nat.le_refl _) (fun _ hh => hh.elim)⟩

set_option maxRecDepth 100000 in
set_option maxHeartbeats 4000000 in
theorem nil_bad1 (p q : Int) (A : Option Addr) (n c : Nat) (f : Nat → Nat → Int) (z : Int) (w : World) (hn : n ≤ 100) (h : ¬ (0 ≤ p ∧ p ≤ q ∧ q ≤ 8)) (u1 : decide (p < 0) = true) :
    Calls Try.prog 8 #[.agg #[.int .i64 p, .int .i64 q], .slice A n c, .int .i64 z] w fun e w' => e = .returned (.bool true) ∧ Below w.heap.size w w' := by
  have t0 : decide ((100 : Int) < n) = false := by simp; omega
  have H := hid h
  clear h
  go_enter Try.func8, Try.ntmps8
  go_wp2_with fail
  refine (dnew_nil z p q _).mono ?_
  rintro e w1 ⟨rfl, hF⟩
  have HBx := hid ((Blk.new w #[.int .i64 p, .int .i64 q] 22).same hF)
  have HF1 := hid ((Fr.alloc (fun _ => False) w (.cells #[.int .i64 p, .int .i64 q] 22)).trans hF)
  clear hF
  have HBx0 := hid (HBx.out.alloc (.cells #[.int .i64 0, .int .i64 0] 34))
  have HBd := hid (Blk.new w1 #[.int .i64 0, .int .i64 0] 34)
  have HFd := hid (HF1.out.trans (Fr.alloc _ w1 (.cells #[.int .i64 0, .int .i64 0] 34)))
  have HLT := hid (show w.heap.size < w1.heap.size from HBx.out.lt)
  have HSZ := hid (show (w1.alloc (.cells #[.int .i64 0, .int .i64 0] 34)).heap.size = w1.heap.size + 1 from by simp)
  have x0 := HBx0.out.cell (i := 0) rfl
  have x1 := HBx0.out.cell (i := 1) rfl
  have a0 := HBd.out.cell (i := 0) rfl
  have a1 := HBd.out.cell (i := 1) rfl
  go_wp2_with fail
  refine (nstep z _).mono ?_
  rintro e v1 ⟨rfl, hF⟩
  have HG := hid hF
  clear hF x0 x1 a0 a1
  go_wp2_with fail
  refine (ngot _).mono ?_
  rintro e v2 ⟨rfl, hF⟩
  have HG := hid (HG.out.trans hF)
  clear hF
  go_wp2_with fail
  refine (nerr _).mono ?_
  rintro e v3 ⟨rfl, hF⟩
  have HG := hid (HG.out.trans hF)
  clear hF
  have a0 := (HBd.out.same HG.out).cell (i := 0) rfl
  have a1 := (HBd.out.same HG.out).cell (i := 1) rfl
  go_wp2_with fail
  refine (nlist _).mono ?_
  rintro e v4 ⟨rfl, hF⟩
  have HG := hid (HG.out.trans hF)
  clear hF a0 a1
  have a0 := (HBd.out.same HG.out).cell (i := 0) rfl
  have a1 := (HBd.out.same HG.out).cell (i := 1) rfl
  go_wp2_with fail
  refine (nbottom 0 z _).mono ?_
  rintro e v5 ⟨rfl, hF⟩
  have HG := hid (HG.out.trans hF)
  clear hF a0 a1
  have HBx5 := hid (HBx0.out.same HG.out)
  have HBd5 := hid (HBd.out.same HG.out)
  have HF5 := hid (HFd.out.trans HG.out)
  have HLT5 := hid (show w1.heap.size < v5.heap.size from by have := HG.out.size; have := HSZ.out; omega)
  have x0 := HBx5.out.cell (i := 0) rfl
  have x1 := HBx5.out.cell (i := 1) rfl
  have a0 := HBd5.out.cell (i := 0) rfl
  have a1 := HBd5.out.cell (i := 1) rfl
  go_wp2_with fail
  refine (new_ok 600 2 _ (by omega) (by omega) (by omega) (by omega)).mono ?_
  rintro e w1' ⟨b, rfl, hM, hF, hown⟩
  have HOWN := hid hown
  have HM1 := hid (show IsM w1' b (MO ⟨List.replicate 600 0, 0, []⟩ (List.replicate 3 0)) from hM)
  have HF6 := hid (HF5.out.trans hF)
  have HBx6 := hid (HBx5.out.same hF)
  have HBd6 := hid (HBd5.out.same hF)
  have HBO := hid (show ∀ k, b.own k → w1.heap.size < k from fun k hk => by have := hown k hk; have := HLT5.out; omega)
  clear hM hF hown x0 x1 a0 a1
  have x0 := HBx6.out.cell (i := 0) rfl
  have x1 := HBx6.out.cell (i := 1) rfl
  go_wp2_with fail
  refine (dnew_log b 2 p q _ H.out).mono ?_
  rintro e w2 ⟨rfl, hF⟩
  have HUS := hid (fun u (F : Fr (fun _ => False) w1' u) => used_ok b (MO ⟨List.replicate 600 0, 0, []⟩ (List.replicate 3 0)) u (HM1.out.same F))
  have HU0 := hid (show ((MO ⟨List.replicate 600 0, 0, []⟩ (List.replicate 3 0)).used : Int) = 0 from rfl)
  rw [HU0.out] at HUS
  have HFN := hid (hF.trans (Fr.alloc (fun _ => False) w2 (.cells #[.int .i64 0, .int .i64 0] 34)))
  clear hF x0 x1
  go_wp2_with fail
  refine (HUS.out _ HFN.out).mono ?_
  rintro e w3 ⟨rfl, rfl⟩
  go_wp2_with fail
  refine (awake_ok _).mono ?_
  rintro e w9 ⟨rfl, hF9⟩
  go_wp2_with fail
  go_ret
  exact ⟨rfl, ((HF6.out.trans HFN.out).trans hF9).below (Nat.le_refl _) (fun _ hh => hh.elim)⟩

set_option maxRecDepth 100000 in
set_option maxHeartbeats 4000000 in
theorem nil_bad2 (p q : Int) (A : Option Addr) (n c : Nat) (f : Nat → Nat → Int) (z : Int) (w : World) (hn : n ≤ 100) (h : ¬ (0 ≤ p ∧ p ≤ q ∧ q ≤ 8)) (u1 : decide (p < 0) = false) (u2 : decide (q < p) = true) :
    Calls Try.prog 8 #[.agg #[.int .i64 p, .int .i64 q], .slice A n c, .int .i64 z] w fun e w' => e = .returned (.bool true) ∧ Below w.heap.size w w' := by
  have t0 : decide ((100 : Int) < n) = false := by simp; omega
  have H := hid h
  clear h
  go_enter Try.func8, Try.ntmps8
  go_wp2_with fail
  refine (dnew_nil z p q _).mono ?_
  rintro e w1 ⟨rfl, hF⟩
  have HBx := hid ((Blk.new w #[.int .i64 p, .int .i64 q] 22).same hF)
  have HF1 := hid ((Fr.alloc (fun _ => False) w (.cells #[.int .i64 p, .int .i64 q] 22)).trans hF)
  clear hF
  have HBx0 := hid (HBx.out.alloc (.cells #[.int .i64 0, .int .i64 0] 34))
  have HBd := hid (Blk.new w1 #[.int .i64 0, .int .i64 0] 34)
  have HFd := hid (HF1.out.trans (Fr.alloc _ w1 (.cells #[.int .i64 0, .int .i64 0] 34)))
  have HLT := hid (show w.heap.size < w1.heap.size from HBx.out.lt)
  have HSZ := hid (show (w1.alloc (.cells #[.int .i64 0, .int .i64 0] 34)).heap.size = w1.heap.size + 1 from by simp)
  have x0 := HBx0.out.cell (i := 0) rfl
  have x1 := HBx0.out.cell (i := 1) rfl
  have a0 := HBd.out.cell (i := 0) rfl
  have a1 := HBd.out.cell (i := 1) rfl
  go_wp2_with fail
  refine (nstep z _).mono ?_
  rintro e v1 ⟨rfl, hF⟩
  have HG := hid hF
  clear hF x0 x1 a0 a1
  go_wp2_with fail
  refine (ngot _).mono ?_
  rintro e v2 ⟨rfl, hF⟩
  have HG := hid (HG.out.trans hF)
  clear hF
  go_wp2_with fail
  refine (nerr _).mono ?_
  rintro e v3 ⟨rfl, hF⟩
  have HG := hid (HG.out.trans hF)
  clear hF
  have a0 := (HBd.out.same HG.out).cell (i := 0) rfl
  have a1 := (HBd.out.same HG.out).cell (i := 1) rfl
  go_wp2_with fail
  refine (nlist _).mono ?_
  rintro e v4 ⟨rfl, hF⟩
  have HG := hid (HG.out.trans hF)
  clear hF a0 a1
  have a0 := (HBd.out.same HG.out).cell (i := 0) rfl
  have a1 := (HBd.out.same HG.out).cell (i := 1) rfl
  go_wp2_with fail
  refine (nbottom 0 z _).mono ?_
  rintro e v5 ⟨rfl, hF⟩
  have HG := hid (HG.out.trans hF)
  clear hF a0 a1
  have HBx5 := hid (HBx0.out.same HG.out)
  have HBd5 := hid (HBd.out.same HG.out)
  have HF5 := hid (HFd.out.trans HG.out)
  have HLT5 := hid (show w1.heap.size < v5.heap.size from by have := HG.out.size; have := HSZ.out; omega)
  have x0 := HBx5.out.cell (i := 0) rfl
  have x1 := HBx5.out.cell (i := 1) rfl
  have a0 := HBd5.out.cell (i := 0) rfl
  have a1 := HBd5.out.cell (i := 1) rfl
  go_wp2_with fail
  refine (new_ok 600 2 _ (by omega) (by omega) (by omega) (by omega)).mono ?_
  rintro e w1' ⟨b, rfl, hM, hF, hown⟩
  have HOWN := hid hown
  have HM1 := hid (show IsM w1' b (MO ⟨List.replicate 600 0, 0, []⟩ (List.replicate 3 0)) from hM)
  have HF6 := hid (HF5.out.trans hF)
  have HBx6 := hid (HBx5.out.same hF)
  have HBd6 := hid (HBd5.out.same hF)
  have HBO := hid (show ∀ k, b.own k → w1.heap.size < k from fun k hk => by have := hown k hk; have := HLT5.out; omega)
  clear hM hF hown x0 x1 a0 a1
  have x0 := HBx6.out.cell (i := 0) rfl
  have x1 := HBx6.out.cell (i := 1) rfl
  go_wp2_with fail
  refine (dnew_log b 2 p q _ H.out).mono ?_
  rintro e w2 ⟨rfl, hF⟩
  have HUS := hid (fun u (F : Fr (fun _ => False) w1' u) => used_ok b (MO ⟨List.replicate 600 0, 0, []⟩ (List.replicate 3 0)) u (HM1.out.same F))
  have HU0 := hid (show ((MO ⟨List.replicate 600 0, 0, []⟩ (List.replicate 3 0)).used : Int) = 0 from rfl)
  rw [HU0.out] at HUS
  have HFN := hid (hF.trans (Fr.alloc (fun _ => False) w2 (.cells #[.int .i64 0, .int .i64 0] 34)))
  clear hF x0 x1
  go_wp2_with fail
  refine (HUS.out _ HFN.out).mono ?_
  rintro e w3 ⟨rfl, rfl⟩
  go_wp2_with fail
  refine (awake_ok _).mono ?_
  rintro e w9 ⟨rfl, hF9⟩
  go_wp2_with fail
  go_ret
  exact ⟨rfl, ((HF6.out.trans HFN.out).trans hF9).below (Nat.le_refl _) (fun _ hh => hh.elim)⟩

set_option maxRecDepth 100000 in
set_option maxHeartbeats 4000000 in
theorem nil_bad3 (p q : Int) (A : Option Addr) (n c : Nat) (f : Nat → Nat → Int) (z : Int) (w : World) (hn : n ≤ 100) (h : ¬ (0 ≤ p ∧ p ≤ q ∧ q ≤ 8)) (u1 : decide (p < 0) = false) (u2 : decide (q < p) = false) (u3 : decide (8 < q) = true) :
    Calls Try.prog 8 #[.agg #[.int .i64 p, .int .i64 q], .slice A n c, .int .i64 z] w fun e w' => e = .returned (.bool true) ∧ Below w.heap.size w w' := by
  have t0 : decide ((100 : Int) < n) = false := by simp; omega
  have H := hid h
  clear h
  go_enter Try.func8, Try.ntmps8
  go_wp2_with fail
  refine (dnew_nil z p q _).mono ?_
  rintro e w1 ⟨rfl, hF⟩
  have HBx := hid ((Blk.new w #[.int .i64 p, .int .i64 q] 22).same hF)
  have HF1 := hid ((Fr.alloc (fun _ => False) w (.cells #[.int .i64 p, .int .i64 q] 22)).trans hF)
  clear hF
  have HBx0 := hid (HBx.out.alloc (.cells #[.int .i64 0, .int .i64 0] 34))
  have HBd := hid (Blk.new w1 #[.int .i64 0, .int .i64 0] 34)
  have HFd := hid (HF1.out.trans (Fr.alloc _ w1 (.cells #[.int .i64 0, .int .i64 0] 34)))
  have HLT := hid (show w.heap.size < w1.heap.size from HBx.out.lt)
  have HSZ := hid (show (w1.alloc (.cells #[.int .i64 0, .int .i64 0] 34)).heap.size = w1.heap.size + 1 from by simp)
  have x0 := HBx0.out.cell (i := 0) rfl
  have x1 := HBx0.out.cell (i := 1) rfl
  have a0 := HBd.out.cell (i := 0) rfl
  have a1 := HBd.out.cell (i := 1) rfl
  go_wp2_with fail
  refine (nstep z _).mono ?_
  rintro e v1 ⟨rfl, hF⟩
  have HG := hid hF
  clear hF x0 x1 a0 a1
  go_wp2_with fail
  refine (ngot _).mono ?_
  rintro e v2 ⟨rfl, hF⟩
  have HG := hid (HG.out.trans hF)
  clear hF
  go_wp2_with fail
  refine (nerr _).mono ?_
  rintro e v3 ⟨rfl, hF⟩
  have HG := hid (HG.out.trans hF)
  clear hF
  have a0 := (HBd.out.same HG.out).cell (i := 0) rfl
  have a1 := (HBd.out.same HG.out).cell (i := 1) rfl
  go_wp2_with fail
  refine (nlist _).mono ?_
  rintro e v4 ⟨rfl, hF⟩
  have HG := hid (HG.out.trans hF)
  clear hF a0 a1
  have a0 := (HBd.out.same HG.out).cell (i := 0) rfl
  have a1 := (HBd.out.same HG.out).cell (i := 1) rfl
  go_wp2_with fail
  refine (nbottom 0 z _).mono ?_
  rintro e v5 ⟨rfl, hF⟩
  have HG := hid (HG.out.trans hF)
  clear hF a0 a1
  have HBx5 := hid (HBx0.out.same HG.out)
  have HBd5 := hid (HBd.out.same HG.out)
  have HF5 := hid (HFd.out.trans HG.out)
  have HLT5 := hid (show w1.heap.size < v5.heap.size from by have := HG.out.size; have := HSZ.out; omega)
  have x0 := HBx5.out.cell (i := 0) rfl
  have x1 := HBx5.out.cell (i := 1) rfl
  have a0 := HBd5.out.cell (i := 0) rfl
  have a1 := HBd5.out.cell (i := 1) rfl
  go_wp2_with fail
  refine (new_ok 600 2 _ (by omega) (by omega) (by omega) (by omega)).mono ?_
  rintro e w1' ⟨b, rfl, hM, hF, hown⟩
  have HOWN := hid hown
  have HM1 := hid (show IsM w1' b (MO ⟨List.replicate 600 0, 0, []⟩ (List.replicate 3 0)) from hM)
  have HF6 := hid (HF5.out.trans hF)
  have HBx6 := hid (HBx5.out.same hF)
  have HBd6 := hid (HBd5.out.same hF)
  have HBO := hid (show ∀ k, b.own k → w1.heap.size < k from fun k hk => by have := hown k hk; have := HLT5.out; omega)
  clear hM hF hown x0 x1 a0 a1
  have x0 := HBx6.out.cell (i := 0) rfl
  have x1 := HBx6.out.cell (i := 1) rfl
  go_wp2_with fail
  refine (dnew_log b 2 p q _ H.out).mono ?_
  rintro e w2 ⟨rfl, hF⟩
  have HUS := hid (fun u (F : Fr (fun _ => False) w1' u) => used_ok b (MO ⟨List.replicate 600 0, 0, []⟩ (List.replicate 3 0)) u (HM1.out.same F))
  have HU0 := hid (show ((MO ⟨List.replicate 600 0, 0, []⟩ (List.replicate 3 0)).used : Int) = 0 from rfl)
  rw [HU0.out] at HUS
  have HFN := hid (hF.trans (Fr.alloc (fun _ => False) w2 (.cells #[.int .i64 0, .int .i64 0] 34)))
  clear hF x0 x1
  go_wp2_with fail
  refine (HUS.out _ HFN.out).mono ?_
  rintro e w3 ⟨rfl, rfl⟩
  go_wp2_with fail
  refine (awake_ok _).mono ?_
  rintro e w9 ⟨rfl, hF9⟩
  go_wp2_with fail
  go_ret
  exact ⟨rfl, ((HF6.out.trans HFN.out).trans hF9).below (Nat.le_refl _) (fun _ hh => hh.elim)⟩

def NlRel (w : World) (b : MB) (q : Int) (gd n : Nat) (d : Nat) (x k : Value) (wr : World) : Prop :=
  ∃ (i m : Nat) (L : List Int) (M : Mach) (s : List Int) (R : Rg), i ≤ n ∧ d = n + 1 - i ∧ L.length = m ∧ x = .int .i64 m ∧ k = .int .i64 i ∧ IsM wr b (MO M s) ∧ s.length = 3 ∧ SeqI q M R (1 + i) L ∧ rd M 0 = 0 ∧ Fr (fun _ => False) w wr ∧ Blk wr gd #[.int .i64 0, .int .i64 q]

set_option maxRecDepth 100000 in
set_option maxHeartbeats 8000000 in
theorem nil_good (p q : Int) (A : Option Addr) (n c : Nat) (f : Nat → Nat → Int) (z : Int) (w : World) (hn : n ≤ 100) (hp0 : 0 ≤ p) (hpq : p ≤ q) (hq8 : q ≤ 8) (hr : Row w A n 1 f) :
    Calls Try.prog 8 #[.agg #[.int .i64 p, .int .i64 q], .slice A n c, .int .i64 z] w fun e w' => e = .returned (.bool true) ∧ Below w.heap.size w w' := by
  have t0 : decide ((100 : Int) < n) = false := by simp; omega
  have u1 : decide (p < 0) = false := by simp; omega
  have u2 : decide (q < p) = false := by simp; omega
  have u3 : decide (8 < q) = false := by simp; omega
  have HR1 := hid hr
  have HSQ := hid (new_seq [] p q hp0 hpq hq8)
  have HTP := hid (z600 [] p hp0 (by omega)).2.2.1
  clear hr
  go_enter Try.func8, Try.ntmps8
  go_wp2_with fail
  refine (dnew_nil z p q _).mono ?_
  rintro e w1 ⟨rfl, hF⟩
  have HBx := hid ((Blk.new w #[.int .i64 p, .int .i64 q] 22).same hF)
  have HF1 := hid ((Fr.alloc (fun _ => False) w (.cells #[.int .i64 p, .int .i64 q] 22)).trans hF)
  clear hF
  have HBx0 := hid (HBx.out.alloc (.cells #[.int .i64 0, .int .i64 0] 34))
  have HBd := hid (Blk.new w1 #[.int .i64 0, .int .i64 0] 34)
  have HFd := hid (HF1.out.trans (Fr.alloc _ w1 (.cells #[.int .i64 0, .int .i64 0] 34)))
  have HLT := hid (show w.heap.size < w1.heap.size from HBx.out.lt)
  have HSZ := hid (show (w1.alloc (.cells #[.int .i64 0, .int .i64 0] 34)).heap.size = w1.heap.size + 1 from by simp)
  have x0 := HBx0.out.cell (i := 0) rfl
  have x1 := HBx0.out.cell (i := 1) rfl
  have a0 := HBd.out.cell (i := 0) rfl
  have a1 := HBd.out.cell (i := 1) rfl
  go_wp2_with fail
  refine (nstep z _).mono ?_
  rintro e v1 ⟨rfl, hF⟩
  have HG := hid hF
  clear hF x0 x1 a0 a1
  go_wp2_with fail
  refine (ngot _).mono ?_
  rintro e v2 ⟨rfl, hF⟩
  have HG := hid (HG.out.trans hF)
  clear hF
  go_wp2_with fail
  refine (nerr _).mono ?_
  rintro e v3 ⟨rfl, hF⟩
  have HG := hid (HG.out.trans hF)
  clear hF
  have a0 := (HBd.out.same HG.out).cell (i := 0) rfl
  have a1 := (HBd.out.same HG.out).cell (i := 1) rfl
  go_wp2_with fail
  refine (nlist _).mono ?_
  rintro e v4 ⟨rfl, hF⟩
  have HG := hid (HG.out.trans hF)
  clear hF a0 a1
  have a0 := (HBd.out.same HG.out).cell (i := 0) rfl
  have a1 := (HBd.out.same HG.out).cell (i := 1) rfl
  go_wp2_with fail
  refine (nbottom 0 z _).mono ?_
  rintro e v5 ⟨rfl, hF⟩
  have HG := hid (HG.out.trans hF)
  clear hF a0 a1
  have HBx5 := hid (HBx0.out.same HG.out)
  have HBd5 := hid (HBd.out.same HG.out)
  have HF5 := hid (HFd.out.trans HG.out)
  have HLT5 := hid (show w1.heap.size < v5.heap.size from by have := HG.out.size; have := HSZ.out; omega)
  have x0 := HBx5.out.cell (i := 0) rfl
  have x1 := HBx5.out.cell (i := 1) rfl
  have a0 := HBd5.out.cell (i := 0) rfl
  have a1 := HBd5.out.cell (i := 1) rfl
  go_wp2_with fail
  refine (new_ok 600 2 _ (by omega) (by omega) (by omega) (by omega)).mono ?_
  rintro e w1' ⟨b, rfl, hM, hF, hown⟩
  have HOWN := hid hown
  have HM1 := hid (show IsM w1' b (MO ⟨List.replicate 600 0, 0, []⟩ (List.replicate 3 0)) from hM)
  have HF6 := hid (HF5.out.trans hF)
  have HBx6 := hid (HBx5.out.same hF)
  have HBd6 := hid (HBd5.out.same hF)
  have HBO := hid (show ∀ k, b.own k → w1.heap.size < k from fun k hk => by have := hown k hk; have := HLT5.out; omega)
  clear hM hF hown x0 x1 a0 a1
  have x0 := HBx6.out.cell (i := 0) rfl
  have x1 := HBx6.out.cell (i := 1) rfl
  go_wp2_with fail
  refine (dnew_ok b _ _ 2 2 p q _ HM1.out rfl rfl (by simp) (by omega) (by omega) (by omega) (by have := pow_le p (by omega); rw [List.length_replicate]; omega)).mono ?_
  rintro e w2 ⟨rfl, hM, hF⟩
  have HF7 := hid (HF6.out.since hF (fun i hi hlt => by have := HBO.out i hi; have := HLT.out; omega))
  have HBd7 := hid (HBd6.out.keep hF (fun hh => by have := HBO.out _ hh; omega))
  obtain ⟨s0, hs0⟩ : ∃ s0, stp (stp (List.replicate 3 0) 2) 2 = s0 := ⟨_, rfl⟩
  have HSL := hid (show s0.length = 3 from by rw [← hs0]; decide +kernel)
  rw [hs0] at hM
  have HM7 := hid hM
  clear hM hF hs0 x0 x1
  have a0 := HBd7.out.cell (i := 0) rfl
  have a1 := HBd7.out.cell (i := 1) rfl
  have f0 := HBd7.out.frozen 0
  have f1 := HBd7.out.frozen 1
  have HB8 := hid (HBd7.out.set2 (.int .i64 0) (.int .i64 q))
  have HF8 := hid (fr_set2 w2 w1.heap.size (.int .i64 0) (.int .i64 q))
  have HG8 := hid (HF7.out.since HF8.out (fun i hi hlt => by have := HLT.out; omega))
  have HM8 := hid (HM7.out.keep HF8.out (fun k hk hh => by have := HBO.out _ hk; omega))
  obtain ⟨wd, hwd⟩ : ∃ wd, (w2.setCell ⟨w1.heap.size, 0, none⟩ (.int .i64 0)).setCell ⟨w1.heap.size, 1, none⟩ (.int .i64 q) = wd := ⟨_, rfl⟩
  rw [hwd] at HB8 HF8 HG8 HM8
  go_wp2_with fail
  clear hwd a0 a1 f0 f1
  go_loopg [16, 17] (n + 1) (fun d x k wr => NlRel w b q w1.heap.size n d x k wr)
  case atStart => exact ⟨0, 0, [], _, s0, ⟨3, p⟩, by omega, by omega, rfl, rfl, rfl, HM8.out, HSL.out, by simpa using HSQ.out, HTP.out, HG8.out, HB8.out⟩
  case round =>
    obtain ⟨j, m, L, M, s, R, hjn, rfl, hL, rfl, rfl, hM, hs, hSq, hT, hF, hBd⟩ := hrel
    have HM := hid hM
    have HS := hid hs
    have HSQ2 := hid hSq
    have HF := hid hF
    have HBD := hid hBd
    have HLL := hid hL
    have HTT := hid hT
    have HMB := hid (show m ≤ j from by
      have h1 := hSq.cells
      obtain ⟨g, hi, dd, _⟩ := hSq.ex
      omega)
    clear hM hs hSq hF hBd hL hT
    have hj100 : j ≤ 100 := by omega
    by_cases hlt : j < n
    · have hl1 : (j : Int) < n := by omega
      obtain ⟨gl, ol, rfl, hcl⟩ := HR1.out.at_one hlt
      obtain ⟨X, hX⟩ : ∃ X, f j 0 = X := ⟨_, rfl⟩
      rw [hX] at hcl
      have HCL := hid hcl
      have HBE := hid (fun (u : World) (F : Fr (fun _ => False) wr u) => beg_push (most := q) X (HM.out.same F))
      obtain ⟨nn, o', M', R', hRun, hnn, hTop, hcase⟩ := HSQ2.out.push'' X
      have HT2 := hid (hTop.trans HTT.out)
      clear hcl hX hTop
      have hmj : m ≤ 100 := by have := HMB.out; omega
      rcases hcase with hcase | hcase
      · obtain ⟨hlen, hhow, hSN⟩ := hcase
        have HRN := hid (show ∀ (u : World) (o1 q1 c1 : Nat), Fr (fun _ => False) wr u → IsOp u b o1 q1 c1 q (beginOp 0 X) → Calls Try.prog 31 #[.pointer (some ⟨b.m, 0, none⟩), .pointer (some ⟨o1, 0, none⟩), .int .i64 0] u (fun e w' => e = .returned (.int .i64 4) ∧ ∃ cp' s', (cp' = c1 ∨ u.heap.size ≤ cp') ∧ IsM w' b (MO M' s') ∧ s'.length = 3 ∧ Fr (OM b q1 c1) u w') from
          fun u o1 q1 c1 F hI => (show Calls Try.prog 31 #[.pointer (some ⟨b.m, 0, none⟩), .pointer (some ⟨o1, 0, none⟩), .int .i64 0] u _ from run_ok b o1 q1 c1 q _ o' M M' s 0 nn u hRun (live_begin 0 X) (St.begin_ hI (HM.out.same F) (HSQ2.out.cb (by omega)).1 (by omega) (HSQ2.out.cb (by omega)).2) (by rw [HS.out]; omega) hnn).mono fun e w' ⟨h1, cp', s', h2, _, h4, h5, h6⟩ => ⟨by rw [h1, hhow]; rfl, cp', s', h2, h4, h5.trans HS.out, h6⟩)
        have HSN0 := hid hSN
        have HL0 := hid hlen
        clear hRun hhow hSN hlen hnn
        have HFd := hid (Fr.refl (fun _ => False) wr)
        have HT := hid (show ∀ u, Fr (fun _ => False) wr u → u.cell? ⟨gl, ol + j, none⟩ = some (.int .i64 X) ∧ u.cell? ⟨w1.heap.size, 0, none⟩ = some (.int .i64 0) ∧ u.cell? ⟨w1.heap.size, 1, none⟩ = some (.int .i64 q) from
          fun u F => ⟨HCL.out _ (HF.out.trans F), (HBD.out.same F).cell rfl, (HBD.out.same F).cell rfl⟩)
        go_upto_region 22 with fail
        go_region_held3 (fun u => u.cell? ⟨gl, ol + j, none⟩ = some (.int .i64 X) ∧ u.cell? ⟨w1.heap.size, 0, none⟩ = some (.int .i64 0) ∧ u.cell? ⟨w1.heap.size, 1, none⟩ = some (.int .i64 q))
          (first | exact ⟨HCL.out _ HG7.out, HB7.out.cell rfl, HB7.out.cell rfl⟩ | exact HT.out _ HFd.out | exact HT.out _ (HFd.out.trans (Fr.drew _ _)))
          (first
            | (go_at_call 16; (with_reducible refine (HBE.out _ (by first | exact HFd.out | exact HFd.out.trans (Fr.drew _ _))).mono ?_); rintro e w6 ⟨o1, q1, c1, rfl, hI1, hF6, ⟨ho1, hq1, hc1⟩, hlt1⟩; have HI1 := hid hI1; have HQ1 := hid (show wr.heap.size ≤ q1 ∧ wr.heap.size ≤ c1 from ⟨Nat.le_trans HFd.out.size hq1, Nat.le_trans HFd.out.size hc1⟩); have HFd := hid (HFd.out.trans (Fr.trans (by first | exact Fr.refl _ _ | exact Fr.drew _ _) hF6)); clear hF6 hI1 ho1 hq1 hc1 hlt1)
            | (go_at_call 31; (with_reducible refine (HRN.out _ _ _ _ (by first | exact HFd.out | exact HFd.out.trans (Fr.drew _ _)) (by first | exact HI1.out | exact HI1.out.same (Fr.drew _ _))).mono ?_); rintro e w7 ⟨rfl, cp7, s7, hcp7, hM7, hs7, hF7⟩; have HG7 := hid (fr_op_own (S := fun _ => False) (HF.out.trans (HFd.out.trans (by first | exact Fr.refl _ _ | exact Fr.drew _ _))) hF7 (fun k h hlt => by have := HBO.out _ h; have := HLT.out; omega) (by have := HQ1.out; have := HF.out.size; omega) (by have := HQ1.out; have := HF.out.size; omega)); have HB7 := hid ((HBD.out.same (HFd.out.trans (by first | exact Fr.refl _ _ | exact Fr.drew _ _))).keep hF7 (fun hh => by
                have := HQ1.out
                have := HBD.out.lt
                rcases hh with (h | h) | h
                · have := HBO.out _ h; omega
                · omega
                · omega)); have HMN := hid hM7; have HSLN := hid hs7; clear hF7 hM7 hs7 hcp7))
        all_goals
          have HSN := hid (show SeqI q M' R' (1 + (((j + 1 : Nat)) : Int)) (L) from by
            have := HSN0.out
            rw [show (1 : Int) + ((j + 1 : Nat) : Int) = 1 + (j : Int) + 1 by omega]
            exact this)
          go_wp2_with fail
          go_roundg (n + 1 - (j + 1))
          case rel => exact ⟨j + 1, _, _, M', s7, R', by omega, rfl, HLL.out, rfl, by go_num, HMN.out, HSLN.out, HSN.out, HT2.out, HG7.out, HB7.out⟩
          case measure => omega
      · obtain ⟨hlen, hhow, hSN⟩ := hcase
        have HRN := hid (show ∀ (u : World) (o1 q1 c1 : Nat), Fr (fun _ => False) wr u → IsOp u b o1 q1 c1 q (beginOp 0 X) → Calls Try.prog 31 #[.pointer (some ⟨b.m, 0, none⟩), .pointer (some ⟨o1, 0, none⟩), .int .i64 0] u (fun e w' => e = .returned (.int .i64 1) ∧ ∃ cp' s', (cp' = c1 ∨ u.heap.size ≤ cp') ∧ IsM w' b (MO M' s') ∧ s'.length = 3 ∧ Fr (OM b q1 c1) u w') from
          fun u o1 q1 c1 F hI => (show Calls Try.prog 31 #[.pointer (some ⟨b.m, 0, none⟩), .pointer (some ⟨o1, 0, none⟩), .int .i64 0] u _ from run_ok b o1 q1 c1 q _ o' M M' s 0 nn u hRun (live_begin 0 X) (St.begin_ hI (HM.out.same F) (HSQ2.out.cb (by omega)).1 (by omega) (HSQ2.out.cb (by omega)).2) (by rw [HS.out]; omega) hnn).mono fun e w' ⟨h1, cp', s', h2, _, h4, h5, h6⟩ => ⟨by rw [h1, hhow]; rfl, cp', s', h2, h4, h5.trans HS.out, h6⟩)
        have HSN0 := hid hSN
        have HL0 := hid hlen
        clear hRun hhow hSN hlen hnn
        have HFd := hid (Fr.refl (fun _ => False) wr)
        have HT := hid (show ∀ u, Fr (fun _ => False) wr u → u.cell? ⟨gl, ol + j, none⟩ = some (.int .i64 X) ∧ u.cell? ⟨w1.heap.size, 0, none⟩ = some (.int .i64 0) ∧ u.cell? ⟨w1.heap.size, 1, none⟩ = some (.int .i64 q) from
          fun u F => ⟨HCL.out _ (HF.out.trans F), (HBD.out.same F).cell rfl, (HBD.out.same F).cell rfl⟩)
        go_upto_region 22 with fail
        go_region_held3 (fun u => u.cell? ⟨gl, ol + j, none⟩ = some (.int .i64 X) ∧ u.cell? ⟨w1.heap.size, 0, none⟩ = some (.int .i64 0) ∧ u.cell? ⟨w1.heap.size, 1, none⟩ = some (.int .i64 q))
          (first | exact ⟨HCL.out _ HG7.out, HB7.out.cell rfl, HB7.out.cell rfl⟩ | exact HT.out _ HFd.out | exact HT.out _ (HFd.out.trans (Fr.drew _ _)))
          (first
            | (go_at_call 16; (with_reducible refine (HBE.out _ (by first | exact HFd.out | exact HFd.out.trans (Fr.drew _ _))).mono ?_); rintro e w6 ⟨o1, q1, c1, rfl, hI1, hF6, ⟨ho1, hq1, hc1⟩, hlt1⟩; have HI1 := hid hI1; have HQ1 := hid (show wr.heap.size ≤ q1 ∧ wr.heap.size ≤ c1 from ⟨Nat.le_trans HFd.out.size hq1, Nat.le_trans HFd.out.size hc1⟩); have HFd := hid (HFd.out.trans (Fr.trans (by first | exact Fr.refl _ _ | exact Fr.drew _ _) hF6)); clear hF6 hI1 ho1 hq1 hc1 hlt1)
            | (go_at_call 31; (with_reducible refine (HRN.out _ _ _ _ (by first | exact HFd.out | exact HFd.out.trans (Fr.drew _ _)) (by first | exact HI1.out | exact HI1.out.same (Fr.drew _ _))).mono ?_); rintro e w7 ⟨rfl, cp7, s7, hcp7, hM7, hs7, hF7⟩; have HG7 := hid (fr_op_own (S := fun _ => False) (HF.out.trans (HFd.out.trans (by first | exact Fr.refl _ _ | exact Fr.drew _ _))) hF7 (fun k h hlt => by have := HBO.out _ h; have := HLT.out; omega) (by have := HQ1.out; have := HF.out.size; omega) (by have := HQ1.out; have := HF.out.size; omega)); have HB7 := hid ((HBD.out.same (HFd.out.trans (by first | exact Fr.refl _ _ | exact Fr.drew _ _))).keep hF7 (fun hh => by
                have := HQ1.out
                have := HBD.out.lt
                rcases hh with (h | h) | h
                · have := HBO.out _ h; omega
                · omega
                · omega)); have HMN := hid hM7; have HSLN := hid hs7; clear hF7 hM7 hs7 hcp7))
        all_goals
          have HSN := hid (show SeqI q M' R' (1 + (((j + 1 : Nat)) : Int)) (L ++ [X]) from by
            have := HSN0.out
            rw [show (1 : Int) + ((j + 1 : Nat) : Int) = 1 + (j : Int) + 1 by omega]
            exact this)
          go_wp2_with fail
          go_roundg (n + 1 - (j + 1))
          case rel => exact ⟨j + 1, m + 1, _, M', s7, R', by omega, rfl, by rw [List.length_append, HLL.out]; rfl, by go_num, by go_num, HMN.out, HSLN.out, HSN.out, HT2.out, HG7.out, HB7.out⟩
          case measure => omega
    · obtain rfl : j = n := by omega
      have hl1 : ¬ (j : Int) < j := by omega
      have a0 := HBD.out.cell (i := 0) rfl
      have a1 := HBD.out.cell (i := 1) rfl
      have hmj : m ≤ 100 := by have := HMB.out; omega
      have HB1 := hid (show rd M 1 = m from by have := HSQ2.out.cells; have := HTT.out; have := HLL.out; omega)
      obtain ⟨v, er, s', hLoad, hs', hvr⟩ : ∃ (v er : Int) (s' : List Int), (∀ u, IsM u b (MO M s) → Calls Try.prog 60 #[.pointer (some ⟨b.m, 0, none⟩), .int .i64 z, .int .i64 1] u fun e w' => e = .returned (.tuple #[.int .i64 v, .int .i64 er]) ∧ IsM w' b (MO M s') ∧ Fr b.own u w') ∧ s'.length = 3 ∧ ((er = 0 ∧ v = m ∧ 0 ≤ z ∧ z ≤ 2) ∨ (er = 10 ∧ v = 0 ∧ (z < 0 ∨ 2 < z))) := by
        have hc := HSQ2.out.cells
        have hpp := pow_pos R.l
        by_cases hz : 0 ≤ z ∧ z ≤ 2
        · obtain ⟨zj, rfl⟩ := Int.eq_ofNat_of_zero_le hz.1
          refine ⟨m, 0, stp s zj, fun u hu => ?_, by rw [stp_len]; exact HS.out, .inl ⟨rfl, rfl, hz⟩⟩
          have := load_ok b (MO M s) zj 1 u hu (by show zj < s.length; rw [HS.out]; omega) (by show 1 < M.used; omega)
          have e1 : (MO M s).all.getD 1 0 = (m : Int) := HB1.out
          rw [e1] at this
          exact this
        · refine ⟨0, 10, s, fun u hu => ?_, HS.out, .inr ⟨rfl, rfl, by omega⟩⟩
          refine (load_who b (MO M s) z 1 u hu (by show z < 0 ∨ (s.length : Int) ≤ z; rw [HS.out]; omega)).mono ?_
          rintro e u' ⟨rfl, rfl⟩
          exact ⟨rfl, hu, Fr.refl _ _⟩
      have HBT := hid (bottom_ok b M s q z v er s' wr HM.out hLoad)
      have HSL2 := hid hs'
      clear hLoad hs'
      go_wp2_with fail
      refine HBT.out.mono ?_
      rintro e w3 ⟨rfl, hM3, hF3⟩
      have HM3 := hid hM3
      have HF3 := hid (HF.out.since hF3 (fun i hi hlt => by have := HBO.out _ hi; have := HLT.out; omega))
      have HBD3 := hid (HBD.out.keep hF3 (fun hh => by have := HBO.out _ hh; omega))
      clear hM3 hF3 a0 a1
      have a0 := HBD3.out.cell (i := 0) rfl
      have a1 := HBD3.out.cell (i := 1) rfl
      rcases hvr with ⟨rfl, rfl, hz0, hz2⟩ | ⟨rfl, rfl, hz⟩
      · have z1 : decide (z < 0) = false := by simp; omega
        have z2 : decide (2 < z) = false := by simp; omega
        have HBP := hid (fun (u : World) (F : Fr (fun _ => False) w3 u) => beg_pop (most := q) 0 (HM3.out.same F))
        have HBS := hid (fun (u : World) (F : Fr (fun _ => False) w3 u) => beg_steal (most := q) 0 (HM3.out.same F))
        go_wp2_with fail
        refine (HBP.out _ (Fr.refl _ _)).mono ?_
        rintro e w4 ⟨o1, q1, c1, rfl, hI1, hF4, ⟨ho1, hq1, hc1⟩, hlt1⟩
        have HF4 := hid hF4
        have HI1 := hid hI1
        have HQ1 := hid (show w3.heap.size ≤ o1 ∧ w3.heap.size ≤ q1 ∧ w3.heap.size ≤ c1 ∧ o1 < w4.heap.size ∧ q1 < w4.heap.size ∧ c1 < w4.heap.size from ⟨ho1, hq1, hc1, hI1.ob.lt, q_lt hI1, hlt1⟩)
        clear hI1 hF4 ho1 hq1 hc1 hlt1 a0 a1
        have a0 := (HBD3.out.same HF4.out).cell (i := 0) rfl
        have a1 := (HBD3.out.same HF4.out).cell (i := 1) rfl
        go_wp2_with fail
        refine (HBS.out _ HF4.out).mono ?_
        rintro e w5 ⟨o2, q2, c2, rfl, hI2, hF5, ⟨ho2, hq2, hc2⟩, hlt2⟩
        have HQ2 := hid (show w4.heap.size ≤ o2 ∧ w4.heap.size ≤ q2 ∧ w4.heap.size ≤ c2 from ⟨ho2, hq2, hc2⟩)
        have HF5 := hid (HF4.out.trans hF5)
        have HI5 := hid (HI1.out.same hF5)
        have HP5 := hid hI2
        clear hI2 hF5 ho2 hq2 hc2 hlt2 a0 a1
        go_wp2_with fail
        refine (pop_nil 0 HI5.out).mono ?_
        rintro e w6 ⟨rfl, hI6, hF6⟩
        have HF6b := hid ((HF3.out.trans HF5.out).since hF6 (fun i hi hlt => by have := HQ1.out; have := HF3.out.size; omega))
        have HI6 := hid hI6
        have HP6 := hid (HP5.out.keep hF6 (by have := HQ1.out; have := HQ2.out; omega) (by have := HQ1.out; have := HQ2.out; omega) (by have := HQ1.out; have := HQ2.out; omega))
        have HM6 := hid ((HM3.out.same HF5.out).keep hF6 (fun k hk hh => by have := HM3.out.own_lt k hk; have := HQ1.out; omega))
        have HBD6 := hid ((HBD3.out.same HF5.out).keep hF6 (fun hh => by have := HBD3.out.lt; have := HQ1.out; omega))
        have HE6 := hid (op_err HI6.out)
        clear hI6 hF6
        go_wp2_with fail
        refine HE6.out.mono ?_
        rintro e w7 ⟨rfl, hF7⟩
        have HF7 := hid hF7
        have HST := hid (op_bad ⟨HP6.out.same hF7, HM6.out.same hF7, by unfold DOp.InR beginOp; simp, fun h => absurd h (by simp [beginOp]), fun h => absurd h (by simp [beginOp]), live_begin 2 0⟩ 3 (.inr (by rw [HSL2.out]; omega)))
        clear hF7
        go_wp2_with fail
        refine HST.out.mono ?_
        rintro e w8 ⟨cp8, hc8, rfl, hI8, hM8, hF8⟩
        have HP8 := hid hI8
        have HM8b := hid hM8
        have HI8 := hid ((HI6.out.same HF7.out).keep hF8 (by
            have := HQ1.out; have := HQ2.out; have := HI6.out.sep
            rintro ((h | h) | h)
            · exact this.bo h
            · omega
            · omega) (by
            have := HQ1.out; have := HQ2.out; have := HI6.out.sep
            rintro ((h | h) | h)
            · exact this.bq h
            · omega
            · omega) (by
            have := HQ1.out; have := HQ2.out; have := HI6.out.sep
            rintro ((h | h) | h)
            · exact this.bc h
            · omega
            · omega))
        have HG8b := hid (fr_op_own (S := fun _ => False) (HF6b.out.trans HF7.out) hF8 (fun k h hlt => by have := HBO.out _ h; have := HLT.out; omega) (by have := HQ2.out; have := HQ1.out; have := HF3.out.size; omega) (by have := HQ2.out; have := HQ1.out; have := HF3.out.size; omega))
        have HBD8 := hid ((HBD6.out.same HF7.out).keep hF8 (by
            have := HBD3.out.lt
            have := HQ1.out; have := HQ2.out
            rintro ((h | h) | h)
            · have := HBO.out _ h; omega
            · omega
            · omega))
        have HE8 := hid (op_err HP8.out)
        clear hc8 hI8 hM8 hF8
        go_wp2_with fail
        refine HE8.out.mono ?_
        rintro e w9 ⟨rfl, hF9⟩
        have HGT := hid (op_got (HP8.out.same hF9) (fun _ h => absurd h (by show ¬ (6 : Nat) = 5; omega)))
        have HF9 := hid hF9
        have HTL := hid (show ((beginOp 2 0).brk 10).tell = 0 from rfl)
        rw [HTL.out] at HGT
        clear hF9
        go_wp2_with fail
        refine HGT.out.mono ?_
        rintro e w10 ⟨rfl, hF10⟩
        have HF10 := hid (HF9.out.trans hF10)
        have HM10 := hid (HM8b.out.same HF10.out)
        have HBD10 := hid (HBD8.out.same HF10.out)
        have HPK := hid (fun (u : World) (F : Fr (fun _ => False) w10 u) => peek_rd b M s' 2 u (HM10.out.same F) (by omega) (by have := HSQ2.out.cells; have := pow_pos R.l; omega))
        have HWD := hid HSQ2.out.cells.1
        rw [HWD.out] at HPK
        have HOF := hid (fun (u : World) => of_word R HSQ2.out.cells.2.1 u)
        obtain ⟨wd2, hwd2⟩ : ∃ x, R.word = x := ⟨_, rfl⟩
        rw [hwd2] at HPK HOF
        clear hF10 hwd2
        have a0 := HBD10.out.cell (i := 0) rfl
        have a1 := HBD10.out.cell (i := 1) rfl
        go_wp2_with fail
        refine (HPK.out _ (Fr.refl _ _)).mono ?_
        rintro e w' ⟨rfl, rfl⟩
        go_wp2_with fail
        refine (HOF.out _).mono ?_
        rintro e w11 ⟨rfl, hF11⟩
        have HF11 := hid (HF10.out.trans hF11)
        have HBD11 := hid (HBD10.out.same hF11)
        clear hF11 a0 a1
        have HBR := hid (Blk.new w11 #[.int .i64 R.a, .int .i64 R.l] 79)
        have HFR := hid (Fr.alloc (fun _ => False) w11 (.cells #[.int .i64 R.a, .int .i64 R.l] 79))
        have HS1 := hid (op_still' ((HI8.out.same HF11.out).same HFR.out) (by show ¬ (6 : Nat) = 0; omega) (by show ¬ (6 : Nat) = 2; omega) (.pointer (some ⟨b.m, 0, none⟩)) (.inr ⟨_, rfl⟩) 0)
        have HE1 := hid (op_err' ((HI8.out.same HF11.out).same HFR.out))
        have HS2 := hid (op_still' ((HP8.out.same HF11.out).same HFR.out) (by show ¬ (6 : Nat) = 0; omega) (by show ¬ (6 : Nat) = 2; omega) (.pointer (some ⟨b.m, 0, none⟩)) (.inr ⟨_, rfl⟩) 0)
        have HLS := hid (dlist_ok b M s' R q _ ((HM8b.out.same HF11.out).same HFR.out) HSQ2.out.cells.1 HSQ2.out.cells.2.1 (by have := HSQ2.out.cells; have := pow_pos R.l; omega) HSQ2.out.cells.2.2.2.2.2.2.1 (by have := HSQ2.out.cells; have := HSQ2.out.room; omega) ((HSQ2.out.cb (by omega)).1.more (by omega)))
        rw [HSQ2.out.list] at HLS
        unfold ListPost at HLS
        rw [HLL.out] at HLS
        have HSZ2 := hid (fun (u : World) => size_yes R.a R.l u HSQ2.out.cells.2.1)
        obtain ⟨sz, hsz⟩ : ∃ x, pow R.l = x := ⟨_, rfl⟩
        have HSR := hid (show (m : Int) ≤ sz from by have := HSQ2.out.room; have := HLL.out; omega)
        rw [hsz] at HSZ2
        clear hsz
        obtain ⟨wR, hwR⟩ : ∃ x, w11.alloc (.cells #[.int .i64 R.a, .int .i64 R.l] 79) = x := ⟨_, rfl⟩
        rw [hwR] at HBR HFR HS1 HE1 HS2 HLS
        go_wp2_with fail
        refine HS1.out.mono ?_
        rintro e w' ⟨rfl, rfl⟩
        go_wp2_with fail
        refine HE1.out.mono ?_
        rintro e w' ⟨rfl, rfl⟩
        go_wp2_with fail
        refine HS2.out.mono ?_
        rintro e w' ⟨rfl, rfl⟩
        have a0 := (HBD11.out.same HFR.out).cell (i := 0) rfl
        have a1 := (HBD11.out.same HFR.out).cell (i := 1) rfl
        go_wp2_with fail
        refine HLS.out.mono ?_
        rintro e w12 ⟨A8, cap8, rfl, hO8, hF12⟩
        have HF12 := hid hF12
        have r0 := (HBR.out.same hF12).cell (i := 0) rfl
        have r1 := (HBR.out.same hF12).cell (i := 1) rfl
        clear hO8 hF12 a0 a1 hwR
        go_wp2_with fail
        refine (HSZ2.out _).mono ?_
        rintro e w13 ⟨rfl, hF13⟩
        have HF13 := hid (HF12.out.trans hF13)
        have hsr := HSR.out
        clear hF13
        have tsr : decide ((m : Int) ≤ sz) = true := by simpa using hsr
        go_wp2_with fail
        refine (awake_ok _).mono ?_
        rintro e w14 ⟨rfl, hF14⟩
        go_wp2_with fail
        go_ret
        exact ⟨rfl, ((((HG8b.out.trans HF11.out).trans HFR.out).trans HF13.out).trans hF14).below (Nat.le_refl _) (fun _ hh => hh.elim)⟩
      · have HZ := hid hz
        clear hz
        rcases z1 : decide (z < 0) with _ | _
        · have z2 : decide (2 < z) = true := by have := HZ.out; simp at z1; simp; omega
          have HBP := hid (fun (u : World) (F : Fr (fun _ => False) w3 u) => beg_pop (most := q) 0 (HM3.out.same F))
          have HBS := hid (fun (u : World) (F : Fr (fun _ => False) w3 u) => beg_steal (most := q) 0 (HM3.out.same F))
          go_wp2_with fail
          refine (HBP.out _ (Fr.refl _ _)).mono ?_
          rintro e w4 ⟨o1, q1, c1, rfl, hI1, hF4, ⟨ho1, hq1, hc1⟩, hlt1⟩
          have HF4 := hid hF4
          have HI1 := hid hI1
          have HQ1 := hid (show w3.heap.size ≤ o1 ∧ w3.heap.size ≤ q1 ∧ w3.heap.size ≤ c1 ∧ o1 < w4.heap.size ∧ q1 < w4.heap.size ∧ c1 < w4.heap.size from ⟨ho1, hq1, hc1, hI1.ob.lt, q_lt hI1, hlt1⟩)
          clear hI1 hF4 ho1 hq1 hc1 hlt1 a0 a1
          have a0 := (HBD3.out.same HF4.out).cell (i := 0) rfl
          have a1 := (HBD3.out.same HF4.out).cell (i := 1) rfl
          go_wp2_with fail
          refine (HBS.out _ HF4.out).mono ?_
          rintro e w5 ⟨o2, q2, c2, rfl, hI2, hF5, ⟨ho2, hq2, hc2⟩, hlt2⟩
          have HQ2 := hid (show w4.heap.size ≤ o2 ∧ w4.heap.size ≤ q2 ∧ w4.heap.size ≤ c2 from ⟨ho2, hq2, hc2⟩)
          have HF5 := hid (HF4.out.trans hF5)
          have HI5 := hid (HI1.out.same hF5)
          have HP5 := hid hI2
          clear hI2 hF5 ho2 hq2 hc2 hlt2 a0 a1
          go_wp2_with fail
          refine (pop_nil 0 HI5.out).mono ?_
          rintro e w6 ⟨rfl, hI6, hF6⟩
          have HF6b := hid ((HF3.out.trans HF5.out).since hF6 (fun i hi hlt => by have := HQ1.out; have := HF3.out.size; omega))
          have HI6 := hid hI6
          have HP6 := hid (HP5.out.keep hF6 (by have := HQ1.out; have := HQ2.out; omega) (by have := HQ1.out; have := HQ2.out; omega) (by have := HQ1.out; have := HQ2.out; omega))
          have HM6 := hid ((HM3.out.same HF5.out).keep hF6 (fun k hk hh => by have := HM3.out.own_lt k hk; have := HQ1.out; omega))
          have HBD6 := hid ((HBD3.out.same HF5.out).keep hF6 (fun hh => by have := HBD3.out.lt; have := HQ1.out; omega))
          have HE6 := hid (op_err HI6.out)
          clear hI6 hF6
          go_wp2_with fail
          refine HE6.out.mono ?_
          rintro e w7 ⟨rfl, hF7⟩
          have HF7 := hid hF7
          have HST := hid (op_bad ⟨HP6.out.same hF7, HM6.out.same hF7, by unfold DOp.InR beginOp; simp, fun h => absurd h (by simp [beginOp]), fun h => absurd h (by simp [beginOp]), live_begin 2 0⟩ 3 (.inr (by rw [HSL2.out]; omega)))
          clear hF7
          go_wp2_with fail
          refine HST.out.mono ?_
          rintro e w8 ⟨cp8, hc8, rfl, hI8, hM8, hF8⟩
          have HP8 := hid hI8
          have HM8b := hid hM8
          have HI8 := hid ((HI6.out.same HF7.out).keep hF8 (by
              have := HQ1.out; have := HQ2.out; have := HI6.out.sep
              rintro ((h | h) | h)
              · exact this.bo h
              · omega
              · omega) (by
              have := HQ1.out; have := HQ2.out; have := HI6.out.sep
              rintro ((h | h) | h)
              · exact this.bq h
              · omega
              · omega) (by
              have := HQ1.out; have := HQ2.out; have := HI6.out.sep
              rintro ((h | h) | h)
              · exact this.bc h
              · omega
              · omega))
          have HG8b := hid (fr_op_own (S := fun _ => False) (HF6b.out.trans HF7.out) hF8 (fun k h hlt => by have := HBO.out _ h; have := HLT.out; omega) (by have := HQ2.out; have := HQ1.out; have := HF3.out.size; omega) (by have := HQ2.out; have := HQ1.out; have := HF3.out.size; omega))
          have HBD8 := hid ((HBD6.out.same HF7.out).keep hF8 (by
              have := HBD3.out.lt
              have := HQ1.out; have := HQ2.out
              rintro ((h | h) | h)
              · have := HBO.out _ h; omega
              · omega
              · omega))
          have HE8 := hid (op_err HP8.out)
          clear hc8 hI8 hM8 hF8
          go_wp2_with fail
          refine HE8.out.mono ?_
          rintro e w9 ⟨rfl, hF9⟩
          have HGT := hid (op_got (HP8.out.same hF9) (fun _ h => absurd h (by show ¬ (6 : Nat) = 5; omega)))
          have HF9 := hid hF9
          have HTL := hid (show ((beginOp 2 0).brk 10).tell = 0 from rfl)
          rw [HTL.out] at HGT
          clear hF9
          go_wp2_with fail
          refine HGT.out.mono ?_
          rintro e w10 ⟨rfl, hF10⟩
          have HF10 := hid (HF9.out.trans hF10)
          have HM10 := hid (HM8b.out.same HF10.out)
          have HBD10 := hid (HBD8.out.same HF10.out)
          have HPK := hid (fun (u : World) (F : Fr (fun _ => False) w10 u) => peek_rd b M s' 2 u (HM10.out.same F) (by omega) (by have := HSQ2.out.cells; have := pow_pos R.l; omega))
          have HWD := hid HSQ2.out.cells.1
          rw [HWD.out] at HPK
          have HOF := hid (fun (u : World) => of_word R HSQ2.out.cells.2.1 u)
          obtain ⟨wd2, hwd2⟩ : ∃ x, R.word = x := ⟨_, rfl⟩
          rw [hwd2] at HPK HOF
          clear hF10 hwd2
          have a0 := HBD10.out.cell (i := 0) rfl
          have a1 := HBD10.out.cell (i := 1) rfl
          go_wp2_with fail
          refine (HPK.out _ (Fr.refl _ _)).mono ?_
          rintro e w' ⟨rfl, rfl⟩
          go_wp2_with fail
          refine (HOF.out _).mono ?_
          rintro e w11 ⟨rfl, hF11⟩
          have HF11 := hid (HF10.out.trans hF11)
          have HBD11 := hid (HBD10.out.same hF11)
          clear hF11 a0 a1
          have HBR := hid (Blk.new w11 #[.int .i64 R.a, .int .i64 R.l] 79)
          have HFR := hid (Fr.alloc (fun _ => False) w11 (.cells #[.int .i64 R.a, .int .i64 R.l] 79))
          have HS1 := hid (op_still' ((HI8.out.same HF11.out).same HFR.out) (by show ¬ (6 : Nat) = 0; omega) (by show ¬ (6 : Nat) = 2; omega) (.pointer (some ⟨b.m, 0, none⟩)) (.inr ⟨_, rfl⟩) 0)
          have HE1 := hid (op_err' ((HI8.out.same HF11.out).same HFR.out))
          have HS2 := hid (op_still' ((HP8.out.same HF11.out).same HFR.out) (by show ¬ (6 : Nat) = 0; omega) (by show ¬ (6 : Nat) = 2; omega) (.pointer (some ⟨b.m, 0, none⟩)) (.inr ⟨_, rfl⟩) 0)
          have HLS := hid (dlist_ok b M s' R q _ ((HM8b.out.same HF11.out).same HFR.out) HSQ2.out.cells.1 HSQ2.out.cells.2.1 (by have := HSQ2.out.cells; have := pow_pos R.l; omega) HSQ2.out.cells.2.2.2.2.2.2.1 (by have := HSQ2.out.cells; have := HSQ2.out.room; omega) ((HSQ2.out.cb (by omega)).1.more (by omega)))
          rw [HSQ2.out.list] at HLS
          unfold ListPost at HLS
          rw [HLL.out] at HLS
          have HSZ2 := hid (fun (u : World) => size_yes R.a R.l u HSQ2.out.cells.2.1)
          obtain ⟨sz, hsz⟩ : ∃ x, pow R.l = x := ⟨_, rfl⟩
          have HSR := hid (show (m : Int) ≤ sz from by have := HSQ2.out.room; have := HLL.out; omega)
          rw [hsz] at HSZ2
          clear hsz
          obtain ⟨wR, hwR⟩ : ∃ x, w11.alloc (.cells #[.int .i64 R.a, .int .i64 R.l] 79) = x := ⟨_, rfl⟩
          rw [hwR] at HBR HFR HS1 HE1 HS2 HLS
          go_wp2_with fail
          refine HS1.out.mono ?_
          rintro e w' ⟨rfl, rfl⟩
          go_wp2_with fail
          refine HE1.out.mono ?_
          rintro e w' ⟨rfl, rfl⟩
          go_wp2_with fail
          refine HS2.out.mono ?_
          rintro e w' ⟨rfl, rfl⟩
          have a0 := (HBD11.out.same HFR.out).cell (i := 0) rfl
          have a1 := (HBD11.out.same HFR.out).cell (i := 1) rfl
          go_wp2_with fail
          refine HLS.out.mono ?_
          rintro e w12 ⟨A8, cap8, rfl, hO8, hF12⟩
          have HF12 := hid hF12
          have r0 := (HBR.out.same hF12).cell (i := 0) rfl
          have r1 := (HBR.out.same hF12).cell (i := 1) rfl
          clear hO8 hF12 a0 a1 hwR
          go_wp2_with fail
          refine (HSZ2.out _).mono ?_
          rintro e w13 ⟨rfl, hF13⟩
          have HF13 := hid (HF12.out.trans hF13)
          have hsr := HSR.out
          clear hF13
          have tsr : decide ((m : Int) ≤ sz) = true := by simpa using hsr
          go_wp2_with fail
          refine (awake_ok _).mono ?_
          rintro e w14 ⟨rfl, hF14⟩
          go_wp2_with fail
          go_ret
          exact ⟨rfl, ((((HG8b.out.trans HF11.out).trans HFR.out).trans HF13.out).trans hF14).below (Nat.le_refl _) (fun _ hh => hh.elim)⟩
        · have HBP := hid (fun (u : World) (F : Fr (fun _ => False) w3 u) => beg_pop (most := q) 0 (HM3.out.same F))
          have HBS := hid (fun (u : World) (F : Fr (fun _ => False) w3 u) => beg_steal (most := q) 0 (HM3.out.same F))
          go_wp2_with fail
          refine (HBP.out _ (Fr.refl _ _)).mono ?_
          rintro e w4 ⟨o1, q1, c1, rfl, hI1, hF4, ⟨ho1, hq1, hc1⟩, hlt1⟩
          have HF4 := hid hF4
          have HI1 := hid hI1
          have HQ1 := hid (show w3.heap.size ≤ o1 ∧ w3.heap.size ≤ q1 ∧ w3.heap.size ≤ c1 ∧ o1 < w4.heap.size ∧ q1 < w4.heap.size ∧ c1 < w4.heap.size from ⟨ho1, hq1, hc1, hI1.ob.lt, q_lt hI1, hlt1⟩)
          clear hI1 hF4 ho1 hq1 hc1 hlt1 a0 a1
          have a0 := (HBD3.out.same HF4.out).cell (i := 0) rfl
          have a1 := (HBD3.out.same HF4.out).cell (i := 1) rfl
          go_wp2_with fail
          refine (HBS.out _ HF4.out).mono ?_
          rintro e w5 ⟨o2, q2, c2, rfl, hI2, hF5, ⟨ho2, hq2, hc2⟩, hlt2⟩
          have HQ2 := hid (show w4.heap.size ≤ o2 ∧ w4.heap.size ≤ q2 ∧ w4.heap.size ≤ c2 from ⟨ho2, hq2, hc2⟩)
          have HF5 := hid (HF4.out.trans hF5)
          have HI5 := hid (HI1.out.same hF5)
          have HP5 := hid hI2
          clear hI2 hF5 ho2 hq2 hc2 hlt2 a0 a1
          go_wp2_with fail
          refine (pop_nil 0 HI5.out).mono ?_
          rintro e w6 ⟨rfl, hI6, hF6⟩
          have HF6b := hid ((HF3.out.trans HF5.out).since hF6 (fun i hi hlt => by have := HQ1.out; have := HF3.out.size; omega))
          have HI6 := hid hI6
          have HP6 := hid (HP5.out.keep hF6 (by have := HQ1.out; have := HQ2.out; omega) (by have := HQ1.out; have := HQ2.out; omega) (by have := HQ1.out; have := HQ2.out; omega))
          have HM6 := hid ((HM3.out.same HF5.out).keep hF6 (fun k hk hh => by have := HM3.out.own_lt k hk; have := HQ1.out; omega))
          have HBD6 := hid ((HBD3.out.same HF5.out).keep hF6 (fun hh => by have := HBD3.out.lt; have := HQ1.out; omega))
          have HE6 := hid (op_err HI6.out)
          clear hI6 hF6
          go_wp2_with fail
          refine HE6.out.mono ?_
          rintro e w7 ⟨rfl, hF7⟩
          have HF7 := hid hF7
          have HST := hid (op_bad ⟨HP6.out.same hF7, HM6.out.same hF7, by unfold DOp.InR beginOp; simp, fun h => absurd h (by simp [beginOp]), fun h => absurd h (by simp [beginOp]), live_begin 2 0⟩ 3 (.inr (by rw [HSL2.out]; omega)))
          clear hF7
          go_wp2_with fail
          refine HST.out.mono ?_
          rintro e w8 ⟨cp8, hc8, rfl, hI8, hM8, hF8⟩
          have HP8 := hid hI8
          have HM8b := hid hM8
          have HI8 := hid ((HI6.out.same HF7.out).keep hF8 (by
              have := HQ1.out; have := HQ2.out; have := HI6.out.sep
              rintro ((h | h) | h)
              · exact this.bo h
              · omega
              · omega) (by
              have := HQ1.out; have := HQ2.out; have := HI6.out.sep
              rintro ((h | h) | h)
              · exact this.bq h
              · omega
              · omega) (by
              have := HQ1.out; have := HQ2.out; have := HI6.out.sep
              rintro ((h | h) | h)
              · exact this.bc h
              · omega
              · omega))
          have HG8b := hid (fr_op_own (S := fun _ => False) (HF6b.out.trans HF7.out) hF8 (fun k h hlt => by have := HBO.out _ h; have := HLT.out; omega) (by have := HQ2.out; have := HQ1.out; have := HF3.out.size; omega) (by have := HQ2.out; have := HQ1.out; have := HF3.out.size; omega))
          have HBD8 := hid ((HBD6.out.same HF7.out).keep hF8 (by
              have := HBD3.out.lt
              have := HQ1.out; have := HQ2.out
              rintro ((h | h) | h)
              · have := HBO.out _ h; omega
              · omega
              · omega))
          have HE8 := hid (op_err HP8.out)
          clear hc8 hI8 hM8 hF8
          go_wp2_with fail
          refine HE8.out.mono ?_
          rintro e w9 ⟨rfl, hF9⟩
          have HGT := hid (op_got (HP8.out.same hF9) (fun _ h => absurd h (by show ¬ (6 : Nat) = 5; omega)))
          have HF9 := hid hF9
          have HTL := hid (show ((beginOp 2 0).brk 10).tell = 0 from rfl)
          rw [HTL.out] at HGT
          clear hF9
          go_wp2_with fail
          refine HGT.out.mono ?_
          rintro e w10 ⟨rfl, hF10⟩
          have HF10 := hid (HF9.out.trans hF10)
          have HM10 := hid (HM8b.out.same HF10.out)
          have HBD10 := hid (HBD8.out.same HF10.out)
          have HPK := hid (fun (u : World) (F : Fr (fun _ => False) w10 u) => peek_rd b M s' 2 u (HM10.out.same F) (by omega) (by have := HSQ2.out.cells; have := pow_pos R.l; omega))
          have HWD := hid HSQ2.out.cells.1
          rw [HWD.out] at HPK
          have HOF := hid (fun (u : World) => of_word R HSQ2.out.cells.2.1 u)
          obtain ⟨wd2, hwd2⟩ : ∃ x, R.word = x := ⟨_, rfl⟩
          rw [hwd2] at HPK HOF
          clear hF10 hwd2
          have a0 := HBD10.out.cell (i := 0) rfl
          have a1 := HBD10.out.cell (i := 1) rfl
          go_wp2_with fail
          refine (HPK.out _ (Fr.refl _ _)).mono ?_
          rintro e w' ⟨rfl, rfl⟩
          go_wp2_with fail
          refine (HOF.out _).mono ?_
          rintro e w11 ⟨rfl, hF11⟩
          have HF11 := hid (HF10.out.trans hF11)
          have HBD11 := hid (HBD10.out.same hF11)
          clear hF11 a0 a1
          have HBR := hid (Blk.new w11 #[.int .i64 R.a, .int .i64 R.l] 79)
          have HFR := hid (Fr.alloc (fun _ => False) w11 (.cells #[.int .i64 R.a, .int .i64 R.l] 79))
          have HS1 := hid (op_still' ((HI8.out.same HF11.out).same HFR.out) (by show ¬ (6 : Nat) = 0; omega) (by show ¬ (6 : Nat) = 2; omega) (.pointer (some ⟨b.m, 0, none⟩)) (.inr ⟨_, rfl⟩) 0)
          have HE1 := hid (op_err' ((HI8.out.same HF11.out).same HFR.out))
          have HS2 := hid (op_still' ((HP8.out.same HF11.out).same HFR.out) (by show ¬ (6 : Nat) = 0; omega) (by show ¬ (6 : Nat) = 2; omega) (.pointer (some ⟨b.m, 0, none⟩)) (.inr ⟨_, rfl⟩) 0)
          have HLS := hid (dlist_ok b M s' R q _ ((HM8b.out.same HF11.out).same HFR.out) HSQ2.out.cells.1 HSQ2.out.cells.2.1 (by have := HSQ2.out.cells; have := pow_pos R.l; omega) HSQ2.out.cells.2.2.2.2.2.2.1 (by have := HSQ2.out.cells; have := HSQ2.out.room; omega) ((HSQ2.out.cb (by omega)).1.more (by omega)))
          rw [HSQ2.out.list] at HLS
          unfold ListPost at HLS
          rw [HLL.out] at HLS
          have HSZ2 := hid (fun (u : World) => size_yes R.a R.l u HSQ2.out.cells.2.1)
          obtain ⟨sz, hsz⟩ : ∃ x, pow R.l = x := ⟨_, rfl⟩
          have HSR := hid (show (m : Int) ≤ sz from by have := HSQ2.out.room; have := HLL.out; omega)
          rw [hsz] at HSZ2
          clear hsz
          obtain ⟨wR, hwR⟩ : ∃ x, w11.alloc (.cells #[.int .i64 R.a, .int .i64 R.l] 79) = x := ⟨_, rfl⟩
          rw [hwR] at HBR HFR HS1 HE1 HS2 HLS
          go_wp2_with fail
          refine HS1.out.mono ?_
          rintro e w' ⟨rfl, rfl⟩
          go_wp2_with fail
          refine HE1.out.mono ?_
          rintro e w' ⟨rfl, rfl⟩
          go_wp2_with fail
          refine HS2.out.mono ?_
          rintro e w' ⟨rfl, rfl⟩
          have a0 := (HBD11.out.same HFR.out).cell (i := 0) rfl
          have a1 := (HBD11.out.same HFR.out).cell (i := 1) rfl
          go_wp2_with fail
          refine HLS.out.mono ?_
          rintro e w12 ⟨A8, cap8, rfl, hO8, hF12⟩
          have HF12 := hid hF12
          have r0 := (HBR.out.same hF12).cell (i := 0) rfl
          have r1 := (HBR.out.same hF12).cell (i := 1) rfl
          clear hO8 hF12 a0 a1 hwR
          go_wp2_with fail
          refine (HSZ2.out _).mono ?_
          rintro e w13 ⟨rfl, hF13⟩
          have HF13 := hid (HF12.out.trans hF13)
          have hsr := HSR.out
          clear hF13
          have tsr : decide ((m : Int) ≤ sz) = true := by simpa using hsr
          go_wp2_with fail
          refine (awake_ok _).mono ?_
          rintro e w14 ⟨rfl, hF14⟩
          go_wp2_with fail
          go_ret
          exact ⟨rfl, ((((HG8b.out.trans HF11.out).trans HFR.out).trans HF13.out).trans hF14).below (Nat.le_refl _) (fun _ hh => hh.elim)⟩

theorem nilLaw (p q : Int) (A : Option Addr) (n c : Nat) (f : Nat → Nat → Int) (z : Int) (w : World) (hr : Row w A n 1 f) :
    Calls Try.prog 8 #[.agg #[.int .i64 p, .int .i64 q], .slice A n c, .int .i64 z] w fun e w' => e = .returned (.bool true) ∧ Below w.heap.size w w' := by
  by_cases hn : n ≤ 100
  · by_cases h : 0 ≤ p ∧ p ≤ q ∧ q ≤ 8
    · exact nil_good p q A n c f z w hn h.1 h.2.1 h.2.2 hr
    · rcases u1 : decide (p < 0) with _ | _
      · rcases u2 : decide (q < p) with _ | _
        · have u3 : decide (8 < q) = true := by
            simp at u1 u2 ⊢
            omega
          exact nil_bad3 p q A n c f z w hn h u1 u2 u3
        · exact nil_bad2 p q A n c f z w hn h u1 u2
      · exact nil_bad1 p q A n c f z w hn h u1
  · exact nil_big p q A n c f z w (by omega)
end Go.Proofs.Ytecpdhfncmlbaaa
