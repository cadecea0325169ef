/-
  DequeOnce answers true at every input.
-/
import Derived.Test.YtlhpngoplmccjaaOnceP
import Derived.Deep.RegionHeld3
import Derived.Deep.DeepCutAuto
import Derived.Deep.DeepMust
import Derived.Deep.LoopGhost
import Derived.Deep.CutBlock
namespace Go.Proofs.Ytlhpngoplmccjaa
open Go.RowKit
set_option linter.unusedVariables false

def RmRel (wd : World) (N : Nat) (d : Nat) (x k : Value) (wr : World) : Prop := ∃ i : Nat, i ≤ N ∧ d = N + 1 - i ∧ x = .int .i64 (2 ^ i : Nat) ∧ k = .int .i64 i ∧ wd = wr

theorem meas__ {n i : Nat} (h : i < n) : n + 1 - (i + 1) < n + 1 - i := by omega

theorem Try.infob : (Try.prog.info? 4).map (fun i => (i.zero, i.size, i.bytes)) = some (some (.bool false), 1, 1) := by kernel_rfl
theorem Try.infoop : (Try.prog.info? 51).map (fun i => (i.zero, i.size, i.bytes)) = some (some (.pointer none), 1, 8) := by kernel_rfl

theorem made_bls (n : Nat) : madeCells #[.bool false] n = bls (List.replicate n false) := by
  apply Array.ext
  · simp [size_madeCells, bls]
  · intro i h1 h2
    simp [madeCells, bls, Nat.mod_one]

theorem row_at3 {w : World} {a : Option Addr} {len i : Nat} {f : Nat → Nat → Int} (h : Row w a len 3 f) (hi : i < len) :
    ∃ b off, a = some ⟨b, off, none⟩ ∧ (∀ v, Fr (fun _ => False) w v → v.cell? ⟨b, off + i * 3, none⟩ = some (.int .i64 (f i 0)) ∧ v.cell? ⟨b, off + i * 3 + 1, none⟩ = some (.int .i64 (f i 1)) ∧ v.cell? ⟨b, off + i * 3 + 2, none⟩ = some (.int .i64 (f i 2))) := by
  obtain ⟨b, off, ha, hb, hc⟩ := h (by omega)
  have key : ∀ v, Fr (fun _ => False) w v → ∀ j, j < 3 → v.cell? ⟨b, off + i * 3 + j, none⟩ = some (.int .i64 (f i j)) := by
    intro v hf j hj
    have := (hc i j hi hj).1
    rw [← Nat.add_assoc] at this
    rw [← this]
    exact World.cell?_of_block (w := w) (hf.block b hb id)
  exact ⟨b, off, ha, fun v hf => ⟨key v hf 0 (by omega), key v hf 1 (by omega), key v hf 2 (by omega)⟩⟩

theorem gsT (L : List Int) (u : Nat) (x : Int) (j : Nat) (h : u < L.length) : (L.set u x).getD j 0 = if u = j then x else L.getD j 0 := by
  rw [List.getD_eq_getElem?_getD, List.getD_eq_getElem?_getD, List.getElem?_set]
  split
  · rename_i e
    subst e
    simp
  · rfl

theorem LIX.init {most : Int} {M : Mach} {R : Rg} {ops : Nat → DOp} {top : Nat → Int} (n : Nat) (h : SeqI most M R 1 []) : LIX most M ops (fun _ => false) top false 0 (List.replicate (n + 2) false) 1 := by
  obtain ⟨g, hi, d, hI, hn, _⟩ := h.ex
  have hn2 : hi - rd M 0 = 0 := hn
  exact ⟨g, R, hi, hi, hi, d, fun w _ _ hb => (by cases hb), fun _ => ⟨hI, by omega⟩, fun hb => (by cases hb), fun hb => (by cases hb), In.none _ g hi, fun i h1 h2 => by omega, by simp⟩

/-- Late, a thief tells nothing. -/
theorem act_five {op : DOp} {M : Mach} {most : Int} (hl : op.Live) (hin : op.InR) : (op.act most M).1.how = 5 → (op.act most M).1.got = 0 := by
  obtain ⟨kind, nx, x, bo, t, rg, tt, pl, cx, ld, won, how, got, err⟩ := op
  unfold DOp.InR at hin
  unfold DOp.Live at hl
  simp only at hin hl
  subst hl
  obtain ⟨n1, ⟨rfl, n8⟩ | ⟨rfl, n8⟩ | ⟨rfl, n5⟩⟩ := hin
  · have hn : nx = 1 ∨ nx = 2 ∨ nx = 3 ∨ nx = 4 ∨ nx = 5 ∨ nx = 6 ∨ nx = 7 ∨ nx = 8 := by omega
    rcases hn with rfl | rfl | rfl | rfl | rfl | rfl | rfl | rfl
    all_goals (simp [DOp.act, DOp.push1, DOp.push2, DOp.push3, DOp.push4, DOp.push5, DOp.push6, DOp.push7, DOp.push8])
    · by_cases hc : bo - t < (rgOf (rd M 2)).size
      · simp [hc]
      · by_cases hc2 : most ≤ (rgOf (rd M 2)).l
        · simp [hc, hc2]
        · simp [hc, hc2]
    · split <;> simp
  · have hn : nx = 1 ∨ nx = 2 ∨ nx = 3 ∨ nx = 4 ∨ nx = 5 ∨ nx = 6 ∨ nx = 7 ∨ nx = 8 := by omega
    rcases hn with rfl | rfl | rfl | rfl | rfl | rfl | rfl | rfl
    all_goals (simp [DOp.act, DOp.pop1, DOp.pop2, DOp.pop3, DOp.pop4, DOp.pop5, DOp.pop6, DOp.pop7, DOp.pop8])
    · by_cases hc : t < bo - 1
      · simp [hc]
      · simp [hc]
    · split <;> simp
    · cases won <;> simp
  · have hn : nx = 1 ∨ nx = 2 ∨ nx = 3 ∨ nx = 4 ∨ nx = 5 := by omega
    rcases hn with rfl | rfl | rfl | rfl | rfl
    all_goals (simp [DOp.act, DOp.steal1, DOp.steal2, DOp.steal3, DOp.steal4, DOp.steal5])
    · by_cases hc : t < rd M 1
      · simp [hc]
      · simp [hc]
    · by_cases hc : rd M 0 = t
      · simp [hc]
      · simp [hc]

def CtQ (l : List Bool) (w : World) (n : Nat) (d : Nat) (x y : Value) (wr : World) : Prop := ∃ k, k ≤ n ∧ d = n + 1 - k ∧ x = .int .i64 (cb l k) ∧ y = .int .i64 k ∧ w = wr

/-- count turns nothing. -/
theorem count_q (g n c : Nat) (l : List Bool) (w : World) (hB : BoolR w g l) (hn : n ≤ l.length) (hl : n ≤ 1000) :
    Calls Try.prog 29 #[.slice (some ⟨g, 0, none⟩) n c] w fun e w' => e = .returned (.int .i64 (cb l n)) ∧ w = w' := by
  have HB := hid hB
  have HN := hid hn
  clear hB hn
  go_enter Try.func29, Try.ntmps29
  go_wp2_with fail
  go_loopg [3, 4] (n + 1) (fun d x y wr => CtQ l w n d x y wr)
  case atStart => exact ⟨0, by omega, by omega, rfl, rfl, rfl⟩
  case round =>
    obtain ⟨k, hk, rfl, rfl, rfl, hwr⟩ := hrel
    obtain ⟨ws, hws⟩ : ∃ ws, ws = wr := ⟨_, rfl⟩
    rw [← hws] at hwr ⊢
    clear hws
    subst hwr
    have HK := hid hk
    clear hk
    have hcb := cb_le l k
    obtain ⟨z, hz⟩ : ∃ z, cb l k = z := ⟨_, rfl⟩
    by_cases hlt : k < n
    · have c1 := HB.out.2 k (by have := HN.out; omega)
      have hlt2 : (k : Int) < n := by omega
      have hs : cb l (k + 1) = z + if l.getD k false then 1 else 0 := by rw [cb, hz]
      have HSS := hid hs
      rw [hz] at hcb ⊢
      clear hs hz
      rcases hb : l.getD k false with _ | _
      · rw [hb] at c1 HSS
        have HS2 := hid (show cb l (k + 1) = z from by have := HSS.out; simpa using this)
        clear hb
        go_wp2_with fail
        go_roundg (n + 1 - (k + 1))
        case rel => exact ⟨k + 1, by omega, rfl, by rw [HS2.out], by go_num, rfl⟩
        case measure => omega
      · rw [hb] at c1 HSS
        have HS2 := hid (show cb l (k + 1) = z + 1 from by have := HSS.out; simpa using this)
        clear hb
        go_wp2_with fail
        go_roundg (n + 1 - (k + 1))
        case rel => exact ⟨k + 1, by omega, rfl, by rw [HS2.out]; go_num, by go_num, rfl⟩
        case measure => omega
    · obtain rfl : k = n := by have := HK.out; omega
      go_wp2_with fail
      go_ret
      exact ⟨rfl, rfl⟩

/-- How all stands, in a round. -/
def OnS (w0 : World) (b : MB) (bd bi bo bb bt : Nat) (q : Int) (n i nxt : Nat) (pushes : Bool) (had : Nat) (M : Mach) (s : List Int) (inn B : List Bool) (T : List Int) (A : Nat → Bool) (O Q C : Nat → Nat) (ops : Nat → DOp) (tp : Nat → Int) (w : World) : Prop :=
  OnM w0 b bd bi bo bb bt q (1000 + i) M s inn B T A O Q C ops w ∧ LIX q M ops A tp pushes had inn nxt ∧ (∀ v, v < 4 → B.getD v false = A v) ∧ (∀ v, v < 4 → T.getD v 0 = tp v) ∧ inn.length = n + 2 ∧ nxt ≤ i + 1

def OnRel (w0 : World) (b : MB) (bd bi bo bb bt : Nat) (q : Int) (n : Nat) (d : Nat) (z12 z16 z17 z18 : Value) (w : World) : Prop :=
  ∃ (i nxt had : Nat) (pushes : Bool) (M : Mach) (s : List Int) (inn B : List Bool) (T : List Int) (A : Nat → Bool) (O Q C : Nat → Nat) (ops : Nat → DOp) (tp : Nat → Int), i ≤ n ∧ d = n + 1 - i ∧ z12 = .int .i64 nxt ∧ z16 = .bool pushes ∧ z17 = .int .i64 had ∧ z18 = .int .i64 i ∧ OnS w0 b bd bi bo bb bt q n i nxt pushes had M s inn B T A O Q C ops tp w

def CameO (w0 : World) (b : MB) (bd bi bo bb bt : Nat) (q : Int) (n i nxt u : Nat) (z16 z17 : Value) (w : World) : Prop :=
  ∃ (had : Nat) (pushes : Bool) (M : Mach) (s : List Int) (inn B : List Bool) (T : List Int) (A : Nat → Bool) (O Q C : Nat → Nat) (ops : Nat → DOp) (tp : Nat → Int), z16 = .bool pushes ∧ z17 = .int .i64 had ∧ OnS w0 b bd bi bo bb bt q n i nxt pushes had M s inn B T A O Q C ops tp w ∧ A u = true

def StepR (w0 : World) (b : MB) (bd bi bo bb bt : Nat) (q K : Int) (M : Mach) (s : List Int) (inn B : List Bool) (T : List Int) (A : Nat → Bool) (O Q : Nat → Nat) (ops : Nat → DOp) (u : Nat) (w' : World) : Prop :=
  (∃ c2, IsOp w' b (O u) (Q u) c2 q ((ops u).act q M).1)
      ∧ w'.cell? ⟨bo, u, none⟩ = some (.pointer (some ⟨O u, 0, none⟩))
      ∧ ((((ops u).act q M).1.how = 0 ∨ ((ops u).act q M).1.how = 2) → ∃ C', OnM w0 b bd bi bo bb bt q (K + 1) ((ops u).act q M).2 (stp s u) inn B T A O Q C' (upd ops u ((ops u).act q M).1) w')
      ∧ (∃ C', OnM w0 b bd bi bo bb bt q (K + 1) ((ops u).act q M).2 (stp s u) inn B T (upd A u false) O Q C' (upd ops u ((ops u).act q M).1) w')

theorem OnM.calls {w0 w : World} {b : MB} {bd bi bo bb bt : Nat} {q K : Int} {M : Mach} {s : List Int} {inn B : List Bool} {T : List Int} {A : Nat → Bool} {O Q C : Nat → Nat} {ops : Nat → DOp} (E : Env5 w0.heap.size b bd bi bo bb bt) (h : OnM w0 b bd bi bo bb bt q K M s inn B T A O Q C ops w) (u : Nat) (hu : u < 4) (ha : A u = true) (hK : K ≤ 90000) (hs : (ops u).safe M) (k : Int) (hk : (((ops u).act q M).1.how : Int) = k) :
    Calls Try.prog 18 #[.pointer (some ⟨O u, 0, none⟩), .pointer (some ⟨b.m, 0, none⟩), .int .i64 u] w fun e w' => e = .returned (.int .i64 k) ∧ StepR w0 b bd bi bo bb bt q K M s inn B T A O Q ops u w' := by
  obtain ⟨h1, h2, h3⟩ := h.io u hu ha
  refine (op_step ⟨h1, h.hM, by rw [h.sl]; omega, hs, h3.more (by omega), h2⟩).mono ?_
  intro e w' P
  obtain ⟨p1, p2⟩ := h.step E u hu ha hK hs P
  exact ⟨by rw [p1, hk], p2⟩

set_option maxRecDepth 100000 in
set_option maxHeartbeats 800000 in
theorem once_no (p q : Int) (A : Option Addr) (n c : Nat) (w : World) (h : ¬ (0 ≤ p ∧ p ≤ q ∧ q ≤ 8 ∧ n ≤ 400)) :
    Calls Try.prog 4 #[.agg #[.int .i64 p, .int .i64 q], .slice A n c] w fun e w' => e = .returned (.bool true) ∧ Below w.heap.size w w' := by
  have H := hid h
  clear h
  rcases ht0 : decide (p < 0) with _ | _
  rotate_left 1
  · clear H
    go_enter Try.func4, Try.ntmps4
    go_wp2_with fail
    refine (awake_ok _).mono ?_
    rintro e w9 ⟨rfl, hF9⟩
    go_wp2_with fail
    go_ret
    exact ⟨rfl, ((Fr.alloc (fun _ => False) _ _).trans hF9).below (Nat.le_refl _) (fun _ hh => hh.elim)⟩
  rcases ht1 : decide (q < p) with _ | _
  rotate_left 1
  · clear H
    go_enter Try.func4, Try.ntmps4
    go_wp2_with fail
    refine (awake_ok _).mono ?_
    rintro e w9 ⟨rfl, hF9⟩
    go_wp2_with fail
    go_ret
    exact ⟨rfl, ((Fr.alloc (fun _ => False) _ _).trans hF9).below (Nat.le_refl _) (fun _ hh => hh.elim)⟩
  rcases ht2 : decide (8 < q) with _ | _
  rotate_left 1
  · clear H
    go_enter Try.func4, Try.ntmps4
    go_wp2_with fail
    refine (awake_ok _).mono ?_
    rintro e w9 ⟨rfl, hF9⟩
    go_wp2_with fail
    go_ret
    exact ⟨rfl, ((Fr.alloc (fun _ => False) _ _).trans hF9).below (Nat.le_refl _) (fun _ hh => hh.elim)⟩
  rcases ht3 : decide ((400 : Int) < (n : Int)) with _ | _
  rotate_left 1
  · clear H
    go_enter Try.func4, Try.ntmps4
    go_wp2_with fail
    refine (awake_ok _).mono ?_
    rintro e w9 ⟨rfl, hF9⟩
    go_wp2_with fail
    go_ret
    exact ⟨rfl, ((Fr.alloc (fun _ => False) _ _).trans hF9).below (Nat.le_refl _) (fun _ hh => hh.elim)⟩
  exfalso
  have := H.out
  simp only [decide_eq_false_iff_not] at ht0 ht1 ht2 ht3
  omega

set_option maxRecDepth 100000 in
set_option maxHeartbeats 20000000 in
theorem once_yes (p q : Int) (A : Option Addr) (n c : Nat) (f : Nat → Nat → Int) (w : World) (hp0 : 0 ≤ p) (hpq : p ≤ q) (hq8 : q ≤ 8) (hn : n ≤ 400) (hr : Row w A n 3 f) :
    Calls Try.prog 4 #[.agg #[.int .i64 p, .int .i64 q], .slice A n c] w fun e w' => e = .returned (.bool true) ∧ Below w.heap.size w w' := by
  have HROW := hid hr
  have HNN := hid hn
  clear hr
  have HSQ := hid (new_seq [] p q hp0 hpq hq8)
  have t1 : decide (p < 0) = false := by simp; omega
  have t2 : decide (q < p) = false := by simp; omega
  have t3 : decide (8 < q) = false := by simp; omega
  have t4 : decide ((400 : Int) < (n : Int)) = false := by simp; omega
  go_enter Try.func4, Try.ntmps4
  go_wp2_with fail
  refine (new_ok 600 4 _ (by omega) (by omega) (by omega) (by omega)).mono ?_
  rintro e w1 ⟨b, rfl, hM, hF, hown⟩
  have HOWN := hid hown
  have HM1 := hid (show IsM w1 b (MO ⟨List.replicate 600 0, 0, []⟩ (List.replicate 5 0)) from hM)
  have HBx := hid ((Blk.new w #[.int .i64 p, .int .i64 q] 22).same hF)
  have HF1 := hid ((Fr.alloc (fun _ => False) w (.cells #[.int .i64 p, .int .i64 q] 22)).trans hF)
  have HBO := hid (show ∀ k, b.own k → w.heap.size < k from fun k hk => by have := hown k hk; simp at this; omega)
  clear hM hF hown
  have x0 := HBx.out.cell (i := 0) rfl
  have x1 := HBx.out.cell (i := 1) rfl
  go_wp2_with fail
  refine (dnew_ok b _ _ 4 4 p q _ HM1.out rfl rfl (by simp) (by omega) (by omega) (by omega) (by have := pow_le p (by omega); rw [List.length_replicate]; omega)).mono ?_
  rintro e w2 ⟨rfl, hM, hF⟩
  have HF2 := hid (HF1.out.since hF (fun i hi hlt => by have := HBO.out i hi; omega))
  have HBx2 := hid (HBx.out.keep hF (fun hh => by have := HBO.out _ hh; omega))
  obtain ⟨s0, hs0⟩ : ∃ s0, stp (stp (List.replicate 5 0) 4) 4 = s0 := ⟨_, rfl⟩
  have HSL := hid (show s0.length = 5 from by rw [← hs0]; decide +kernel)
  have HS0 := hid (show ∀ j, j < 4 → s0.getD j 0 = 0 from by rw [← hs0]; decide +kernel)
  rw [hs0] at hM
  have HM2 := hid hM
  have HOL := hid (show ∀ k, b.own k → k < w2.heap.size from hM.own_lt)
  clear hM hF hs0 x0 x1
  have HBd := hid (Blk.new w2 #[.int .i64 0, .int .i64 q] 34)
  have HMd := hid (HM2.out.same (Fr.alloc _ w2 (.cells #[.int .i64 0, .int .i64 q] 34)))
  have HFd := hid (HF2.out.trans (Fr.alloc _ w2 (.cells #[.int .i64 0, .int .i64 q] 34)))
  have HBxd := hid (HBx2.out.same (Fr.alloc _ w2 (.cells #[.int .i64 0, .int .i64 q] 34)))
  obtain ⟨wd, hwd⟩ : ∃ wd, w2.alloc (.cells #[.int .i64 0, .int .i64 q] 34) = wd := ⟨_, rfl⟩
  have HSZ := hid (show wd.heap.size = w2.heap.size + 1 from by rw [← hwd]; simp)
  have HWS := hid (show w.heap.size < w2.heap.size from HBx2.out.lt)
  rw [hwd] at HBd HMd HFd HBxd
  have x0 := HBxd.out.cell (i := 0) rfl
  have x1 := HBxd.out.cell (i := 1) rfl
  have a0 := HBd.out.cell (i := 0) rfl
  have a1 := HBd.out.cell (i := 1) rfl
  go_wp2_with fail
  clear hwd
  obtain ⟨N, hN⟩ := Int.eq_ofNat_of_zero_le (show 0 ≤ q by omega)
  have HNN := hid hN
  have hN8 : N ≤ 8 := by omega
  rw [hN] at x1
  clear hN
  go_loopg [9, 10] (N + 1) (fun d x k wr => RmRel wd N d x k wr)
  case atStart => exact ⟨0, by omega, by omega, rfl, rfl, rfl⟩
  case round =>
    obtain ⟨i, hi, rfl, rfl, rfl, hwr⟩ := hrel
    subst hwr
    by_cases hlt : i < N
    · have hp := Nat.pow_le_pow_right (n := 2) (by omega) (show i ≤ 8 by omega)
      obtain ⟨z, hz⟩ : ∃ z, 2 ^ i = z := ⟨_, rfl⟩
      have HZ := hid hz
      rw [hz] at hp ⊢
      have hlt2 : (i : Int) < N := by omega
      clear hz
      go_wp2_with fail
      go_roundg (N + 1 - (i + 1))
      case rel => exact ⟨i + 1, by omega, rfl, by rw [Nat.pow_succ, HZ.out]; go_num, by go_num, rfl⟩
      case measure => omega
    · obtain rfl : i = N := by omega
      have HRM := hid (show ((2 ^ i : Nat) : Int) = pow q from by unfold pow; rw [HNN.out]; simp)
      obtain ⟨rm, hrm⟩ : ∃ rm, (2 ^ i : Nat) = rm := ⟨_, rfl⟩
      rw [hrm] at HRM ⊢
      have hrm8 : (rm : Int) ≤ 256 := by have := pow_le q (by omega); have := HRM.out; omega
      clear hrm hlt hi
      have m1 := run_make_row' (P := Try.prog) 67 4 (.bool false) 1 Try.underlying67 Try.infob rfl .i64 .i64 (n + 2) (by omega) (by omega)
      rw [show ((n + 2 : Nat) : Int) = (n : Int) + 2 by omega] at m1
      have m2 := run_make_row' (P := Try.prog) 40 51 (.pointer none) 8 Try.underlying40 Try.infoop rfl .i64 .i64 4 (by omega) (by omega)
      have m3 := run_make_row' (P := Try.prog) 67 4 (.bool false) 1 Try.underlying67 Try.infob rfl .i64 .i64 4 (by omega) (by omega)
      have m4 := run_make_row' (P := Try.prog) 30 2 (.int .i64 0) 8 Try.underlying30 Try.infol rfl .i64 .i64 4 (by omega) (by omega)
      rw [show ((4 : Nat) : Int) = 4 from rfl] at m2 m3 m4
      have hlt2 : ¬ (i : Int) < (i : Int) := by omega
      go_wp2_with fail
      clear m1 m2 m3 m4 hlt2
      obtain ⟨w5, hw5⟩ : ∃ w5, (((wd.alloc (.cells (madeCells #[.bool false] (n + 2)) 4)).alloc (.cells (madeCells #[.pointer none] 4) 51)).alloc (.cells (madeCells #[.bool false] 4) 4)).alloc (.cells (madeCells #[.int .i64 0] 4) 2) = w5 := ⟨_, rfl⟩
      obtain ⟨bd, hbd⟩ : ∃ bd, w2.heap.size = bd := ⟨_, rfl⟩
      obtain ⟨bi, hbi⟩ : ∃ x, wd.heap.size = x := ⟨_, rfl⟩
      obtain ⟨bo, hbo⟩ : ∃ x, bi + 1 = x := ⟨_, rfl⟩
      obtain ⟨bb, hbb⟩ : ∃ x, bo + 1 = x := ⟨_, rfl⟩
      obtain ⟨bt, hbt⟩ : ∃ x, bb + 1 = x := ⟨_, rfl⟩
      have HI5 := hid (show Blk w5 bi (bls (List.replicate (n + 2) false)) from by rw [← hw5, made_bls]; exact ((((Blk.new _ _ _).at hbi).alloc _).alloc _).alloc _)
      have HO5 := hid (show Blk w5 bo (madeCells #[.pointer none] 4) from by rw [← hw5]; exact (((Blk.new _ _ _).at (by simp; omega)).alloc _).alloc _)
      have HB5 := hid (show Blk w5 bb (bls (List.replicate 4 false)) from by rw [← hw5, made_bls 4]; exact ((Blk.new _ _ _).at (by simp; omega)).alloc _)
      have HT5 := hid (show Blk w5 bt (ints (List.replicate 4 0)) from by rw [← hw5, made_ints]; exact (Blk.new _ _ _).at (by simp; omega))
      have hF : Fr (fun _ => False) wd w5 := by rw [← hw5]; exact (((Fr.alloc _ _ _).trans (Fr.alloc _ _ _)).trans (Fr.alloc _ _ _)).trans (Fr.alloc _ _ _)
      have HE := hid (show Env5 w.heap.size b bd bi bo bb bt from ⟨fun k hk => ⟨by have := HBO.out k hk; omega, by have := HOL.out k hk; omega⟩, by have := HWS.out; omega, by have := HSZ.out; omega, by omega, by omega, by omega⟩)
      have HS5 := hid (show OnS w b bd bi bo bb bt q n 0 1 false 0 _ s0 (List.replicate (n + 2) false) (List.replicate 4 false) (List.replicate 4 0) (fun _ => false) (fun _ => 0) (fun _ => 0) (fun _ => 0) (fun _ => beginOp 2 0) (fun _ => 0) w5 from
        ⟨⟨HMd.out.same hF, (HBd.out.at hbd).same hF, HI5.out, ⟨_, HO5.out, by rw [size_madeCells], fun v _ hh => (by cases hh)⟩, HB5.out, HT5.out, by simp, by simp, HSL.out, by omega, fun j hj => by rw [HS0.out j hj]; omega, by simpa using (HSQ.out.cb (by omega)).1, (HSQ.out.cb (by omega)).2, fun v _ hh => (by cases hh), fun v _ hh => (by cases hh), fun u v _ _ _ hh => (by cases hh), HFd.out.trans hF⟩,
          LIX.init n HSQ.out, fun v hv => by rw [List.getD_eq_getElem?_getD, List.getElem?_replicate]; split <;> rfl, fun v hv => by rw [List.getD_eq_getElem?_getD, List.getElem?_replicate]; split <;> rfl, by simp, by omega⟩)
      rw [hw5, hbd, hbi, hbo, hbb, hbt]
      clear hw5 hbd hbi hbo hbb hbt hF HI5 HO5 HB5 HT5 HSQ HSL HS0 HOL HSZ HWS HBd HMd HFd HBxd HBx HF1 HBO HF2 HBx2 HM2 HOWN HM1
      go_loopg [12, 16, 17, 18] (n + 1) (fun d z12 z16 z17 z18 wr => OnRel w b bd bi bo bb bt q n d z12 z16 z17 z18 wr)
      case atStart => exact ⟨0, 1, 0, false, _, _, _, _, _, _, _, _, _, _, _, Nat.zero_le _, by omega, rfl, rfl, rfl, rfl, HS5.out⟩
      case round =>
        clear HS5
        obtain ⟨i, nxt, had, pushes, M, s, inn, B, T, A, O, Q, C, ops, tp, hi, rfl, rfl, rfl, rfl, rfl, hS⟩ := hrel
        have HS := hid hS
        clear hS
        have HM := hid HS.out.1
        by_cases hlt : i < n
        · have hlt2 : (i : Int) < n := by omega
          obtain ⟨gl, ol, rfl, hcl⟩ := row_at3 HROW.out hlt
          obtain ⟨ka, hka⟩ : ∃ X, f i 0 = X := ⟨_, rfl⟩
          obtain ⟨kd, hkd⟩ : ∃ X, f i 1 = X := ⟨_, rfl⟩
          obtain ⟨kx, hkx⟩ : ∃ X, f i 2 = X := ⟨_, rfl⟩
          rw [hka, hkd, hkx] at hcl
          have HCL := hid hcl
          clear hka hkd hkx hcl
          obtain ⟨k0, k1, k2⟩ := HCL.out _ HM.out.hF
          have h3 := Int.emod_nonneg ka (show (4 : Int) ≠ 0 by omega)
          have h4 := Int.emod_lt_of_pos ka (show 0 < (4 : Int) by omega)
          obtain ⟨u, hu⟩ := Int.eq_ofNat_of_zero_le h3
          rw [hu] at h4
          have HU4 := hid (show u < 4 from by omega)
          have HWHO := hid (fun (v : World) => hu ▸ who_ok ka kd kx v)
          have HIN := hid hi
          clear h3 h4 hu hi
          go_wp2_with fail
          refine (HWHO.out _).mono ?_
          rintro e w3 ⟨rfl, hF⟩
          have HS3 := hid (show OnS w b bd bi bo bb bt q n i nxt pushes had M s inn B T A O Q C ops tp w3 from ⟨HS.out.1.same hF, HS.out.2⟩)
          clear hF HS HM k0 k1 k2 HWHO
          have HM := hid HS3.out.1
          have u4 := HU4.out
          have bu0 : (0 : Int) ≤ (u : Int) := by omega
          have bu4 : (u : Int) < 4 := by omega
          have cb0 := HM.out.hb.cell (bls_at B u (by rw [HM.out.bl]; exact u4))
          have HBA := hid (HS3.out.2.2.1 u u4)
          rw [HBA.out] at cb0
          have HGO := hid HNN.out
          go_upto_if 93 with fail
          go_cut [16, 17] from 84 to 130 (fun z16 z17 wx => CameO w b bd bi bo bb bt q n i nxt u z16 z17 wx)
          case first =>
            rcases hau : A u with _ | _
            rotate_left 1
            · rw [hau] at cb0
              have HAU := hid hau
              clear hau
              go_wp2_with fail
              go_meet
              exact ⟨had, pushes, M, s, inn, B, T, A, O, Q, C, ops, tp, rfl, rfl, HS3.out, HAU.out⟩
            · rw [hau] at cb0
              have HAU := hid hau
              clear hau
              have fb := HM.out.hb.frozen u
              have HM1 := hid (HM.out.setB HE.out u true)
              go_upto_region 25 with fail
              obtain ⟨w4, hw4⟩ : ∃ w4, w3.setCell ⟨bb, u, none⟩ (.bool true) = w4 := ⟨_, rfl⟩
              rw [hw4] at HM1 ⊢
              clear hw4 cb0 fb
              have cd := HM1.out.hd.cell (i := 0) rfl
              have HPK := hid (fun (v : World) (F : Fr (fun _ => False) w4 v) => peek_rd b M s 0 v (HM1.out.hM.same F) (by omega) (by have := HS3.out.2.1.used; omega))
              go_wp2_with fail
              refine (HPK.out _ (Fr.refl _ _)).mono ?_
              rintro e w' ⟨rfl, rfl⟩
              clear cd
              obtain ⟨pk, hpk⟩ : ∃ pk, rd M 0 = pk := ⟨_, rfl⟩
              have HPKV := hid hpk
              rw [hpk]
              clear hpk
              have ct : ∃ v, w4.cell? ⟨bt, u, none⟩ = some v := ⟨_, HM1.out.ht.cell (ints_at T u (by rw [HM1.out.tl]; exact u4))⟩
              obtain ⟨v1, ct⟩ := ct
              have ft := HM1.out.ht.frozen u
              have HM2 := hid (HM1.out.setT HE.out u pk)
              go_upto_region 26 with fail
              obtain ⟨w5, hw5⟩ : ∃ w5, w4.setCell ⟨bt, u, none⟩ (.int .i64 pk) = w5 := ⟨_, rfl⟩
              rw [hw5] at HM2 ⊢
              clear hw5 ct ft
              have AB := hid (show ∀ v, v < 4 → (B.set u true).getD v false = upd A u true v from fun v hv => by
                rw [getD_setB _ _ _ _ (by rw [HM.out.bl]; exact HU4.out)]
                unfold upd
                by_cases h : u = v
                · rw [if_pos h, if_pos h.symm]
                · rw [if_neg h, if_neg (fun hh => h hh.symm)]
                  exact HS3.out.2.2.1 v hv)
              have TT := hid (show ∀ v, v < 4 → (T.set u pk).getD v 0 = upd tp u pk v from fun v hv => by
                rw [gsT _ _ _ _ (by rw [HM.out.tl]; exact HU4.out)]
                unfold upd
                by_cases h : u = v
                · rw [if_pos h, if_pos h.symm]
                · rw [if_neg h, if_neg (fun hh => h hh.symm)]
                  exact HS3.out.2.2.2.1 v hv)
              have pd := HM2.out.hd.cell (i := 0) rfl
              have pe := HM2.out.hd.cell (i := 1) rfl
              by_cases hu0 : u = 0
              · have tu3 : ¬ (0 : Int) < (u : Int) := by omega
                have HU0 := hid hu0
                clear hu0
                obtain ⟨k0, k1, k2⟩ := HCL.out _ HM2.out.hF
                rcases hd2 : (Int.tmod kd 2 == 0) with _ | _
                · go_wp2_with fail
                  refine (beg_pop (most := q) 0 HM2.out.hM).mono ?_
                  rintro e w6 ⟨o1, q1, c1, rfl, hI1, hF6, hl6, hlt6⟩
                  have HI1 := hid hI1
                  have HF6 := hid hF6
                  have HL6 := hid (And.intro hl6 hlt6)
                  clear hI1 hF6 hl6 hlt6 k0 k1 k2 pd pe
                  have HM3 := hid (HM2.out.same HF6.out)
                  obtain ⟨vo, co, fo⟩ : ∃ v, w6.cell? ⟨bo, u, none⟩ = some v ∧ w6.frozen? ⟨bo, u, none⟩ = false := by
                    obtain ⟨cc, d1, d2, d3⟩ := HM3.out.ho
                    exact ⟨_, d1.cell (i := u) (Array.getElem?_eq_getElem (by omega)), d1.frozen u⟩
                  have HM4 := hid (HM2.out.born HE.out u HU4.out HI1.out HF6.out HL6.out.1 HL6.out.2)
                  go_wp2_with fail
                  go_meet
                  refine ⟨had, false, M, s, inn, B.set u true, T.set u pk, upd A u true, _, _, _, _, upd tp u pk, rfl, rfl, ⟨HM4.out, ?_, AB.out, TT.out, HS3.out.2.2.2.2⟩, upd_same _ _ _⟩
                  have hh := HS3.out.2.1.pop (by rw [← HU0.out]; exact HAU.out) pk had
                  rw [HU0.out]
                  exact hh
                · go_wp2_with fail
                  refine (beg_push (most := q) nxt HM2.out.hM).mono ?_
                  rintro e w6 ⟨o1, q1, c1, rfl, hI1, hF6, hl6, hlt6⟩
                  have HI1 := hid hI1
                  have HF6 := hid hF6
                  have HL6 := hid (And.intro hl6 hlt6)
                  clear hI1 hF6 hl6 hlt6 k0 k1 k2 pd pe
                  have HM3 := hid (HM2.out.same HF6.out)
                  obtain ⟨vo, co, fo⟩ : ∃ v, w6.cell? ⟨bo, u, none⟩ = some v ∧ w6.frozen? ⟨bo, u, none⟩ = false := by
                    obtain ⟨cc, d1, d2, d3⟩ := HM3.out.ho
                    exact ⟨_, d1.cell (i := u) (Array.getElem?_eq_getElem (by omega)), d1.frozen u⟩
                  have HM4 := hid (HM2.out.born HE.out u HU4.out HI1.out HF6.out HL6.out.1 HL6.out.2)
                  go_upto_region 31 with fail
                  obtain ⟨w7, hw7⟩ : ∃ w7, w6.setCell ⟨bo, u, none⟩ (.pointer (some ⟨o1, 0, none⟩)) = w7 := ⟨_, rfl⟩
                  rw [hw7] at HM4 ⊢
                  clear hw7 co fo
                  have HCT := hid (show Calls Try.prog 29 #[.slice (some ⟨bi, 0, none⟩) (n + 2) (n + 2)] w7 _ from count_ok bi (n + 2) (n + 2) inn w7 (BoolR.of HM4.out.hi) (by rw [HS3.out.2.2.2.2.1]; exact Nat.le_refl _) (by have := HNN.out; omega))
                  go_wp2_with fail
                  refine HCT.out.mono ?_
                  rintro e w8 ⟨rfl, hF8⟩
                  have HM5 := hid (HM4.out.same hF8)
                  clear hF8
                  go_wp2_with fail
                  go_meet
                  refine ⟨cb inn (n + 2), true, M, s, inn, B.set u true, T.set u pk, upd A u true, _, _, _, _, upd tp u pk, rfl, rfl, ⟨HM5.out, ?_, AB.out, TT.out, HS3.out.2.2.2.2⟩, upd_same _ _ _⟩
                  have hh := HS3.out.2.1.push (by rw [← HU0.out]; exact HAU.out)
                  rw [HPKV.out, HS3.out.2.2.2.2.1] at hh
                  rw [HU0.out]
                  exact hh
              · have tu3 : (0 : Int) < (u : Int) := by omega
                have HU0 := hid hu0
                clear hu0
                go_wp2_with fail
                refine (beg_steal (most := q) 0 HM2.out.hM).mono ?_
                rintro e w6 ⟨o1, q1, c1, rfl, hI1, hF6, hl6, hlt6⟩
                have HI1 := hid hI1
                have HF6 := hid hF6
                have HL6 := hid (And.intro hl6 hlt6)
                clear hI1 hF6 hl6 hlt6 pd pe
                have HM3 := hid (HM2.out.same HF6.out)
                obtain ⟨vo, co, fo⟩ : ∃ v, w6.cell? ⟨bo, u, none⟩ = some v ∧ w6.frozen? ⟨bo, u, none⟩ = false := by
                  obtain ⟨cc, d1, d2, d3⟩ := HM3.out.ho
                  exact ⟨_, d1.cell (i := u) (Array.getElem?_eq_getElem (by omega)), d1.frozen u⟩
                have HM4 := hid (HM2.out.born HE.out u HU4.out HI1.out HF6.out HL6.out.1 HL6.out.2)
                go_wp2_with fail
                go_meet
                refine ⟨had, pushes, M, s, inn, B.set u true, T.set u pk, upd A u true, _, _, _, _, upd tp u pk, rfl, rfl, ⟨HM4.out, ?_, AB.out, TT.out, HS3.out.2.2.2.2⟩, upd_same _ _ _⟩
                have hh := HS3.out.2.1.steal u HU0.out
                rw [HPKV.out] at hh
                exact hh
          case rest =>
            obtain ⟨had, pushes, M, s, inn, B, T, A, O, Q, C, ops, tp, rfl, rfl, hS, hau⟩ := hcut
            clear HM HS3 HBA cb0
            have HS := hid hS
            have HAU := hid hau
            clear hS hau
            obtain ⟨wy, hwy⟩ : ∃ wy, wy = wc := ⟨_, rfl⟩
            rw [← hwy] at HS ⊢
            clear hwy
            have HM := hid HS.out.1
            have HL := hid HS.out.2.1
            have HSF := hid (HL.out.safe u HU4.out HAU.out)
            have HLV := hid (HM.out.io u HU4.out HAU.out).2.1
            obtain ⟨su, hsu⟩ : ∃ su, s.getD u 0 = su := ⟨_, rfl⟩
            have HSUV := hid hsu
            have HSB := hid (show 0 ≤ su ∧ su ≤ 2000 from by have h1 := HM.out.sb u HU4.out; rw [hsu] at h1; have := HNN.out; have := HIN.out; omega)
            have HSU := hid (show Calls Try.prog 24 #[.pointer (some ⟨b.m, 0, none⟩), .int .i64 u] wy (fun e w' => e = .returned (.int .i64 su) ∧ wy = w') from by
              have h1 := steps_in b (MO M s) u wy HM.out.hM (by show u < s.length; rw [HM.out.sl]; have := HU4.out; omega)
              have h2 : (MO M s).steps.getD u 0 = su := hsu
              rw [h2] at h1
              exact h1)
            clear hsu
            have sb1 := HSB.out.1
            have sb2 := HSB.out.2
            have co : wy.cell? ⟨bo, u, none⟩ = some (.pointer (some ⟨O u, 0, none⟩)) := by
              obtain ⟨c, c1, c2, c3⟩ := HM.out.ho
              exact c1.cell (c3 u HU4.out HAU.out)
            have HKK := hid (show (1000 : Int) + (i : Int) + 1 = 1000 + ((i + 1 : Nat) : Int) from by omega)
            rcases HL.out.out u HU4.out HAU.out (by rw [HS.out.2.2.2.2.1]; have := HS.out.2.2.2.2.2; have := HIN.out; omega) with ⟨h1, h2⟩ | ⟨h1, h2, h3, h4⟩ | ⟨h1, h2, h3⟩ | ⟨h1, h2, h3, h4, h5⟩ | ⟨h1, h2, h3, h4⟩ | ⟨h1, h2, h3, h4, h5⟩ | ⟨h1, h2, nn, h3, h4, h5, h6, h7, h8, h9⟩
            · as_aux_lemma =>
                have HOUT := hid h1
                have HLf := hid h2
                clear h1 h2
                have HST := hid (HM.out.calls HE.out u HU4.out HAU.out (by have := HNN.out; have := HIN.out; omega) HSF.out 0 (by rw [HOUT.out]; rfl))
                go_wp2_with fail
                refine HSU.out.mono ?_
                rintro e w' ⟨rfl, rfl⟩
                go_wp2_with fail
                refine HST.out.mono ?_
                rintro e w7 ⟨rfl, hRes⟩
                have hOut := HOUT.out
                obtain ⟨c9, hGo⟩ := hRes.1
                have hco := hRes.2.1
                obtain ⟨C2, hM7⟩ := hRes.2.2.1 (by rw [hOut]; omega)
                have HM7 := hid hM7
                have HGO2 := hid (op_got' hGo (fun _ h5 => act_five HLV.out HSF.out.2.1 h5))
                obtain ⟨gt, hgt⟩ : ∃ gt, DOp.tell ((ops u).act q M).1 = gt := ⟨_, rfl⟩
                have HGT := hid hgt
                rw [hgt] at HGO2
                clear hRes hOut hGo hM7 HST hgt co
                have HSU2 := hid (show Calls Try.prog 24 #[.pointer (some ⟨b.m, 0, none⟩), .int .i64 u] w7 (fun e w' => e = .returned (.int .i64 (su + 1)) ∧ w7 = w') from by
                  have h1 := steps_in b (MO ((ops u).act q M).2 (stp s u)) u w7 HM7.out.hM (by show u < (stp s u).length; rw [HM7.out.sl]; have := HU4.out; omega)
                  have h2 : (MO ((ops u).act q M).2 (stp s u)).steps.getD u 0 = su + 1 := by
                    show (stp s u).getD u 0 = _
                    rw [stp_at s u u (by rw [HM.out.sl]; have := HU4.out; omega), if_pos rfl, HSUV.out]
                    have := HSB.out
                    unfold wrap64
                    omega
                  rw [h2] at h1
                  exact h1)
                go_wp2_with fail
                refine HSU2.out.mono ?_
                rintro e w' ⟨rfl, rfl⟩
                go_wp2_with fail
                refine HGO2.out.mono ?_
                rintro e w' ⟨rfl, rfl⟩
                clear hco HGO2 HSU2
                have HTTf := hid HS.out.2.2.2.1
                have ILf := hid HS.out.2.2.2.2.1
                have NXf := hid (show nxt ≤ i + 1 + 1 from by have := HS.out.2.2.2.2.2; omega)
                go_wp2_with fail
                go_roundg (n + 1 - (i + 1))
                case rel => exact ⟨i + 1, nxt, had, pushes, _, _, _, _, _, _, _, _, _, _, _, by have := HIN.out; omega, rfl, rfl, rfl, rfl, by go_num, by have := HM7.out; rwa [HKK.out] at this, HLf.out, HS.out.2.2.1, HTTf.out, ILf.out, NXf.out⟩
                case measure => exact meas__ hlt
            · as_aux_lemma =>
                have HOUT := hid h1
                have HLa := hid h3
                have HLb := hid h4
                have hu0 := h2
                have tu1 : ((u : Int) == 0) = false := by simp; omega
                have tu2 : ((u : Int) != 0) = true := by simp; omega
                have tu3 : decide (0 < (u : Int)) = true := by simp; omega
                have tu4 : decide (0 < u) = true := by simp; omega
                clear hu0
                clear h1 h2 h3 h4
                have HST := hid (HM.out.calls HE.out u HU4.out HAU.out (by have := HNN.out; have := HIN.out; omega) HSF.out 2 (by rw [HOUT.out]; rfl))
                go_wp2_with fail
                refine HSU.out.mono ?_
                rintro e w' ⟨rfl, rfl⟩
                go_wp2_with fail
                refine HST.out.mono ?_
                rintro e w7 ⟨rfl, hRes⟩
                have hOut := HOUT.out
                obtain ⟨c9, hGo⟩ := hRes.1
                have hco := hRes.2.1
                obtain ⟨C2, hM7⟩ := hRes.2.2.1 (by rw [hOut]; omega)
                have HM7 := hid hM7
                have HGO2 := hid (op_got' hGo (fun _ h5 => act_five HLV.out HSF.out.2.1 h5))
                obtain ⟨gt, hgt⟩ : ∃ gt, DOp.tell ((ops u).act q M).1 = gt := ⟨_, rfl⟩
                have HGT := hid hgt
                rw [hgt] at HGO2
                clear hRes hOut hGo hM7 HST hgt co
                have HSU2 := hid (show Calls Try.prog 24 #[.pointer (some ⟨b.m, 0, none⟩), .int .i64 u] w7 (fun e w' => e = .returned (.int .i64 (su + 1)) ∧ w7 = w') from by
                  have h1 := steps_in b (MO ((ops u).act q M).2 (stp s u)) u w7 HM7.out.hM (by show u < (stp s u).length; rw [HM7.out.sl]; have := HU4.out; omega)
                  have h2 : (MO ((ops u).act q M).2 (stp s u)).steps.getD u 0 = su + 1 := by
                    show (stp s u).getD u 0 = _
                    rw [stp_at s u u (by rw [HM.out.sl]; have := HU4.out; omega), if_pos rfl, HSUV.out]
                    have := HSB.out
                    unfold wrap64
                    omega
                  rw [h2] at h1
                  exact h1)
                go_wp2_with fail
                refine HSU2.out.mono ?_
                rintro e w' ⟨rfl, rfl⟩
                go_wp2_with fail
                refine HGO2.out.mono ?_
                rintro e w' ⟨rfl, rfl⟩
                clear hco HGO2 HSU2
                have HTTf := hid HS.out.2.2.2.1
                have ILf := hid HS.out.2.2.2.2.1
                have NXf := hid (show nxt ≤ i + 1 + 1 from by have := HS.out.2.2.2.2.2; omega)
                obtain ⟨k0, k1, k2⟩ := HCL.out _ HM7.out.hF
                rcases h7 : (kd != 7) with _ | _
                · have cb7 := HM7.out.hb.cell (bls_at B u (by rw [HM7.out.bl]; exact HU4.out))
                  have fb7 := HM7.out.hb.frozen u
                  have HM8 := hid (HM7.out.setB HE.out u false)
                  go_upto_region 41 with fail
                  obtain ⟨w8, hw8⟩ : ∃ w8, w7.setCell ⟨bb, u, none⟩ (.bool false) = w8 := ⟨_, rfl⟩
                  rw [hw8] at HM8 ⊢
                  clear hw8 cb7 fb7
                  have HM8 := hid (HM8.out.drop u)
                  clear h7 k0 k1 k2
                  have HLf := hid HLb.out
                  have HABf := hid (show ∀ v, v < 4 → (B.set u false).getD v false = upd A u false v from fun v hv => by
                    rw [getD_setB _ _ _ _ (by rw [HM.out.bl]; exact HU4.out)]
                    unfold upd
                    by_cases h : u = v
                    · rw [if_pos h, if_pos h.symm]
                    · rw [if_neg h, if_neg (fun hh => h hh.symm)]
                      exact HS.out.2.2.1 v hv)
                  rcases ha0 : upd A u false 0 with _ | _
                  · have HA0 := hid ha0
                    clear ha0
                    have c65 := HM8.out.hb.cell (bls_at _ 0 (by rw [HM8.out.bl]; omega))
                    rw [HABf.out 0 (by omega), HA0.out] at c65
                    have cd := HM8.out.hd.cell (i := 0) rfl
                    have ce := HM8.out.hd.cell (i := 1) rfl
                    obtain ⟨R, hR1, hR2, hR3, hR4, hR5⟩ := HLf.out.lies HA0.out
                    have HLS := hid (fun (v : World) (F : Fr (fun _ => False) w8 v) => dlist_ok b ((ops u).act q M).2 _ R q v (HM8.out.same F).hM hR2 hR3 HLf.out.used hR4 hR5 (HM8.out.cB.more (by have := HNN.out; have := HIN.out; omega)))
                    rw [hR1] at HLS
                    obtain ⟨LL, hLL⟩ : ∃ LL, tl (inn) (inn).length = LL := ⟨_, rfl⟩
                    have HLL := hid hLL
                    rw [hLL] at HLS
                    obtain ⟨mL, hmL⟩ : ∃ mL, LL.length = mL := ⟨_, rfl⟩
                    have HmL := hid hmL
                    clear hR1 hR2 hR3 hR4 hR5 hLL hmL
                    go_wp2_with fail
                    refine (HLS.out _ (Fr.refl _ _)).mono ?_
                    rintro e w10 ⟨A1, cap1, rfl, hO1, hF1⟩
                    have HO1 := hid hO1
                    have HMe := hid (HM8.out.same hF1)
                    rw [HmL.out]
                    clear hO1 hF1 c65 cd ce
                    go_wp2_with fail
                    refine (lies_ok A1 bi (n + 2) mL (cap1) (n + 2) (inn) LL _ (OwnR.intR HO1.out rfl) (BoolR.of HMe.out.hi) ILf.out.symm HmL.out.symm (by rw [← ILf.out]; exact HLL.out.symm) (by have := HNN.out; omega)).mono ?_
                    rintro e w11 ⟨rfl, hF2⟩
                    have HMz := hid (HMe.out.same hF2)
                    clear hF2
                    go_wp2_with fail
                    go_roundg (n + 1 - (i + 1))
                    case rel => exact ⟨i + 1, nxt, had, pushes, _, _, _, _, _, _, _, _, _, _, _, by have := HIN.out; omega, rfl, rfl, rfl, rfl, by go_num, by have := HMz.out; rwa [HKK.out] at this, HLf.out, HABf.out, HTTf.out, ILf.out, NXf.out⟩
                    case measure => exact meas__ hlt
                  · have HA0 := hid ha0
                    clear ha0
                    have c65 := HM8.out.hb.cell (bls_at _ 0 (by rw [HM8.out.bl]; omega))
                    rw [HABf.out 0 (by omega), HA0.out] at c65
                    go_wp2_with fail
                    go_roundg (n + 1 - (i + 1))
                    case rel => exact ⟨i + 1, nxt, had, pushes, _, _, _, _, _, _, _, _, _, _, _, by have := HIN.out; omega, rfl, rfl, rfl, rfl, by go_num, by have := HM8.out; rwa [HKK.out] at this, HLf.out, HABf.out, HTTf.out, ILf.out, NXf.out⟩
                    case measure => exact meas__ hlt
                · have cb7 := HM7.out.hb.cell (bls_at B u (by rw [HM7.out.bl]; exact HU4.out))
                  have fb7 := HM7.out.hb.frozen u
                  have HM8 := hid (HM7.out.setB HE.out u true)
                  go_upto_region 41 with fail
                  obtain ⟨w8, hw8⟩ : ∃ w8, w7.setCell ⟨bb, u, none⟩ (.bool true) = w8 := ⟨_, rfl⟩
                  rw [hw8] at HM8 ⊢
                  clear hw8 cb7 fb7
                  clear h7 k0 k1 k2
                  have HLf := hid HLa.out
                  have HABf := hid (show ∀ v, v < 4 → (B.set u true).getD v false = A v from fun v hv => by
                    rw [getD_setB _ _ _ _ (by rw [HM.out.bl]; exact HU4.out)]
                    by_cases h : u = v
                    · rw [if_pos h, ← h, HAU.out]
                    · rw [if_neg h]
                      exact HS.out.2.2.1 v hv)
                  rcases ha0 : A 0 with _ | _
                  · have HA0 := hid ha0
                    clear ha0
                    have c65 := HM8.out.hb.cell (bls_at _ 0 (by rw [HM8.out.bl]; omega))
                    rw [HABf.out 0 (by omega), HA0.out] at c65
                    have cd := HM8.out.hd.cell (i := 0) rfl
                    have ce := HM8.out.hd.cell (i := 1) rfl
                    obtain ⟨R, hR1, hR2, hR3, hR4, hR5⟩ := HLf.out.lies HA0.out
                    have HLS := hid (fun (v : World) (F : Fr (fun _ => False) w8 v) => dlist_ok b ((ops u).act q M).2 _ R q v (HM8.out.same F).hM hR2 hR3 HLf.out.used hR4 hR5 (HM8.out.cB.more (by have := HNN.out; have := HIN.out; omega)))
                    rw [hR1] at HLS
                    obtain ⟨LL, hLL⟩ : ∃ LL, tl (inn) (inn).length = LL := ⟨_, rfl⟩
                    have HLL := hid hLL
                    rw [hLL] at HLS
                    obtain ⟨mL, hmL⟩ : ∃ mL, LL.length = mL := ⟨_, rfl⟩
                    have HmL := hid hmL
                    clear hR1 hR2 hR3 hR4 hR5 hLL hmL
                    go_wp2_with fail
                    refine (HLS.out _ (Fr.refl _ _)).mono ?_
                    rintro e w10 ⟨A1, cap1, rfl, hO1, hF1⟩
                    have HO1 := hid hO1
                    have HMe := hid (HM8.out.same hF1)
                    rw [HmL.out]
                    clear hO1 hF1 c65 cd ce
                    go_wp2_with fail
                    refine (lies_ok A1 bi (n + 2) mL (cap1) (n + 2) (inn) LL _ (OwnR.intR HO1.out rfl) (BoolR.of HMe.out.hi) ILf.out.symm HmL.out.symm (by rw [← ILf.out]; exact HLL.out.symm) (by have := HNN.out; omega)).mono ?_
                    rintro e w11 ⟨rfl, hF2⟩
                    have HMz := hid (HMe.out.same hF2)
                    clear hF2
                    go_wp2_with fail
                    go_roundg (n + 1 - (i + 1))
                    case rel => exact ⟨i + 1, nxt, had, pushes, _, _, _, _, _, _, _, _, _, _, _, by have := HIN.out; omega, rfl, rfl, rfl, rfl, by go_num, by have := HMz.out; rwa [HKK.out] at this, HLf.out, HABf.out, HTTf.out, ILf.out, NXf.out⟩
                    case measure => exact meas__ hlt
                  · have HA0 := hid ha0
                    clear ha0
                    have c65 := HM8.out.hb.cell (bls_at _ 0 (by rw [HM8.out.bl]; omega))
                    rw [HABf.out 0 (by omega), HA0.out] at c65
                    go_wp2_with fail
                    go_roundg (n + 1 - (i + 1))
                    case rel => exact ⟨i + 1, nxt, had, pushes, _, _, _, _, _, _, _, _, _, _, _, by have := HIN.out; omega, rfl, rfl, rfl, rfl, by go_num, by have := HM8.out; rwa [HKK.out] at this, HLf.out, HABf.out, HTTf.out, ILf.out, NXf.out⟩
                    case measure => exact meas__ hlt
            · as_aux_lemma =>
                have HOUT := hid h1
                have HZ := hid h2
                have HLf := hid h3
                clear h1 h2 h3
                by_cases hu0 : u = 0
                · have hz := HZ.out hu0
                  obtain ⟨hz1, hz2⟩ := hz
                  subst hz1
                  have HZ2 := hid hz2
                  clear hz2
                  have tu1 : ((u : Int) == 0) = true := by simp; omega
                  have tu2 : ((u : Int) != 0) = false := by simp; omega
                  have tu3 : decide (0 < (u : Int)) = false := by simp; omega
                  have tu4 : decide (0 < u) = false := by simp; omega
                  clear hu0
                  have HST := hid (HM.out.calls HE.out u HU4.out HAU.out (by have := HNN.out; have := HIN.out; omega) HSF.out 3 (by rw [HOUT.out]; rfl))
                  go_wp2_with fail
                  refine HSU.out.mono ?_
                  rintro e w' ⟨rfl, rfl⟩
                  go_wp2_with fail
                  refine HST.out.mono ?_
                  rintro e w7 ⟨rfl, hRes⟩
                  have hOut := HOUT.out
                  obtain ⟨c9, hGo⟩ := hRes.1
                  have hco := hRes.2.1
                  obtain ⟨C2, hM7⟩ := hRes.2.2.2
                  have HM7 := hid hM7
                  have HGO2 := hid (op_got' hGo (fun _ h5 => act_five HLV.out HSF.out.2.1 h5))
                  obtain ⟨gt, hgt⟩ : ∃ gt, DOp.tell ((ops u).act q M).1 = gt := ⟨_, rfl⟩
                  have HGT := hid hgt
                  rw [hgt] at HGO2
                  clear hRes hOut hGo hM7 HST hgt co
                  have HSU2 := hid (show Calls Try.prog 24 #[.pointer (some ⟨b.m, 0, none⟩), .int .i64 u] w7 (fun e w' => e = .returned (.int .i64 (su + 1)) ∧ w7 = w') from by
                    have h1 := steps_in b (MO ((ops u).act q M).2 (stp s u)) u w7 HM7.out.hM (by show u < (stp s u).length; rw [HM7.out.sl]; have := HU4.out; omega)
                    have h2 : (MO ((ops u).act q M).2 (stp s u)).steps.getD u 0 = su + 1 := by
                      show (stp s u).getD u 0 = _
                      rw [stp_at s u u (by rw [HM.out.sl]; have := HU4.out; omega), if_pos rfl, HSUV.out]
                      have := HSB.out
                      unfold wrap64
                      omega
                    rw [h2] at h1
                    exact h1)
                  go_wp2_with fail
                  refine HSU2.out.mono ?_
                  rintro e w' ⟨rfl, rfl⟩
                  go_wp2_with fail
                  refine HGO2.out.mono ?_
                  rintro e w' ⟨rfl, rfl⟩
                  clear hco HGO2 HSU2
                  have HTTf := hid HS.out.2.2.2.1
                  have ILf := hid HS.out.2.2.2.2.1
                  have NXf := hid (show nxt ≤ i + 1 + 1 from by have := HS.out.2.2.2.2.2; omega)
                  have cb7 := HM7.out.hb.cell (bls_at B u (by rw [HM7.out.bl]; exact HU4.out))
                  have fb7 := HM7.out.hb.frozen u
                  have HM8 := hid (HM7.out.setB HE.out u false)
                  go_upto_region 41 with fail
                  obtain ⟨w8, hw8⟩ : ∃ w8, w7.setCell ⟨bb, u, none⟩ (.bool false) = w8 := ⟨_, rfl⟩
                  rw [hw8] at HM8 ⊢
                  clear hw8 cb7 fb7
                  have HABf := hid (show ∀ v, v < 4 → (B.set u false).getD v false = upd A u false v from fun v hv => by
                    rw [getD_setB _ _ _ _ (by rw [HM.out.bl]; exact HU4.out)]
                    unfold upd
                    by_cases h : u = v
                    · rw [if_pos h, if_pos h.symm]
                    · rw [if_neg h, if_neg (fun hh => h hh.symm)]
                      exact HS.out.2.2.1 v hv)
                  have HCT := hid (show Calls Try.prog 29 #[.slice (some ⟨bi, 0, none⟩) (n + 2) (n + 2)] w8 (fun e w' => e = .returned (.int .i64 0) ∧ Fr (fun _ => False) w8 w') from by
                    have h := count_ok bi (n + 2) (n + 2) inn w8 (BoolR.of HM8.out.hi) (by rw [ILf.out]; exact Nat.le_refl _) (by have := HNN.out; omega)
                    rw [← ILf.out, HZ2.out] at h
                    rw [ILf.out] at h
                    exact h)
                  go_wp2_with fail
                  refine HCT.out.mono ?_
                  rintro e w9 ⟨rfl, hF9⟩
                  have HM9 := hid (HM8.out.same hF9)
                  clear hF9
                  rcases ha0 : upd A u false 0 with _ | _
                  · have HA0 := hid ha0
                    clear ha0
                    have c65 := HM9.out.hb.cell (bls_at _ 0 (by rw [HM9.out.bl]; omega))
                    rw [HABf.out 0 (by omega), HA0.out] at c65
                    have cd := HM9.out.hd.cell (i := 0) rfl
                    have ce := HM9.out.hd.cell (i := 1) rfl
                    obtain ⟨R, hR1, hR2, hR3, hR4, hR5⟩ := HLf.out.lies HA0.out
                    have HLS := hid (fun (v : World) (F : Fr (fun _ => False) w9 v) => dlist_ok b ((ops u).act q M).2 _ R q v (HM9.out.same F).hM hR2 hR3 HLf.out.used hR4 hR5 (HM9.out.cB.more (by have := HNN.out; have := HIN.out; omega)))
                    rw [hR1] at HLS
                    obtain ⟨LL, hLL⟩ : ∃ LL, tl (inn) (inn).length = LL := ⟨_, rfl⟩
                    have HLL := hid hLL
                    rw [hLL] at HLS
                    obtain ⟨mL, hmL⟩ : ∃ mL, LL.length = mL := ⟨_, rfl⟩
                    have HmL := hid hmL
                    clear hR1 hR2 hR3 hR4 hR5 hLL hmL
                    go_wp2_with fail
                    refine (HLS.out _ (Fr.refl _ _)).mono ?_
                    rintro e w10 ⟨A1, cap1, rfl, hO1, hF1⟩
                    have HO1 := hid hO1
                    have HMe := hid (HM9.out.same hF1)
                    rw [HmL.out]
                    clear hO1 hF1 c65 cd ce
                    go_wp2_with fail
                    refine (lies_ok A1 bi (n + 2) mL (cap1) (n + 2) (inn) LL _ (OwnR.intR HO1.out rfl) (BoolR.of HMe.out.hi) ILf.out.symm HmL.out.symm (by rw [← ILf.out]; exact HLL.out.symm) (by have := HNN.out; omega)).mono ?_
                    rintro e w11 ⟨rfl, hF2⟩
                    have HMz := hid (HMe.out.same hF2)
                    clear hF2
                    go_wp2_with fail
                    go_roundg (n + 1 - (i + 1))
                    case rel => exact ⟨i + 1, nxt, had, false, _, _, _, _, _, _, _, _, _, _, _, by have := HIN.out; omega, rfl, rfl, rfl, rfl, by go_num, by have := HMz.out; rwa [HKK.out] at this, HLf.out, HABf.out, HTTf.out, ILf.out, NXf.out⟩
                    case measure => exact meas__ hlt
                  · have HA0 := hid ha0
                    clear ha0
                    have c65 := HM9.out.hb.cell (bls_at _ 0 (by rw [HM9.out.bl]; omega))
                    rw [HABf.out 0 (by omega), HA0.out] at c65
                    go_wp2_with fail
                    go_roundg (n + 1 - (i + 1))
                    case rel => exact ⟨i + 1, nxt, had, false, _, _, _, _, _, _, _, _, _, _, _, by have := HIN.out; omega, rfl, rfl, rfl, rfl, by go_num, by have := HM9.out; rwa [HKK.out] at this, HLf.out, HABf.out, HTTf.out, ILf.out, NXf.out⟩
                    case measure => exact meas__ hlt
                · have tu1 : ((u : Int) == 0) = false := by simp; omega
                  have tu2 : ((u : Int) != 0) = true := by simp; omega
                  have tu3 : decide (0 < (u : Int)) = true := by simp; omega
                  have tu4 : decide (0 < u) = true := by simp; omega
                  clear hu0
                  have HST := hid (HM.out.calls HE.out u HU4.out HAU.out (by have := HNN.out; have := HIN.out; omega) HSF.out 3 (by rw [HOUT.out]; rfl))
                  go_wp2_with fail
                  refine HSU.out.mono ?_
                  rintro e w' ⟨rfl, rfl⟩
                  go_wp2_with fail
                  refine HST.out.mono ?_
                  rintro e w7 ⟨rfl, hRes⟩
                  have hOut := HOUT.out
                  obtain ⟨c9, hGo⟩ := hRes.1
                  have hco := hRes.2.1
                  obtain ⟨C2, hM7⟩ := hRes.2.2.2
                  have HM7 := hid hM7
                  have HGO2 := hid (op_got' hGo (fun _ h5 => act_five HLV.out HSF.out.2.1 h5))
                  obtain ⟨gt, hgt⟩ : ∃ gt, DOp.tell ((ops u).act q M).1 = gt := ⟨_, rfl⟩
                  have HGT := hid hgt
                  rw [hgt] at HGO2
                  clear hRes hOut hGo hM7 HST hgt co
                  have HSU2 := hid (show Calls Try.prog 24 #[.pointer (some ⟨b.m, 0, none⟩), .int .i64 u] w7 (fun e w' => e = .returned (.int .i64 (su + 1)) ∧ w7 = w') from by
                    have h1 := steps_in b (MO ((ops u).act q M).2 (stp s u)) u w7 HM7.out.hM (by show u < (stp s u).length; rw [HM7.out.sl]; have := HU4.out; omega)
                    have h2 : (MO ((ops u).act q M).2 (stp s u)).steps.getD u 0 = su + 1 := by
                      show (stp s u).getD u 0 = _
                      rw [stp_at s u u (by rw [HM.out.sl]; have := HU4.out; omega), if_pos rfl, HSUV.out]
                      have := HSB.out
                      unfold wrap64
                      omega
                    rw [h2] at h1
                    exact h1)
                  go_wp2_with fail
                  refine HSU2.out.mono ?_
                  rintro e w' ⟨rfl, rfl⟩
                  go_wp2_with fail
                  refine HGO2.out.mono ?_
                  rintro e w' ⟨rfl, rfl⟩
                  clear hco HGO2 HSU2
                  have HTTf := hid HS.out.2.2.2.1
                  have ILf := hid HS.out.2.2.2.2.1
                  have NXf := hid (show nxt ≤ i + 1 + 1 from by have := HS.out.2.2.2.2.2; omega)
                  have cb7 := HM7.out.hb.cell (bls_at B u (by rw [HM7.out.bl]; exact HU4.out))
                  have fb7 := HM7.out.hb.frozen u
                  have HM8 := hid (HM7.out.setB HE.out u false)
                  go_upto_region 41 with fail
                  obtain ⟨w8, hw8⟩ : ∃ w8, w7.setCell ⟨bb, u, none⟩ (.bool false) = w8 := ⟨_, rfl⟩
                  rw [hw8] at HM8 ⊢
                  clear hw8 cb7 fb7
                  have HABf := hid (show ∀ v, v < 4 → (B.set u false).getD v false = upd A u false v from fun v hv => by
                    rw [getD_setB _ _ _ _ (by rw [HM.out.bl]; exact HU4.out)]
                    unfold upd
                    by_cases h : u = v
                    · rw [if_pos h, if_pos h.symm]
                    · rw [if_neg h, if_neg (fun hh => h hh.symm)]
                      exact HS.out.2.2.1 v hv)
                  rcases ha0 : upd A u false 0 with _ | _
                  · have HA0 := hid ha0
                    clear ha0
                    have c65 := HM8.out.hb.cell (bls_at _ 0 (by rw [HM8.out.bl]; omega))
                    rw [HABf.out 0 (by omega), HA0.out] at c65
                    have cd := HM8.out.hd.cell (i := 0) rfl
                    have ce := HM8.out.hd.cell (i := 1) rfl
                    obtain ⟨R, hR1, hR2, hR3, hR4, hR5⟩ := HLf.out.lies HA0.out
                    have HLS := hid (fun (v : World) (F : Fr (fun _ => False) w8 v) => dlist_ok b ((ops u).act q M).2 _ R q v (HM8.out.same F).hM hR2 hR3 HLf.out.used hR4 hR5 (HM8.out.cB.more (by have := HNN.out; have := HIN.out; omega)))
                    rw [hR1] at HLS
                    obtain ⟨LL, hLL⟩ : ∃ LL, tl (inn) (inn).length = LL := ⟨_, rfl⟩
                    have HLL := hid hLL
                    rw [hLL] at HLS
                    obtain ⟨mL, hmL⟩ : ∃ mL, LL.length = mL := ⟨_, rfl⟩
                    have HmL := hid hmL
                    clear hR1 hR2 hR3 hR4 hR5 hLL hmL
                    go_wp2_with fail
                    refine (HLS.out _ (Fr.refl _ _)).mono ?_
                    rintro e w10 ⟨A1, cap1, rfl, hO1, hF1⟩
                    have HO1 := hid hO1
                    have HMe := hid (HM8.out.same hF1)
                    rw [HmL.out]
                    clear hO1 hF1 c65 cd ce
                    go_wp2_with fail
                    refine (lies_ok A1 bi (n + 2) mL (cap1) (n + 2) (inn) LL _ (OwnR.intR HO1.out rfl) (BoolR.of HMe.out.hi) ILf.out.symm HmL.out.symm (by rw [← ILf.out]; exact HLL.out.symm) (by have := HNN.out; omega)).mono ?_
                    rintro e w11 ⟨rfl, hF2⟩
                    have HMz := hid (HMe.out.same hF2)
                    clear hF2
                    go_wp2_with fail
                    go_roundg (n + 1 - (i + 1))
                    case rel => exact ⟨i + 1, nxt, had, pushes, _, _, _, _, _, _, _, _, _, _, _, by have := HIN.out; omega, rfl, rfl, rfl, rfl, by go_num, by have := HMz.out; rwa [HKK.out] at this, HLf.out, HABf.out, HTTf.out, ILf.out, NXf.out⟩
                    case measure => exact meas__ hlt
                  · have HA0 := hid ha0
                    clear ha0
                    have c65 := HM8.out.hb.cell (bls_at _ 0 (by rw [HM8.out.bl]; omega))
                    rw [HABf.out 0 (by omega), HA0.out] at c65
                    go_wp2_with fail
                    go_roundg (n + 1 - (i + 1))
                    case rel => exact ⟨i + 1, nxt, had, pushes, _, _, _, _, _, _, _, _, _, _, _, by have := HIN.out; omega, rfl, rfl, rfl, rfl, by go_num, by have := HM8.out; rwa [HKK.out] at this, HLf.out, HABf.out, HTTf.out, ILf.out, NXf.out⟩
                    case measure => exact meas__ hlt
            · as_aux_lemma =>
                have HOUT := hid h1
                have hu0 := h2
                subst h3
                have HHAD := hid h4
                have HLf := hid h5
                have tu1 : ((u : Int) == 0) = true := by simp; omega
                have tu2 : ((u : Int) != 0) = false := by simp; omega
                have tu3 : decide (0 < (u : Int)) = false := by simp; omega
                have tu4 : decide (0 < u) = false := by simp; omega
                clear hu0
                have tr : ((had : Int) != (rm : Int)) = false := by have := HRM.out; have := HHAD.out; simp; omega
                have tr2 : (had != rm) = false := by have := HRM.out; have := HHAD.out; simp; omega
                clear h1 h2 h4 h5
                have HST := hid (HM.out.calls HE.out u HU4.out HAU.out (by have := HNN.out; have := HIN.out; omega) HSF.out 4 (by rw [HOUT.out]; rfl))
                go_wp2_with fail
                refine HSU.out.mono ?_
                rintro e w' ⟨rfl, rfl⟩
                go_wp2_with fail
                refine HST.out.mono ?_
                rintro e w7 ⟨rfl, hRes⟩
                have hOut := HOUT.out
                obtain ⟨c9, hGo⟩ := hRes.1
                have hco := hRes.2.1
                obtain ⟨C2, hM7⟩ := hRes.2.2.2
                have HM7 := hid hM7
                have HGO2 := hid (op_got' hGo (fun _ h5 => act_five HLV.out HSF.out.2.1 h5))
                obtain ⟨gt, hgt⟩ : ∃ gt, DOp.tell ((ops u).act q M).1 = gt := ⟨_, rfl⟩
                have HGT := hid hgt
                rw [hgt] at HGO2
                clear hRes hOut hGo hM7 HST hgt co
                have HSU2 := hid (show Calls Try.prog 24 #[.pointer (some ⟨b.m, 0, none⟩), .int .i64 u] w7 (fun e w' => e = .returned (.int .i64 (su + 1)) ∧ w7 = w') from by
                  have h1 := steps_in b (MO ((ops u).act q M).2 (stp s u)) u w7 HM7.out.hM (by show u < (stp s u).length; rw [HM7.out.sl]; have := HU4.out; omega)
                  have h2 : (MO ((ops u).act q M).2 (stp s u)).steps.getD u 0 = su + 1 := by
                    show (stp s u).getD u 0 = _
                    rw [stp_at s u u (by rw [HM.out.sl]; have := HU4.out; omega), if_pos rfl, HSUV.out]
                    have := HSB.out
                    unfold wrap64
                    omega
                  rw [h2] at h1
                  exact h1)
                go_wp2_with fail
                refine HSU2.out.mono ?_
                rintro e w' ⟨rfl, rfl⟩
                go_wp2_with fail
                refine HGO2.out.mono ?_
                rintro e w' ⟨rfl, rfl⟩
                clear hco HGO2 HSU2
                have HTTf := hid HS.out.2.2.2.1
                have ILf := hid HS.out.2.2.2.2.1
                have NXf := hid (show nxt ≤ i + 1 + 1 from by have := HS.out.2.2.2.2.2; omega)
                have cb7 := HM7.out.hb.cell (bls_at B u (by rw [HM7.out.bl]; exact HU4.out))
                have fb7 := HM7.out.hb.frozen u
                have HM8 := hid (HM7.out.setB HE.out u false)
                go_upto_region 41 with fail
                obtain ⟨w8, hw8⟩ : ∃ w8, w7.setCell ⟨bb, u, none⟩ (.bool false) = w8 := ⟨_, rfl⟩
                rw [hw8] at HM8 ⊢
                clear hw8 cb7 fb7
                have HABf := hid (show ∀ v, v < 4 → (B.set u false).getD v false = upd A u false v from fun v hv => by
                  rw [getD_setB _ _ _ _ (by rw [HM.out.bl]; exact HU4.out)]
                  unfold upd
                  by_cases h : u = v
                  · rw [if_pos h, if_pos h.symm]
                  · rw [if_neg h, if_neg (fun hh => h hh.symm)]
                    exact HS.out.2.2.1 v hv)
                rcases ha0 : upd A u false 0 with _ | _
                · have HA0 := hid ha0
                  clear ha0
                  have c65 := HM8.out.hb.cell (bls_at _ 0 (by rw [HM8.out.bl]; omega))
                  rw [HABf.out 0 (by omega), HA0.out] at c65
                  have cd := HM8.out.hd.cell (i := 0) rfl
                  have ce := HM8.out.hd.cell (i := 1) rfl
                  obtain ⟨R, hR1, hR2, hR3, hR4, hR5⟩ := HLf.out.lies HA0.out
                  have HLS := hid (fun (v : World) (F : Fr (fun _ => False) w8 v) => dlist_ok b ((ops u).act q M).2 _ R q v (HM8.out.same F).hM hR2 hR3 HLf.out.used hR4 hR5 (HM8.out.cB.more (by have := HNN.out; have := HIN.out; omega)))
                  rw [hR1] at HLS
                  obtain ⟨LL, hLL⟩ : ∃ LL, tl (inn) (inn).length = LL := ⟨_, rfl⟩
                  have HLL := hid hLL
                  rw [hLL] at HLS
                  obtain ⟨mL, hmL⟩ : ∃ mL, LL.length = mL := ⟨_, rfl⟩
                  have HmL := hid hmL
                  clear hR1 hR2 hR3 hR4 hR5 hLL hmL
                  go_wp2_with fail
                  refine (HLS.out _ (Fr.refl _ _)).mono ?_
                  rintro e w10 ⟨A1, cap1, rfl, hO1, hF1⟩
                  have HO1 := hid hO1
                  have HMe := hid (HM8.out.same hF1)
                  rw [HmL.out]
                  clear hO1 hF1 c65 cd ce
                  go_wp2_with fail
                  refine (lies_ok A1 bi (n + 2) mL (cap1) (n + 2) (inn) LL _ (OwnR.intR HO1.out rfl) (BoolR.of HMe.out.hi) ILf.out.symm HmL.out.symm (by rw [← ILf.out]; exact HLL.out.symm) (by have := HNN.out; omega)).mono ?_
                  rintro e w11 ⟨rfl, hF2⟩
                  have HMz := hid (HMe.out.same hF2)
                  clear hF2
                  go_wp2_with fail
                  go_roundg (n + 1 - (i + 1))
                  case rel => exact ⟨i + 1, nxt, had, true, _, _, _, _, _, _, _, _, _, _, _, by have := HIN.out; omega, rfl, rfl, rfl, rfl, by go_num, by have := HMz.out; rwa [HKK.out] at this, HLf.out, HABf.out, HTTf.out, ILf.out, NXf.out⟩
                  case measure => exact meas__ hlt
                · have HA0 := hid ha0
                  clear ha0
                  have c65 := HM8.out.hb.cell (bls_at _ 0 (by rw [HM8.out.bl]; omega))
                  rw [HABf.out 0 (by omega), HA0.out] at c65
                  go_wp2_with fail
                  go_roundg (n + 1 - (i + 1))
                  case rel => exact ⟨i + 1, nxt, had, true, _, _, _, _, _, _, _, _, _, _, _, by have := HIN.out; omega, rfl, rfl, rfl, rfl, by go_num, by have := HM8.out; rwa [HKK.out] at this, HLf.out, HABf.out, HTTf.out, ILf.out, NXf.out⟩
                  case measure => exact meas__ hlt
            · as_aux_lemma =>
                have HOUT := hid h1
                have hu0 := h2
                have HLT := hid h3
                have HLf := hid h4
                have tu1 : ((u : Int) == 0) = false := by simp; omega
                have tu2 : ((u : Int) != 0) = true := by simp; omega
                have tu3 : decide (0 < (u : Int)) = true := by simp; omega
                have tu4 : decide (0 < u) = true := by simp; omega
                clear hu0
                have HLU := hid h4.used
                clear h1 h2 h3 h4
                have HST := hid (HM.out.calls HE.out u HU4.out HAU.out (by have := HNN.out; have := HIN.out; omega) HSF.out 5 (by rw [HOUT.out]; rfl))
                go_wp2_with fail
                refine HSU.out.mono ?_
                rintro e w' ⟨rfl, rfl⟩
                go_wp2_with fail
                refine HST.out.mono ?_
                rintro e w7 ⟨rfl, hRes⟩
                have hOut := HOUT.out
                obtain ⟨c9, hGo⟩ := hRes.1
                have hco := hRes.2.1
                obtain ⟨C2, hM7⟩ := hRes.2.2.2
                have HM7 := hid hM7
                have HGO2 := hid (op_got' hGo (fun _ h5 => act_five HLV.out HSF.out.2.1 h5))
                obtain ⟨gt, hgt⟩ : ∃ gt, DOp.tell ((ops u).act q M).1 = gt := ⟨_, rfl⟩
                have HGT := hid hgt
                rw [hgt] at HGO2
                clear hRes hOut hGo hM7 HST hgt co
                have HSU2 := hid (show Calls Try.prog 24 #[.pointer (some ⟨b.m, 0, none⟩), .int .i64 u] w7 (fun e w' => e = .returned (.int .i64 (su + 1)) ∧ w7 = w') from by
                  have h1 := steps_in b (MO ((ops u).act q M).2 (stp s u)) u w7 HM7.out.hM (by show u < (stp s u).length; rw [HM7.out.sl]; have := HU4.out; omega)
                  have h2 : (MO ((ops u).act q M).2 (stp s u)).steps.getD u 0 = su + 1 := by
                    show (stp s u).getD u 0 = _
                    rw [stp_at s u u (by rw [HM.out.sl]; have := HU4.out; omega), if_pos rfl, HSUV.out]
                    have := HSB.out
                    unfold wrap64
                    omega
                  rw [h2] at h1
                  exact h1)
                go_wp2_with fail
                refine HSU2.out.mono ?_
                rintro e w' ⟨rfl, rfl⟩
                go_wp2_with fail
                refine HGO2.out.mono ?_
                rintro e w' ⟨rfl, rfl⟩
                clear hco HGO2 HSU2
                have HTTf := hid HS.out.2.2.2.1
                have ILf := hid HS.out.2.2.2.2.1
                have NXf := hid (show nxt ≤ i + 1 + 1 from by have := HS.out.2.2.2.2.2; omega)
                have cb7 := HM7.out.hb.cell (bls_at B u (by rw [HM7.out.bl]; exact HU4.out))
                have fb7 := HM7.out.hb.frozen u
                have HM8 := hid (HM7.out.setB HE.out u false)
                go_upto_region 41 with fail
                obtain ⟨w8, hw8⟩ : ∃ w8, w7.setCell ⟨bb, u, none⟩ (.bool false) = w8 := ⟨_, rfl⟩
                rw [hw8] at HM8 ⊢
                clear hw8 cb7 fb7
                have HABf := hid (show ∀ v, v < 4 → (B.set u false).getD v false = upd A u false v from fun v hv => by
                  rw [getD_setB _ _ _ _ (by rw [HM.out.bl]; exact HU4.out)]
                  unfold upd
                  by_cases h : u = v
                  · rw [if_pos h, if_pos h.symm]
                  · rw [if_neg h, if_neg (fun hh => h hh.symm)]
                    exact HS.out.2.2.1 v hv)
                obtain ⟨pk, hpk⟩ : ∃ pk, rd ((ops u).act q M).2 0 = pk := ⟨_, rfl⟩
                have HPK := hid (fun (v : World) (F : Fr (fun _ => False) w8 v) => peek_rd b ((ops u).act q M).2 _ 0 v (HM8.out.hM.same F) (by omega) (by have := HLU.out; omega))
                rw [hpk] at HPK
                obtain ⟨tt, htt⟩ : ∃ tt, T.getD u 0 = tt := ⟨_, rfl⟩
                have tp9 : decide (pk ≤ tt) = false := by
                  have h8 := HLT.out
                  have h9 := HS.out.2.2.2.1 u HU4.out
                  simp
                  omega
                have cd := HM8.out.hd.cell (i := 0) rfl
                have ct := HM8.out.ht.cell (ints_at T u (by rw [HM8.out.tl]; exact HU4.out))
                rw [htt] at ct
                clear hpk htt
                go_upto_region 51 with fail
                go_quiet ((go_at_call 28; exact (HPK.out _ (Fr.drewN _ _ _)).mono fun _ _ ⟨he, hm⟩ => ⟨he, _, hm.symm⟩))
                generalize hw9 : w8.drewN _ = w9
                have HM9 := hid (show OnM w b bd bi bo bb bt q _ _ _ _ _ _ _ _ _ _ _ w9 from by rw [← hw9]; exact HM8.out.same (Fr.drewN _ _ _))
                clear hw9 cd ct
                clear tp9
                rcases ha0 : upd A u false 0 with _ | _
                · have HA0 := hid ha0
                  clear ha0
                  have c65 := HM9.out.hb.cell (bls_at _ 0 (by rw [HM9.out.bl]; omega))
                  rw [HABf.out 0 (by omega), HA0.out] at c65
                  have cd := HM9.out.hd.cell (i := 0) rfl
                  have ce := HM9.out.hd.cell (i := 1) rfl
                  obtain ⟨R, hR1, hR2, hR3, hR4, hR5⟩ := HLf.out.lies HA0.out
                  have HLS := hid (fun (v : World) (F : Fr (fun _ => False) w9 v) => dlist_ok b ((ops u).act q M).2 _ R q v (HM9.out.same F).hM hR2 hR3 HLf.out.used hR4 hR5 (HM9.out.cB.more (by have := HNN.out; have := HIN.out; omega)))
                  rw [hR1] at HLS
                  obtain ⟨LL, hLL⟩ : ∃ LL, tl (inn) (inn).length = LL := ⟨_, rfl⟩
                  have HLL := hid hLL
                  rw [hLL] at HLS
                  obtain ⟨mL, hmL⟩ : ∃ mL, LL.length = mL := ⟨_, rfl⟩
                  have HmL := hid hmL
                  clear hR1 hR2 hR3 hR4 hR5 hLL hmL
                  go_wp2_with fail
                  refine (HLS.out _ (Fr.refl _ _)).mono ?_
                  rintro e w10 ⟨A1, cap1, rfl, hO1, hF1⟩
                  have HO1 := hid hO1
                  have HMe := hid (HM9.out.same hF1)
                  rw [HmL.out]
                  clear hO1 hF1 c65 cd ce
                  go_wp2_with fail
                  refine (lies_ok A1 bi (n + 2) mL (cap1) (n + 2) (inn) LL _ (OwnR.intR HO1.out rfl) (BoolR.of HMe.out.hi) ILf.out.symm HmL.out.symm (by rw [← ILf.out]; exact HLL.out.symm) (by have := HNN.out; omega)).mono ?_
                  rintro e w11 ⟨rfl, hF2⟩
                  have HMz := hid (HMe.out.same hF2)
                  clear hF2
                  go_wp2_with fail
                  go_roundg (n + 1 - (i + 1))
                  case rel => exact ⟨i + 1, nxt, had, pushes, _, _, _, _, _, _, _, _, _, _, _, by have := HIN.out; omega, rfl, rfl, rfl, rfl, by go_num, by have := HMz.out; rwa [HKK.out] at this, HLf.out, HABf.out, HTTf.out, ILf.out, NXf.out⟩
                  case measure => exact meas__ hlt
                · have HA0 := hid ha0
                  clear ha0
                  have c65 := HM9.out.hb.cell (bls_at _ 0 (by rw [HM9.out.bl]; omega))
                  rw [HABf.out 0 (by omega), HA0.out] at c65
                  go_wp2_with fail
                  go_roundg (n + 1 - (i + 1))
                  case rel => exact ⟨i + 1, nxt, had, pushes, _, _, _, _, _, _, _, _, _, _, _, by have := HIN.out; omega, rfl, rfl, rfl, rfl, by go_num, by have := HM9.out; rwa [HKK.out] at this, HLf.out, HABf.out, HTTf.out, ILf.out, NXf.out⟩
                  case measure => exact meas__ hlt
            · as_aux_lemma =>
                have HOUT := hid h1
                have hu0 := h2
                subst h3
                have HRR := hid h4
                have HLf := hid h5
                have HUZ := hid h2
                have tu1 : ((u : Int) == 0) = true := by simp; omega
                have tu2 : ((u : Int) != 0) = false := by simp; omega
                have tu3 : decide (0 < (u : Int)) = false := by simp; omega
                have tu4 : decide (0 < u) = false := by simp; omega
                clear hu0
                have HLU := hid h5.used
                clear h1 h2 h4 h5
                have HST := hid (HM.out.calls HE.out u HU4.out HAU.out (by have := HNN.out; have := HIN.out; omega) HSF.out 1 (by rw [HOUT.out]; rfl))
                go_wp2_with fail
                refine HSU.out.mono ?_
                rintro e w' ⟨rfl, rfl⟩
                go_wp2_with fail
                refine HST.out.mono ?_
                rintro e w7 ⟨rfl, hRes⟩
                have hOut := HOUT.out
                obtain ⟨c9, hGo⟩ := hRes.1
                have hco := hRes.2.1
                obtain ⟨C2, hM7⟩ := hRes.2.2.2
                have HM7 := hid hM7
                have HGO2 := hid (op_got' hGo (fun _ h5 => act_five HLV.out HSF.out.2.1 h5))
                obtain ⟨gt, hgt⟩ : ∃ gt, DOp.tell ((ops u).act q M).1 = gt := ⟨_, rfl⟩
                have HGT := hid hgt
                rw [hgt] at HGO2
                clear hRes hOut hGo hM7 HST hgt co
                have HSU2 := hid (show Calls Try.prog 24 #[.pointer (some ⟨b.m, 0, none⟩), .int .i64 u] w7 (fun e w' => e = .returned (.int .i64 (su + 1)) ∧ w7 = w') from by
                  have h1 := steps_in b (MO ((ops u).act q M).2 (stp s u)) u w7 HM7.out.hM (by show u < (stp s u).length; rw [HM7.out.sl]; have := HU4.out; omega)
                  have h2 : (MO ((ops u).act q M).2 (stp s u)).steps.getD u 0 = su + 1 := by
                    show (stp s u).getD u 0 = _
                    rw [stp_at s u u (by rw [HM.out.sl]; have := HU4.out; omega), if_pos rfl, HSUV.out]
                    have := HSB.out
                    unfold wrap64
                    omega
                  rw [h2] at h1
                  exact h1)
                go_wp2_with fail
                refine HSU2.out.mono ?_
                rintro e w' ⟨rfl, rfl⟩
                go_wp2_with fail
                refine HGO2.out.mono ?_
                rintro e w' ⟨rfl, rfl⟩
                clear hco HGO2 HSU2
                have HTTf := hid HS.out.2.2.2.1
                have ILf := hid (show (inn.set nxt true).length = n + 2 from by rw [List.length_set]; exact HS.out.2.2.2.2.1)
                have NXf := hid (show nxt + 1 ≤ i + 1 + 1 from by have := HS.out.2.2.2.2.2; omega)
                have cb7 := HM7.out.hb.cell (bls_at B u (by rw [HM7.out.bl]; exact HU4.out))
                have fb7 := HM7.out.hb.frozen u
                have HM8 := hid (HM7.out.setB HE.out u false)
                go_upto_region 41 with fail
                obtain ⟨w8, hw8⟩ : ∃ w8, w7.setCell ⟨bb, u, none⟩ (.bool false) = w8 := ⟨_, rfl⟩
                rw [hw8] at HM8 ⊢
                clear hw8 cb7 fb7
                have HABf := hid (show ∀ v, v < 4 → (B.set u false).getD v false = upd A u false v from fun v hv => by
                  rw [getD_setB _ _ _ _ (by rw [HM.out.bl]; exact HU4.out)]
                  unfold upd
                  by_cases h : u = v
                  · rw [if_pos h, if_pos h.symm]
                  · rw [if_neg h, if_neg (fun hh => h hh.symm)]
                    exact HS.out.2.2.1 v hv)
                rcases htr : decide (rm ≤ had) with _ | _
                · have hnx : nxt < n + 2 := by have := HS.out.2.2.2.2.2; have := HIN.out; omega
                  have hnx1 : nxt ≤ 1000 := by have := HNN.out; omega
                  have hnx0 : (0 : Int) ≤ (nxt : Int) := by omega
                  have hnx2 : (nxt : Int) < (n : Int) + 2 := by omega
                  have ci := HM8.out.hi.cell (bls_at inn nxt (by rw [HS.out.2.2.2.2.1]; exact hnx))
                  have fi := HM8.out.hi.frozen nxt
                  have HMi := hid (HM8.out.setI HE.out nxt true)
                  go_upto_region 65 with fail
                  obtain ⟨wi, hwi⟩ : ∃ wi, w8.setCell ⟨bi, nxt, none⟩ (.bool true) = wi := ⟨_, rfl⟩
                  rw [hwi] at HMi ⊢
                  clear hwi ci fi hnx hnx0 hnx1 hnx2
                  rcases ha0 : upd A u false 0 with _ | _
                  · have HA0 := hid ha0
                    clear ha0
                    have c65 := HMi.out.hb.cell (bls_at _ 0 (by rw [HMi.out.bl]; omega))
                    rw [HABf.out 0 (by omega), HA0.out] at c65
                    have cd := HMi.out.hd.cell (i := 0) rfl
                    have ce := HMi.out.hd.cell (i := 1) rfl
                    obtain ⟨R, hR1, hR2, hR3, hR4, hR5⟩ := HLf.out.lies HA0.out
                    have HLS := hid (fun (v : World) (F : Fr (fun _ => False) wi v) => dlist_ok b ((ops u).act q M).2 _ R q v (HMi.out.same F).hM hR2 hR3 HLf.out.used hR4 hR5 (HMi.out.cB.more (by have := HNN.out; have := HIN.out; omega)))
                    rw [hR1] at HLS
                    obtain ⟨LL, hLL⟩ : ∃ LL, tl (inn.set nxt true) (inn.set nxt true).length = LL := ⟨_, rfl⟩
                    have HLL := hid hLL
                    rw [hLL] at HLS
                    obtain ⟨mL, hmL⟩ : ∃ mL, LL.length = mL := ⟨_, rfl⟩
                    have HmL := hid hmL
                    clear hR1 hR2 hR3 hR4 hR5 hLL hmL
                    go_wp2_with fail
                    refine (HLS.out _ (Fr.refl _ _)).mono ?_
                    rintro e w10 ⟨A1, cap1, rfl, hO1, hF1⟩
                    have HO1 := hid hO1
                    have HMe := hid (HMi.out.same hF1)
                    rw [HmL.out]
                    clear hO1 hF1 c65 cd ce
                    go_wp2_with fail
                    refine (lies_ok A1 bi (n + 2) mL (cap1) (n + 2) (inn.set nxt true) LL _ (OwnR.intR HO1.out rfl) (BoolR.of HMe.out.hi) ILf.out.symm HmL.out.symm (by rw [← ILf.out]; exact HLL.out.symm) (by have := HNN.out; omega)).mono ?_
                    rintro e w11 ⟨rfl, hF2⟩
                    have HMz := hid (HMe.out.same hF2)
                    clear hF2
                    go_wp2_with fail
                    go_roundg (n + 1 - (i + 1))
                    case rel => exact ⟨i + 1, nxt + 1, had, true, _, _, _, _, _, _, _, _, _, _, _, by have := HIN.out; omega, rfl, by go_num, rfl, rfl, by go_num, by have := HMz.out; rwa [HKK.out] at this, HLf.out, HABf.out, HTTf.out, ILf.out, NXf.out⟩
                    case measure => exact meas__ hlt
                  · have HA0 := hid ha0
                    clear ha0
                    have c65 := HMi.out.hb.cell (bls_at _ 0 (by rw [HMi.out.bl]; omega))
                    rw [HABf.out 0 (by omega), HA0.out] at c65
                    go_wp2_with fail
                    go_roundg (n + 1 - (i + 1))
                    case rel => exact ⟨i + 1, nxt + 1, had, true, _, _, _, _, _, _, _, _, _, _, _, by have := HIN.out; omega, rfl, by go_num, rfl, rfl, by go_num, by have := HMi.out; rwa [HKK.out] at this, HLf.out, HABf.out, HTTf.out, ILf.out, NXf.out⟩
                    case measure => exact meas__ hlt
                · have HLT := hid (show tp u < rd ((ops u).act q M).2 0 from by
                    have h8 := HRR.out (by have := HRM.out; simp at htr; omega)
                    rw [HUZ.out] at h8 ⊢
                    exact h8)
                  obtain ⟨pk, hpk⟩ : ∃ pk, rd ((ops u).act q M).2 0 = pk := ⟨_, rfl⟩
                  have HPK := hid (fun (v : World) (F : Fr (fun _ => False) w8 v) => peek_rd b ((ops u).act q M).2 _ 0 v (HM8.out.hM.same F) (by omega) (by have := HLU.out; omega))
                  rw [hpk] at HPK
                  obtain ⟨tt, htt⟩ : ∃ tt, T.getD u 0 = tt := ⟨_, rfl⟩
                  have tp9 : decide (pk ≤ tt) = false := by
                    have h8 := HLT.out
                    have h9 := HS.out.2.2.2.1 u HU4.out
                    simp
                    omega
                  have cd := HM8.out.hd.cell (i := 0) rfl
                  have ct := HM8.out.ht.cell (ints_at T u (by rw [HM8.out.tl]; exact HU4.out))
                  rw [htt] at ct
                  clear hpk htt
                  go_upto_region 56 with fail
                  go_quiet ((go_at_call 28; exact (HPK.out _ (Fr.drewN _ _ _)).mono fun _ _ ⟨he, hm⟩ => ⟨he, _, hm.symm⟩))
                  generalize hw9 : w8.drewN _ = w9
                  have HM9 := hid (show OnM w b bd bi bo bb bt q _ _ _ _ _ _ _ _ _ _ _ w9 from by rw [← hw9]; exact HM8.out.same (Fr.drewN _ _ _))
                  clear hw9 cd ct
                  clear tp9
                  have hnx : nxt < n + 2 := by have := HS.out.2.2.2.2.2; have := HIN.out; omega
                  have hnx1 : nxt ≤ 1000 := by have := HNN.out; omega
                  have hnx0 : (0 : Int) ≤ (nxt : Int) := by omega
                  have hnx2 : (nxt : Int) < (n : Int) + 2 := by omega
                  have ci := HM9.out.hi.cell (bls_at inn nxt (by rw [HS.out.2.2.2.2.1]; exact hnx))
                  have fi := HM9.out.hi.frozen nxt
                  have HMi := hid (HM9.out.setI HE.out nxt true)
                  go_upto_region 65 with fail
                  obtain ⟨wi, hwi⟩ : ∃ wi, w9.setCell ⟨bi, nxt, none⟩ (.bool true) = wi := ⟨_, rfl⟩
                  rw [hwi] at HMi ⊢
                  clear hwi ci fi hnx hnx0 hnx1 hnx2
                  rcases ha0 : upd A u false 0 with _ | _
                  · have HA0 := hid ha0
                    clear ha0
                    have c65 := HMi.out.hb.cell (bls_at _ 0 (by rw [HMi.out.bl]; omega))
                    rw [HABf.out 0 (by omega), HA0.out] at c65
                    have cd := HMi.out.hd.cell (i := 0) rfl
                    have ce := HMi.out.hd.cell (i := 1) rfl
                    obtain ⟨R, hR1, hR2, hR3, hR4, hR5⟩ := HLf.out.lies HA0.out
                    have HLS := hid (fun (v : World) (F : Fr (fun _ => False) wi v) => dlist_ok b ((ops u).act q M).2 _ R q v (HMi.out.same F).hM hR2 hR3 HLf.out.used hR4 hR5 (HMi.out.cB.more (by have := HNN.out; have := HIN.out; omega)))
                    rw [hR1] at HLS
                    obtain ⟨LL, hLL⟩ : ∃ LL, tl (inn.set nxt true) (inn.set nxt true).length = LL := ⟨_, rfl⟩
                    have HLL := hid hLL
                    rw [hLL] at HLS
                    obtain ⟨mL, hmL⟩ : ∃ mL, LL.length = mL := ⟨_, rfl⟩
                    have HmL := hid hmL
                    clear hR1 hR2 hR3 hR4 hR5 hLL hmL
                    go_wp2_with fail
                    refine (HLS.out _ (Fr.refl _ _)).mono ?_
                    rintro e w10 ⟨A1, cap1, rfl, hO1, hF1⟩
                    have HO1 := hid hO1
                    have HMe := hid (HMi.out.same hF1)
                    rw [HmL.out]
                    clear hO1 hF1 c65 cd ce
                    go_wp2_with fail
                    refine (lies_ok A1 bi (n + 2) mL (cap1) (n + 2) (inn.set nxt true) LL _ (OwnR.intR HO1.out rfl) (BoolR.of HMe.out.hi) ILf.out.symm HmL.out.symm (by rw [← ILf.out]; exact HLL.out.symm) (by have := HNN.out; omega)).mono ?_
                    rintro e w11 ⟨rfl, hF2⟩
                    have HMz := hid (HMe.out.same hF2)
                    clear hF2
                    go_wp2_with fail
                    go_roundg (n + 1 - (i + 1))
                    case rel => exact ⟨i + 1, nxt + 1, had, true, _, _, _, _, _, _, _, _, _, _, _, by have := HIN.out; omega, rfl, by go_num, rfl, rfl, by go_num, by have := HMz.out; rwa [HKK.out] at this, HLf.out, HABf.out, HTTf.out, ILf.out, NXf.out⟩
                    case measure => exact meas__ hlt
                  · have HA0 := hid ha0
                    clear ha0
                    have c65 := HMi.out.hb.cell (bls_at _ 0 (by rw [HMi.out.bl]; omega))
                    rw [HABf.out 0 (by omega), HA0.out] at c65
                    go_wp2_with fail
                    go_roundg (n + 1 - (i + 1))
                    case rel => exact ⟨i + 1, nxt + 1, had, true, _, _, _, _, _, _, _, _, _, _, _, by have := HIN.out; omega, rfl, by go_num, rfl, rfl, by go_num, by have := HMi.out; rwa [HKK.out] at this, HLf.out, HABf.out, HTTf.out, ILf.out, NXf.out⟩
                    case measure => exact meas__ hlt
            · as_aux_lemma =>
                have HOUT := hid h1
                have HPF := hid h2
                have HNV := hid h3
                have HN1 := hid h4
                have HN2 := hid h5
                have HNT := hid h6
                have HEQ := hid h7
                have HEZ := hid h8
                have HLf := hid h9
                clear h1 h2 h3 h4 h5 h6 h7 h8 h9
                by_cases hu0 : u = 0
                · have hz1 := HPF.out hu0
                  subst hz1
                  have HUZ := hid hu0
                  have tu1 : ((u : Int) == 0) = true := by simp; omega
                  have tu2 : ((u : Int) != 0) = false := by simp; omega
                  have tu3 : decide (0 < (u : Int)) = false := by simp; omega
                  have tu4 : decide (0 < u) = false := by simp; omega
                  clear hu0
                  have HST := hid (HM.out.calls HE.out u HU4.out HAU.out (by have := HNN.out; have := HIN.out; omega) HSF.out 1 (by rw [HOUT.out]; rfl))
                  go_wp2_with fail
                  refine HSU.out.mono ?_
                  rintro e w' ⟨rfl, rfl⟩
                  go_wp2_with fail
                  refine HST.out.mono ?_
                  rintro e w7 ⟨rfl, hRes⟩
                  have hOut := HOUT.out
                  obtain ⟨c9, hGo⟩ := hRes.1
                  have hco := hRes.2.1
                  obtain ⟨C2, hM7⟩ := hRes.2.2.2
                  have HM7 := hid hM7
                  have HGO2 := hid (op_got' hGo (fun _ h5 => act_five HLV.out HSF.out.2.1 h5))
                  obtain ⟨gt, hgt⟩ : ∃ gt, DOp.tell ((ops u).act q M).1 = gt := ⟨_, rfl⟩
                  have HGT := hid hgt
                  rw [hgt] at HGO2
                  clear hRes hOut hGo hM7 HST hgt co
                  have HSU2 := hid (show Calls Try.prog 24 #[.pointer (some ⟨b.m, 0, none⟩), .int .i64 u] w7 (fun e w' => e = .returned (.int .i64 (su + 1)) ∧ w7 = w') from by
                    have h1 := steps_in b (MO ((ops u).act q M).2 (stp s u)) u w7 HM7.out.hM (by show u < (stp s u).length; rw [HM7.out.sl]; have := HU4.out; omega)
                    have h2 : (MO ((ops u).act q M).2 (stp s u)).steps.getD u 0 = su + 1 := by
                      show (stp s u).getD u 0 = _
                      rw [stp_at s u u (by rw [HM.out.sl]; have := HU4.out; omega), if_pos rfl, HSUV.out]
                      have := HSB.out
                      unfold wrap64
                      omega
                    rw [h2] at h1
                    exact h1)
                  go_wp2_with fail
                  refine HSU2.out.mono ?_
                  rintro e w' ⟨rfl, rfl⟩
                  go_wp2_with fail
                  refine HGO2.out.mono ?_
                  rintro e w' ⟨rfl, rfl⟩
                  clear hco HGO2 HSU2
                  have HTTf := hid HS.out.2.2.2.1
                  have ILf := hid (show (inn.set nn false).length = n + 2 from by rw [List.length_set]; exact HS.out.2.2.2.2.1)
                  have NXf := hid (show nxt ≤ i + 1 + 1 from by have := HS.out.2.2.2.2.2; omega)
                  have HNB := hid (show nn < n + 2 from by have := HS.out.2.2.2.2.2; have := HIN.out; have := HN2.out; omega)
                  obtain rfl : gt = (nn : Int) := by rw [← HGT.out]; unfold DOp.tell; rw [if_pos (.inr HOUT.out)]; exact HNV.out
                  have cb7 := HM7.out.hb.cell (bls_at B u (by rw [HM7.out.bl]; exact HU4.out))
                  have fb7 := HM7.out.hb.frozen u
                  have HM8 := hid (HM7.out.setB HE.out u false)
                  go_upto_region 41 with fail
                  obtain ⟨w8, hw8⟩ : ∃ w8, w7.setCell ⟨bb, u, none⟩ (.bool false) = w8 := ⟨_, rfl⟩
                  rw [hw8] at HM8 ⊢
                  clear hw8 cb7 fb7
                  have HABf := hid (show ∀ v, v < 4 → (B.set u false).getD v false = upd A u false v from fun v hv => by
                    rw [getD_setB _ _ _ _ (by rw [HM.out.bl]; exact HU4.out)]
                    unfold upd
                    by_cases h : u = v
                    · rw [if_pos h, if_pos h.symm]
                    · rw [if_neg h, if_neg (fun hh => h hh.symm)]
                      exact HS.out.2.2.1 v hv)
                  have ci := HM8.out.hi.cell (bls_at inn nn (by rw [HS.out.2.2.2.2.1]; exact HNB.out))
                  rw [HNT.out] at ci
                  have fi := HM8.out.hi.frozen nn
                  have HMi := hid (HM8.out.setI HE.out nn false)
                  have tn1 : decide ((nn : Int) < 1) = false := by have := HN1.out; simp; omega
                  have tn2 : decide (nxt ≤ nn) = false := by have := HN2.out; simp; omega
                  have tn3 : (0 : Int) ≤ (nn : Int) := by omega
                  have tn4 : nn < n + 2 := HNB.out
                  have tn5 : (nn : Int) < (n : Int) + 2 := by omega
                  have tn6 : nn ≤ n + 2 := by omega
                  have tn7 : (nn : Int) ≤ (n : Int) + 2 := by omega
                  go_upto_region 63 with fail
                  obtain ⟨wi, hwi⟩ : ∃ wi, w8.setCell ⟨bi, nn, none⟩ (.bool false) = wi := ⟨_, rfl⟩
                  rw [hwi] at HMi ⊢
                  clear hwi ci fi tn1 tn2
                  obtain ⟨cbf, hcbf⟩ : ∃ cbf : Nat → Nat, cb (inn.set nn false) = cbf := ⟨_, rfl⟩
                  have HC := hid (fun (v : World) (F : Fr (fun _ => False) wi v) (m : Nat) (hm : m ≤ n + 2) => count_q bi m (n + 2) (inn.set nn false) v (BoolR.of (HMi.out.same F).hi) (by rw [ILf.out]; exact hm) (by have := HNN.out; omega))
                  rw [hcbf] at HC
                  have tcc : (((cbf (n + 2) : Nat) : Int) != ((cbf nn : Nat) : Int)) = false := by
                    have hee := HEQ.out HUZ.out
                    rw [ILf.out, hcbf] at hee
                    rw [hee]
                    simp
                  clear hcbf
                  go_quiet ((go_at_call 29; exact (HC.out _ (Fr.drewN _ _ _) _ (by omega)).mono fun _ _ ⟨he, hm⟩ => ⟨he, _, hm.symm⟩))
                  generalize hw9 : wi.drewN _ = w9
                  have HMj := hid (show OnM w b bd bi bo bb bt q _ _ _ _ _ _ _ _ _ _ _ w9 from by rw [← hw9]; exact HMi.out.same (Fr.drewN _ _ _))
                  clear hw9 tn3 tn4 tn5 tn6 tn7
                  rcases ha0 : upd A u false 0 with _ | _
                  · have HA0 := hid ha0
                    clear ha0
                    have c65 := HMj.out.hb.cell (bls_at _ 0 (by rw [HMj.out.bl]; omega))
                    rw [HABf.out 0 (by omega), HA0.out] at c65
                    have cd := HMj.out.hd.cell (i := 0) rfl
                    have ce := HMj.out.hd.cell (i := 1) rfl
                    obtain ⟨R, hR1, hR2, hR3, hR4, hR5⟩ := HLf.out.lies HA0.out
                    have HLS := hid (fun (v : World) (F : Fr (fun _ => False) w9 v) => dlist_ok b ((ops u).act q M).2 _ R q v (HMj.out.same F).hM hR2 hR3 HLf.out.used hR4 hR5 (HMj.out.cB.more (by have := HNN.out; have := HIN.out; omega)))
                    rw [hR1] at HLS
                    obtain ⟨LL, hLL⟩ : ∃ LL, tl (inn.set nn false) (inn.set nn false).length = LL := ⟨_, rfl⟩
                    have HLL := hid hLL
                    rw [hLL] at HLS
                    obtain ⟨mL, hmL⟩ : ∃ mL, LL.length = mL := ⟨_, rfl⟩
                    have HmL := hid hmL
                    clear hR1 hR2 hR3 hR4 hR5 hLL hmL
                    go_wp2_with fail
                    refine (HLS.out _ (Fr.refl _ _)).mono ?_
                    rintro e w10 ⟨A1, cap1, rfl, hO1, hF1⟩
                    have HO1 := hid hO1
                    have HMe := hid (HMj.out.same hF1)
                    rw [HmL.out]
                    clear hO1 hF1 c65 cd ce
                    go_wp2_with fail
                    refine (lies_ok A1 bi (n + 2) mL (cap1) (n + 2) (inn.set nn false) LL _ (OwnR.intR HO1.out rfl) (BoolR.of HMe.out.hi) ILf.out.symm HmL.out.symm (by rw [← ILf.out]; exact HLL.out.symm) (by have := HNN.out; omega)).mono ?_
                    rintro e w11 ⟨rfl, hF2⟩
                    have HMz := hid (HMe.out.same hF2)
                    clear hF2
                    go_wp2_with fail
                    go_roundg (n + 1 - (i + 1))
                    case rel => exact ⟨i + 1, nxt, had, false, _, _, _, _, _, _, _, _, _, _, _, by have := HIN.out; omega, rfl, rfl, rfl, rfl, by go_num, by have := HMz.out; rwa [HKK.out] at this, HLf.out, HABf.out, HTTf.out, ILf.out, NXf.out⟩
                    case measure => exact meas__ hlt
                  · have HA0 := hid ha0
                    clear ha0
                    have c65 := HMj.out.hb.cell (bls_at _ 0 (by rw [HMj.out.bl]; omega))
                    rw [HABf.out 0 (by omega), HA0.out] at c65
                    go_wp2_with fail
                    go_roundg (n + 1 - (i + 1))
                    case rel => exact ⟨i + 1, nxt, had, false, _, _, _, _, _, _, _, _, _, _, _, by have := HIN.out; omega, rfl, rfl, rfl, rfl, by go_num, by have := HMj.out; rwa [HKK.out] at this, HLf.out, HABf.out, HTTf.out, ILf.out, NXf.out⟩
                    case measure => exact meas__ hlt
                · have HUZ := hid hu0
                  have tu1 : ((u : Int) == 0) = false := by simp; omega
                  have tu2 : ((u : Int) != 0) = true := by simp; omega
                  have tu3 : decide (0 < (u : Int)) = true := by simp; omega
                  have tu4 : decide (0 < u) = true := by simp; omega
                  clear hu0
                  have HST := hid (HM.out.calls HE.out u HU4.out HAU.out (by have := HNN.out; have := HIN.out; omega) HSF.out 1 (by rw [HOUT.out]; rfl))
                  go_wp2_with fail
                  refine HSU.out.mono ?_
                  rintro e w' ⟨rfl, rfl⟩
                  go_wp2_with fail
                  refine HST.out.mono ?_
                  rintro e w7 ⟨rfl, hRes⟩
                  have hOut := HOUT.out
                  obtain ⟨c9, hGo⟩ := hRes.1
                  have hco := hRes.2.1
                  obtain ⟨C2, hM7⟩ := hRes.2.2.2
                  have HM7 := hid hM7
                  have HGO2 := hid (op_got' hGo (fun _ h5 => act_five HLV.out HSF.out.2.1 h5))
                  obtain ⟨gt, hgt⟩ : ∃ gt, DOp.tell ((ops u).act q M).1 = gt := ⟨_, rfl⟩
                  have HGT := hid hgt
                  rw [hgt] at HGO2
                  clear hRes hOut hGo hM7 HST hgt co
                  have HSU2 := hid (show Calls Try.prog 24 #[.pointer (some ⟨b.m, 0, none⟩), .int .i64 u] w7 (fun e w' => e = .returned (.int .i64 (su + 1)) ∧ w7 = w') from by
                    have h1 := steps_in b (MO ((ops u).act q M).2 (stp s u)) u w7 HM7.out.hM (by show u < (stp s u).length; rw [HM7.out.sl]; have := HU4.out; omega)
                    have h2 : (MO ((ops u).act q M).2 (stp s u)).steps.getD u 0 = su + 1 := by
                      show (stp s u).getD u 0 = _
                      rw [stp_at s u u (by rw [HM.out.sl]; have := HU4.out; omega), if_pos rfl, HSUV.out]
                      have := HSB.out
                      unfold wrap64
                      omega
                    rw [h2] at h1
                    exact h1)
                  go_wp2_with fail
                  refine HSU2.out.mono ?_
                  rintro e w' ⟨rfl, rfl⟩
                  go_wp2_with fail
                  refine HGO2.out.mono ?_
                  rintro e w' ⟨rfl, rfl⟩
                  clear hco HGO2 HSU2
                  have HTTf := hid HS.out.2.2.2.1
                  have ILf := hid (show (inn.set nn false).length = n + 2 from by rw [List.length_set]; exact HS.out.2.2.2.2.1)
                  have NXf := hid (show nxt ≤ i + 1 + 1 from by have := HS.out.2.2.2.2.2; omega)
                  have HNB := hid (show nn < n + 2 from by have := HS.out.2.2.2.2.2; have := HIN.out; have := HN2.out; omega)
                  obtain rfl : gt = (nn : Int) := by rw [← HGT.out]; unfold DOp.tell; rw [if_pos (.inr HOUT.out)]; exact HNV.out
                  have cb7 := HM7.out.hb.cell (bls_at B u (by rw [HM7.out.bl]; exact HU4.out))
                  have fb7 := HM7.out.hb.frozen u
                  have HM8 := hid (HM7.out.setB HE.out u false)
                  go_upto_region 41 with fail
                  obtain ⟨w8, hw8⟩ : ∃ w8, w7.setCell ⟨bb, u, none⟩ (.bool false) = w8 := ⟨_, rfl⟩
                  rw [hw8] at HM8 ⊢
                  clear hw8 cb7 fb7
                  have HABf := hid (show ∀ v, v < 4 → (B.set u false).getD v false = upd A u false v from fun v hv => by
                    rw [getD_setB _ _ _ _ (by rw [HM.out.bl]; exact HU4.out)]
                    unfold upd
                    by_cases h : u = v
                    · rw [if_pos h, if_pos h.symm]
                    · rw [if_neg h, if_neg (fun hh => h hh.symm)]
                      exact HS.out.2.2.1 v hv)
                  have ci := HM8.out.hi.cell (bls_at inn nn (by rw [HS.out.2.2.2.2.1]; exact HNB.out))
                  rw [HNT.out] at ci
                  have fi := HM8.out.hi.frozen nn
                  have HMi := hid (HM8.out.setI HE.out nn false)
                  have tn1 : decide ((nn : Int) < 1) = false := by have := HN1.out; simp; omega
                  have tn2 : decide (nxt ≤ nn) = false := by have := HN2.out; simp; omega
                  have tn3 : (0 : Int) ≤ (nn : Int) := by omega
                  have tn4 : nn < n + 2 := HNB.out
                  have tn5 : (nn : Int) < (n : Int) + 2 := by omega
                  have tn6 : nn ≤ n + 2 := by omega
                  have tn7 : (nn : Int) ≤ (n : Int) + 2 := by omega
                  go_upto_region 63 with fail
                  obtain ⟨wi, hwi⟩ : ∃ wi, w8.setCell ⟨bi, nn, none⟩ (.bool false) = wi := ⟨_, rfl⟩
                  rw [hwi] at HMi ⊢
                  clear hwi ci fi tn1 tn2
                  obtain ⟨cbf, hcbf⟩ : ∃ cbf : Nat → Nat, cb (inn.set nn false) = cbf := ⟨_, rfl⟩
                  have HC := hid (fun (v : World) (F : Fr (fun _ => False) wi v) (m : Nat) (hm : m ≤ n + 2) => count_q bi m (n + 2) (inn.set nn false) v (BoolR.of (HMi.out.same F).hi) (by rw [ILf.out]; exact hm) (by have := HNN.out; omega))
                  rw [hcbf] at HC
                  have tcc : (((cbf nn : Nat) : Int) != 0) = false := by
                    have hee := HEZ.out HUZ.out
                    rw [hcbf] at hee
                    rw [hee]
                    rfl
                  clear hcbf
                  go_quiet ((go_at_call 29; exact (HC.out _ (Fr.drewN _ _ _) _ (by omega)).mono fun _ _ ⟨he, hm⟩ => ⟨he, _, hm.symm⟩))
                  generalize hw9 : wi.drewN _ = w9
                  have HMj := hid (show OnM w b bd bi bo bb bt q _ _ _ _ _ _ _ _ _ _ _ w9 from by rw [← hw9]; exact HMi.out.same (Fr.drewN _ _ _))
                  clear hw9 tn3 tn4 tn5 tn6 tn7
                  rcases ha0 : upd A u false 0 with _ | _
                  · have HA0 := hid ha0
                    clear ha0
                    have c65 := HMj.out.hb.cell (bls_at _ 0 (by rw [HMj.out.bl]; omega))
                    rw [HABf.out 0 (by omega), HA0.out] at c65
                    have cd := HMj.out.hd.cell (i := 0) rfl
                    have ce := HMj.out.hd.cell (i := 1) rfl
                    obtain ⟨R, hR1, hR2, hR3, hR4, hR5⟩ := HLf.out.lies HA0.out
                    have HLS := hid (fun (v : World) (F : Fr (fun _ => False) w9 v) => dlist_ok b ((ops u).act q M).2 _ R q v (HMj.out.same F).hM hR2 hR3 HLf.out.used hR4 hR5 (HMj.out.cB.more (by have := HNN.out; have := HIN.out; omega)))
                    rw [hR1] at HLS
                    obtain ⟨LL, hLL⟩ : ∃ LL, tl (inn.set nn false) (inn.set nn false).length = LL := ⟨_, rfl⟩
                    have HLL := hid hLL
                    rw [hLL] at HLS
                    obtain ⟨mL, hmL⟩ : ∃ mL, LL.length = mL := ⟨_, rfl⟩
                    have HmL := hid hmL
                    clear hR1 hR2 hR3 hR4 hR5 hLL hmL
                    go_wp2_with fail
                    refine (HLS.out _ (Fr.refl _ _)).mono ?_
                    rintro e w10 ⟨A1, cap1, rfl, hO1, hF1⟩
                    have HO1 := hid hO1
                    have HMe := hid (HMj.out.same hF1)
                    rw [HmL.out]
                    clear hO1 hF1 c65 cd ce
                    go_wp2_with fail
                    refine (lies_ok A1 bi (n + 2) mL (cap1) (n + 2) (inn.set nn false) LL _ (OwnR.intR HO1.out rfl) (BoolR.of HMe.out.hi) ILf.out.symm HmL.out.symm (by rw [← ILf.out]; exact HLL.out.symm) (by have := HNN.out; omega)).mono ?_
                    rintro e w11 ⟨rfl, hF2⟩
                    have HMz := hid (HMe.out.same hF2)
                    clear hF2
                    go_wp2_with fail
                    go_roundg (n + 1 - (i + 1))
                    case rel => exact ⟨i + 1, nxt, had, pushes, _, _, _, _, _, _, _, _, _, _, _, by have := HIN.out; omega, rfl, rfl, rfl, rfl, by go_num, by have := HMz.out; rwa [HKK.out] at this, HLf.out, HABf.out, HTTf.out, ILf.out, NXf.out⟩
                    case measure => exact meas__ hlt
                  · have HA0 := hid ha0
                    clear ha0
                    have c65 := HMj.out.hb.cell (bls_at _ 0 (by rw [HMj.out.bl]; omega))
                    rw [HABf.out 0 (by omega), HA0.out] at c65
                    go_wp2_with fail
                    go_roundg (n + 1 - (i + 1))
                    case rel => exact ⟨i + 1, nxt, had, pushes, _, _, _, _, _, _, _, _, _, _, _, by have := HIN.out; omega, rfl, rfl, rfl, rfl, by go_num, by have := HMj.out; rwa [HKK.out] at this, HLf.out, HABf.out, HTTf.out, ILf.out, NXf.out⟩
                    case measure => exact meas__ hlt
        · have hlt2 : ¬ (i : Int) < n := by omega
          go_wp2_with fail
          refine (awake_ok _).mono ?_
          rintro e w9 ⟨rfl, hF9⟩
          go_wp2_with fail
          go_ret
          exact ⟨rfl, (HM.out.hF.trans hF9).below (Nat.le_refl _) (fun _ hh => hh.elim)⟩

theorem onceLaw (p q : Int) (A : Option Addr) (n c : Nat) (f : Nat → Nat → Int) (w : World) (hr : Row w A n 3 f) :
    Calls Try.prog 4 #[.agg #[.int .i64 p, .int .i64 q], .slice A n c] w fun e w' => e = .returned (.bool true) ∧ Below w.heap.size w w' := by
  by_cases h : 0 ≤ p ∧ p ≤ q ∧ q ≤ 8 ∧ n ≤ 400
  · exact once_yes p q A n c f w h.1 h.2.1 h.2.2.1 h.2.2.2 hr
  · exact once_no p q A n c w h
end Go.Proofs.Ytlhpngoplmccjaa
