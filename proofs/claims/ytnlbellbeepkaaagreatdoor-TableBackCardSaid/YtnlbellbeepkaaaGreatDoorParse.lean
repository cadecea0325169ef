/-
  Stage 7: Parse.
-/
import Derived.Test.YtnlbellbeepkaaaGreatDoorRangeL
import Derived.Test.YtnlbellbeepkaaaGreatDoorBackW
namespace Go.Proofs.YtnlbellbeepkaaaGreatDoor
open Go.RowKit Go.Shelf
attribute [local go_sem] Oper.semAt_some
set_option linter.unusedVariables false
set_option linter.unusedSimpArgs false

theorem Fr.own {w W : World} (h : Fr (fun k => w.heap.size ≤ k) w W) : Fr (fun _ => False) w W :=
  ⟨h.os, h.tape, h.output, h.size, fun k hk _ => h.block k hk (by show ¬ w.heap.size ≤ k; omega)⟩

/-- The return. -/
theorem pa_end {w W W1 : World} {D : Nat} (hD : D = w.heap.size + 5) {T : Nat → Prop} {tmps : Array Value} {s : Bs} {v : Value} (hF : Fr (fun k => w.heap.size ≤ k) w W) (h1 : Fr T W W1) (hT : ∀ k, T k → w.heap.size ≤ k ∧ k < w.heap.size + 5) (hK : W.heap[w.heap.size + 5]? = some (.deferred (some [])))
    (hv : ∀ W' : World, Fr (fun k => k = w.heap.size + 5) W1 W' → (results Tryz.f7 tmps).run Tryz.prog W' = .ok v W')
    (hp : ∀ W', Fr (fun k => w.heap.size ≤ k ∧ k < w.heap.size + 7) W W' → Fr (fun _ => False) w W' → PaPost s w (.returned v) W') :
    bodyPostM Fence.wide 8 Tryz.prog Tryz.f7 (PaPost s w) Exit.ret { tmps := tmps, defers := [{ target := .collected D, args := #[] }] } W1 := by
  subst hD
  have hlt := (Array.getElem?_eq_some_iff.1 hK).1
  have hK' : W1.heap[w.heap.size + 5]? = some (.deferred (some [])) := (h1.block _ hlt (fun h => by have := (hT _ h).2; omega)).trans hK
  refine ⟨by simp, .inl ⟨_, _, rfl, run_takeDeferred hK', ?_⟩⟩
  have hF4 : Fr (fun k => k = w.heap.size + 5) W1 (W1.putObj (w.heap.size + 5) (.deferred none)) := Fr.putObj _ _ _ _ rfl
  have hF5 : Fr (fun _ => False) w (W1.putObj (w.heap.size + 5) (.deferred none)) := ((hF.trans (h1.mono (fun k hk => (hT k hk).1))).trans (hF4.mono (fun k hk => by show w.heap.size ≤ k; omega))).own
  exact ⟨v, hv _ hF4, hp _ ((h1.mono (fun k hk => by have := hT k hk; show w.heap.size ≤ k ∧ k < w.heap.size + 7; omega)).trans (hF4.mono (fun k hk => by show w.heap.size ≤ k ∧ k < w.heap.size + 7; omega))) hF5⟩

/-- The lines of pre have been taken in. -/
def PSt (w : World) (pre : List Bs) (W : World) : Prop :=
  ∃ (A : Option Addr) (n c : Nat) (m : List Tw), Steps pre m ∧ m.length = n ∧ Blk W w.heap.size #[.slice none 0 0] ∧ Blk W (w.heap.size + 1) #[.int .i64 0] ∧ Blk W (w.heap.size + 2) #[.int .i64 0] ∧ Blk W (w.heap.size + 3) #[.slice A n c] ∧ OwnR W (w.heap.size + 7) 34 7 A n c (flatT m) ∧ Fr (fun k => w.heap.size ≤ k) w W
/-- A line is wrong. -/
def PEr (s : Bs) (w : World) (pre : List Bs) (W : World) : Prop :=
  (¬ ∃ m, Steps (lns s) m) ∧ ∃ k er : Int, er ≠ 0 ∧ Blk W w.heap.size #[.slice none 0 0] ∧ Blk W (w.heap.size + 1) #[.int .i64 k] ∧ Blk W (w.heap.size + 2) #[.int .i64 er] ∧ Fr (fun k => w.heap.size ≤ k) w W

theorem PSt.keep {w W W' : World} {pre : List Bs} (h : PSt w pre W) {S : Nat → Prop} (f : Fr S W W') (hS : ∀ k, S k → k = w.heap.size + 4 ∨ k = w.heap.size + 6) : PSt w pre W' := by
  obtain ⟨A, n, c, m, h1, h1', h2, h3, h4, h5, h6, h9⟩ := h
  have hno : ∀ k, k ≠ w.heap.size + 4 → k ≠ w.heap.size + 6 → ¬ S k := fun k a b hk => by rcases hS k hk with e | e <;> omega
  exact ⟨A, n, c, m, h1, h1', h2.keep f (hno _ (by omega) (by omega)), h3.keep f (hno _ (by omega) (by omega)), h4.keep f (hno _ (by omega) (by omega)), h5.keep f (hno _ (by omega) (by omega)), h6.keep f (fun j hj => hno _ (by have := (h6.lt j hj).1; omega) (by have := (h6.lt j hj).1; omega)), h9.trans (f.mono (fun k hk => by rcases hS k hk with e | e <;> omega))⟩
theorem PEr.keep {s : Bs} {w W W' : World} {pre : List Bs} (h : PEr s w pre W) {S : Nat → Prop} (f : Fr S W W') (hS : ∀ k, S k → k = w.heap.size + 4 ∨ k = w.heap.size + 6) : PEr s w pre W' := by
  obtain ⟨h0, k, er, h1, h2, h3, h4, h9⟩ := h
  have hno : ∀ k, k ≠ w.heap.size + 4 → k ≠ w.heap.size + 6 → ¬ S k := fun k a b hk => by rcases hS k hk with e | e <;> omega
  exact ⟨h0, k, er, h1, h2.keep f (hno _ (by omega) (by omega)), h3.keep f (hno _ (by omega) (by omega)), h4.keep f (hno _ (by omega) (by omega)), h9.trans (f.mono (fun k hk => by rcases hS k hk with e | e <;> omega))⟩

set_option maxRecDepth 100000 in
set_option maxHeartbeats 2000000 in
theorem parse_main (s : Bs) (hne : s ≠ []) (hs : s.length ≤ 131072) (w : World) (ht : Tabz w) : Calls Tryz.prog 7 #[.string (bs s)] w (PaPost s w) := by
  have hsz : ¬ 131072 < (bs s).size := by rw [bs_size]; omega
  have hsz2 : (bs s).size ≤ 131072 := by rw [bs_size]; omega
  have e1 : (bs s).toList.isEmpty = false := by
    rw [ByteArray.toList_eq]
    cases s with
    | nil => exact absurd rfl hne
    | cons a b => rfl
  have e2 := bsl_ne hne
  refine (callsIn_wide (n := 8)).1 ?_
  refine callsIn_of_wp_marks Tryz.func7 rfl trivial ?_ rfl
  simp only [Tryz.ntmps7, List.size_toArray, List.length_cons, List.length_nil, Nat.reduceAdd, Nat.reduceSub, Array.replicate_succ, Array.replicate_zero, List.push_toArray, List.append_toArray, List.nil_append, List.cons_append]
  gi_wp2
  refine ⟨trivial, (callsIn_wide.2 (lines_mk (bs s) _)).mono ?_⟩
  rintro e W0 ⟨rfl, hW0⟩
  have hz0 : W0.heap.size = w.heap.size + 5 := by rw [hW0]; simp
  have b0 : Blk W0 w.heap.size #[.slice none 0 0] := by
    rw [hW0]
    exact ((((Blk.new w _ _).alloc _).alloc _).alloc _).alloc _
  have b1 : Blk W0 (w.heap.size + 1) #[.int .i64 0] := by
    rw [hW0]
    exact ((((Blk.new _ _ _).at (show _ = w.heap.size + 1 by simp)).alloc _).alloc _).alloc _
  have b2 : Blk W0 (w.heap.size + 2) #[.int .i64 0] := by
    rw [hW0]
    exact (((Blk.new _ _ _).at (show _ = w.heap.size + 2 by simp)).alloc _).alloc _
  have b3 : Blk W0 (w.heap.size + 3) #[.slice none 0 0] := by
    rw [hW0]
    exact ((Blk.new _ _ _).at (show _ = w.heap.size + 3 by simp)).alloc _
  have b4 : Blk W0 (w.heap.size + 4) #[.string (bs s)] := by
    rw [hW0]
    exact (Blk.new _ _ _).at (show _ = w.heap.size + 4 by simp)
  have hF0 : Fr (fun _ => False) w W0 := by
    rw [hW0]
    exact ((((Fr.alloc _ _ _).trans (Fr.alloc _ _ _)).trans (Fr.alloc _ _ _)).trans (Fr.alloc _ _ _)).trans (Fr.alloc _ _ _)
  have hns : ((((w.alloc (.cells #[.slice none 0 0] 22)).alloc (.cells #[.int .i64 0] 3)).alloc (.cells #[.int .i64 0] 25)).alloc (.cells #[.slice none 0 0] 22)).heap.size = w.heap.size + 4 := by simp
  rw [hns]
  have HZ0 := hid hz0
  clear hW0 hns hz0 hsz hsz2
  gi_wp2
  have hD : W0.heap.size = w.heap.size + 5 := HZ0.out
  refine range_lines (sb := w.heap.size + 4) (by omega) rfl s (by omega) b4 (fun pre W => PSt w pre W) (fun pre W => PEr s w pre W)
    (fun pre W W' S h f hS => h.keep f (fun k hk => by have := hS k hk; omega)) (fun pre W W' S h f hS => h.keep f (fun k hk => by have := hS k hk; omega))
    ?h0 (fun x => { tmps := #[.string (bs s), undef, .pointer (some ⟨w.heap.size, 0, none⟩), .pointer (some ⟨w.heap.size + 1, 0, none⟩), .pointer (some ⟨w.heap.size + 1 + 1, 0, none⟩), .pointer (some ⟨w.heap.size + 1 + 1 + 1, 0, none⟩), .string (bs x), undef, undef, .string (bs s), .int .i64 (bs s).size, .bool (decide ((131072 : Int) < ((bs s).size : Int))), .string (bs s), .bool false, .string (bs s), .func (.func 24) #[] #[.pointer (some ⟨w.heap.size + 4, 0, none⟩)], .string (bs x), undef, undef, undef, undef, undef, undef, undef, undef, undef, undef, undef, undef, undef, undef], defers := [] }) ?assign ?body ?done ?stop
  case h0 => exact ⟨none, 0, 0, [], Steps.nil, rfl, b0, b1, b2, b3, OwnR.nil _ _ _ _, hF0.mono (fun _ h => h.elim)⟩
  case assign =>
    intro l x W K hK
    gi_wp2
    exact hK
  case body =>
    intro l pre x rest W hpr hWs hS
    obtain ⟨A, n, c, m, r1, r2, p0, p1, p2, p3, ho, hF⟩ := hS
    have hpl : pre.length + x.length ≤ s.length := lns_pre hpr
    have hn : n ≤ 131072 := by rw [← r2, r1.len]; omega
    have htb : Tabl m := by have := r1.right.tabl; rwa [List.take_length] at this
    have HPUT := hid (put_any A n c (w.heap.size + 7) m x W (ht.same hF.own) (by omega) ho r2 (by omega) (by have := hWs; omega) htb)
    have c3 : W.cell? ⟨w.heap.size + 1 + 1 + 1, 0, none⟩ = some (.slice A n c) := p3.cell rfl
    have HF := hid hF
    have HP0 := hid p0
    have HP1 := hid p1
    have HP2 := hid p2
    have HP3 := hid p3
    have HO := hid ho
    have HR := hid r1
    have HR2 := hid r2
    have HPR := hid hpr
    clear hF p0 p1 p2 p3 ho r1 r2 hpl ht hpr b0 b1 b2 b3 b4 hF0 HZ0 hWs htb
    gi_wp2
    refine ⟨trivial, (CallsIn.inRound l (callsIn_wide.2 HPUT.out)).mono ?_⟩
    rintro e W2 hpt
    rcases hpt with ⟨hok, A', c', rfl, hO2, hF2⟩ | ⟨hno, er, her, rfl, hF2⟩
    · have hlo : ∀ k, ownB A k → w.heap.size + 7 ≤ k := fun k hk => (HO.out.lt k hk).1
      have HF2 := hid hF2
      have y3 : Blk W2 (w.heap.size + 1 + 1 + 1) _ := HP3.out.keep hF2 (fun h => by have := hlo _ h; omega)
      have d3 : W2.cell? ⟨w.heap.size + 1 + 1 + 1, 0, none⟩ = some (.slice A n c) := y3.cell rfl
      have z3 : W2.frozen? ⟨w.heap.size + 1 + 1 + 1, 0, none⟩ = false := y3.frozen 0
      have HY3 := hid y3
      have HO2 := hid hO2
      have HOK := hid hok
      have HLO := hid hlo
      clear hF2 y3 hO2 hok hlo
      gi_wp2
      have hF3 : Fr (fun k => k = w.heap.size + 3) W2 (W2.setCell ⟨w.heap.size + 1 + 1 + 1, 0, none⟩ (.slice A' (m.length + 1) c')) := Fr.setCell _ _ _ rfl
      have hq : ∀ k, k < w.heap.size + 7 → ¬ ownB A k := fun k hk h => by have := HLO.out _ h; omega
      refine ⟨⟨fun k => k ≠ w.heap.size + 4 ∧ k ≠ w.heap.size + 5 ∧ k ≠ w.heap.size + 6, (HF2.out.mono (fun k hk => ?_)).trans (hF3.mono (fun k hk => ?_)), by simp, by simp; omega, by simp; omega⟩, A', m.length + 1, c', m ++ [rdR x], HR.out.snoc HOK.out.1 HOK.out.2, by simp, (HP0.out.keep HF2.out (hq _ (by omega))).keep hF3 (by omega), (HP1.out.keep HF2.out (hq _ (by omega))).keep hF3 (by omega), (HP2.out.keep HF2.out (hq _ (by omega))).keep hF3 (by omega), HY3.out.set 0 _, HO2.out.keep hF3 (fun j hj h => by have := (HO2.out.lt j hj).1; omega), (HF.out.trans (HF2.out.mono (fun k hk => ?_))).trans (hF3.mono (fun k hk => ?_))⟩
      · have := HLO.out _ hk; show k ≠ w.heap.size + 4 ∧ k ≠ w.heap.size + 5 ∧ k ≠ w.heap.size + 6; omega
      · show k ≠ w.heap.size + 4 ∧ k ≠ w.heap.size + 5 ∧ k ≠ w.heap.size + 6; omega
      · have := HLO.out _ hk; show w.heap.size ≤ k; omega
      · show w.heap.size ≤ k; omega
    · have HF2 := hid hF2
      have y0 := HP0.out.keep hF2 (fun h => h)
      have y1 := HP1.out.keep hF2 (fun h => h)
      have y2 := HP2.out.keep hF2 (fun h => h)
      have d0 : W2.cell? ⟨w.heap.size, 0, none⟩ = some (.slice none 0 0) := y0.cell rfl
      have z0 : W2.frozen? ⟨w.heap.size, 0, none⟩ = false := y0.frozen 0
      have d1 : W2.cell? ⟨w.heap.size + 1, 0, none⟩ = some (.int .i64 0) := y1.cell rfl
      have z1 : W2.frozen? ⟨w.heap.size + 1, 0, none⟩ = false := y1.frozen 0
      have d2 : W2.cell? ⟨w.heap.size + 1 + 1, 0, none⟩ = some (.int .i64 0) := y2.cell rfl
      have z2 : W2.frozen? ⟨w.heap.size + 1 + 1, 0, none⟩ = false := y2.frozen 0
      have d3 : W2.cell? ⟨w.heap.size + 1 + 1 + 1, 0, none⟩ = some (.slice A n c) := (HP3.out.keep hF2 (fun h => h)).cell rfl
      have t9 : (er != 0) = true := by simpa using her
      have HER := hid her
      have HY0 := hid y0
      have HY1 := hid y1
      have HY2 := hid y2
      have HNO := hid (show ¬ ∃ m, Steps (lns s) m by rw [HPR.out]; exact HR.out.stop hno)
      have zw : wrap64 ((n : Int) + 1) = (n : Int) + 1 := by unfold wrap64; omega
      have zw2 : IntKind.i64.wrap ((n : Int) + 1) = (n : Int) + 1 := by rw [IntKind.wrap_i64]; omega
      clear hF2 y0 y1 y2 her hno
      gi_wp2
      gi_region
      all_goals gi_wp2
      all_goals
        have k0 : Fr (fun k => k = w.heap.size) W2 (W2.setCell ⟨w.heap.size, 0, none⟩ (.slice none 0 0)) := Fr.setCell _ _ _ rfl
        have k1 : Fr (fun k => k = w.heap.size + 1) (W2.setCell ⟨w.heap.size, 0, none⟩ (.slice none 0 0)) ((W2.setCell ⟨w.heap.size, 0, none⟩ (.slice none 0 0)).setCell ⟨w.heap.size + 1, 0, none⟩ (.int .i64 ((n : Int) + 1))) := Fr.setCell _ _ _ rfl
        have k2 : Fr (fun k => k = w.heap.size + 1 + 1) ((W2.setCell ⟨w.heap.size, 0, none⟩ (.slice none 0 0)).setCell ⟨w.heap.size + 1, 0, none⟩ (.int .i64 ((n : Int) + 1))) (((W2.setCell ⟨w.heap.size, 0, none⟩ (.slice none 0 0)).setCell ⟨w.heap.size + 1, 0, none⟩ (.int .i64 ((n : Int) + 1))).setCell ⟨w.heap.size + 1 + 1, 0, none⟩ (.int .i64 er)) := Fr.setCell _ _ _ rfl
        have hF3 := ((k0.mono (fun k (h : k = w.heap.size) => (show w.heap.size ≤ k ∧ k < w.heap.size + 3 by omega))).trans (k1.mono (fun k (h : k = w.heap.size + 1) => (show w.heap.size ≤ k ∧ k < w.heap.size + 3 by omega)))).trans (k2.mono (fun k (h : k = w.heap.size + 1 + 1) => (show w.heap.size ≤ k ∧ k < w.heap.size + 3 by omega)))
        have q0 := ((HY0.out.set 0 (.slice none 0 0)).keep k1 (by omega)).keep k2 (by omega)
        have q1 := ((HY1.out.keep k0 (by omega)).set 0 (.int .i64 ((n : Int) + 1))).keep k2 (by omega)
        have q2 := ((HY2.out.keep k0 (by omega)).keep k1 (by omega)).set 0 (.int .i64 er)
        have hFA := (HF2.out.mono (fun k h => h.elim)).trans (hF3.trans (Fr.drew _ _))
        exact ⟨⟨fun k => w.heap.size ≤ k ∧ k < w.heap.size + 3, hFA, by omega, by omega, by omega⟩, HNO.out, (n : Int) + 1, er, HER.out, q0.drew, q1.drew, q2.drew, HF.out.trans (hFA.mono (fun k h => h.1))⟩
  case done =>
    intro W hS hK
    obtain ⟨A, n, c, m, r1, r2, p0, p1, p2, p3, ho, hF⟩ := hS
    have c0 : W.cell? ⟨w.heap.size, 0, none⟩ = some (.slice none 0 0) := p0.cell rfl
    have z0 : W.frozen? ⟨w.heap.size, 0, none⟩ = false := p0.frozen 0
    have c1 : W.cell? ⟨w.heap.size + 1, 0, none⟩ = some (.int .i64 0) := p1.cell rfl
    have z1 : W.frozen? ⟨w.heap.size + 1, 0, none⟩ = false := p1.frozen 0
    have c2 : W.cell? ⟨w.heap.size + 1 + 1, 0, none⟩ = some (.int .i64 0) := p2.cell rfl
    have z2 : W.frozen? ⟨w.heap.size + 1 + 1, 0, none⟩ = false := p2.frozen 0
    have c3 : W.cell? ⟨w.heap.size + 1 + 1 + 1, 0, none⟩ = some (.slice A n c) := p3.cell rfl
    have HP0 := hid p0
    have HP1 := hid p1
    have HP2 := hid p2
    have HF := hid hF
    have HO := hid ho
    have HR := hid r1
    have HR2 := hid r2
    have HKK := hid hK
    clear p0 p1 p2 p3 hF ho r1 r2 hK b0 b1 b2 b3 b4 hF0 HZ0 ht
    gi_wp2
    have k0 : Fr (fun k => k = w.heap.size) W (W.setCell ⟨w.heap.size, 0, none⟩ (.slice A n c)) := Fr.setCell _ _ _ rfl
    have k1 : Fr (fun k => k = w.heap.size + 1) (W.setCell ⟨w.heap.size, 0, none⟩ (.slice A n c)) ((W.setCell ⟨w.heap.size, 0, none⟩ (.slice A n c)).setCell ⟨w.heap.size + 1, 0, none⟩ (.int .i64 0)) := Fr.setCell _ _ _ rfl
    have k2 : Fr (fun k => k = w.heap.size + 1 + 1) ((W.setCell ⟨w.heap.size, 0, none⟩ (.slice A n c)).setCell ⟨w.heap.size + 1, 0, none⟩ (.int .i64 0)) (((W.setCell ⟨w.heap.size, 0, none⟩ (.slice A n c)).setCell ⟨w.heap.size + 1, 0, none⟩ (.int .i64 0)).setCell ⟨w.heap.size + 1 + 1, 0, none⟩ (.int .i64 0)) := Fr.setCell _ _ _ rfl
    have hF3 := ((k0.mono (fun k (h : k = w.heap.size) => (show w.heap.size ≤ k ∧ k < w.heap.size + 3 by omega))).trans (k1.mono (fun k (h : k = w.heap.size + 1) => (show w.heap.size ≤ k ∧ k < w.heap.size + 3 by omega)))).trans (k2.mono (fun k (h : k = w.heap.size + 1 + 1) => (show w.heap.size ≤ k ∧ k < w.heap.size + 3 by omega)))
    have q0 := ((HP0.out.set 0 (.slice A n c)).keep k1 (by omega)).keep k2 (by omega)
    have q1 := ((HP1.out.keep k0 (by omega)).set 0 (.int .i64 0)).keep k2 (by omega)
    have q2 := ((HP2.out.keep k0 (by omega)).keep k1 (by omega)).set 0 (.int .i64 0)
    refine pa_end hD (v := .tuple #[.slice A n c, .int .i64 0, .int .i64 0]) HF.out hF3 (fun k hk => by have : w.heap.size ≤ k ∧ k < w.heap.size + 3 := hk; omega) (by rw [← hD]; exact HKK.out)
      (fun W' h => ?_)
      (fun W' h hf => .inl ⟨m, n, A, c, hne, HR.out, HR2.out, rfl, (HO.out.keep h (fun j hj hh => by have := (HO.out.lt j hj).1; have := hh.2; omega)).less (by omega), hf⟩)
    · have g0 : W'.cell? ⟨w.heap.size, 0, none⟩ = some (.slice A n c) := (q0.keep h (by omega)).cell rfl
      have g1 : W'.cell? ⟨w.heap.size + 1, 0, none⟩ = some (.int .i64 0) := (q1.keep h (by omega)).cell rfl
      have g2 : W'.cell? ⟨w.heap.size + 1 + 1, 0, none⟩ = some (.int .i64 0) := (q2.keep h (by omega)).cell rfl
      (simp [results, Tryz.f7, go_sem, g0, g1, g2]; try rfl)
  case stop =>
    rintro pre x post W hpr hS hK
    obtain ⟨h0, k, er, her, p0, p1, p2, hF⟩ := hS
    have HKK := hid hK
    have HNO := hid h0
    have HER := hid her
    have HP0 := hid p0
    have HP1 := hid p1
    have HP2 := hid p2
    have HF := hid hF
    clear hK h0 her p0 p1 p2 hF b0 b1 b2 b3 b4 hF0 HZ0 ht
    gi_wp2
    refine pa_end hD (v := .tuple #[.slice none 0 0, .int .i64 k, .int .i64 er]) HF.out (Fr.refl (fun _ => False) W) (fun k hk => hk.elim) (by rw [← hD]; exact HKK.out)
      (fun W' h => ?_) (fun W' _ hf => .inr ⟨fun h => HNO.out h.2, k, er, HER.out, rfl, hf⟩)
    · have g0 : W'.cell? ⟨w.heap.size, 0, none⟩ = some (.slice none 0 0) := (HP0.out.keep h (by omega)).cell rfl
      have g1 : W'.cell? ⟨w.heap.size + 1, 0, none⟩ = some (.int .i64 k) := (HP1.out.keep h (by omega)).cell rfl
      have g2 : W'.cell? ⟨w.heap.size + 1 + 1, 0, none⟩ = some (.int .i64 er) := (HP2.out.keep h (by omega)).cell rfl
      (simp [results, Tryz.f7, go_sem, g0, g1, g2]; try rfl)

end Go.Proofs.YtnlbellbeepkaaaGreatDoor
