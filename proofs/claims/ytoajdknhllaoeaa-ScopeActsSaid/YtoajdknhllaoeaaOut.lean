/-
  outward: what its iterator hands to a loop's rounds; a loop over it.
-/
import Derived.Test.YtoajdknhllaoeaaSh
import Derived.RangeFuncRecord
import Derived.RangeFuncNested
import Derived.RangeFuncBound
import Derived.RangeFuncCalls
import Derived.RangeFuncLeaves
import Derived.Shelf.Abstract
import Derived.Shelf.RegionOpen
import Derived.OwnWalkIn
import Derived.TacticsInMore
import Derived.LoopNIn
import Derived.LoopIn
namespace Go.Proofs.Ytoajdknhllaoeaa
open Go.RowKit Go.Shelf
set_option linter.unusedVariables false
attribute [local go_sem] Oper.semAt_some

theorem Fr.putObj (S : Nat → Prop) (W : World) (l : Nat) (o : Obj) (hl : S l) : Fr S W (W.putObj l o) :=
  ⟨rfl, rfl, rfl, by simp, fun k _ hn => World.putObj_heap_other (fun e => hn (e ▸ hl))⟩

set_option maxHeartbeats 400000 in
theorem out_mk (tb k : Nat) (w : World) : Calls Try.prog 48 #[.pointer (some ⟨tb, 0, none⟩), .int .i64 k] w fun e w' => e = .returned (.func (.func 54) #[] #[.pointer (some ⟨w.heap.size + 1, 0, none⟩), .pointer (some ⟨w.heap.size, 0, none⟩)]) ∧ w' = (w.alloc (.cells #[.pointer (some ⟨tb, 0, none⟩)] 28)).alloc (.cells #[.int .i64 k] 3) := by
  go_enter Try.func48, Try.ntmps48
  go_wp2
  go_ret
  exact ⟨rfl, rfl⟩

/-- The two boxes of the iterator, and the tree. -/
structure OutR (sb pb k : Nat) (O : Nat → Prop) (b : MB) (tb : Nat) (T : Sc) (W : World) : Prop where
  s : Blk W sb #[.int .i64 k]
  p : Blk W pb #[.pointer (some ⟨tb, 0, none⟩)]
  t : Trm W O b tb T

def OydPost (sb pb k : Nat) (O : Nat → Prop) (b : MB) (tb : Nat) (T : Sc) (J Jx : Nat → World → Prop) (j : Nat) (e : Ending) (W' : World) : Prop :=
  (e = .returned (.bool true) ∧ J (j + 1) W' ∧ OutR sb pb k O b tb T W') ∨ (e = .returned (.bool false) ∧ Jx j W')

def OutPost (m : Nat) (J Jx : Nat → World → Prop) (e : Ending) (W' : World) : Prop := (∃ v, e = .returned v) ∧ (J (m + 1) W' ∨ ∃ j, j ≤ m ∧ Jx j W')

def OutRel (sb pb k : Nat) (O : Nat → Prop) (b : MB) (tb : Nat) (T : Sc) (J : Nat → World → Prop) (p : Value) (W : World) : Prop :=
  (∃ j : Nat, j ≤ T.nst k ∧ p = .int .i64 (up T.par k j : Nat) ∧ J j W ∧ OutR sb pb k O b tb T W) ∨ (p = .int .i64 (-1) ∧ J (T.nst k + 1) W)

def outM (T : Sc) (p : Value) : Nat := if intOf p < 0 then 0 else T.nst (intOf p).toNat + 1

theorem outM_at (T : Sc) (i : Nat) : outM T (.int .i64 i) = T.nst i + 1 := by
  unfold outM
  simp only [intOf, Int.toNat_natCast]
  exact if_neg (by omega)
theorem outM_end (T : Sc) : outM T (.int .i64 (-1)) = 0 := by
  unfold outM
  simp [intOf]

set_option maxRecDepth 100000 in
set_option maxHeartbeats 4000000 in
theorem out_in (n l sb pb k : Nat) (hn : 3 ≤ n) (O : Nat → Prop) (b : MB) (tb : Nat) (T : Sc) (J Jx : Nat → World → Prop) (w : World) (hk : k < T.n)
    (hY : ∀ j W1, j ≤ T.nst k → J j W1 → OutR sb pb k O b tb T W1 → YieldAt Fence.wide (n - 1) Try.prog l #[.int .i64 (up T.par k j : Nat)] W1 (OydPost sb pb k O b tb T J Jx j))
    (h0 : J 0 w) (hb : OutR sb pb k O b tb T w) :
    CallsIn Fence.wide n Try.prog 54 #[.func (.yield l) #[] #[], .pointer (some ⟨sb, 0, none⟩), .pointer (some ⟨pb, 0, none⟩)] w (OutPost (T.nst k) J Jx) := by
  have HY := hid hY
  have HOK := hid (hb.t.ok)
  have HK := hid hk
  have s0 := hb.s.cell (i := 0) rfl
  simp only [List.getElem_toArray, List.getElem_cons_zero] at s0
  have HREL := hid (show OutRel sb pb k O b tb T J (.int .i64 k) w from .inl ⟨0, Nat.zero_le _, rfl, h0, hb⟩)
  clear hY hb h0 hk
  refine callsIn_of_wp Try.func54 rfl trivial ?_ rfl
  simp only [Try.ntmps54, List.size_toArray, List.length_cons, List.length_nil, Nat.reduceAdd, Nat.reduceSub, Array.replicate_succ, Array.replicate_zero, List.push_toArray, List.append_toArray, List.nil_append, List.cons_append]
  gi_wp2
  clear s0
  gi_loopw [4] (fun p wr => OutRel sb pb k O b tb T J p wr) (fun p wr => outM T p)
  case atStart => exact HREL.out
  case round =>
    clear HREL
    rcases hrel with ⟨j, hj, rfl, hJ, hB⟩ | ⟨rfl, hJ⟩
    · have HY2 := hid (HY.out j _ hj hJ hB)
      have HJN := hid hj
      have HUP := hid (Tre.up_in HOK.out HK.out j hj)
      obtain ⟨i, hi⟩ : ∃ i, up T.par k j = i := ⟨_, rfl⟩
      rw [hi] at HY2 HUP ⊢
      have HI := hid hi
      have t1 : ((i : Int) != -1) = true := by simp
      clear hi hJ hB hj
      obtain ⟨fn, tmps, assign, body, hy, hR⟩ := HY2.out
      gi_wp2
      refine ⟨fun _ => (by omega), hR.mono ?_⟩
      rintro e W' (⟨rfl, hJ2, hB2⟩ | ⟨rfl, hJx⟩)
      · obtain ⟨A, cap, l', h1, -⟩ := hB2.t.ex
        obtain ⟨g, rfl, hgl, hcap, hc⟩ := h1.row
        have p0 : W'.cell? ⟨pb, 0, none⟩ = some (.pointer (some ⟨tb, 0, none⟩)) := hB2.p.cell rfl
        have c0 : W'.cell? ⟨tb, 0, none⟩ = some (.slice (some ⟨g, 0, none⟩) T.n cap) := h1.t.cell rfl
        obtain ⟨c1, -⟩ := hc i (HUP.out.1)
        have htl := h1.t.lt
        have hin : i < T.n := HUP.out.1
        have hin2 : (i : Int) < T.n := by omega
        have HJ2 := hid hJ2
        have HB3 := hid hB2
        obtain ⟨q, hq⟩ : ∃ q, pI T.par i = q := ⟨_, rfl⟩
        have HQ := hid hq
        rw [hq] at c1
        clear hJ2 hB2 h1 hc hq hy hR
        gi_wp2
        go_roundw
        case rel =>
          by_cases hlt : j < T.nst k
          · refine .inl ⟨j + 1, hlt, ?_, HJ2.out, HB3.out⟩
            rw [← HQ.out, ← HI.out, pI_up HOK.out HK.out hlt]
          · obtain rfl : j = T.nst k := by have := HJN.out; omega
            refine .inr ⟨?_, HJ2.out⟩
            rw [← HQ.out, ← HI.out, pI_top HOK.out HK.out]
        case measure =>
          have hi2 := (Tre.up_in HOK.out HK.out j HJN.out).2
          rw [outM_at]
          by_cases hlt : j < T.nst k
          · rw [← HQ.out, ← HI.out, pI_up HOK.out HK.out hlt, outM_at]
            have := (Tre.up_in HOK.out HK.out (j + 1) hlt).2
            omega
          · obtain rfl : j = T.nst k := by have := HJN.out; omega
            rw [← HQ.out, ← HI.out, pI_top HOK.out HK.out, outM_end]
            omega
      · have HX := hid hJx
        clear hJx
        gi_wp2
        refine bodyPost_ret (results_none rfl _ _ _) rfl ?_
        exact ⟨⟨_, rfl⟩, .inr ⟨_, HJN.out, HX.out⟩⟩
    · gi_wp2
      go_end0
      exact ⟨⟨_, rfl⟩, .inl hJ⟩
/-! ### A loop over outward -/

/-- Nothing of the loop's own has turned. -/
def Still (sb pb : Nat) (O : Nat → Prop) (D : Nat) (W W' : World) : Prop := ∃ S : Nat → Prop, Fr S W W' ∧ ¬ S sb ∧ ¬ S pb ∧ (∀ k, O k → ¬ S k) ∧ ¬ S D ∧ ¬ S (D + 1)

/-- How a round's body may be left. -/
def rdPost (px : Code) (sb pb : Nat) (O : Nat → Prop) (D : Nat) (I Ix : Nat → World → Prop) (j : Nat) (W : World) : Exit → Act → World → Prop
  | .normal, _, W' => Still sb pb O D W W' ∧ I (j + 1) W'
  | .exit id, _, W' => px = .exit id ∧ Still sb pb O D W W' ∧ Ix j W'
  | .ret, _, W' => px = .ret ∧ Still sb pb O D W W' ∧ Ix j W'
  | _, _, _ => False

theorem Still.obj {sb pb D : Nat} {O : Nat → Prop} {W W' : World} (h : Still sb pb O D W W') {k : Nat} (hk : k = D ∨ k = D + 1) {o : Obj} (ho : W.heap[k]? = some o) : W'.heap[k]? = some o := by
  obtain ⟨S, f, _, _, _, h1, h2⟩ := h
  rw [f.block k (Array.getElem?_eq_some_iff.1 ho).1 (by rcases hk with rfl | rfl <;> assumption)]
  exact ho

theorem OutR.keep {sb pb k : Nat} {O : Nat → Prop} {b : MB} {tb : Nat} {T : Sc} {W W' : World} (h : OutR sb pb k O b tb T W) {S : Nat → Prop} (f : Fr S W W') (h1 : ¬ S sb) (h2 : ¬ S pb) (h3 : ∀ k, O k → ¬ S k) : OutR sb pb k O b tb T W' :=
  ⟨h.s.keep f h1, h.p.keep f h2, h.t.keep f h3⟩

theorem Still.rd {sb pb k D : Nat} {O : Nat → Prop} {b : MB} {tb : Nat} {T : Sc} {W W' : World} (h : Still sb pb O D W W') (hb : OutR sb pb k O b tb T W) : OutR sb pb k O b tb T W' := by
  obtain ⟨S, f, h0, h1, h2, _, _⟩ := h
  exact hb.keep f h0 h1 h2

theorem range_out (px : Code) {g : Operand} {t : Tmp} {assign body : Code} {Q : Exit → Act → World → Prop} {a : Act} {W0 : World} {n sb pb k : Nat} {O : Nat → Prop} {b : MB} {tb : Nat} {T : Sc} (hn : 6 ≤ n) (hk : k < T.n)
    (hg : a.eval g = .func (.func 54) #[] #[.pointer (some ⟨sb, 0, none⟩), .pointer (some ⟨pb, 0, none⟩)]) (hb : OutR sb pb k O b tb T W0)
    (I Ix : Nat → World → Prop)
    (hI : ∀ j W W' S, I j W → Fr S W W' → (∀ k, S k → k = W0.heap.size + 1) → I j W')
    (hIx : ∀ j W W' S, Ix j W → Fr S W W' → (∀ k, S k → k = W0.heap.size + 1) → Ix j W')
    (h0 : I 0 W0) (a₁ : Nat → Act)
    (hassign : ∀ (l : Nat) (i : Nat) (W : World) (K : Act → World → Prop), K (a₁ i) W →
      assign.wpIn (Fence.wide.inRound l) (n - 1 - 1) Try.prog (Exit.then K (fun _ _ _ => False)) { tmps := ((#[t] : Array Tmp).zip #[Value.int .i64 (i : Nat)]).foldl (fun u (p, v) => u.setIfInBounds p v) a.tmps, defers := [] } W)
    (hbody : ∀ (l : Nat) (j : Nat) (W : World), j ≤ T.nst k → W0.heap.size + 2 ≤ W.heap.size → I j W → body.wpIn (Fence.wide.inRound l) (n - 1 - 1) Try.prog (rdPost px sb pb O W0.heap.size I Ix j W) (a₁ (up T.par k j)) W)
    (hdone : ∀ W, I (T.nst k + 1) W → W.heap[W0.heap.size]? = some (.deferred (some [])) → Q .normal { a with defers := { target := .collected W0.heap.size, args := #[] } :: a.defers } W)
    (hstop : ∀ j W, j ≤ T.nst k → Ix j W → W.heap[W0.heap.size]? = some (.deferred (some [])) → px.wpIn Fence.wide n Try.prog Q { a with defers := { target := .collected W0.heap.size, args := #[] } :: a.defers } W) :
    (Code.rangeFunc g #[t] assign body).wpIn Fence.wide n Try.prog Q a W0 := by
  refine wpIn_rangeFunc (fun fn hfn => ?_)
  let D := W0.heap.size
  let rec' : LoopState → Option Code → Loop := fun st pe => ⟨st, pe, fn, a.tmps, #[t], assign, body, D⟩
  have hsb : sb < D := hb.s.lt
  have hpb : pb < D := hb.p.lt
  have hO : ∀ k, O k → k < D := hb.t.lt
  let W1 := (W0.alloc (.deferred (some []))).alloc (.loop (rec' .ready none))
  have hF1 : Fr (fun _ => False) W0 W1 := (Fr.alloc _ _ _).trans (Fr.alloc _ _ _)
  have hz1 : W1.heap.size = D + 2 := by simp [W1, D]
  have hL1 : W1.heap[D + 1]? = some (.loop (rec' .ready none)) := by
    have h := World.alloc_heap_new (W0.alloc (.deferred (some []))) (.loop (rec' .ready none))
    rw [World.size_alloc] at h
    exact h
  have hD1 : W1.heap[D]? = some (.deferred (some [])) := (Below.heap_alloc _ _ _ (by simp [D])).trans (World.alloc_heap_new W0 _)
  have hI1 : I 0 W1 := hI _ _ _ _ h0 hF1 (fun _ h => h.elim)
  have eg : ∀ args w, (callFunc 54 args).run Try.prog w = .ok (.enter 54 args) w := enters_of Try.func54 (by kernel_rfl) rfl
  let J : Nat → World → Prop := fun j W => (I j W ∧ W0.heap.size + 2 ≤ W.heap.size) ∧ W.heap[D + 1]? = some (.loop (rec' .ready none)) ∧ W.heap[D]? = some (.deferred (some []))
  let Jx : Nat → World → Prop := fun j W => Ix j W ∧ W.heap[D + 1]? = some (.loop (rec' .done (some px))) ∧ W.heap[D]? = some (.deferred (some []))
  have hY : ∀ j W, j ≤ T.nst k → J j W → OutR sb pb k O b tb T W → YieldAt Fence.wide (n - 1 - 1) Try.prog (D + 1) #[.int .i64 (up T.par k j : Nat)] W (OydPost sb pb k O b tb T J Jx j) := by
    rintro j W hj ⟨⟨hi, hsz⟩, hl, hd⟩ hB
    refine ⟨fn, _, assign, body, run_yield hl rfl, roundIn_of_wpIn trivial ?_⟩
    refine hassign (D + 1) (up T.par k j) W (fun a₁ w₁ => ∃ w₂, (Instr.beginRound (D + 1)).run Try.prog w₁ = .ok () w₂ ∧ body.wpIn (Fence.wide.inRound (D + 1)) (n - 1 - 1) Try.prog (roundPost Try.prog (D + 1) (OydPost sb pb k O b tb T J Jx j)) a₁ w₂) ⟨_, run_beginRound hl rfl, ?_⟩
    have hF2 : Fr (fun k => k = D + 1) W (W.putObj (D + 1) (.loop (rec' .busy none))) := Fr.putObj _ _ _ _ rfl
    have hlt : D + 1 < W.heap.size := (Array.getElem?_eq_some_iff.1 hl).1
    have hl2 : (W.putObj (D + 1) (.loop (rec' .busy none))).heap[D + 1]? = some (.loop (rec' .busy none)) := World.putObj_heap_same hlt
    have hd2 : (W.putObj (D + 1) (.loop (rec' .busy none))).heap[D]? = some (.deferred (some [])) := (World.putObj_heap_other (by omega)).trans hd
    have hB2 : OutR sb pb k O b tb T (W.putObj (D + 1) (.loop (rec' .busy none))) := hB.keep hF2 (by omega) (by omega) (fun i hi => by have := hO i hi; omega)
    refine wpIn_mono (hbody (D + 1) j _ hj (by rw [World.putObj_size]; exact hsz) (hI _ _ _ _ hi hF2 (fun k hk => hk))) ?_
    rintro e a3 W3 hp
    cases e with
    | normal =>
      obtain ⟨hst, hi3⟩ := hp
      have hl3 := hst.obj (.inr rfl) hl2
      refine ⟨_, _, run_endRound none hl3, .inl ⟨rfl, ⟨⟨hI _ _ _ _ hi3 (Fr.putObj (fun k => k = D + 1) _ _ _ rfl) (fun k hk => hk), ?_⟩, World.putObj_heap_same (Array.getElem?_eq_some_iff.1 hl3).1, (World.putObj_heap_other (by omega)).trans (hst.obj (.inl rfl) hd2)⟩, ?_⟩⟩
      · rw [World.putObj_size]
        have := (Array.getElem?_eq_some_iff.1 hl3).1
        omega
      · exact (hst.rd hB2).keep (Fr.putObj (fun k => k = D + 1) _ _ _ rfl) (by omega) (by omega) (fun i hi => by have := hO i hi; omega)
    | exit id =>
      obtain ⟨rfl, hst, hi3⟩ := hp
      have hl3 := hst.obj (.inr rfl) hl2
      exact ⟨_, _, run_endRound (some (.exit id)) hl3, .inr ⟨rfl, hIx _ _ _ _ hi3 (Fr.putObj (fun k => k = D + 1) _ _ _ rfl) (fun k hk => hk), World.putObj_heap_same (Array.getElem?_eq_some_iff.1 hl3).1, (World.putObj_heap_other (by omega)).trans (hst.obj (.inl rfl) hd2)⟩⟩
    | ret =>
      obtain ⟨rfl, hst, hi3⟩ := hp
      have hl3 := hst.obj (.inr rfl) hl2
      exact ⟨_, _, run_endRound (some .ret) hl3, .inr ⟨rfl, hIx _ _ _ _ hi3 (Fr.putObj (fun k => k = D + 1) _ _ _ rfl) (fun k hk => hk), World.putObj_heap_same (Array.getElem?_eq_some_iff.1 hl3).1, (World.putObj_heap_other (by omega)).trans (hst.obj (.inl rfl) hd2)⟩⟩
    | goto l => exact hp.elim
    | panic c => exact hp.elim
    | outgrown => exact hp.elim
  have hcall := out_in (n - 1) (D + 1) sb pb k (by omega) O b tb T J Jx W1 hk hY ⟨⟨hI1, by omega⟩, hL1, hD1⟩ (hb.keep hF1 (fun h => h) (fun h => h) (fun _ _ h => h))
  refine ⟨D + 1, [{ target := .collected D, args := #[] }], W1, ⟨.fn (.func 54) #[.pointer (some ⟨sb, 0, none⟩), .pointer (some ⟨pb, 0, none⟩)], #[.func (.yield (D + 1)) #[] #[]]⟩, W1, 54,
    #[.func (.yield (D + 1)) #[] #[], .pointer (some ⟨sb, 0, none⟩), .pointer (some ⟨pb, 0, none⟩)], W1, run_enterLoop_outer _ _ _ _ _, ?_, fun _ _ => trivial, ?_, fun _ => (by omega), hcall.mono ?_⟩
  · simp only [resolve, hg]
    simp [go_sem]
  · simp [invoke, go_sem, eg]
  · rintro e W' ⟨⟨v, rfl⟩, ⟨⟨hi, hsz⟩, hl, hd⟩ | ⟨j, hj, hix, hl, hd⟩⟩
    · refine ⟨_, _, run_endLoop hl (by simp [rec']), ?_⟩
      exact hdone _ (hI _ _ _ _ hi (Fr.putObj (fun k => k = D + 1) _ _ _ rfl) (fun k hk => hk)) ((World.putObj_heap_other (by omega)).trans hd)
    · refine ⟨_, _, run_endLoop hl (by simp [rec']), ?_⟩
      exact hstop j _ hj (hIx _ _ _ _ hix (Fr.putObj (fun k => k = D + 1) _ _ _ rfl) (fun k hk => hk)) ((World.putObj_heap_other (by omega)).trans hd)

/-- Behind a loop over a function: the function's end. -/
theorem loop_end {fn : Func} {Q : Ending → World → Prop} {n D : Nat} {tmps : Array Value} {W : World} {v : Value} (hK : W.heap[D]? = some (.deferred (some [])))
    (hv : ∀ W' : World, Fr (fun k => k = D) W W' → (results fn tmps).run Try.prog W' = .ok v W') (hq : ∀ W', Fr (fun k => k = D) W W' → Q (.returned v) W') :
    Exit.noGoto (bodyPostM Fence.wide n Try.prog fn Q) Exit.ret { tmps := tmps, defers := [{ target := .collected D, args := #[] }] } W :=
  ⟨by simp, .inl ⟨_, _, rfl, run_takeDeferred hK, v, hv _ (Fr.putObj _ _ _ _ rfl), hq _ (Fr.putObj _ _ _ _ rfl)⟩⟩
end Go.Proofs.Ytoajdknhllaoeaa
