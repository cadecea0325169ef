/-
  Members: what its iterator hands to a loop's rounds; a loop over it.
-/
import Derived.Test.YtiofdfgcghiibaaHas
import Derived.RangeFuncRecord
import Derived.RangeFuncNested
import Derived.RangeFuncBound
import Derived.RangeFuncCalls
import Derived.RangeFuncLeaves
import Derived.Shelf.Abstract
import Derived.Shelf.RegionOpen
import Derived.OwnWalkIn
import Derived.TacticsInMore
import Derived.LoopNIn
import Derived.LoopIn
namespace Go.Proofs.Ytiofdfgcghiibaa
open Go.RowKit Go.Shelf
set_option linter.unusedVariables false
attribute [local go_sem] Oper.semAt_some

theorem Fr.putObj (S : Nat → Prop) (W : World) (l : Nat) (o : Obj) (hl : S l) : Fr S W (W.putObj l o) :=
  ⟨rfl, rfl, rfl, by simp, fun k _ hn => World.putObj_heap_other (fun e => hn (e ▸ hl))⟩

theorem memN_split {x : Int} {k n : Nat} (h : k < n) (hb : bitB x k = true) : ∃ rest, memN x n = memN x k ++ k :: rest := by
  induction n with
  | zero => omega
  | succ n ih =>
    by_cases e : k = n
    · subst e; exact ⟨[], by rw [memN_yes hb]⟩
    · obtain ⟨rest, hr⟩ := ih (by omega)
      exact ⟨rest ++ if bitB x n then [n] else [], by rw [memN, hr]; simp⟩

set_option maxHeartbeats 400000 in
theorem mem_mk (x : Int) (w : World) : Calls Try.prog 37 #[.int .i64 x] w fun e w' => e = .returned (.func (.func 70) #[] #[.pointer (some ⟨w.heap.size, 0, none⟩)]) ∧ w' = w.alloc (.cells #[.int .i64 x] 2) := by
  go_enter Try.func37, Try.ntmps37
  go_wp2
  go_ret
  exact ⟨rfl, rfl⟩

def YdPost (sb : Nat) (x : Int) (J Jx : List Nat → World → Prop) (pre : List Nat) (k : Nat) (e : Ending) (W' : World) : Prop :=
  (e = .returned (.bool true) ∧ J (pre ++ [k]) W' ∧ Blk W' sb #[.int .i64 x]) ∨ (e = .returned (.bool false) ∧ Jx (pre ++ [k]) W')

def MmPost (x : Int) (J Jx : List Nat → World → Prop) (e : Ending) (W' : World) : Prop := (∃ v, e = .returned v) ∧ (J (memN x 64) W' ∨ ∃ pre k rest, memN x 64 = pre ++ k :: rest ∧ Jx (pre ++ [k]) W')

def MmRel (x : Int) (sb : Nat) (J : List Nat → World → Prop) (p : Value) (W : World) : Prop := ∃ k : Nat, p = .int .i64 k ∧ k ≤ 64 ∧ J (memN x k) W ∧ Blk W sb #[.int .i64 x]

set_option maxRecDepth 100000 in
set_option maxHeartbeats 4000000 in
theorem mem_in (n l sb : Nat) (hn : 3 ≤ n) (x : Int) (J Jx : List Nat → World → Prop) (w : World)
    (hY : ∀ pre k rest W1, memN x 64 = pre ++ k :: rest → J pre W1 → Blk W1 sb #[.int .i64 x] → YieldAt Fence.wide (n - 1) Try.prog l #[.int .i64 (k : Nat)] W1 (YdPost sb x J Jx pre k))
    (h0 : J [] w) (hb : Blk w sb #[.int .i64 x]) :
    CallsIn Fence.wide n Try.prog 70 #[.func (.yield l) #[] #[], .pointer (some ⟨sb, 0, none⟩)] w (MmPost x J Jx) := by
  have HY := hid hY
  clear hY
  refine callsIn_of_wp Try.func70 rfl trivial ?_ rfl
  simp only [Try.ntmps70, List.size_toArray, List.length_cons, List.length_nil, Nat.reduceAdd, Nat.reduceSub, Array.replicate_succ, Array.replicate_zero, List.push_toArray, List.append_toArray, List.nil_append, List.cons_append]
  gi_wp2
  gi_loopw [4] (fun p wr => MmRel x sb J p wr) (fun p wr => 64 - (intOf p).toNat)
  case atStart => exact ⟨0, rfl, by omega, h0, hb⟩
  case round =>
    obtain ⟨k, rfl, hk, hJ, hB⟩ := hrel
    have c0 : wr.cell? ⟨sb, 0, none⟩ = some (.int .i64 x) := hB.cell rfl
    by_cases hlt : k < 64
    · have hlt2 : (k : Int) < 64 := by omega
      have HB := hid hB
      have HJ := hid hJ
      have HHAS := hid (has_any x k wr)
      rw [has_nat x k hlt] at HHAS
      rcases hbit : bitB x k with _ | _
      · rw [hbit] at HHAS
        have HBIT := hid hbit
        clear hbit hJ hB hk
        gi_wp2
        refine ⟨trivial, fun _ => (by omega), (callsIn_wide.2 HHAS.out).mono ?_⟩
        rintro e w1 ⟨rfl, rfl⟩
        gi_wp2
        refine ⟨fun _ h => (by cases h), ?_⟩
        gi_wp2
        go_roundw
        case rel => exact ⟨k + 1, by go_num, by omega, by rw [memN_no HBIT.out]; exact HJ.out, HB.out⟩
        case measure => simp [intOf]; omega
      · rw [hbit] at HHAS
        obtain ⟨rest, hr⟩ := memN_split hlt hbit
        have HY2 := hid (HY.out _ _ _ _ hr hJ hB)
        have HS := hid (memN_yes hbit)
        have HR := hid hr
        clear hbit hJ hB hk hr
        gi_wp2
        refine ⟨trivial, fun _ => (by omega), (callsIn_wide.2 HHAS.out).mono ?_⟩
        rintro e w1 ⟨rfl, rfl⟩
        obtain ⟨fn, tmps, assign, body, hy, hR⟩ := HY2.out
        gi_wp2
        refine ⟨fun _ => (by omega), hR.mono ?_⟩
        rintro e W' (⟨rfl, hJ2, hB2⟩ | ⟨rfl, hJx⟩)
        · have HJ2 := hid hJ2
          have HB3 := hid hB2
          clear hJ2 hB2
          gi_wp2
          go_roundw
          case rel => exact ⟨k + 1, by go_num, by omega, by rw [HS.out]; exact HJ2.out, HB3.out⟩
          case measure => simp [intOf]; omega
        · have HX := hid hJx
          clear hJx
          gi_wp2
          refine bodyPost_ret (results_none rfl _ _ _) rfl ?_
          exact ⟨⟨_, rfl⟩, .inr ⟨_, _, _, HR.out, HX.out⟩⟩
    · obtain rfl : k = 64 := by omega
      gi_wp2
      go_end0
      exact ⟨⟨_, rfl⟩, .inl hJ⟩
/-! ### A loop over Members -/

/-- Nothing of the loop's own has turned. -/
def Still (sb D : Nat) (W W' : World) : Prop := ∃ S : Nat → Prop, Fr S W W' ∧ ¬ S sb ∧ ¬ S D ∧ ¬ S (D + 1)

/-- How a round's body may be left. -/
def rdPost (sb D : Nat) (I Ix : List Nat → World → Prop) (xs : List Nat) (W : World) : Exit → Act → World → Prop
  | .normal, _, W' => Still sb D W W' ∧ I xs W'
  | .exit id, _, W' => id = 0 ∧ Still sb D W W' ∧ Ix xs W'
  | _, _, _ => False

theorem Still.obj {sb D : Nat} {W W' : World} (h : Still sb D W W') {k : Nat} (hk : k = D ∨ k = D + 1) {o : Obj} (ho : W.heap[k]? = some o) : W'.heap[k]? = some o := by
  obtain ⟨S, f, _, h1, h2⟩ := h
  rw [f.block k (Array.getElem?_eq_some_iff.1 ho).1 (by rcases hk with rfl | rfl <;> assumption)]
  exact ho

theorem Still.blk {sb D : Nat} {W W' : World} (h : Still sb D W W') {c : Array Value} (hb : Blk W sb c) : Blk W' sb c := by
  obtain ⟨S, f, h0, _, _⟩ := h
  exact hb.keep f h0

theorem range_mem {g : Operand} {t : Tmp} {assign body : Code} {Q : Exit → Act → World → Prop} {a : Act} {W0 : World} {n sb : Nat} (hn : 6 ≤ n)
    (hg : a.eval g = .func (.func 70) #[] #[.pointer (some ⟨sb, 0, none⟩)]) (x : Int) (hb : Blk W0 sb #[.int .i64 x])
    (I Ix : List Nat → World → Prop)
    (hI : ∀ pre W W' S, I pre W → Fr S W W' → (∀ k, S k → k = W0.heap.size + 1) → I pre W')
    (hIx : ∀ pre W W' S, Ix pre W → Fr S W W' → (∀ k, S k → k = W0.heap.size + 1) → Ix pre W')
    (h0 : I [] W0) (a₁ : Nat → Act)
    (hassign : ∀ (l : Nat) (k : Nat) (W : World) (K : Act → World → Prop), K (a₁ k) W →
      assign.wpIn (Fence.wide.inRound l) (n - 1 - 1) Try.prog (Exit.then K (fun _ _ _ => False)) { tmps := ((#[t] : Array Tmp).zip #[Value.int .i64 (k : Nat)]).foldl (fun u (p, v) => u.setIfInBounds p v) a.tmps, defers := [] } W)
    (hbody : ∀ (l : Nat) (pre : List Nat) (k : Nat) (rest : List Nat) (W : World), memN x 64 = pre ++ k :: rest → W0.heap.size + 2 ≤ W.heap.size → I pre W → body.wpIn (Fence.wide.inRound l) (n - 1 - 1) Try.prog (rdPost sb W0.heap.size I Ix (pre ++ [k]) W) (a₁ k) W)
    (hdone : ∀ W, I (memN x 64) W → W.heap[W0.heap.size]? = some (.deferred (some [])) → Q .normal { a with defers := { target := .collected W0.heap.size, args := #[] } :: a.defers } W)
    (hstop : ∀ pre k rest W, memN x 64 = pre ++ k :: rest → Ix (pre ++ [k]) W → W.heap[W0.heap.size]? = some (.deferred (some [])) → (Code.exit 0).wpIn Fence.wide n Try.prog Q { a with defers := { target := .collected W0.heap.size, args := #[] } :: a.defers } W) :
    (Code.rangeFunc g #[t] assign body).wpIn Fence.wide n Try.prog Q a W0 := by
  refine wpIn_rangeFunc (fun fn hfn => ?_)
  let D := W0.heap.size
  let rec' : LoopState → Option Code → Loop := fun st pe => ⟨st, pe, fn, a.tmps, #[t], assign, body, D⟩
  have hsb : sb < D := hb.lt
  let W1 := (W0.alloc (.deferred (some []))).alloc (.loop (rec' .ready none))
  have hF1 : Fr (fun _ => False) W0 W1 := (Fr.alloc _ _ _).trans (Fr.alloc _ _ _)
  have hz1 : W1.heap.size = D + 2 := by simp [W1, D]
  have hL1 : W1.heap[D + 1]? = some (.loop (rec' .ready none)) := by
    have h := World.alloc_heap_new (W0.alloc (.deferred (some []))) (.loop (rec' .ready none))
    rw [World.size_alloc] at h
    exact h
  have hD1 : W1.heap[D]? = some (.deferred (some [])) := (Below.heap_alloc _ _ _ (by simp [D])).trans (World.alloc_heap_new W0 _)
  have hI1 : I [] W1 := hI _ _ _ _ h0 hF1 (fun _ h => h.elim)
  have eg : ∀ args w, (callFunc 70 args).run Try.prog w = .ok (.enter 70 args) w := enters_of Try.func70 (by kernel_rfl) rfl
  let J : List Nat → World → Prop := fun pre W => (I pre W ∧ W0.heap.size + 2 ≤ W.heap.size) ∧ W.heap[D + 1]? = some (.loop (rec' .ready none)) ∧ W.heap[D]? = some (.deferred (some []))
  let Jx : List Nat → World → Prop := fun pre W => Ix pre W ∧ W.heap[D + 1]? = some (.loop (rec' .done (some (.exit 0)))) ∧ W.heap[D]? = some (.deferred (some []))
  have hY : ∀ pre k rest W, memN x 64 = pre ++ k :: rest → J pre W → Blk W sb #[.int .i64 x] → YieldAt Fence.wide (n - 1 - 1) Try.prog (D + 1) #[.int .i64 (k : Nat)] W (YdPost sb x J Jx pre k) := by
    rintro pre k rest W hpr ⟨⟨hi, hsz⟩, hl, hd⟩ hB
    refine ⟨fn, _, assign, body, run_yield hl rfl, roundIn_of_wpIn trivial ?_⟩
    refine hassign (D + 1) k W (fun a₁ w₁ => ∃ w₂, (Instr.beginRound (D + 1)).run Try.prog w₁ = .ok () w₂ ∧ body.wpIn (Fence.wide.inRound (D + 1)) (n - 1 - 1) Try.prog (roundPost Try.prog (D + 1) (YdPost sb x J Jx pre k)) a₁ w₂) ⟨_, run_beginRound hl rfl, ?_⟩
    have hF2 : Fr (fun k => k = D + 1) W (W.putObj (D + 1) (.loop (rec' .busy none))) := Fr.putObj _ _ _ _ rfl
    have hlt : D + 1 < W.heap.size := (Array.getElem?_eq_some_iff.1 hl).1
    have hl2 : (W.putObj (D + 1) (.loop (rec' .busy none))).heap[D + 1]? = some (.loop (rec' .busy none)) := World.putObj_heap_same hlt
    have hd2 : (W.putObj (D + 1) (.loop (rec' .busy none))).heap[D]? = some (.deferred (some [])) := (World.putObj_heap_other (by omega)).trans hd
    have hB2 : Blk (W.putObj (D + 1) (.loop (rec' .busy none))) sb #[.int .i64 x] := hB.keep hF2 (by omega)
    refine wpIn_mono (hbody (D + 1) pre k rest _ hpr (by rw [World.putObj_size]; exact hsz) (hI _ _ _ _ hi hF2 (fun k hk => hk))) ?_
    rintro e a3 W3 hp
    cases e with
    | normal =>
      obtain ⟨hst, hi3⟩ := hp
      have hl3 := hst.obj (.inr rfl) hl2
      refine ⟨_, _, run_endRound none hl3, .inl ⟨rfl, ⟨⟨hI _ _ _ _ hi3 (Fr.putObj (fun k => k = D + 1) _ _ _ rfl) (fun k hk => hk), ?_⟩, World.putObj_heap_same (Array.getElem?_eq_some_iff.1 hl3).1, (World.putObj_heap_other (by omega)).trans (hst.obj (.inl rfl) hd2)⟩, ?_⟩⟩
      · rw [World.putObj_size]
        have := (Array.getElem?_eq_some_iff.1 hl3).1
        omega
      · exact (hst.blk hB2).keep (Fr.putObj (fun k => k = D + 1) _ _ _ rfl) (by omega)
    | exit id =>
      obtain ⟨rfl, hst, hi3⟩ := hp
      have hl3 := hst.obj (.inr rfl) hl2
      exact ⟨_, _, run_endRound (some (.exit 0)) hl3, .inr ⟨rfl, hIx _ _ _ _ hi3 (Fr.putObj (fun k => k = D + 1) _ _ _ rfl) (fun k hk => hk), World.putObj_heap_same (Array.getElem?_eq_some_iff.1 hl3).1, (World.putObj_heap_other (by omega)).trans (hst.obj (.inl rfl) hd2)⟩⟩
    | ret => exact hp.elim
    | goto l => exact hp.elim
    | panic c => exact hp.elim
    | outgrown => exact hp.elim
  have hcall := mem_in (n - 1) (D + 1) sb (by omega) x J Jx W1 hY ⟨⟨hI1, by omega⟩, hL1, hD1⟩ (hb.keep hF1 (fun h => h))
  refine ⟨D + 1, [{ target := .collected D, args := #[] }], W1, ⟨.fn (.func 70) #[.pointer (some ⟨sb, 0, none⟩)], #[.func (.yield (D + 1)) #[] #[]]⟩, W1, 70,
    #[.func (.yield (D + 1)) #[] #[], .pointer (some ⟨sb, 0, none⟩)], W1, run_enterLoop_outer _ _ _ _ _, ?_, fun _ _ => trivial, ?_, fun _ => (by omega), hcall.mono ?_⟩
  · simp only [resolve, hg]
    simp [go_sem]
  · simp [invoke, go_sem, eg]
  · rintro e W' ⟨⟨v, rfl⟩, ⟨⟨hi, hsz⟩, hl, hd⟩ | ⟨pre, k, rest, hpr, hix, hl, hd⟩⟩
    · refine ⟨_, _, run_endLoop hl (by simp [rec']), ?_⟩
      exact hdone _ (hI _ _ _ _ hi (Fr.putObj (fun k => k = D + 1) _ _ _ rfl) (fun k hk => hk)) ((World.putObj_heap_other (by omega)).trans hd)
    · refine ⟨_, _, run_endLoop hl (by simp [rec']), ?_⟩
      exact hstop pre k rest _ hpr (hIx _ _ _ _ hix (Fr.putObj (fun k => k = D + 1) _ _ _ rfl) (fun k hk => hk)) ((World.putObj_heap_other (by omega)).trans hd)

/-- Behind a loop over a function: the function's end. -/
theorem loop_end {fn : Func} {Q : Ending → World → Prop} {n D : Nat} {tmps : Array Value} {W : World} {v : Value} (hK : W.heap[D]? = some (.deferred (some [])))
    (hv : ∀ W' : World, (results fn tmps).run Try.prog W' = .ok v W') (hq : ∀ W', Fr (fun k => k = D) W W' → Q (.returned v) W') :
    Exit.noGoto (bodyPostM Fence.wide n Try.prog fn Q) Exit.ret { tmps := tmps, defers := [{ target := .collected D, args := #[] }] } W :=
  ⟨by simp, .inl ⟨_, _, rfl, run_takeDeferred hK, v, hv _, hq _ (Fr.putObj _ _ _ _ rfl)⟩⟩
end Go.Proofs.Ytiofdfgcghiibaa
