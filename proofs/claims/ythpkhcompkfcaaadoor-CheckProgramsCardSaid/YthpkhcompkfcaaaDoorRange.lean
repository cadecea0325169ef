/-
  A loop over what comes behind an instruction.
-/
import Derived.Test.YthpkhcompkfcaaaDoorBehind
import Derived.RangeFuncRecord
namespace Go.Proofs.YthpkhcompkfcaaaDoor
open Go.RowKit Go.Shelf
attribute [local go_sem] Oper.semAt_some

theorem Fr.putObj (S : Nat → Prop) (W : World) (l : Nat) (o : Obj) (hl : S l) : Fr S W (W.putObj l o) :=
  ⟨rfl, rfl, rfl, by simp, fun k _ hn => World.putObj_heap_other (fun e => hn (e ▸ hl))⟩

/-- Nothing of the loop's own has turned. -/
def Still (lo : Nat) (W W' : World) : Prop := W.heap.size ≤ W'.heap.size ∧ ∀ b, lo ≤ b → b < lo + 5 → b < W.heap.size → W'.heap[b]? = W.heap[b]?

theorem Still.of {lo : Nat} {W W' : World} {S : Nat → Prop} (f : Fr S W W') (h : ∀ b, lo ≤ b → b < lo + 5 → ¬ S b) : Still lo W W' := ⟨f.size, fun b h1 h2 hb => f.block b hb (h b h1 h2)⟩

/-- How a round's body may be left. -/
def rdPost (lo : Nat) (I : List Nat → World → Prop) (xs : List Nat) (W : World) : Exit → Act → World → Prop
  | .normal, _, W' => Still lo W W' ∧ I xs W'
  | _, _, _ => False

theorem Still.obj {lo : Nat} {W W' : World} (h : Still lo W W') {k : Nat} (h1 : lo ≤ k) (h2 : k < lo + 5) {o : Obj} (ho : W.heap[k]? = some o) : W'.heap[k]? = some o := by
  rw [h.2 k h1 h2 (Array.getElem?_eq_some_iff.1 ho).1]
  exact ho

theorem range_behind {g : Operand} {t : Tmp} {assign body : Code} {Q : Exit → Act → World → Prop} {a : Act} {W0 : World} {n lo : Nat} (hn : 6 ≤ n)
    (hg : a.eval g = .func (.func 38) #[] #[.pointer (some ⟨lo, 0, none⟩), .pointer (some ⟨lo + 1, 0, none⟩)]) (l : List Ins) (k : Nat) (x : Ins) (hx : l[k]? = some x) (hl : l.length ≤ 1000) (A : Option Addr) (ln c : Nat) (hln : l.length = ln)
    (hsz : W0.heap.size = lo + 2) (hbl : Blk W0 lo #[.slice A ln c]) (hba : Blk W0 (lo + 1) #[.int .i64 (k : Nat)]) (hcod : Cod W0 W0.heap.size A l)
    (I : List Nat → World → Prop) (hI : ∀ pre W W' S, I pre W → Fr S W W' → (∀ j, S j → j = lo + 3) → I pre W')
    (h0 : I [] W0) (a₁ : Nat → Act)
    (hassign : ∀ (lp : Nat) (j : Nat) (W : World) (K : Act → World → Prop), K (a₁ j) W →
      assign.wpIn (Fence.wide.inRound lp) (n - 1 - 1) Tryd.prog (Exit.then K (fun _ _ _ => False)) { tmps := ((#[t] : Array Tmp).zip #[Value.int .i64 (j : Nat)]).foldl (fun u (p, v) => u.setIfInBounds p v) a.tmps, defers := [] } W)
    (hbody : ∀ (lp : Nat) (pre : List Nat) (j : Nat) (W : World), pre ++ [j] <+: bhd l k → lo + 5 ≤ W.heap.size → I pre W → body.wpIn (Fence.wide.inRound lp) (n - 1 - 1) Tryd.prog (rdPost lo I (pre ++ [j]) W) (a₁ j) W)
    (hdone : ∀ W, I (bhd l k) W → W.heap[lo + 2]? = some (.deferred (some [])) → Q .normal { a with defers := { target := .collected (lo + 2), args := #[] } :: a.defers } W) :
    (Code.rangeFunc g #[t] assign body).wpIn Fence.wide n Tryd.prog Q a W0 := by
  refine wpIn_rangeFunc (fun fn hfn => ?_)
  let D := W0.heap.size
  let rec' : LoopState → Option Code → Loop := fun st pe => ⟨st, pe, fn, a.tmps, #[t], assign, body, D⟩
  have hD : D = lo + 2 := hsz
  let W1 := (W0.alloc (.deferred (some []))).alloc (.loop (rec' .ready none))
  have hF1 : Fr (fun _ => False) W0 W1 := (Fr.alloc _ _ _).trans (Fr.alloc _ _ _)
  have hz1 : W1.heap.size = lo + 4 := by simp [W1]; omega
  have hL1 : W1.heap[lo + 3]? = some (.loop (rec' .ready none)) := by
    have h := World.alloc_heap_new (W0.alloc (.deferred (some []))) (.loop (rec' .ready none))
    rw [World.size_alloc, hsz] at h
    exact h
  have hD1 : W1.heap[lo + 2]? = some (.deferred (some [])) := by
    have h := World.alloc_heap_new W0 (.deferred (some []))
    rw [hsz] at h
    exact (Below.heap_alloc _ _ _ (by simp; omega)).trans h
  have hI1 : I [] W1 := hI _ _ _ _ h0 hF1 (fun _ h => h.elim)
  have eg : ∀ args w, (callFunc 38 args).run Tryd.prog w = .ok (.enter 38 args) w := enters_of Tryd.func38 (by kernel_rfl) rfl
  let J : List Nat → World → Prop := fun pre W => (I pre W ∧ lo + 4 ≤ W.heap.size) ∧ W.heap[lo + 3]? = some (.loop (rec' .ready none)) ∧ W.heap[lo + 2]? = some (.deferred (some []))
  have hJa : ∀ W W' pre, J pre W → Fr (fun _ => False) W W' → J pre W' := by
    rintro W W' pre ⟨⟨h1, h2⟩, h3, h4⟩ f
    exact ⟨⟨hI _ _ _ _ h1 f (fun _ h => h.elim), Nat.le_trans h2 f.size⟩, (f.block _ (Array.getElem?_eq_some_iff.1 h3).1 (fun h => h)).trans h3, (f.block _ (Array.getElem?_eq_some_iff.1 h4).1 (fun h => h)).trans h4⟩
  have hY : ∀ pre j W, pre ++ [j] <+: bhd l k → J pre W → lo + 5 ≤ W.heap.size → YieldAt Fence.wide (n - 1 - 1) Tryd.prog (lo + 3) #[.int .i64 (j : Nat)] W (YdPost lo J pre j W) := by
    rintro pre j W hpr ⟨⟨hi, _⟩, hL, hd⟩ hsW
    refine ⟨fn, _, assign, body, run_yield hL rfl, roundIn_of_wpIn trivial ?_⟩
    refine hassign (lo + 3) j W (fun a₁ w₁ => ∃ w₂, (Instr.beginRound (lo + 3)).run Tryd.prog w₁ = .ok () w₂ ∧ body.wpIn (Fence.wide.inRound (lo + 3)) (n - 1 - 1) Tryd.prog (roundPost Tryd.prog (lo + 3) (YdPost lo J pre j W)) a₁ w₂) ⟨_, run_beginRound hL rfl, ?_⟩
    have hF2 : Fr (fun k => k = lo + 3) W (W.putObj (lo + 3) (.loop (rec' .busy none))) := Fr.putObj _ _ _ _ rfl
    have hlt : lo + 3 < W.heap.size := (Array.getElem?_eq_some_iff.1 hL).1
    have hl2 : (W.putObj (lo + 3) (.loop (rec' .busy none))).heap[lo + 3]? = some (.loop (rec' .busy none)) := World.putObj_heap_same hlt
    have hd2 : (W.putObj (lo + 3) (.loop (rec' .busy none))).heap[lo + 2]? = some (.deferred (some [])) := (World.putObj_heap_other (by omega)).trans hd
    refine wpIn_mono (hbody (lo + 3) pre j _ hpr (by rw [World.putObj_size]; exact hsW) (hI _ _ _ _ hi hF2 (fun k hk => hk))) ?_
    rintro e a3 W3 hp
    cases e with
    | normal =>
      obtain ⟨hst, hi3⟩ := hp
      have hl3 := hst.obj (by omega) (by omega) hl2
      have hd3 := hst.obj (by omega) (by omega) hd2
      have hF4 : Fr (fun k => k = lo + 3) W3 (W3.putObj (lo + 3) (.loop (rec' .ready none))) := Fr.putObj _ _ _ _ rfl
      refine ⟨_, _, run_endRound none hl3, rfl, ⟨⟨hI _ _ _ _ hi3 hF4 (fun k hk => hk), ?_⟩, World.putObj_heap_same (Array.getElem?_eq_some_iff.1 hl3).1, (World.putObj_heap_other (by omega)).trans hd3⟩, ?_⟩
      · rw [World.putObj_size]
        have := (Array.getElem?_eq_some_iff.1 hl3).1
        omega
      · intro b hb hlt'
        rw [World.putObj_heap_other (by omega), hst.2 b (by omega) (by omega) (by rw [World.putObj_size]; exact hlt'), World.putObj_heap_other (by omega)]
    | exit id => exact hp.elim
    | ret => exact hp.elim
    | goto l => exact hp.elim
    | panic c => exact hp.elim
    | outgrown => exact hp.elim
  have hcall := behind_in (n - 1) (lo + 3) lo (by omega) l k x hx hl A ln c hln J W1 hz1 hJa hY ⟨⟨hI1, by omega⟩, hL1, hD1⟩ (hbl.keep hF1 (fun h => h)) (hba.keep hF1 (fun h => h)) ((hcod.same hF1 (Nat.le_refl _)).more hF1.size)
  refine ⟨lo + 3, [{ target := .collected (lo + 2), args := #[] }], W1, ⟨.fn (.func 38) #[.pointer (some ⟨lo, 0, none⟩), .pointer (some ⟨lo + 1, 0, none⟩)], #[.func (.yield (lo + 3)) #[] #[]]⟩, W1, 38,
    #[.func (.yield (lo + 3)) #[] #[], .pointer (some ⟨lo, 0, none⟩), .pointer (some ⟨lo + 1, 0, none⟩)], W1, ?_, ?_, fun _ _ => trivial, ?_, fun _ => (by omega), hcall.mono ?_⟩
  · have e3 : lo + 3 = W0.heap.size + 1 := by omega
    have e2 : lo + 2 = W0.heap.size := by omega
    rw [e3, e2]
    exact run_enterLoop_outer _ _ _ _ _
  · simp only [resolve, hg]
    simp [go_sem]
  · simp [invoke, go_sem, eg]
  · rintro e W' ⟨⟨v, rfl⟩, ⟨hi, hsz'⟩, hL, hd⟩
    refine ⟨_, _, run_endLoop hL (by simp [rec']), ?_⟩
    exact hdone _ (hI _ _ _ _ hi (Fr.putObj (fun k => k = lo + 3) _ _ _ rfl) (fun k hk => hk)) ((World.putObj_heap_other (by omega)).trans hd)

end Go.Proofs.YthpkhcompkfcaaaDoor
