/-
  Stage 7: a loop over a text's lines (after stage 3's).
-/
import Derived.Test.YtnlbellbeepkaaaGreatDoorLines
import Derived.RangeFuncRecord
namespace Go.Proofs.YtnlbellbeepkaaaGreatDoor
open Go.RowKit Go.Shelf
attribute [local go_sem] Oper.semAt_some

theorem Fr.putObj (S : Nat → Prop) (W : World) (l : Nat) (o : Obj) (hl : S l) : Fr S W (W.putObj l o) :=
  ⟨rfl, rfl, rfl, by simp, fun k _ hn => World.putObj_heap_other (fun e => hn (e ▸ hl))⟩

set_option maxHeartbeats 400000 in
theorem lines_mk (s : ByteArray) (w : World) : Calls Tryz.prog 15 #[.string s] w fun e w' => e = .returned (.func (.func 24) #[] #[.pointer (some ⟨w.heap.size, 0, none⟩)]) ∧ w' = w.alloc (.cells #[.string s] 9) := by
  go_enter Tryz.func15, Tryz.ntmps15
  go_wp2
  go_ret
  exact ⟨rfl, rfl⟩

/-! ### A scope within a fence -/

section scope
variable {P : Program} {F : Fence} {n : Nat} {Q : Exit → Act → World → Prop} {a : Act} {w : World}

theorem sc_in {b : Frame} {k : List Item} {cs : List Frame} {c : Code} : step P (lone (b.atR a (.code (.scope c) :: k)) cs w) = .next (lone (b.atR a (.code c :: .inScope c :: k)) cs w) :=
  step_lone_go (by simp [stepG, stepG.exec, Frame.atR])
theorem sc_out {b : Frame} {k : List Item} {cs : List Frame} {c : Code} : step P (lone (b.atR a (.inScope c :: k)) cs w) = .next (lone (b.atR a k) cs w) :=
  step_lone_go (by simp [stepG, stepG.exec, Frame.atR])

theorem wpIn_scope {c : Code} (h : c.wpIn F n P (Exit.noGoto Q) a w) : (Code.scope c).wpIn F n P Q a w := by
  intro b k cs hro hb hr
  have s0 : StepsIn (Machine.fenced P F) P (lone (b.atR a (.code (.scope c) :: k)) cs w) (lone (b.atR a (.code c :: .inScope c :: k)) cs w) := .one (fenced_calm hb hr rfl) sc_in
  obtain ⟨e, a₁, w₁, hq, harr⟩ := h b (.inScope c :: k) cs hro hb hr
  cases e with
  | normal => exact ⟨.normal, a₁, w₁, hq, s0.trans (StepsIn.trans harr (.one (fenced_calm hb hr rfl) sc_out))⟩
  | exit id =>
    have hx : exitTo id (.inScope c :: k) = exitTo id k := by simp [exitTo]
    obtain ⟨h1, h2⟩ := harr
    rw [hx] at h1 h2
    refine ⟨.exit id, a₁, w₁, hq, fun k' hk => s0.trans (h1 k' hk), fun hr' hk => ?_⟩
    obtain ⟨k₁, g1, g2⟩ := h2 hr' hk
    exact ⟨k₁, g1, s0.trans g2⟩
  | goto l => exact hq.elim
  | ret => exact ⟨.ret, a₁, w₁, hq, .of_steps s0 harr⟩
  | panic ch => exact ⟨.panic ch, a₁, w₁, hq, .of_steps s0 harr⟩
  | outgrown => exact ⟨.outgrown, a₁, w₁, hq, .of_steps s0 harr⟩
end scope

/-! ### A loop over a text's lines -/

/-- Nothing of the loop's own has turned. -/
def Still (sb D : Nat) (W W' : World) : Prop := ∃ S : Nat → Prop, Fr S W W' ∧ ¬ S sb ∧ ¬ S D ∧ ¬ S (D + 1)

/-- How a round's body may be left. -/
def rdPost (sb D : Nat) (I : List Bs → World → Prop) (Ix : List Bs → World → Prop) (xs : List Bs) (W : World) : Exit → Act → World → Prop
  | .normal, _, W' => Still sb D W W' ∧ I xs W'
  | .ret, _, W' => Still sb D W W' ∧ Ix xs W'
  | _, _, _ => False

theorem Still.obj {sb D : Nat} {W W' : World} (h : Still sb D W W') {k : Nat} (hk : k = D ∨ k = D + 1) {o : Obj} (ho : W.heap[k]? = some o) : W'.heap[k]? = some o := by
  obtain ⟨S, f, _, h1, h2⟩ := h
  rw [f.block k (Array.getElem?_eq_some_iff.1 ho).1 (by rcases hk with rfl | rfl <;> assumption)]
  exact ho

theorem Still.blk {sb D : Nat} {W W' : World} (h : Still sb D W W') {c : Array Value} (hb : Blk W sb c) : Blk W' sb c := by
  obtain ⟨S, f, h0, _, _⟩ := h
  exact hb.keep f h0

theorem range_lines {g : Operand} {t : Tmp} {assign body : Code} {Q : Exit → Act → World → Prop} {a : Act} {W0 : World} {n sb : Nat} (hn : 6 ≤ n)
    (hg : a.eval g = .func (.func 24) #[] #[.pointer (some ⟨sb, 0, none⟩)]) (s : Bs) (hs : s.length ≤ 1000000) (hb : Blk W0 sb #[.string (bs s)])
    (I : List Bs → World → Prop) (Ix : List Bs → World → Prop)
    (hI : ∀ pre W W' S, I pre W → Fr S W W' → (∀ k, S k → k = sb ∨ k = W0.heap.size + 1) → I pre W')
    (hIx : ∀ pre W W' S, Ix pre W → Fr S W W' → (∀ k, S k → k = sb ∨ k = W0.heap.size + 1) → Ix pre W')
    (h0 : I [] W0) (a₁ : Bs → Act)
    (hassign : ∀ (l : Nat) (x : Bs) (W : World) (K : Act → World → Prop), K (a₁ x) W →
      assign.wpIn (Fence.wide.inRound l) (n - 1 - 1) Tryz.prog (Exit.then K (fun _ _ _ => False)) { tmps := ((#[t] : Array Tmp).zip #[Value.string (bs x)]).foldl (fun u (p, v) => u.setIfInBounds p v) a.tmps, defers := [] } W)
    (hbody : ∀ (l : Nat) (pre : List Bs) (x rest : Bs) (W : World), lns s = pre ++ x :: lns rest → W0.heap.size + 2 ≤ W.heap.size → I pre W → body.wpIn (Fence.wide.inRound l) (n - 1 - 1) Tryz.prog (rdPost sb W0.heap.size I Ix (pre ++ [x]) W) (a₁ x) W)
    (hdone : ∀ W, I (lns s) W → W.heap[W0.heap.size]? = some (.deferred (some [])) → Q .normal { a with defers := { target := .collected W0.heap.size, args := #[] } :: a.defers } W)
    (hstop : ∀ pre x post W, lns s = pre ++ x :: post → Ix (pre ++ [x]) W → W.heap[W0.heap.size]? = some (.deferred (some [])) → Code.ret.wpIn Fence.wide n Tryz.prog Q { a with defers := { target := .collected W0.heap.size, args := #[] } :: a.defers } W) :
    (Code.rangeFunc g #[t] assign body).wpIn Fence.wide n Tryz.prog Q a W0 := by
  refine wpIn_rangeFunc (fun fn hfn => ?_)
  let D := W0.heap.size
  let rec' : LoopState → Option Code → Loop := fun st pe => ⟨st, pe, fn, a.tmps, #[t], assign, body, D⟩
  have hsb : sb < D := hb.lt
  let W1 := (W0.alloc (.deferred (some []))).alloc (.loop (rec' .ready none))
  have hF1 : Fr (fun _ => False) W0 W1 := (Fr.alloc _ _ _).trans (Fr.alloc _ _ _)
  have hz1 : W1.heap.size = D + 2 := by simp [W1, D]
  have hL1 : W1.heap[D + 1]? = some (.loop (rec' .ready none)) := by
    have h := World.alloc_heap_new (W0.alloc (.deferred (some []))) (.loop (rec' .ready none))
    rw [World.size_alloc] at h
    exact h
  have hD1 : W1.heap[D]? = some (.deferred (some [])) := (Below.heap_alloc _ _ _ (by simp [D])).trans (World.alloc_heap_new W0 _)
  have hI1 : I [] W1 := hI _ _ _ _ h0 hF1 (fun _ h => h.elim)
  have eg : ∀ args w, (callFunc 24 args).run Tryz.prog w = .ok (.enter 24 args) w := enters_of Tryz.func24 (by kernel_rfl) rfl
  let J : List Bs → World → Prop := fun pre W => (I pre W ∧ W0.heap.size + 2 ≤ W.heap.size) ∧ W.heap[D + 1]? = some (.loop (rec' .ready none)) ∧ W.heap[D]? = some (.deferred (some []))
  let Jx : List Bs → World → Prop := fun pre W => Ix pre W ∧ W.heap[D + 1]? = some (.loop (rec' .done (some .ret))) ∧ W.heap[D]? = some (.deferred (some []))
  have hJs : ∀ pre W v, J pre W → J pre (W.setCell ⟨sb, 0, none⟩ v) := by
    rintro pre W v ⟨⟨h1, h2⟩, h3, h4⟩
    exact ⟨⟨hI _ _ _ (fun k => k = sb) h1 (Fr.setCell _ _ _ rfl) (fun k hk => .inl hk), by simpa [World.setCell] using h2⟩, (Below.heap_setCell _ _ _ _ (by show D + 1 ≠ sb; omega)).trans h3, (Below.heap_setCell _ _ _ _ (by show D ≠ sb; omega)).trans h4⟩
  have hJd : ∀ pre W, J pre W → J pre W.drew := by
    rintro pre W ⟨⟨h1, h2⟩, h3, h4⟩
    exact ⟨⟨hI _ _ _ _ h1 (Fr.drew (fun _ => False) _) (fun _ h => h.elim), h2⟩, h3, h4⟩
  have hY : ∀ pre x rest W, lns s = pre ++ x :: lns rest → J pre W → Blk W sb #[.string (bs rest)] → YieldAt Fence.wide (n - 1 - 1) Tryz.prog (D + 1) #[.string (bs x)] W (YdPost sb J Jx pre x rest) := by
    rintro pre x rest W hpr ⟨⟨hi, hsz⟩, hl, hd⟩ hB
    refine ⟨fn, _, assign, body, run_yield hl rfl, roundIn_of_wpIn trivial ?_⟩
    refine hassign (D + 1) x W (fun a₁ w₁ => ∃ w₂, (Instr.beginRound (D + 1)).run Tryz.prog w₁ = .ok () w₂ ∧ body.wpIn (Fence.wide.inRound (D + 1)) (n - 1 - 1) Tryz.prog (roundPost Tryz.prog (D + 1) (YdPost sb J Jx pre x rest)) a₁ w₂) ⟨_, run_beginRound hl rfl, ?_⟩
    have hF2 : Fr (fun k => k = D + 1) W (W.putObj (D + 1) (.loop (rec' .busy none))) := Fr.putObj _ _ _ _ rfl
    have hlt : D + 1 < W.heap.size := (Array.getElem?_eq_some_iff.1 hl).1
    have hl2 : (W.putObj (D + 1) (.loop (rec' .busy none))).heap[D + 1]? = some (.loop (rec' .busy none)) := World.putObj_heap_same hlt
    have hd2 : (W.putObj (D + 1) (.loop (rec' .busy none))).heap[D]? = some (.deferred (some [])) := (World.putObj_heap_other (by omega)).trans hd
    have hB2 : Blk (W.putObj (D + 1) (.loop (rec' .busy none))) sb #[.string (bs rest)] := hB.keep hF2 (by omega)
    refine wpIn_mono (hbody (D + 1) pre x rest _ hpr (by rw [World.putObj_size]; exact hsz) (hI _ _ _ _ hi hF2 (fun k hk => .inr hk))) ?_
    rintro e a3 W3 hp
    cases e with
    | normal =>
      obtain ⟨hst, hi3⟩ := hp
      have hl3 := hst.obj (.inr rfl) hl2
      refine ⟨_, _, run_endRound none hl3, .inl ⟨rfl, ⟨⟨hI _ _ _ _ hi3 (Fr.putObj (fun k => k = D + 1) _ _ _ rfl) (fun k hk => .inr hk), ?_⟩, World.putObj_heap_same (Array.getElem?_eq_some_iff.1 hl3).1, (World.putObj_heap_other (by omega)).trans (hst.obj (.inl rfl) hd2)⟩, ?_⟩⟩
      · rw [World.putObj_size]
        have := (Array.getElem?_eq_some_iff.1 hl3).1
        omega
      · exact (hst.blk hB2).keep (Fr.putObj (fun k => k = D + 1) _ _ _ rfl) (by omega)
    | ret =>
      obtain ⟨hst, hi3⟩ := hp
      have hl3 := hst.obj (.inr rfl) hl2
      exact ⟨_, _, run_endRound (some .ret) hl3, .inr ⟨rfl, hIx _ _ _ _ hi3 (Fr.putObj (fun k => k = D + 1) _ _ _ rfl) (fun k hk => .inr hk), World.putObj_heap_same (Array.getElem?_eq_some_iff.1 hl3).1, (World.putObj_heap_other (by omega)).trans (hst.obj (.inl rfl) hd2)⟩⟩
    | exit id => exact hp.elim
    | goto l => exact hp.elim
    | panic c => exact hp.elim
    | outgrown => exact hp.elim
  have hcall := lines_in (n - 1) (D + 1) sb (by omega) s hs J Jx W1 hJs hJd hY ⟨⟨hI1, by omega⟩, hL1, hD1⟩ (hb.keep hF1 (fun h => h))
  refine ⟨D + 1, [{ target := .collected D, args := #[] }], W1, ⟨.fn (.func 24) #[.pointer (some ⟨sb, 0, none⟩)], #[.func (.yield (D + 1)) #[] #[]]⟩, W1, 24,
    #[.func (.yield (D + 1)) #[] #[], .pointer (some ⟨sb, 0, none⟩)], W1, run_enterLoop_outer _ _ _ _ _, ?_, fun _ _ => trivial, ?_, fun _ => (by omega), hcall.mono ?_⟩
  · simp only [resolve, hg]
    simp [go_sem]
  · simp [invoke, go_sem, eg]
  · rintro e W' ⟨⟨v, rfl⟩, ⟨⟨hi, hsz⟩, hl, hd⟩ | ⟨pre, x, post, hpr, hix, hl, hd⟩⟩
    · refine ⟨_, _, run_endLoop hl (by simp [rec']), ?_⟩
      exact hdone _ (hI _ _ _ _ hi (Fr.putObj (fun k => k = D + 1) _ _ _ rfl) (fun k hk => .inr hk)) ((World.putObj_heap_other (by omega)).trans hd)
    · refine ⟨_, _, run_endLoop hl (by simp [rec']), ?_⟩
      exact hstop pre x post _ hpr (hIx _ _ _ _ hix (Fr.putObj (fun k => k = D + 1) _ _ _ rfl) (fun k hk => .inr hk)) ((World.putObj_heap_other (by omega)).trans hd)

end Go.Proofs.YtnlbellbeepkaaaGreatDoor
