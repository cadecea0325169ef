/-
  asm.Parse.
-/
import Derived.Test.YtepbnneggpcbcaaGreatDoorLines
namespace Go.Proofs.YtepbnneggpcbcaaGreatDoor
open Go.RowKit Go.Shelf
attribute [local go_sem] Oper.semAt_some

/-- What Parse leaves. -/
def PsPost (w : World) (q : List Fn × Nat × Int) (e : Ending) (w' : World) : Prop :=
  ∃ (A : Option Addr) (c : Nat) (L : List Fo), e = .returned (.tuple #[.agg #[.slice A L.length c], .int .i64 (q.2.1 : Int), .int .i64 q.2.2]) ∧ L.map (·.f) = q.1 ∧ OwnP w' w.heap.size A c L ∧ Fr (fun _ => False) w w'

theorem PsPost.bad {w w' : World} {at_ : Nat} {x : Int} {e : Ending} (he : e = .returned (.tuple #[.agg #[.slice none 0 0], .int .i64 (at_ : Int), .int .i64 x])) (hF : Fr (fun _ => False) w w') : PsPost w ([], at_, x) e w' :=
  ⟨none, 0, [], he, rfl, OwnP.nil _ _, hF⟩

theorem PsPost.eq {w w' : World} {q q' : List Fn × Nat × Int} {e : Ending} (h : PsPost w q e w') (hq : q' = q) : PsPost w q' e w' := hq ▸ h

theorem Fr.putObj (S : Nat → Prop) (W : World) (l : Nat) (o : Obj) (hl : S l) : Fr S W (W.putObj l o) :=
  ⟨rfl, rfl, rfl, by simp, fun k _ hn => World.putObj_heap_other (fun e => hn (e ▸ hl))⟩

set_option maxHeartbeats 400000 in
theorem lines_mk (s : ByteArray) (w : World) : Calls Tryz.prog 25 #[.string s] w fun e w' => e = .returned (.func (.func 44) #[] #[.pointer (some ⟨w.heap.size, 0, none⟩)]) ∧ w' = w.alloc (.cells #[.string s] 9) := by
  go_enter Tryz.func25, Tryz.ntmps25
  go_wp2
  go_ret
  exact ⟨rfl, rfl⟩

set_option maxRecDepth 100000 in
set_option maxHeartbeats 2000000 in
theorem parse_long (s : Bs) (h : 131072 < s.length) (hs : s.length ≤ 1000000) (w : World) : Calls Tryz.prog 10 #[.string (bs s)] w (PsPost w (prs s)) := by
  have HQ := hid (show prs s = ([], 0, 12) by unfold prs; rw [if_pos h])
  obtain ⟨S, hS⟩ : ∃ S, bs s = S := ⟨_, rfl⟩
  have h1 : 131072 < S.size := by rw [← hS]; exact h
  have h2 : S.size ≤ 1000000 := by rw [← hS]; exact hs
  rw [hS]
  clear hS h hs
  go_enter Tryz.func10, Tryz.ntmps10
  go_wp2_with fail
  go_step3
  go_wp2_with fail
  rw [Exit.noGoto_ret]
  refine bodyPost_ret (v := .tuple #[.agg #[.slice none 0 0], .int .i64 0, .int .i64 12]) ?hv rfl ?hp
  case hv => (simp [results, Tryz.results10, go_sem]; try rfl)
  case hp => exact (PsPost.bad (at_ := 0) rfl (Fr.alloc _ _ _)).eq HQ.out

/-! ### A scope within a fence -/

section scope
variable {P : Program} {F : Fence} {n : Nat} {Q : Exit → Act → World → Prop} {a : Act} {w : World}

theorem sc_in {b : Frame} {k : List Item} {cs : List Frame} {c : Code} : step P (lone (b.atR a (.code (.scope c) :: k)) cs w) = .next (lone (b.atR a (.code c :: .inScope c :: k)) cs w) :=
  step_lone_go (by simp [stepG, stepG.exec, Frame.atR])
theorem sc_out {b : Frame} {k : List Item} {cs : List Frame} {c : Code} : step P (lone (b.atR a (.inScope c :: k)) cs w) = .next (lone (b.atR a k) cs w) :=
  step_lone_go (by simp [stepG, stepG.exec, Frame.atR])

theorem wpIn_scope {c : Code} (h : c.wpIn F n P (Exit.noGoto Q) a w) : (Code.scope c).wpIn F n P Q a w := by
  intro b k cs hro hb hr
  have s0 : StepsIn (Machine.fenced P F) P (lone (b.atR a (.code (.scope c) :: k)) cs w) (lone (b.atR a (.code c :: .inScope c :: k)) cs w) := .one (fenced_calm hb hr rfl) sc_in
  obtain ⟨e, a₁, w₁, hq, harr⟩ := h b (.inScope c :: k) cs hro hb hr
  cases e with
  | normal => exact ⟨.normal, a₁, w₁, hq, s0.trans (StepsIn.trans harr (.one (fenced_calm hb hr rfl) sc_out))⟩
  | exit id =>
    have hx : exitTo id (.inScope c :: k) = exitTo id k := by simp [exitTo]
    obtain ⟨h1, h2⟩ := harr
    rw [hx] at h1 h2
    refine ⟨.exit id, a₁, w₁, hq, fun k' hk => s0.trans (h1 k' hk), fun hr' hk => ?_⟩
    obtain ⟨k₁, g1, g2⟩ := h2 hr' hk
    exact ⟨k₁, g1, s0.trans g2⟩
  | goto l => exact hq.elim
  | ret => exact ⟨.ret, a₁, w₁, hq, .of_steps s0 harr⟩
  | panic ch => exact ⟨.panic ch, a₁, w₁, hq, .of_steps s0 harr⟩
  | outgrown => exact ⟨.outgrown, a₁, w₁, hq, .of_steps s0 harr⟩
end scope

/-! ### A loop over a text's lines -/

/-- Nothing of the loop's own has turned. -/
def Still (sb D : Nat) (W W' : World) : Prop := ∃ S : Nat → Prop, Fr S W W' ∧ ¬ S sb ∧ ¬ S D ∧ ¬ S (D + 1)

/-- How a round's body may be left. -/
def rdPost (sb D : Nat) (I : List Bs → World → Prop) (Ix : Nat → List Bs → World → Prop) (xs : List Bs) (W : World) : Exit → Act → World → Prop
  | .normal, _, W' => Still sb D W W' ∧ I xs W'
  | .exit id, _, W' => Still sb D W W' ∧ Ix id xs W'
  | _, _, _ => False

theorem Still.obj {sb D : Nat} {W W' : World} (h : Still sb D W W') {k : Nat} (hk : k = D ∨ k = D + 1) {o : Obj} (ho : W.heap[k]? = some o) : W'.heap[k]? = some o := by
  obtain ⟨S, f, _, h1, h2⟩ := h
  rw [f.block k (Array.getElem?_eq_some_iff.1 ho).1 (by rcases hk with rfl | rfl <;> assumption)]
  exact ho

theorem Still.blk {sb D : Nat} {W W' : World} (h : Still sb D W W') {c : Array Value} (hb : Blk W sb c) : Blk W' sb c := by
  obtain ⟨S, f, h0, _, _⟩ := h
  exact hb.keep f h0

theorem range_lines {g : Operand} {t : Tmp} {assign body : Code} {Q : Exit → Act → World → Prop} {a : Act} {W0 : World} {n sb : Nat} (hn : 6 ≤ n)
    (hg : a.eval g = .func (.func 44) #[] #[.pointer (some ⟨sb, 0, none⟩)]) (s : Bs) (hs : s.length ≤ 1000000) (hb : Blk W0 sb #[.string (bs s)])
    (I : List Bs → World → Prop) (Ix : Nat → List Bs → World → Prop)
    (hI : ∀ pre W W' S, I pre W → Fr S W W' → (∀ k, S k → k = sb ∨ k = W0.heap.size + 1) → I pre W')
    (hIx : ∀ id pre W W' S, Ix id pre W → Fr S W W' → (∀ k, S k → k = sb ∨ k = W0.heap.size + 1) → Ix id pre W')
    (h0 : I [] W0) (a₁ : Bs → Act)
    (hassign : ∀ (l : Nat) (x : Bs) (W : World) (K : Act → World → Prop), K (a₁ x) W →
      assign.wpIn (Fence.wide.inRound l) (n - 1 - 1) Tryz.prog (Exit.then K (fun _ _ _ => False)) { tmps := ((#[t] : Array Tmp).zip #[Value.string (bs x)]).foldl (fun u (p, v) => u.setIfInBounds p v) a.tmps, defers := [] } W)
    (hbody : ∀ (l : Nat) (pre : List Bs) (x rest : Bs) (W : World), lns s = pre ++ x :: lns rest → W0.heap.size + 2 ≤ W.heap.size → I pre W → body.wpIn (Fence.wide.inRound l) (n - 1 - 1) Tryz.prog (rdPost sb W0.heap.size I Ix (pre ++ [x]) W) (a₁ x) W)
    (hdone : ∀ W, I (lns s) W → W.heap[W0.heap.size]? = some (.deferred (some [])) → Q .normal { a with defers := { target := .collected W0.heap.size, args := #[] } :: a.defers } W)
    (hstop : ∀ id pre x post W, lns s = pre ++ x :: post → Ix id (pre ++ [x]) W → W.heap[W0.heap.size]? = some (.deferred (some [])) → (Code.exit id).wpIn Fence.wide n Tryz.prog Q { a with defers := { target := .collected W0.heap.size, args := #[] } :: a.defers } W) :
    (Code.rangeFunc g #[t] assign body).wpIn Fence.wide n Tryz.prog Q a W0 := by
  refine wpIn_rangeFunc (fun fn hfn => ?_)
  let D := W0.heap.size
  let rec' : LoopState → Option Code → Loop := fun st pe => ⟨st, pe, fn, a.tmps, #[t], assign, body, D⟩
  have hsb : sb < D := hb.lt
  let W1 := (W0.alloc (.deferred (some []))).alloc (.loop (rec' .ready none))
  have hF1 : Fr (fun _ => False) W0 W1 := (Fr.alloc _ _ _).trans (Fr.alloc _ _ _)
  have hz1 : W1.heap.size = D + 2 := by simp [W1, D]
  have hL1 : W1.heap[D + 1]? = some (.loop (rec' .ready none)) := by
    have h := World.alloc_heap_new (W0.alloc (.deferred (some []))) (.loop (rec' .ready none))
    rw [World.size_alloc] at h
    exact h
  have hD1 : W1.heap[D]? = some (.deferred (some [])) := (Below.heap_alloc _ _ _ (by simp [D])).trans (World.alloc_heap_new W0 _)
  have hI1 : I [] W1 := hI _ _ _ _ h0 hF1 (fun _ h => h.elim)
  have eg : ∀ args w, (callFunc 44 args).run Tryz.prog w = .ok (.enter 44 args) w := enters_of Tryz.func44 (by kernel_rfl) rfl
  let J : List Bs → World → Prop := fun pre W => (I pre W ∧ W0.heap.size + 2 ≤ W.heap.size) ∧ W.heap[D + 1]? = some (.loop (rec' .ready none)) ∧ W.heap[D]? = some (.deferred (some []))
  let Jx : List Bs → World → Prop := fun pre W => ∃ id, Ix id pre W ∧ W.heap[D + 1]? = some (.loop (rec' .done (some (.exit id)))) ∧ W.heap[D]? = some (.deferred (some []))
  have hJs : ∀ pre W v, J pre W → J pre (W.setCell ⟨sb, 0, none⟩ v) := by
    rintro pre W v ⟨⟨h1, h2⟩, h3, h4⟩
    exact ⟨⟨hI _ _ _ (fun k => k = sb) h1 (Fr.setCell _ _ _ rfl) (fun k hk => .inl hk), by simpa [World.setCell] using h2⟩, (Below.heap_setCell _ _ _ _ (by show D + 1 ≠ sb; omega)).trans h3, (Below.heap_setCell _ _ _ _ (by show D ≠ sb; omega)).trans h4⟩
  have hJd : ∀ pre W, J pre W → J pre W.drew := by
    rintro pre W ⟨⟨h1, h2⟩, h3, h4⟩
    exact ⟨⟨hI _ _ _ _ h1 (Fr.drew (fun _ => False) _) (fun _ h => h.elim), h2⟩, h3, h4⟩
  have hY : ∀ pre x rest W, lns s = pre ++ x :: lns rest → J pre W → Blk W sb #[.string (bs rest)] → YieldAt Fence.wide (n - 1 - 1) Tryz.prog (D + 1) #[.string (bs x)] W (YdPost sb J Jx pre x rest) := by
    rintro pre x rest W hpr ⟨⟨hi, hsz⟩, hl, hd⟩ hB
    refine ⟨fn, _, assign, body, run_yield hl rfl, roundIn_of_wpIn trivial ?_⟩
    refine hassign (D + 1) x W (fun a₁ w₁ => ∃ w₂, (Instr.beginRound (D + 1)).run Tryz.prog w₁ = .ok () w₂ ∧ body.wpIn (Fence.wide.inRound (D + 1)) (n - 1 - 1) Tryz.prog (roundPost Tryz.prog (D + 1) (YdPost sb J Jx pre x rest)) a₁ w₂) ⟨_, run_beginRound hl rfl, ?_⟩
    have hF2 : Fr (fun k => k = D + 1) W (W.putObj (D + 1) (.loop (rec' .busy none))) := Fr.putObj _ _ _ _ rfl
    have hlt : D + 1 < W.heap.size := (Array.getElem?_eq_some_iff.1 hl).1
    have hl2 : (W.putObj (D + 1) (.loop (rec' .busy none))).heap[D + 1]? = some (.loop (rec' .busy none)) := World.putObj_heap_same hlt
    have hd2 : (W.putObj (D + 1) (.loop (rec' .busy none))).heap[D]? = some (.deferred (some [])) := (World.putObj_heap_other (by omega)).trans hd
    have hB2 : Blk (W.putObj (D + 1) (.loop (rec' .busy none))) sb #[.string (bs rest)] := hB.keep hF2 (by omega)
    refine wpIn_mono (hbody (D + 1) pre x rest _ hpr (by rw [World.putObj_size]; exact hsz) (hI _ _ _ _ hi hF2 (fun k hk => .inr hk))) ?_
    rintro e a3 W3 hp
    cases e with
    | normal =>
      obtain ⟨hst, hi3⟩ := hp
      have hl3 := hst.obj (.inr rfl) hl2
      refine ⟨_, _, run_endRound none hl3, .inl ⟨rfl, ⟨⟨hI _ _ _ _ hi3 (Fr.putObj (fun k => k = D + 1) _ _ _ rfl) (fun k hk => .inr hk), ?_⟩, World.putObj_heap_same (Array.getElem?_eq_some_iff.1 hl3).1, (World.putObj_heap_other (by omega)).trans (hst.obj (.inl rfl) hd2)⟩, ?_⟩⟩
      · rw [World.putObj_size]
        have := (Array.getElem?_eq_some_iff.1 hl3).1
        omega
      · exact (hst.blk hB2).keep (Fr.putObj (fun k => k = D + 1) _ _ _ rfl) (by omega)
    | exit id =>
      obtain ⟨hst, hi3⟩ := hp
      have hl3 := hst.obj (.inr rfl) hl2
      exact ⟨_, _, run_endRound (some (.exit id)) hl3, .inr ⟨rfl, id, hIx _ _ _ _ _ hi3 (Fr.putObj (fun k => k = D + 1) _ _ _ rfl) (fun k hk => .inr hk), World.putObj_heap_same (Array.getElem?_eq_some_iff.1 hl3).1, (World.putObj_heap_other (by omega)).trans (hst.obj (.inl rfl) hd2)⟩⟩
    | ret => exact hp.elim
    | goto l => exact hp.elim
    | panic c => exact hp.elim
    | outgrown => exact hp.elim
  have hcall := lines_in (n - 1) (D + 1) sb (by omega) s hs J Jx W1 hJs hJd hY ⟨⟨hI1, by omega⟩, hL1, hD1⟩ (hb.keep hF1 (fun h => h))
  refine ⟨D + 1, [{ target := .collected D, args := #[] }], W1, ⟨.fn (.func 44) #[.pointer (some ⟨sb, 0, none⟩)], #[.func (.yield (D + 1)) #[] #[]]⟩, W1, 44,
    #[.func (.yield (D + 1)) #[] #[], .pointer (some ⟨sb, 0, none⟩)], W1, run_enterLoop_outer _ _ _ _ _, ?_, fun _ _ => trivial, ?_, fun _ => (by omega), hcall.mono ?_⟩
  · simp only [resolve, hg]
    simp [go_sem]
  · simp [invoke, go_sem, eg]
  · rintro e W' ⟨⟨v, rfl⟩, ⟨⟨hi, hsz⟩, hl, hd⟩ | ⟨pre, x, post, hpr, id, hix, hl, hd⟩⟩
    · refine ⟨_, _, run_endLoop hl (by simp [rec']), ?_⟩
      exact hdone _ (hI _ _ _ _ hi (Fr.putObj (fun k => k = D + 1) _ _ _ rfl) (fun k hk => .inr hk)) ((World.putObj_heap_other (by omega)).trans hd)
    · refine ⟨_, _, run_endLoop hl (by simp [rec']), ?_⟩
      exact hstop id pre x post _ hpr (hIx _ _ _ _ _ hix (Fr.putObj (fun k => k = D + 1) _ _ _ rfl) (fun k hk => .inr hk)) ((World.putObj_heap_other (by omega)).trans hd)

/-! ### Between two lines -/

/-- The lines of pre have been taken in. -/
def PSt' (w : World) (pre : List Bs) (W : World) : Prop :=
  ∃ (A : Option Addr) (c : Nat) (L : List Fo), runL pre [] 0 = (L.map (·.f), pre.length, 0) ∧ Blk W w.heap.size #[.slice none 0 0] ∧ Blk W (w.heap.size + 1) #[.slice A L.length c] ∧ Blk W (w.heap.size + 2) #[.int .i64 (pre.length : Int)] ∧
    Blk W (w.heap.size + 3) #[.int .i64 0] ∧ OwnP W (w.heap.size + 7) A c L ∧ Fr (fun k => w.heap.size ≤ k) w W

/-- A line is wrong. -/
def PEr' (w : World) (pre : List Bs) (W : World) : Prop :=
  ∃ (at_ : Nat) (x : Int), x ≠ 0 ∧ runL pre [] 0 = ([], at_, x) ∧ Blk W w.heap.size #[.slice none 0 0] ∧ (∃ A c n, Blk W (w.heap.size + 1) #[.slice A n c]) ∧ Blk W (w.heap.size + 2) #[.int .i64 (at_ : Int)] ∧
    Blk W (w.heap.size + 3) #[.int .i64 x] ∧ Fr (fun k => w.heap.size ≤ k) w W

theorem PSt'.keep {w W W' : World} {pre : List Bs} (h : PSt' w pre W) {S : Nat → Prop} (f : Fr S W W') (hS : ∀ k, S k → k = w.heap.size + 4 ∨ k = w.heap.size + 6) : PSt' w pre W' := by
  obtain ⟨A, c, L, h1, h2, h3, h4, h5, h6, h9⟩ := h
  have hno : ∀ k, k ≠ w.heap.size + 4 → k ≠ w.heap.size + 6 → ¬ S k := fun k a b hk => by rcases hS k hk with e | e <;> omega
  exact ⟨A, c, L, h1, h2.keep f (hno _ (by omega) (by omega)), h3.keep f (hno _ (by omega) (by omega)), h4.keep f (hno _ (by omega) (by omega)), h5.keep f (hno _ (by omega) (by omega)), h6.keep f (fun j h1 h2 => hno _ (by omega) (by omega)), h9.trans (f.mono (fun k hk => by rcases hS k hk with e | e <;> omega))⟩

theorem PEr'.keep {w W W' : World} {pre : List Bs} (h : PEr' w pre W) {S : Nat → Prop} (f : Fr S W W') (hS : ∀ k, S k → k = w.heap.size + 4 ∨ k = w.heap.size + 6) : PEr' w pre W' := by
  obtain ⟨at_, x, h0, h1, h2, ⟨A, c, n, h3⟩, h4, h5, h9⟩ := h
  have hno : ∀ k, k ≠ w.heap.size + 4 → k ≠ w.heap.size + 6 → ¬ S k := fun k a b hk => by rcases hS k hk with e | e <;> omega
  exact ⟨at_, x, h0, h1, h2.keep f (hno _ (by omega) (by omega)), ⟨A, c, n, h3.keep f (hno _ (by omega) (by omega))⟩, h4.keep f (hno _ (by omega) (by omega)), h5.keep f (hno _ (by omega) (by omega)), h9.trans (f.mono (fun k hk => by rcases hS k hk with e | e <;> omega))⟩

theorem lns_ne (s : Bs) : ∀ x ∈ lns s, x ≠ [] := by
  induction s with
  | nil => intro x hx; simp [lns] at hx
  | cons a r ih =>
    intro x hx
    rw [lns] at hx
    split at hx
    · rcases List.mem_cons.1 hx with rfl | hx
      · simp
      · exact ih x hx
    · split at hx
      · simp at hx; subst hx; simp
      · rename_i h
        rcases List.mem_cons.1 hx with rfl | hx
        · simp
        · exact ih x (by rw [h]; exact List.mem_cons_of_mem _ hx)

theorem lines_flat (l : List Bs) (h : ∀ x ∈ l, x ≠ []) : l.length ≤ l.flatten.length := by
  induction l with
  | nil => simp
  | cons a r ih =>
    have h1 := List.length_pos_iff.2 (h a (by simp))
    have h2 := ih (fun x hx => h x (by simp [hx]))
    rw [List.flatten_cons, List.length_append, List.length_cons]
    omega

theorem lns_pre {s : Bs} {pre post : List Bs} {x : Bs} (h : lns s = pre ++ x :: post) : pre.length + x.length ≤ s.length := by
  have h1 := congrArg List.length (lns_flatten s)
  rw [h] at h1
  simp only [List.flatten_append, List.flatten_cons, List.length_append] at h1
  have h2 := lines_flat pre (fun y hy => lns_ne s y (by rw [h]; simp [hy]))
  omega

theorem okS_bounds {fs : List Fn} (h : okS fs) : fs.length ≤ 32 ∧ ∀ f ∈ fs, f.code.length ≤ 128 := by
  rcases h with rfl | ⟨gs, f, rfl, h1, _, _, _, h5, h6⟩
  · exact ⟨by simp, fun f hf => by simp at hf⟩
  · refine ⟨by simp; omega, fun x hx => ?_⟩
    rw [List.mem_append] at hx
    rcases hx with hx | hx
    · have : ∀ (l : List Fn), prgErr l = 0 → ∀ x ∈ l, fnErr x = 0 := by
        intro l
        induction l with
        | nil => intro _ x hx; simp at hx
        | cons a r ih =>
          intro hl x hx
          simp only [prgErr] at hl
          split at hl
          · rcases List.mem_cons.1 hx with rfl | hx
            · assumption
            · exact ih hl x hx
          · contradiction
      exact (fnErr_zero' (this gs h1 x hx)).2.2.2.1
    · simp at hx
      subst hx
      exact h5

theorem runL_snoc {pre : List Bs} {fs : List Fn} {n : Nat} (h : runL pre [] 0 = (fs, n, 0)) (x : Bs) : runL (pre ++ [x]) [] 0 = if (putL fs x).2 = 0 then ((putL fs x).1, n + 1, 0) else ([], n + 1, (putL fs x).2) := by
  rw [runL_app _ _ _ _ _ _ h, runL]
  rfl

end Go.Proofs.YtepbnneggpcbcaaGreatDoor
