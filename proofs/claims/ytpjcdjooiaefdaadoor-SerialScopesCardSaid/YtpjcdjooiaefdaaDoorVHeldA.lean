/-
  Held: a scope with a goto, marks among the deferred calls, a row cut short, what lies in memory.
-/
import Derived.Test.YtpjcdjooiaefdaaDoorVSmall
import Derived.Test.YtpjcdjooiaefdaaDoorVDepths
import Derived.ScopeJumps
import Derived.Maps.OwnIn
import Derived.Deep.RegionHeld3
import Derived.Deep.AppendLies
import Derived.Deep.DeepCutAuto
namespace Go.Proofs.YtpjcdjooiaefdaaDoor
open Go.RowKit Go.Shelf

section
variable {P : Program} {a : Act} {w : World} {Q : Exit → Act → World → Prop}

/-- A scope in which the run jumps back to one label: what holds there, by a number that falls. -/
theorem wp_scope_ghost {c rest : Code} (l : Nat) (J : Nat → Act → World → Prop) (hf : findLabel c l = some rest)
    (pass : ∀ d a w, J d a w → rest.wp P (Exit.jump l (fun a' w' => ∃ d', d' < d ∧ J d' a' w') Q) a w)
    (first : (∀ d a w, J d a w → rest.wp P (Exit.jump l (fun a' w' => ∃ d, J d a' w') Q) a w) → c.wp P (Exit.jump l (fun a' w' => ∃ d, J d a' w') Q) a w) : (Code.scope c).wp P Q a w := by
  intro b k cs
  have hg : gotoIn l (.inScope c :: k) = some (.code rest :: .inScope c :: k) := by simp [gotoIn, hf]
  have key : ∀ d a w, J d a w → ∃ e a' w', Q e a' w' ∧ Arrives P (lone (b.at a (.code rest :: .inScope c :: k)) cs w) b k cs e a' w' := by
    intro d
    induction d using Nat.strongRecOn with
    | _ d ih =>
      intro a w hJ
      obtain ⟨e, a₁, w₁, hq, harr⟩ := pass d a w hJ b (.inScope c :: k) cs
      cases e with
      | normal => exact ⟨.normal, a₁, w₁, hq, Steps.trans harr (.one step_inScope)⟩
      | exit id => exact ⟨.exit id, a₁, w₁, hq, fun k' hk => harr k' (by simp [exitTo, hk])⟩
      | goto l' =>
        obtain ⟨rfl, d', hlt, hJ'⟩ := hq
        obtain ⟨e₂, a₂, w₂, hq₂, harr₂⟩ := ih d' hlt a₁ w₁ hJ'
        exact ⟨e₂, a₂, w₂, hq₂, .of_steps (harr _ hg) harr₂⟩
      | ret => exact ⟨_, a₁, w₁, hq, harr⟩
      | panic ch => exact ⟨_, a₁, w₁, hq, harr⟩
      | outgrown => exact ⟨_, a₁, w₁, hq, harr⟩
  have weak : ∀ d a w, J d a w → rest.wp P (Exit.jump l (fun a' w' => ∃ d, J d a' w') Q) a w := fun d a w hJ b k cs => by
    obtain ⟨e, a₁, w₁, hq, harr⟩ := pass d a w hJ b k cs
    refine ⟨e, a₁, w₁, ?_, harr⟩
    cases e with
    | goto l' =>
      obtain ⟨h1, d', _, hJ'⟩ := hq
      exact ⟨h1, d', hJ'⟩
    | normal => exact hq
    | exit id => exact hq
    | ret => exact hq
    | panic ch => exact hq
    | outgrown => exact hq
  obtain ⟨e, a₁, w₁, hq, harr⟩ := first weak b (.inScope c :: k) cs
  cases e with
  | normal => exact ⟨.normal, a₁, w₁, hq, .head step_scope (Steps.trans harr (.one step_inScope))⟩
  | exit id => exact ⟨.exit id, a₁, w₁, hq, fun k' hk => .head step_scope (harr k' (by simp [exitTo, hk]))⟩
  | goto l' =>
    obtain ⟨rfl, d, hJ'⟩ := hq
    obtain ⟨e₂, a₂, w₂, hq₂, harr₂⟩ := key d a₁ w₁ hJ'
    exact ⟨e₂, a₂, w₂, hq₂, .of_steps (.head step_scope (harr _ hg)) harr₂⟩
  | ret => exact ⟨_, a₁, w₁, hq, .of_steps (.one step_scope) harr⟩
  | panic ch => exact ⟨_, a₁, w₁, hq, .of_steps (.one step_scope) harr⟩
  | outgrown => exact ⟨_, a₁, w₁, hq, .of_steps (.one step_scope) harr⟩
end

def mark (d : Nat) : Deferred := { target := .collected d, args := #[] }

/-- All marks are taken in, and then the function returns. -/
theorem leaves_all {F : Fence} {n : Nat} {P : Program} {fn : Func} {tmps : Array Value} {R : Ending → World → Prop} (ds : List Nat) (v : Value) : ∀ (w : World), ds.Nodup → (∀ d ∈ ds, w.heap[d]? = some (.deferred (some []))) →
    (∀ W, Fr (fun k => k ∈ ds) w W → (results fn tmps).run P W = .ok v W ∧ R (.returned v) W) → LeavesInM F n P fn tmps R (ds.map mark) .returning w := by
  induction ds with
  | nil =>
    intro w _ _ h
    obtain ⟨h1, h2⟩ := h w (Fr.refl _ _)
    exact ⟨v, h1, h2⟩
  | cons d r ih =>
    intro w hn hd h
    rw [List.nodup_cons] at hn
    refine ⟨by simp, .inl ⟨_, _, rfl, run_takeDeferred (hd d (by simp)), ?_⟩⟩
    have hF : Fr (fun k => k = d) w (w.putObj d (.deferred none)) := Fr.putObj _ _ _ _ rfl
    refine ih _ hn.2 (fun d' hd' => ?_) (fun W hW => h W ((hF.mono (fun k hk => by subst hk; simp)).trans (hW.mono (fun k hk => by simp [hk]))))
    rw [World.putObj_heap_other (by rintro rfl; exact hn.1 hd')]
    exact hd d' (by simp [hd'])

/-- The first of a row of one's own. -/
theorem OwnR.short {w : World} {B : Nat} {e : TypeId} {A : Option Addr} {n m cap : Nat} {xs : List Value} (h : OwnR w B e 1 A n cap xs) (hm : m ≤ n) (hn : 0 < n) : OwnR w B e 1 A m cap (xs.take m) := by
  obtain ⟨h1, h2⟩ := h
  refine ⟨by simp; omega, ?_⟩
  rcases h2 with ⟨h2, _⟩ | ⟨g, c, cur, hv, hb, hh, hr⟩
  · injection h2 with _ h2 _
    omega
  · have h3 : A = some ⟨g, 0, none⟩ ∧ cap = c := by
      injection hv with h3 _ h4
      exact ⟨h3, h4⟩
    obtain ⟨rfl, rfl⟩ := h3
    refine .inr ⟨g, cap, cur, rfl, hb, hh, Nat.le_trans hm hr.1, hr.2.1, hr.2.2.1, ?_⟩
    rw [← hr.2.2.2, List.take_take]
    congr 1
    omega

theorem OwnR.cap_le {w : World} {B : Nat} {e : TypeId} {k : Nat} {A : Option Addr} {n cap : Nat} {xs : List Value} (h : OwnR w B e k A n cap xs) (hn : 0 < n) : n ≤ cap := by
  obtain ⟨_, h2⟩ := h
  rcases h2 with ⟨_, h2⟩ | ⟨g, c, cur, hv, _, _, hr, _⟩
  · omega
  · injection hv with _ _ h4
    subst h4
    exact hr

/-- Numbers from zero on, as they lie in cells. -/
def natsI (l : List Nat) : List Int := l.map fun (x : Nat) => (x : Int)
theorem natsI_len (l : List Nat) : (natsI l).length = l.length := by simp [natsI]
theorem natsI_at {l : List Nat} {k x : Nat} (h : l[k]? = some x) : (natsI l)[k]? = some (x : Int) := by simp [natsI, h]
theorem natsI_set (l : List Nat) (k x : Nat) : natsI (l.set k x) = (natsI l).set k (x : Int) := by simp [natsI, List.map_set]
theorem natsI_app (l m : List Nat) : natsI (l ++ m) = natsI l ++ natsI m := by simp [natsI]

def rowHeld (l : List Nat) : Array Value := (ints (natsI l)).toArray
theorem rowOf_at {l : List Nat} {k x : Nat} (h : l[k]? = some x) : (rowHeld l)[k]? = some (.int .i64 (x : Int)) := by simp [rowHeld, ints, natsI, h]
theorem rowOf_set (l : List Nat) (k x : Nat) : (rowHeld l).setIfInBounds k (.int .i64 (x : Int)) = rowHeld (l.set k x) := by
  apply Array.ext'
  simp [rowHeld, ints, natsI, List.map_set]

theorem TBlk.far {w : World} {b b' : Nat} {c : Array Value} {t : TypeId} (h : TBlk w b c t) (i : Nat) (v : Value) (hb : b ≠ b') : TBlk (w.setCell ⟨b', i, none⟩ v) b c t := by
  unfold TBlk at *
  rw [Below.heap_setCell _ _ _ _ hb]
  exact h

/-- What lies in memory while Held searches. -/
structure HM (w : World) (f : Fn) (A : Option Addr) (n c : Nat) (g bh : Nat) (H T : List Nat) (AT : Option Addr) (cap : Nat) (W : World) : Prop where
  box : TBlk W w.heap.size #[.int .i64 f.needs, .slice A n c] 40
  hb : TBlk W bh #[.slice (some ⟨g, 0, none⟩) n n] 80
  tb : TBlk W (bh + 2) #[.slice AT T.length cap] 80
  row : TBlk W g (rowHeld H) 3
  own : OwnN W (bh + 1) AT T.length cap (natsI T)
  fr : Fr (fun k => w.heap.size ≤ k) w W

theorem HM.same {w : World} {f : Fn} {A : Option Addr} {n c g bh : Nat} {H T : List Nat} {AT : Option Addr} {cap : Nat} {W W' : World} (h : HM w f A n c g bh H T AT cap W) {S : Nat → Prop} (F : Fr S W W') (h1 : ¬ S w.heap.size) (h2 : ¬ S bh) (h3 : ¬ S (bh + 2)) (h4 : ¬ S g) (h5 : ∀ j, ownB AT j → ¬ S j) (h6 : ∀ k, S k → w.heap.size ≤ k) : HM w f A n c g bh H T AT cap W' :=
  ⟨h.box.keep F h1, h.hb.keep F h2, h.tb.keep F h3, h.row.keep F h4, OwnR.keep h.own F h5, h.fr.trans (F.mono h6)⟩

theorem HM.still {w : World} {f : Fn} {A : Option Addr} {n c g bh : Nat} {H T : List Nat} {AT : Option Addr} {cap : Nat} {W W' : World} (h : HM w f A n c g bh H T AT cap W) (F : Fr (fun _ => False) W W') : HM w f A n c g bh H T AT cap W' :=
  h.same F (fun h => h) (fun h => h) (fun h => h) (fun h => h) (fun _ _ h => h) (fun _ h => h.elim)

end Go.Proofs.YtpjcdjooiaefdaaDoor

/-
  check.Held.
-/
namespace Go.Proofs.YtpjcdjooiaefdaaDoor
open Go.RowKit Go.Shelf
attribute [local go_sem] Oper.semAt_some
set_option linter.unusedVariables false

/-- What holds wherever Held looks again. -/
def HJ (w : World) (f : Fn) (A : Option Addr) (n c : Nat) (g bh : Nat) (d : Nat) (a : Act) (W : World) : Prop :=
  ∃ (H T : List Nat) (AT : Option Addr) (cap : Nat) (ds : List Nat) (u5 u6 u7 u8 u9 u10 u11 u12 u13 u14 u15 u16 u17 u18 u19 u20 u21 u22 u23 u24 u25 u26 u27 u28 u29 u30 u31 u32 u33 u34 u35 u36 u37 u38 u39 u40 u41 u42 u43 u44 u45 u46 u47 u48 u49 u50 u51 u52 u53 u54 u55 u56 u57 u58 u59 u60 u61 u62 u63 u64 u65 u66 u67 u68 u69 u70 u71 u72 u73 : Value), a = { tmps := #[.agg #[.int .i64 f.needs, .slice A n c], .pointer (some ⟨w.heap.size, 0, none⟩), .slice none 0 0, .pointer (some ⟨bh, 0, none⟩), .pointer (some ⟨bh + 2, 0, none⟩), u5, u6, u7, u8, u9, u10, u11, u12, u13, u14, u15, u16, u17, u18, u19, u20, u21, u22, u23, u24, u25, u26, u27, u28, u29, u30, u31, u32, u33, u34, u35, u36, u37, u38, u39, u40, u41, u42, u43, u44, u45, u46, u47, u48, u49, u50, u51, u52, u53, u54, u55, u56, u57, u58, u59, u60, u61, u62, u63, u64, u65, u66, u67, u68, u69, u70, u71, u72, u73], defers := ds.map mark } ∧ ds.Nodup ∧ (∀ d ∈ ds, W.heap[d]? = some (.deferred (some [])) ∧ w.heap.size ≤ d) ∧
    HM w f A n c g bh H T AT cap W ∧ HInv f (fun i => i ∈ T) H ∧ (∀ t ∈ T, t < n) ∧ d = 2 * H.sum + T.length ∧ d ≤ 600000

def HeldPost (w : World) (f : Fn) (e : Ending) (w' : World) : Prop := NumPost w (natsI (heldL f)) e w'

/-- What follows the label. -/
noncomputable def heldRest : Code := match findLabel (match Tryd.f43.body with | some (.seq _ (.scope c)) => c | _ => .skip) 0 with | some (.seq _ d) => d | _ => .skip

theorem held_end (w : World) (f : Fn) (A : Option Addr) (n c g bh : Nat) (H : List Nat) (AT : Option Addr) (cap : Nat) (ds : List Nat) (tmps : Array Value) (W : World) (hn : f.code.length = n) (hnd : ds.Nodup) (hds : ∀ d ∈ ds, W.heap[d]? = some (.deferred (some [])) ∧ w.heap.size ≤ d) (hm : HM w f A n c g bh H [] AT cap W) (hi : HInv f (fun i => i ∈ ([] : List Nat)) H)
    (hr : ∀ W', (results Tryd.f43 tmps).run Tryd.prog W' = .ok (.slice (some ⟨g, 0, none⟩) n n) W') :
    LeavesInM Fence.wide 8 Tryd.prog Tryd.f43 tmps (HeldPost w f) (ds.map mark) .returning W := by
  refine leaves_all ds (.slice (some ⟨g, 0, none⟩) n n) W hnd (fun d hd => (hds d hd).1) fun W' hF => ⟨hr W', ?_⟩
  have hfin : H = heldL f := HInv.fin (hi.mono (fun i h => by simp at h))
  have hgn : ¬ g ∈ ds := fun h => by
    have h1 := (hds g h).1
    have h2 := hm.row
    unfold TBlk at h2
    rw [h1] at h2
    cases h2
  have hrow := hm.row.keep hF hgn
  refine ⟨_, n, n, rfl, by rw [natsI_len, heldL_len, hn], fun hl => ⟨g, 0, rfl, hrow.blk.lt, fun k x hx => ?_⟩, ?_⟩
  · rw [Nat.zero_add]
    rw [hfin] at hrow
    refine hrow.blk.cell ?_
    unfold rowHeld ints
    simp [hx]
  · exact Fr.to_none (hm.fr.trans (hF.mono (fun k hk => (hds k hk).2)))


/-- What a region has left: a box with a number. -/
def ComeR (W1 : World) (x : Nat) (u : Value) (wx : World) : Prop := ∃ bc, u = .pointer (some ⟨bc, 0, none⟩) ∧ W1.heap.size ≤ bc ∧ TBlk wx bc #[.int .i64 (x : Nat)] 3 ∧ Fr (fun _ => False) W1 wx

/-- Between two rounds over what comes behind. -/
structure HIt (w : World) (f : Fn) (A : Option Addr) (n c g bh x0 : Nat) (x : Ins) (a0 bc come : Nat) (ds : List Nat) (lo d0 : Nat) (pre : List Nat) (H T : List Nat) (AT : Option Addr) (cap : Nat) (W : World) : Prop where
  mem : HM w f A n c g bh H T AT cap W
  inn : HIn f (fun i => i ∈ T) x0 x a0 pre H
  lt : ∀ t ∈ T, t < n
  num : 2 * H.sum + T.length ≤ d0
  come : TBlk W bc #[.int .i64 (come : Nat)] 3
  marks : ∀ d ∈ ds, W.heap[d]? = some (.deferred (some []))
  away : ∀ j, ownB AT j → j ≠ bc ∧ (j < lo ∨ lo + 5 ≤ j)

def HIte (w : World) (f : Fn) (A : Option Addr) (n c g bh x0 : Nat) (x : Ins) (a0 bc come : Nat) (ds : List Nat) (lo d0 : Nat) (pre : List Nat) (W : World) : Prop :=
  ∃ H T AT cap, HIt w f A n c g bh x0 x a0 bc come ds lo d0 pre H T AT cap W

theorem mark_lt {W : World} {d : Nat} (h : W.heap[d]? = some (.deferred (some []))) : d < W.heap.size := (Array.getElem?_eq_some_iff.1 h).1

theorem HIt.keep {w : World} {f : Fn} {A : Option Addr} {n c g bh x0 : Nat} {x : Ins} {a0 bc come : Nat} {ds : List Nat} {lo d0 : Nat} {pre H T : List Nat} {AT : Option Addr} {cap : Nat} {W W' : World} {S : Nat → Prop} (h : HIt w f A n c g bh x0 x a0 bc come ds lo d0 pre H T AT cap W) (F : Fr S W W') (hS : ∀ j, S j → j = lo + 3) (h1 : w.heap.size < lo) (h2 : bh + 2 < lo) (h3 : g < lo) (h4 : bc < lo) (h5 : ∀ d ∈ ds, d < lo) : HIt w f A n c g bh x0 x a0 bc come ds lo d0 pre H T AT cap W' :=
  ⟨h.mem.same F (fun k => by have := hS _ k; omega) (fun k => by have := hS _ k; omega) (fun k => by have := hS _ k; omega) (fun k => by have := hS _ k; omega) (fun j hj k => by have := hS _ k; have := (h.away j hj).2; omega) (fun j k => by have := hS _ k; omega), h.inn, h.lt, h.num, h.come.keep F (fun k => by have := hS _ k; omega),
    fun d hd => by rw [F.block d (mark_lt (h.marks d hd)) (fun k => by have := hS _ k; have := h5 d hd; omega)]; exact h.marks d hd, h.away⟩

theorem HM.marks {w : World} {f : Fn} {A : Option Addr} {n c g bh : Nat} {H T : List Nat} {AT : Option Addr} {cap : Nat} {W : World} (h : HM w f A n c g bh H T AT cap W) {d : Nat} (hd : W.heap[d]? = some (.deferred (some []))) : d ≠ bh + 2 ∧ d ≠ g ∧ ∀ j, ownB AT j → d ≠ j := by
  refine ⟨?_, ?_, ?_⟩
  · rintro rfl
    have := h.tb
    unfold TBlk at this
    rw [hd] at this
    cases this
  · rintro rfl
    have := h.row
    unfold TBlk at this
    rw [hd] at this
    cases this
  · rintro j ⟨a, rfl, rfl⟩ rfl
    obtain ⟨_, h2⟩ := h.own
    rcases h2 with ⟨h2, _⟩ | ⟨g', c', cur, hv, _, hh, _⟩
    · cases h2
    · injection hv with hv
      injection hv with hv
      subst hv
      rw [hd] at hh
      cases hh

theorem wpListIn_append_lies {F : Fence} {n : Nat} {P : Program} (w : World) {ops : Array Oper} {rest : List Oper} {o : Oper} {a : Act} {Q : Exit → Act → World → Prop}
    (hg : o.guard = none) (s x : Operand) (t : TypeId) (hop : o.op = Op.call { callee := Callee.builtin Builtin.append, args := #[s, x], argTypes := #[t, t] })
    (base : Nat) (e : TypeId) (i : TypeInfo) (z : Value) (size bytes : Nat) (h1 : P.underlying t = some (.slice e)) (h2 : P.info? e = some i) (h3 : i.zero = some z) (h4 : i.size = size) (h5 : i.bytes = bytes) (h6 : z.cells.size = size) (h7 : 0 < size)
    (v : Value) (k : Nat) (xs : List Value) (hs : a.eval s = v) (hown : w.ownsRow base e size v k xs) (ad : Addr) (m c : Nat) (news : List Value) (hx : a.eval x = .slice (some ad) m c) (hn : news.length = m * size)
    (hc : ∀ j u, news[j]? = some u → w.cell? (ad.add j) = some u) (h1c : ∀ u ∈ news, u.oneCell' = true) (b0 : 0 < m) (b1 : k + m ≤ maxLen) (b2 : (k + m) * bytes ≤ 140737488355328) (b3 : base ≤ w.heap.size) (H : Nat) (hH : w.heap.size = H)
    (hK : ∀ g cap w', w'.ownsRow base e size (.slice (some ⟨g, 0, none⟩) (k + m) cap) (k + m) (xs ++ news) → w.grownBy w' v.ownBlock → (v.ownBlock = some g ∨ g = H) → g < w'.heap.size → wpListIn F n P ops Q rest (a.put o.dst (.slice (some ⟨g, 0, none⟩) (k + m) cap)) w') :
    wpListIn F n P ops Q (o :: rest) a w := by
  refine wpListIn_plain hg fun K hK' => ?_
  obtain ⟨g, cap, w', hrun, r1, r2, r3, r4⟩ := run_append_lies (P := P) w t o.type base e i z size bytes h1 h2 h3 h4 h5 h6 h7 v k xs hown ad m c news hn hc h1c b0 b1 b2 b3 H hH
  unfold Oper.wpIn
  refine ⟨?_, ?_⟩
  · simp [Oper.about, hop, resolve, Target.leads, Sem.run_pure]
  · rw [Oper.semAt_plain F _ _ (by rw [hop]; intro c hc'; cases hc')]
    simp [execOp, hop, resolve, invoke, builtin, hs, hx, hrun, Result.andThen]
    exact hK' _ _ (hK g cap w' r1 r2 r3 r4)

theorem own_of {A : Option Addr} {n c g : Nat} (h : (Value.slice A n c).ownBlock = some g) : ownB A g := by
  rcases A with _ | a
  · simp [Value.ownBlock] at h
  · simp only [Value.ownBlock, Option.some.injEq] at h
    exact ⟨a, rfl, h⟩

/-- What is held behind a store into the row, and an append to what is to be looked at. -/
theorem HIt.grow {w : World} {f : Fn} {A : Option Addr} {n c g bh x0 : Nat} {x : Ins} {a0 bc come : Nat} {ds : List Nat} {lo d0 : Nat} {pre H T : List Nat} {AT : Option Addr} {cap : Nat} {Wd w7 : World} {j b ls g2 c2 tn : Nat}
    (h : HIt w f A n c g bh x0 x a0 bc come ds lo d0 pre H T AT cap Wd) (hj : j ∈ bhd f.code x0) (hjn : j < n) (hb : H[j]? = some b) (hls : b &&& come = ls) (hne : ls ≠ b) (hcome : a0 ||| gv x = come) (htn : T.length = tn)
    (hg : w.heap.size < g) (hgb : g < bh) (G1 : g < bc) (G2 : bh + 2 < bc) (h4 : bc < lo) (hsz : lo + 5 ≤ Wd.heap.size)
    (hown : OwnR w7 (bh + 1) 3 1 (some ⟨g2, 0, none⟩) (tn + 1) c2 (ints (natsI T) ++ ints [(j : Int)]))
    (hgrow : Fr (ownB AT) ((Wd.setCell ⟨g, j, none⟩ (.int .i64 (ls : Int))).alloc (.cells #[.int .i64 (j : Int)] 3)) w7) (hat : ownB AT g2 ∨ g2 = Wd.heap.size + 1) :
    Fr (fun k => k = g ∨ ownB AT k ∨ k = bh + 2) Wd (w7.setCell ⟨bh + 2, 0, none⟩ (.slice (some ⟨g2, 0, none⟩) (tn + 1) c2)) ∧
    HIt w f A n c g bh x0 x a0 bc come ds lo d0 (pre ++ [j]) (H.set j ls) (T ++ [j]) (some ⟨g2, 0, none⟩) c2 (w7.setCell ⟨bh + 2, 0, none⟩ (.slice (some ⟨g2, 0, none⟩) (tn + 1) c2)) := by
  obtain ⟨Ws, hWs⟩ : ∃ Ws, Ws = Wd.setCell ⟨g, j, none⟩ (.int .i64 (ls : Int)) := ⟨_, rfl⟩
  rw [← hWs] at hgrow
  have hFs : Fr (fun k => k = g) Wd Ws := by rw [hWs]; exact Fr.setCell _ _ _ rfl
  have hF7 : Fr (fun k => k = g ∨ ownB AT k) Wd w7 := ((hFs.mono (fun k hk => .inl hk)).trans (Fr.alloc _ _ _)).trans (hgrow.mono (fun k hk => .inr hk))
  have hF8 : Fr (fun k => k = bh + 2) w7 (w7.setCell ⟨bh + 2, 0, none⟩ (.slice (some ⟨g2, 0, none⟩) (tn + 1) c2)) := Fr.setCell _ _ _ rfl
  have hF : Fr (fun k => k = g ∨ ownB AT k ∨ k = bh + 2) Wd (w7.setCell ⟨bh + 2, 0, none⟩ (.slice (some ⟨g2, 0, none⟩) (tn + 1) c2)) :=
    (hF7.mono (fun k hk => hk.elim .inl (fun h => .inr (.inl h)))).trans (hF8.mono (fun k hk => .inr (.inr hk)))
  have hlow : ∀ k, ownB AT k → bh + 1 ≤ k := fun k hk => (OwnR.lt h.mem.own k hk).1
  have hnt : ¬ ownB AT (bh + 2) := OwnR.ne h.mem.own h.mem.tb (by decide)
  have htb7 := h.mem.tb.keep hF7 (fun k => k.elim (fun e => by omega) hnt)
  have hn2 : ¬ ownB (some ⟨g2, 0, none⟩) (bh + 2) := OwnR.ne hown htb7 (by decide)
  have hlt : b &&& come < b := by rw [hls]; have h1 : b &&& come ≤ b := Nat.and_le_left; rw [hls] at h1; omega
  refine ⟨hF, ⟨?_, ?_, ?_, ?_, ?_, ?_, ?_⟩⟩
  · refine ⟨h.mem.box.keep hF ?_, h.mem.hb.keep hF ?_, ?_, ?_, ?_, h.mem.fr.trans (hF.mono ?_)⟩
    · rintro (e | e | e)
      · omega
      · have := hlow _ e; omega
      · omega
    · rintro (e | e | e)
      · omega
      · have := hlow _ e; omega
      · omega
    · have := htb7.set 0 (.slice (some ⟨g2, 0, none⟩) (tn + 1) c2)
      rw [List.length_append, htn]
      exact this
    · have h1 : TBlk Ws g (rowHeld (H.set j ls)) 3 := by
        rw [hWs, ← rowOf_set]
        exact h.mem.row.set j _
      have h2 := (h1.keep (Fr.alloc (fun _ => False) Ws (.cells #[.int .i64 (j : Int)] 3)) (fun h => h)).keep hgrow (fun e => by have := hlow _ e; omega)
      exact h2.keep hF8 (fun e => by omega)
    · have h1 := OwnR.keep hown hF8 (fun k hk e => hn2 (e ▸ hk))
      unfold OwnN
      rw [List.length_append, htn]
      exact OwnR.eq h1 (by rw [natsI_app]; simp [ints, natsI])
    · rintro k (e | e | e)
      · omega
      · have := hlow _ e; omega
      · omega
  · have hs := h.inn.set hj hb (by rw [hcome, hls]; exact hne)
    rw [hcome, hls] at hs
    exact ⟨hs.inv.mono (fun i hi => by rcases hi with (hi | hi) | hi; exact .inl (List.mem_append.2 (.inl hi)); exact .inl (List.mem_append.2 (.inr (by simp [hi]))); exact .inr hi), hs.ins, hs.cur, hs.part⟩
  · intro t ht
    rcases List.mem_append.1 ht with ht | ht
    · exact h.lt t ht
    · simp at ht; omega
  · have h1 := sum_set (b := ls) hb
    have h2 := h.num
    rw [List.length_append]
    simp only [List.length_cons, List.length_nil]
    omega
  · refine h.come.keep hF ?_
    rintro (e | e | e)
    · omega
    · exact (h.away _ e).1 rfl
    · omega
  · intro d hd
    have hm := h.mem.marks (h.marks d hd)
    rw [hF.block d (mark_lt (h.marks d hd)) ?_]
    · exact h.marks d hd
    · rintro (e | e | e)
      · exact hm.2.1 e
      · exact hm.2.2 _ e rfl
      · exact hm.1 e
  · rintro k ⟨a, ha, rfl⟩
    cases ha
    rcases hat with e | e
    · exact h.away _ e
    · exact ⟨by show g2 ≠ bc; omega, .inr (by show lo + 5 ≤ g2; omega)⟩

end Go.Proofs.YtpjcdjooiaefdaaDoor

/-
  check.Held, from the label on.
-/
namespace Go.Proofs.YtpjcdjooiaefdaaDoor
open Go.RowKit Go.Shelf
attribute [local go_sem] Oper.semAt_some
set_option linter.unusedVariables false

set_option maxRecDepth 100000 in
set_option maxHeartbeats 8000000 in
theorem held_zero (w : World) (f : Fn) (A : Option Addr) (n c g bh : Nat) (hn : f.code.length = n) (h1 : 1 ≤ n) (h2 : n ≤ 1000) (hg : w.heap.size < g) (hgb : g < bh) (hcod : Cod w w.heap.size A f.code) (d : Nat) (a : Act) (W : World) (hJ : HJ w f A n c g bh d a W) (hz : ∀ m A' c', W.cell? ⟨bh + 2, 0, none⟩ = some (.slice A' m c') → m = 0) :
    heldRest.wp Tryd.prog (Exit.jump 0 (fun a' w' => ∃ d', d' < d ∧ HJ w f A n c g bh d' a' w') (bodyPostM Fence.wide 8 Tryd.prog Tryd.f43 (HeldPost w f))) a W := by
  obtain ⟨H, T, AT, cap, ds, u5, u6, u7, u8, u9, u10, u11, u12, u13, u14, u15, u16, u17, u18, u19, u20, u21, u22, u23, u24, u25, u26, u27, u28, u29, u30, u31, u32, u33, u34, u35, u36, u37, u38, u39, u40, u41, u42, u43, u44, u45, u46, u47, u48, u49, u50, u51, u52, u53, u54, u55, u56, u57, u58, u59, u60, u61, u62, u63, u64, u65, u66, u67, u68, u69, u70, u71, u72, u73, rfl, hnd, hds, hm, hi, hlt, hd, hd6⟩ := hJ
  have HN := hid hn
  have HND := hid hnd
  have HDS := hid hds
  have HM_ := hid hm
  have HI := hid hi
  have HLT := hid hlt
  have HD := hid hd
  obtain ⟨tn, htn⟩ : ∃ tn, T.length = tn := ⟨_, rfl⟩
  have q1 : tn ≤ 600000 := by omega
  have ct := hm.tb.blk.cell (i := 0) rfl
  have ch := hm.hb.blk.cell (i := 0) rfl
  simp only [List.getElem_toArray, List.getElem_cons_zero] at ct ch
  rw [htn] at ct
  have HTN := hid htn
  clear hn hnd hds hm hi hlt hd htn
  generalize hQ : Exit.jump 0 (fun a' w' => ∃ d', d' < d ∧ HJ w f A n c g bh d' a' w') (bodyPostM Fence.wide 8 Tryd.prog Tryd.f43 (HeldPost w f)) = Q
  have HQ := hid hQ
  clear hQ
  unfold heldRest
  simp only [Tryd.f43, findLabel]
  obtain rfl : tn = 0 := hz _ _ _ ct
  obtain rfl : T = [] := List.eq_nil_of_length_eq_zero HTN.out
  clear hz
  go_wp2_with fail
  rw [← HQ.out]
  exact held_end w f A n c g bh H AT cap ds _ W HN.out HND.out HDS.out HM_.out HI.out (fun W' => by (simp [results, Tryd.results43, go_sem]; try rfl))

end Go.Proofs.YtpjcdjooiaefdaaDoor
