/-
  Held: a scope with a goto, marks among the deferred calls, a row cut short, what lies in memory.
-/
import Derived.Test.YthpkhcompkfcaaaDoorRange
import Derived.Test.YthpkhcompkfcaaaDoorRepeat
import Derived.ScopeJumps
import Derived.Maps.OwnIn
namespace Go.Proofs.YthpkhcompkfcaaaDoor
open Go.RowKit Go.Shelf

section
variable {P : Program} {a : Act} {w : World} {Q : Exit → Act → World → Prop}

/-- A scope in which the run jumps back to one label: what holds there, by a number that falls. -/
theorem wp_scope_ghost {c rest : Code} (l : Nat) (J : Nat → Act → World → Prop) (hf : findLabel c l = some rest)
    (pass : ∀ d a w, J d a w → rest.wp P (Exit.jump l (fun a' w' => ∃ d', d' < d ∧ J d' a' w') Q) a w)
    (first : (∀ d a w, J d a w → rest.wp P (Exit.jump l (fun a' w' => ∃ d, J d a' w') Q) a w) → c.wp P (Exit.jump l (fun a' w' => ∃ d, J d a' w') Q) a w) : (Code.scope c).wp P Q a w := by
  intro b k cs
  have hg : gotoIn l (.inScope c :: k) = some (.code rest :: .inScope c :: k) := by simp [gotoIn, hf]
  have key : ∀ d a w, J d a w → ∃ e a' w', Q e a' w' ∧ Arrives P (lone (b.at a (.code rest :: .inScope c :: k)) cs w) b k cs e a' w' := by
    intro d
    induction d using Nat.strongRecOn with
    | _ d ih =>
      intro a w hJ
      obtain ⟨e, a₁, w₁, hq, harr⟩ := pass d a w hJ b (.inScope c :: k) cs
      cases e with
      | normal => exact ⟨.normal, a₁, w₁, hq, Steps.trans harr (.one step_inScope)⟩
      | exit id => exact ⟨.exit id, a₁, w₁, hq, fun k' hk => harr k' (by simp [exitTo, hk])⟩
      | goto l' =>
        obtain ⟨rfl, d', hlt, hJ'⟩ := hq
        obtain ⟨e₂, a₂, w₂, hq₂, harr₂⟩ := ih d' hlt a₁ w₁ hJ'
        exact ⟨e₂, a₂, w₂, hq₂, .of_steps (harr _ hg) harr₂⟩
      | ret => exact ⟨_, a₁, w₁, hq, harr⟩
      | panic ch => exact ⟨_, a₁, w₁, hq, harr⟩
      | outgrown => exact ⟨_, a₁, w₁, hq, harr⟩
  have weak : ∀ d a w, J d a w → rest.wp P (Exit.jump l (fun a' w' => ∃ d, J d a' w') Q) a w := fun d a w hJ b k cs => by
    obtain ⟨e, a₁, w₁, hq, harr⟩ := pass d a w hJ b k cs
    refine ⟨e, a₁, w₁, ?_, harr⟩
    cases e with
    | goto l' =>
      obtain ⟨h1, d', _, hJ'⟩ := hq
      exact ⟨h1, d', hJ'⟩
    | normal => exact hq
    | exit id => exact hq
    | ret => exact hq
    | panic ch => exact hq
    | outgrown => exact hq
  obtain ⟨e, a₁, w₁, hq, harr⟩ := first weak b (.inScope c :: k) cs
  cases e with
  | normal => exact ⟨.normal, a₁, w₁, hq, .head step_scope (Steps.trans harr (.one step_inScope))⟩
  | exit id => exact ⟨.exit id, a₁, w₁, hq, fun k' hk => .head step_scope (harr k' (by simp [exitTo, hk]))⟩
  | goto l' =>
    obtain ⟨rfl, d, hJ'⟩ := hq
    obtain ⟨e₂, a₂, w₂, hq₂, harr₂⟩ := key d a₁ w₁ hJ'
    exact ⟨e₂, a₂, w₂, hq₂, .of_steps (.head step_scope (harr _ hg)) harr₂⟩
  | ret => exact ⟨_, a₁, w₁, hq, .of_steps (.one step_scope) harr⟩
  | panic ch => exact ⟨_, a₁, w₁, hq, .of_steps (.one step_scope) harr⟩
  | outgrown => exact ⟨_, a₁, w₁, hq, .of_steps (.one step_scope) harr⟩
end

def mark (d : Nat) : Deferred := { target := .collected d, args := #[] }

/-- All marks are taken in, and then the function returns. -/
theorem leaves_all {F : Fence} {n : Nat} {P : Program} {fn : Func} {tmps : Array Value} {R : Ending → World → Prop} (ds : List Nat) (v : Value) : ∀ (w : World), ds.Nodup → (∀ d ∈ ds, w.heap[d]? = some (.deferred (some []))) →
    (∀ W, Fr (fun k => k ∈ ds) w W → (results fn tmps).run P W = .ok v W ∧ R (.returned v) W) → LeavesInM F n P fn tmps R (ds.map mark) .returning w := by
  induction ds with
  | nil =>
    intro w _ _ h
    obtain ⟨h1, h2⟩ := h w (Fr.refl _ _)
    exact ⟨v, h1, h2⟩
  | cons d r ih =>
    intro w hn hd h
    rw [List.nodup_cons] at hn
    refine ⟨by simp, .inl ⟨_, _, rfl, run_takeDeferred (hd d (by simp)), ?_⟩⟩
    have hF : Fr (fun k => k = d) w (w.putObj d (.deferred none)) := Fr.putObj _ _ _ _ rfl
    refine ih _ hn.2 (fun d' hd' => ?_) (fun W hW => h W ((hF.mono (fun k hk => by subst hk; simp)).trans (hW.mono (fun k hk => by simp [hk]))))
    rw [World.putObj_heap_other (by rintro rfl; exact hn.1 hd')]
    exact hd d' (by simp [hd'])

/-- The first of a row of one's own. -/
theorem OwnR.short {w : World} {B : Nat} {e : TypeId} {A : Option Addr} {n m cap : Nat} {xs : List Value} (h : OwnR w B e 1 A n cap xs) (hm : m ≤ n) (hn : 0 < n) : OwnR w B e 1 A m cap (xs.take m) := by
  obtain ⟨h1, h2⟩ := h
  refine ⟨by simp; omega, ?_⟩
  rcases h2 with ⟨h2, _⟩ | ⟨g, c, cur, hv, hb, hh, hr⟩
  · injection h2 with _ h2 _
    omega
  · have h3 : A = some ⟨g, 0, none⟩ ∧ cap = c := by
      injection hv with h3 _ h4
      exact ⟨h3, h4⟩
    obtain ⟨rfl, rfl⟩ := h3
    refine .inr ⟨g, cap, cur, rfl, hb, hh, Nat.le_trans hm hr.1, hr.2.1, hr.2.2.1, ?_⟩
    rw [← hr.2.2.2, List.take_take]
    congr 1
    omega

theorem OwnR.cap_le {w : World} {B : Nat} {e : TypeId} {k : Nat} {A : Option Addr} {n cap : Nat} {xs : List Value} (h : OwnR w B e k A n cap xs) (hn : 0 < n) : n ≤ cap := by
  obtain ⟨_, h2⟩ := h
  rcases h2 with ⟨_, h2⟩ | ⟨g, c, cur, hv, _, _, hr, _⟩
  · omega
  · injection hv with _ _ h4
    subst h4
    exact hr

/-- Numbers from zero on, as they lie in cells. -/
def natsI (l : List Nat) : List Int := l.map fun (x : Nat) => (x : Int)
theorem natsI_len (l : List Nat) : (natsI l).length = l.length := by simp [natsI]
theorem natsI_at {l : List Nat} {k x : Nat} (h : l[k]? = some x) : (natsI l)[k]? = some (x : Int) := by simp [natsI, h]
theorem natsI_set (l : List Nat) (k x : Nat) : natsI (l.set k x) = (natsI l).set k (x : Int) := by simp [natsI, List.map_set]
theorem natsI_app (l m : List Nat) : natsI (l ++ m) = natsI l ++ natsI m := by simp [natsI]

def rowOf (l : List Nat) : Array Value := (ints (natsI l)).toArray
theorem rowOf_at {l : List Nat} {k x : Nat} (h : l[k]? = some x) : (rowOf l)[k]? = some (.int .i64 (x : Int)) := by simp [rowOf, ints, natsI, h]
theorem rowOf_set (l : List Nat) (k x : Nat) : (rowOf l).setIfInBounds k (.int .i64 (x : Int)) = rowOf (l.set k x) := by
  apply Array.ext'
  simp [rowOf, ints, natsI, List.map_set]

theorem TBlk.far {w : World} {b b' : Nat} {c : Array Value} {t : TypeId} (h : TBlk w b c t) (i : Nat) (v : Value) (hb : b ≠ b') : TBlk (w.setCell ⟨b', i, none⟩ v) b c t := by
  unfold TBlk at *
  rw [Below.heap_setCell _ _ _ _ hb]
  exact h

/-- What lies in memory while Held searches. -/
structure HM (w : World) (f : Fn) (A : Option Addr) (n c : Nat) (g bh : Nat) (H T : List Nat) (AT : Option Addr) (cap : Nat) (W : World) : Prop where
  box : TBlk W w.heap.size #[.int .i64 f.needs, .slice A n c] 29
  hb : TBlk W bh #[.slice (some ⟨g, 0, none⟩) n n] 25
  tb : TBlk W (bh + 2) #[.slice AT T.length cap] 25
  row : TBlk W g (rowOf H) 3
  own : OwnN W (bh + 1) AT T.length cap (natsI T)
  fr : Fr (fun k => w.heap.size ≤ k) w W

theorem HM.same {w : World} {f : Fn} {A : Option Addr} {n c g bh : Nat} {H T : List Nat} {AT : Option Addr} {cap : Nat} {W W' : World} (h : HM w f A n c g bh H T AT cap W) {S : Nat → Prop} (F : Fr S W W') (h1 : ¬ S w.heap.size) (h2 : ¬ S bh) (h3 : ¬ S (bh + 2)) (h4 : ¬ S g) (h5 : ∀ j, ownB AT j → ¬ S j) (h6 : ∀ k, S k → w.heap.size ≤ k) : HM w f A n c g bh H T AT cap W' :=
  ⟨h.box.keep F h1, h.hb.keep F h2, h.tb.keep F h3, h.row.keep F h4, OwnR.keep h.own F h5, h.fr.trans (F.mono h6)⟩

theorem HM.still {w : World} {f : Fn} {A : Option Addr} {n c g bh : Nat} {H T : List Nat} {AT : Option Addr} {cap : Nat} {W W' : World} (h : HM w f A n c g bh H T AT cap W) (F : Fr (fun _ => False) W W') : HM w f A n c g bh H T AT cap W' :=
  h.same F (fun h => h) (fun h => h) (fun h => h) (fun h => h) (fun _ _ h => h) (fun _ h => h.elim)

end Go.Proofs.YthpkhcompkfcaaaDoor
