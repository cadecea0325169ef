/-
  A map from numbers to numbers in memory: what a look-up, an update, a delete leave.
-/
import Derived.Test.YtpgbhgkikpmhiaaProg
import Derived.Test.YtpgbhgkikpmhiaaTb
import Derived.MapKept
import Derived.Shelf.SlMaps.Clone
namespace Go.Proofs.Ytpgbhgkikpmhiaa
open Go.RowKit
set_option linter.unusedVariables false

theorem mi_und : Try.prog.underlying 53 = some (.map 3 3) := by kernel_rfl

abbrev iV (x : Int) : Value := .int .i64 x




/-- The entries. -/
abbrev Mp := List (Int × Int)

def Ents (es : List MapEntry) (L : Mp) : Prop := es.map (fun e => (e.key, e.val)) = L.map (fun p => (iV p.1, iV p.2))

def Mp.find (k : Int) : Mp → Nat → Option (Nat × Int)
  | [], _ => none
  | p :: L, i => if k == p.1 then some (i, p.2) else Mp.find k L (i + 1)

def Mp.get (L : Mp) (k : Int) : Option Int := (Mp.find k L 0).map (·.2)
def Mp.put (k v : Int) : Mp → Mp
  | [] => [(k, v)]
  | p :: L => if k == p.1 then (k, v) :: L else p :: Mp.put k v L
def Mp.del (k : Int) : Mp → Mp
  | [] => []
  | p :: L => if k == p.1 then L else p :: Mp.del k L
def Mp.Once (L : Mp) : Prop := (L.map (·.1)).Nodup

theorem Mp.find_shift (k : Int) : ∀ (L : Mp) (i : Nat), Mp.find k L i = (Mp.find k L 0).map fun q => (q.1 + i, q.2) := by
  intro L
  induction L with
  | nil => intro i; rfl
  | cons p L ih =>
    intro i
    unfold Mp.find
    by_cases h : (k == p.1) = true
    · rw [if_pos h, if_pos h]
      simp
    · rw [if_neg h, if_neg h, ih (i + 1), ih (0 + 1), Option.map_map]
      congr 1
      funext q
      simp only [Function.comp, Prod.mk.injEq, and_true]
      omega

theorem Mp.get_nil (k : Int) : Mp.get [] k = none := rfl
theorem Mp.get_cons (p : Int × Int) (L : Mp) (k : Int) : Mp.get (p :: L) k = if k == p.1 then some p.2 else Mp.get L k := by
  unfold Mp.get
  conv => lhs; unfold Mp.find
  by_cases h : (k == p.1) = true
  · rw [if_pos h, if_pos h]; rfl
  · rw [if_neg h, if_neg h, Mp.find_shift k L (0 + 1), Option.map_map]
    rfl

theorem Mp.get_none {L : Mp} {k : Int} (h : k ∉ L.map (·.1)) : Mp.get L k = none := by
  induction L with
  | nil => rfl
  | cons p L ih =>
    simp only [List.map_cons, List.mem_cons, not_or] at h
    rw [Mp.get_cons, if_neg, ih h.2]
    intro e
    simp only [beq_iff_eq] at e
    exact h.1 e

theorem Mp.get_put (k v : Int) : ∀ (L : Mp) (k' : Int), Mp.get (Mp.put k v L) k' = if k' = k then some v else Mp.get L k' := by
  intro L
  induction L with
  | nil =>
    intro k'
    unfold Mp.put
    rw [Mp.get_cons]
    by_cases h : k' = k
    · rw [if_pos h, if_pos (by simp [h])]
    · rw [if_neg h, if_neg (by simpa using h)]
  | cons p L ih =>
    intro k'
    unfold Mp.put
    by_cases hp : (k == p.1) = true
    · rw [if_pos hp, Mp.get_cons, Mp.get_cons]
      simp only [beq_iff_eq] at hp ⊢
      rw [← hp]
      by_cases h : k' = k
      · rw [if_pos h, if_pos h]
      · rw [if_neg h, if_neg h, if_neg h]
    · rw [if_neg hp, Mp.get_cons, Mp.get_cons, ih]
      by_cases h : k' = k
      · rw [if_pos h, if_pos h, if_neg]
        rw [h]
        exact hp
      · rw [if_neg h, if_neg h]

theorem Mp.put_keys (k v : Int) : ∀ (L : Mp) (x : Int), x ∈ (Mp.put k v L).map (·.1) → x = k ∨ x ∈ L.map (·.1) := by
  intro L
  induction L with
  | nil => intro x hx; simp [Mp.put] at hx; exact .inl hx
  | cons p L ih =>
    intro x hx
    unfold Mp.put at hx
    split at hx
    · simp only [List.map_cons, List.mem_cons] at hx ⊢
      rcases hx with hx | hx
      · exact .inl hx
      · exact .inr (.inr hx)
    · simp only [List.map_cons, List.mem_cons] at hx ⊢
      rcases hx with hx | hx
      · exact .inr (.inl hx)
      · rcases ih x hx with h | h
        · exact .inl h
        · exact .inr (.inr h)

theorem Mp.put_once (k v : Int) : ∀ {L : Mp}, Mp.Once L → Mp.Once (Mp.put k v L) := by
  intro L
  induction L with
  | nil => intro _; simp [Mp.Once, Mp.put]
  | cons p L ih =>
    intro h
    unfold Mp.Once at h ⊢
    rw [List.map_cons, List.nodup_cons] at h
    unfold Mp.put
    by_cases hp : (k == p.1) = true
    · rw [if_pos hp, List.map_cons, List.nodup_cons]
      simp only [beq_iff_eq] at hp
      rw [hp]
      exact h
    · rw [if_neg hp, List.map_cons, List.nodup_cons]
      refine ⟨fun hx => ?_, ih h.2⟩
      rcases Mp.put_keys k v L p.1 hx with e | e
      · rw [e] at hp
        simp at hp
      · exact h.1 e

theorem Mp.del_keys (k : Int) : ∀ (L : Mp) (x : Int), x ∈ (Mp.del k L).map (·.1) → x ∈ L.map (·.1) := by
  intro L
  induction L with
  | nil => intro x hx; exact hx
  | cons p L ih =>
    intro x hx
    unfold Mp.del at hx
    split at hx
    · exact List.mem_cons_of_mem _ hx
    · simp only [List.map_cons, List.mem_cons] at hx ⊢
      rcases hx with hx | hx
      · exact .inl hx
      · exact .inr (ih x hx)

theorem Mp.del_once (k : Int) : ∀ {L : Mp}, Mp.Once L → Mp.Once (Mp.del k L) := by
  intro L
  induction L with
  | nil => intro h; exact h
  | cons p L ih =>
    intro h
    unfold Mp.Once at h ⊢
    rw [List.map_cons, List.nodup_cons] at h
    unfold Mp.del
    split
    · exact h.2
    · rw [List.map_cons, List.nodup_cons]
      exact ⟨fun hx => h.1 (Mp.del_keys k L _ hx), ih h.2⟩

theorem Mp.get_del (k : Int) : ∀ {L : Mp}, Mp.Once L → ∀ (k' : Int), Mp.get (Mp.del k L) k' = if k' = k then none else Mp.get L k' := by
  intro L
  induction L with
  | nil => intro _ k'; unfold Mp.del; rw [Mp.get_nil]; split <;> rfl
  | cons p L ih =>
    intro h k'
    unfold Mp.Once at h
    rw [List.map_cons, List.nodup_cons] at h
    unfold Mp.del
    by_cases hp : (k == p.1) = true
    · rw [if_pos hp, Mp.get_cons]
      simp only [beq_iff_eq] at hp ⊢
      by_cases hr : k' = k
      · rw [if_pos hr, Mp.get_none]
        rw [hr, hp]
        exact h.1
      · rw [if_neg hr, if_neg]
        rw [← hp]
        exact hr
    · rw [if_neg hp, Mp.get_cons, Mp.get_cons, ih h.2]
      by_cases hr : k' = k
      · rw [if_pos hr, if_pos hr, if_neg]
        rw [hr]
        exact hp
      · rw [if_neg hr, if_neg hr]

/-! ### In memory -/

theorem find_now (k : Int) : ∀ (es : List MapEntry) (L : Mp) (i : Nat), Ents es L → Instr.findNow (.int .i64) (iV k) es i = some ((Mp.find k L i).map fun q => (q.1, iV q.2)) := by
  intro es
  induction es with
  | nil =>
    intro L i h
    cases L with
    | nil => rfl
    | cons p L => simp [Ents] at h
  | cons e es ih =>
    intro L i h
    cases L with
    | nil => simp [Ents] at h
    | cons p L =>
      simp only [Ents, List.map_cons, List.cons.injEq, Prod.mk.injEq] at h
      obtain ⟨⟨h1, h2⟩, h3⟩ := h
      unfold Instr.findNow Mp.find
      rw [h1, h2]
      cases hh : (k == p.1)
      · simp only [Instr.sameNow, iV, hh, if_true, Bool.false_eq_true, if_false]
        exact ih L (i + 1) h3
      · simp only [Instr.sameNow, iV, hh, if_true, Option.map_some]

theorem findKey_run (k : Int) (w : World) (es : List MapEntry) (L : Mp) (h : Ents es L) :
    (Instr.findKey 3 (iV k) es).run Try.prog w = .ok ((Mp.find k L 0).map fun q => (q.1, iV q.2)) w :=
  MapKept.run_findKey (d := .int .i64) (by kernel_rfl) (find_now k es L 0 h)

theorem key_check (em : Bool) (k : Int) (w : World) : (Instr.checkKey em 10000 3 (iV k)).run Try.prog w = .ok () w :=
  MapKept.run_checkKey (d := .int .i64) (by kernel_rfl) (by simp [MapKept.IsKey]) em 9999

/-- The map, known whole: what is told of each number. -/
def IsPm (w : World) (b : Nat) (m : Int → Option Int) : Prop := ∃ L es clock, w.heap[b]? = some (.map es clock) ∧ Ents es.toList L ∧ Mp.Once L ∧ ∀ k, m k = Mp.get L k

theorem IsPm.lt {w : World} {b : Nat} {m : Int → Option Int} (h : IsPm w b m) : b < w.heap.size := by
  obtain ⟨L, es, c, h, _⟩ := h
  exact (Array.getElem?_eq_some_iff.1 h).1

theorem IsPm.ne {w : World} {b : Nat} {m : Int → Option Int} (h : IsPm w b m) {g : Nat} {c : Array Value} {t : TypeId} (hg : TBlk w g c t) : g ≠ b := by
  rintro rfl
  obtain ⟨L, es, c', h, _⟩ := h
  unfold TBlk at hg
  rw [h] at hg
  cases hg

theorem IsPm.own {w : World} {b B : Nat} {m : Int → Option Int} (h : IsPm w b m) {e : TypeId} {k : Nat} {A : Option Addr} {n cap : Nat} {xs : List Value} (hr : OwnR w B e k A n cap xs) : ¬ ownB A b := by
  rintro ⟨a, rfl, rfl⟩
  obtain ⟨L, es, c', h, _⟩ := h
  obtain ⟨h1, h2⟩ := hr
  rcases h2 with ⟨h2, _⟩ | ⟨g', c', cur, hv, hb, hh, _⟩
  · cases h2
  · injection hv with hv _ _
    injection hv with hv
    subst hv
    rw [h] at hh
    cases hh

theorem IsPm.fr {S : Nat → Prop} {w w' : World} {b : Nat} {m : Int → Option Int} (h : IsPm w b m) (f : Fr S w w') (hb : ¬ S b) : IsPm w' b m := by
  have hlt := h.lt
  obtain ⟨L, es, c, h1, h2⟩ := h
  exact ⟨L, es, c, (f.block b hlt hb).trans h1, h2⟩

def lookV (o : Option Int) : Value := .tuple #[iV (o.getD 0), .bool o.isSome]

theorem IsPm.look {w : World} {b : Nat} {m : Int → Option Int} (h : IsPm w b m) (k : Int) : (Instr.lookup 53 (.map (some b)) (iV k) true).run Try.prog w = .ok (lookV (m k)) w := by
  obtain ⟨L, es, c, hb, he, _, hm⟩ := h
  rw [hm]
  unfold Instr.lookup Mp.get lookV
  have hg : (getObj b).run Try.prog w = .ok (.map es c) w := MapKept.run_getObj_map hb
  simp only [Sem.run_bind, run_underlying mi_und, Result.andThen_ok, hg, Sem.run_pure, key_check, findKey_run k w _ L he]
  cases hf : Mp.find k L 0 with
  | none => simp [Result.andThen]
  | some q => simp

theorem fr_map {w : World} {b : Nat} {o o' : Obj} (hb : w.heap[b]? = some o) : Fr (· = b) w { w with heap := w.heap.setIfInBounds b o' } :=
  ⟨rfl, rfl, rfl, by simp, fun k hk hn => (MapKept.heap_set hb).2 k hn⟩

def mput (m : Int → Option Int) (k v : Int) : Int → Option Int := fun x => if x = k then some v else m x
def mdel (m : Int → Option Int) (k : Int) : Int → Option Int := fun x => if x = k then none else m x

theorem ents_put (k v : Int) (c : Nat) : ∀ (es : List MapEntry) (L : Mp), Ents es L →
    match Mp.find k L 0 with
    | some q => Ents (es.modify q.1 fun e => { e with key := iV k, val := iV v }) (Mp.put k v L) ∧ (es[q.1]?).map (·.key) = some (iV k)
    | none => Ents (es ++ [{ key := iV k, val := iV v, born := c }]) (Mp.put k v L) := by
  intro es
  induction es with
  | nil =>
    intro L h
    cases L with
    | nil => simp [Mp.find, Mp.put, Ents]
    | cons p L => simp [Ents] at h
  | cons e es ih =>
    intro L h
    cases L with
    | nil => simp [Ents] at h
    | cons p L =>
      simp only [Ents, List.map_cons, List.cons.injEq, Prod.mk.injEq] at h
      obtain ⟨⟨h1, h2⟩, h3⟩ := h
      unfold Mp.find Mp.put
      by_cases hp : (k == p.1) = true
      · rw [if_pos hp, if_pos hp]
        simp only [beq_iff_eq] at hp
        refine ⟨?_, ?_⟩
        · simp only [Ents, List.modify_cons, if_true, List.map_cons, List.cons.injEq, true_and]
          exact h3
        · simp only [List.getElem?_cons_zero, Option.map_some, h1, ← hp]
      · rw [if_neg hp, if_neg hp, Mp.find_shift k L (0 + 1)]
        have := ih L h3
        cases hf : Mp.find k L 0 with
        | none =>
          rw [hf] at this
          simp only [Option.map_none] at this ⊢
          simp only [Ents, List.cons_append, List.map_cons, List.cons.injEq, Prod.mk.injEq] at this ⊢
          exact ⟨⟨h1, h2⟩, this⟩
        | some q =>
          rw [hf] at this
          simp only [Option.map_some] at this ⊢
          refine ⟨?_, ?_⟩
          · simp only [Ents, Nat.zero_add, List.modify_succ_cons, List.map_cons, List.cons.injEq, Prod.mk.injEq] at this ⊢
            exact ⟨⟨h1, h2⟩, this.1⟩
          · simp only [Nat.zero_add, List.getElem?_cons_succ]
            exact this.2

theorem key_stays (k : Int) (w : World) : (Instr.keyThatStays (iV k) (iV k)).run Try.prog w = .ok (iV k) w :=
  MapKept.run_keyThatStays (d := .int .i64) (by simp [MapKept.IsKey])

theorem update_run {w : World} {b : Nat} {m : Int → Option Int} (h : IsPm w b m) (k v : Int) :
    ∃ w', (Instr.mapUpdate 53 (.map (some b)) (iV k) (iV v)).run Try.prog w = .ok () w' ∧ IsPm w' b (mput m k v) ∧ Fr (· = b) w w' := by
  obtain ⟨L, es, c, hb, he, ho, hm⟩ := h
  have hp := ents_put k v c es.toList L he
  have hmm : ∀ k', mput m k v k' = Mp.get (Mp.put k v L) k' := fun k' => by rw [Mp.get_put, ← hm]; rfl
  unfold Instr.mapUpdate
  simp only [Sem.run_bind, run_underlying mi_und, Result.andThen_ok, MapKept.run_getObj_map hb, key_check, findKey_run k w _ L he]
  cases hf : Mp.find k L 0 with
  | none =>
    rw [hf] at hp
    simp only [Option.map_none, MapKept.run_setObj_map _ hb]
    refine ⟨_, rfl, ⟨_, _, _, (MapKept.heap_set hb).1, ?_, Mp.put_once k v ho, hmm⟩, fr_map hb⟩
    rw [Array.toList_push]
    exact hp
  | some q =>
    rw [hf] at hp
    have hk : ((es[q.1]?).map (·.key)).getD (iV k) = iV k := by
      have := hp.2
      rw [Array.getElem?_toList] at this
      rw [this]
      rfl
    simp only [Option.map_some, hk, Sem.run_bind, key_stays, Result.andThen_ok, MapKept.run_setObj_map _ hb]
    refine ⟨_, rfl, ⟨_, _, _, (MapKept.heap_set hb).1, ?_, Mp.put_once k v ho, hmm⟩, fr_map hb⟩
    rw [Array.toList_modify]
    exact hp.1

theorem ents_del (k : Int) : ∀ (es : List MapEntry) (L : Mp), Ents es L →
    match Mp.find k L 0 with
    | some q => Ents (es.eraseIdx q.1) (Mp.del k L)
    | none => Mp.del k L = L := by
  intro es
  induction es with
  | nil =>
    intro L h
    cases L with
    | nil => simp [Mp.find, Mp.del]
    | cons p L => simp [Ents] at h
  | cons e es ih =>
    intro L h
    cases L with
    | nil => simp [Ents] at h
    | cons p L =>
      simp only [Ents, List.map_cons, List.cons.injEq, Prod.mk.injEq] at h
      obtain ⟨⟨h1, h2⟩, h3⟩ := h
      unfold Mp.find Mp.del
      by_cases hp : (k == p.1) = true
      · rw [if_pos hp, if_pos hp]
        exact h3
      · rw [if_neg hp, if_neg hp, Mp.find_shift k L (0 + 1)]
        have := ih L h3
        cases hf : Mp.find k L 0 with
        | none =>
          rw [hf] at this
          simp only [Option.map_none] at this ⊢
          rw [this]
        | some q =>
          rw [hf] at this
          simp only [Option.map_some] at this ⊢
          simp only [Ents, Nat.zero_add, List.eraseIdx_cons_succ, List.map_cons, List.cons.injEq, Prod.mk.injEq] at this ⊢
          exact ⟨⟨h1, h2⟩, this⟩

theorem delete_run {w : World} {b : Nat} {m : Int → Option Int} (h : IsPm w b m) (k : Int) (t : TypeId) :
    ∃ w', (Builtin.delete_ #[53, 3] t #[.map (some b), iV k]).run Try.prog w = .ok (.tuple #[]) w' ∧ IsPm w' b (mdel m k) ∧ Fr (· = b) w w' := by
  obtain ⟨L, es, c, hb, he, ho, hm⟩ := h
  have hp := ents_del k es.toList L he
  have hmm : ∀ k', (mdel m k) k' = Mp.get (Mp.del k L) k' := fun k' => by rw [Mp.get_del k ho, ← hm]; rfl
  unfold Builtin.delete_
  simp only [List.getElem?_toArray, List.getElem?_cons_zero, List.getElem?_cons_succ, Sem.run_bind, run_underlying mi_und, Result.andThen_ok, MapKept.run_getObj_map hb, key_check, findKey_run k w _ L he]
  cases hf : Mp.find k L 0 with
  | none =>
    rw [hf] at hp
    simp only [Option.map_none, Sem.run_bind, MapKept.run_setObj_map _ hb, Result.andThen_ok, Sem.run_pure]
    refine ⟨_, rfl, ⟨_, _, _, (MapKept.heap_set hb).1, ?_, Mp.del_once k ho, hmm⟩, fr_map hb⟩
    simp only at hp
    rw [hp]
    exact he
  | some q =>
    rw [hf] at hp
    simp only [Option.map_some, Sem.run_bind, MapKept.run_setObj_map _ hb, Result.andThen_ok, Sem.run_pure]
    refine ⟨_, rfl, ⟨_, _, _, (MapKept.heap_set hb).1, ?_, Mp.del_once k ho, hmm⟩, fr_map hb⟩
    rw [Array.toList_eraseIdxIfInBounds]
    exact hp

noncomputable def updW (b : Nat) (k v : Int) (w : World) : World := match (Instr.mapUpdate 53 (.map (some b)) (iV k) (iV v)).run Try.prog w with
  | .ok _ w' => w'
  | .halt _ _ => w

theorem upd_run {w : World} {b : Nat} {m : Int → Option Int} (h : IsPm w b m) (k v : Int) :
    (Instr.mapUpdate 53 (.map (some b)) (iV k) (iV v)).run Try.prog w = .ok () (updW b k v w) ∧ IsPm (updW b k v w) b (mput m k v) ∧ Fr (· = b) w (updW b k v w) := by
  obtain ⟨w', h1, h2, h3⟩ := update_run h k v
  unfold updW
  rw [h1]
  exact ⟨rfl, h2, h3⟩

noncomputable def delW (b : Nat) (k : Int) (w : World) : World := match (Builtin.delete_ #[53, 3] 0 #[.map (some b), iV k]).run Try.prog w with
  | .ok _ w' => w'
  | .halt _ _ => w

theorem del_run {w : World} {b : Nat} {m : Int → Option Int} (h : IsPm w b m) (k : Int) :
    (Builtin.delete_ #[53, 3] 0 #[.map (some b), iV k]).run Try.prog w = .ok (.tuple #[]) (delW b k w) ∧ IsPm (delW b k w) b (mdel m k) ∧ Fr (· = b) w (delW b k w) := by
  obtain ⟨w', h1, h2, h3⟩ := delete_run h k 0
  unfold delW
  rw [h1]
  exact ⟨rfl, h2, h3⟩

/-- A map is cloned. -/
theorem IsPm.clone {w : World} {b : Nat} {m : Int → Option Int} (h : IsPm w b m) (t : TypeId) : ∃ o, (Extern.MapsClone.clone #[.iface t (.map (some b))]).run Try.prog w = .ok (.iface t (.map (some w.heap.size))) (w.alloc o) ∧ IsPm (w.alloc o) w.heap.size m := by
  obtain ⟨L, es, c, hb, he, ho, hm⟩ := h
  refine ⟨.map es c, ?_, L, es, c, ?_, he, ho, hm⟩
  · rw [run_maps_clone_sl w t hb]
  · show (w.heap.push _)[w.heap.size]? = _
    simp

theorem IsPm.new (w : World) : IsPm (w.alloc (.map #[] 0)) w.heap.size (fun _ => none) :=
  ⟨[], #[], 0, by show (w.heap.push _)[w.heap.size]? = _; simp, by simp [Ents], by simp [Mp.Once], fun k => rfl⟩
end Go.Proofs.Ytpgbhgkikpmhiaa
