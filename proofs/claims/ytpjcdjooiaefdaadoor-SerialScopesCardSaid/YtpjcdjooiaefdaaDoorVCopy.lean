/-
  A program's functions copied, one of them put anew.
-/
import Derived.Test.YtpjcdjooiaefdaaDoorVFew
import Derived.Test.YtpjcdjooiaefdaaDoorVPlain
import Derived.Laws.AppendOwnNone
namespace Go.Proofs.YtpjcdjooiaefdaaDoor
open Go.RowKit
set_option linter.unusedVariables false

theorem list_of' {α : Type} (n : Nat) (p : Nat → α → Prop) (h : ∀ i, i < n → ∃ y, p i y) : ∃ l : List α, l.length = n ∧ ∀ (i : Nat) (y : α), l[i]? = some y → p i y := by
  induction n with
  | zero => exact ⟨[], rfl, fun i y hy => by simp at hy⟩
  | succ n ih =>
    obtain ⟨l, hl, hp⟩ := ih (fun i hi => h i (by omega))
    obtain ⟨y, hy⟩ := h n (by omega)
    refine ⟨l ++ [y], by simp [hl], fun i z hz => ?_⟩
    rcases Nat.lt_or_ge i n with hi | hi
    · exact hp i z (by rwa [List.getElem?_append_left (by omega)] at hz)
    · rw [List.getElem?_append_right (by omega)] at hz
      obtain rfl : i = n := by
        have := (List.getElem?_eq_some_iff.1 hz).1
        simp at this
        omega
      rw [hl, Nat.sub_self] at hz
      simp at hz
      exact hz ▸ hy

theorem prg_fos {w : World} {B : Nat} {A : Option Addr} {P : List Fn} (h : Prg w B A P) (hl : 0 < P.length) :
    ∃ (b o : Nat) (L : List Fo), A = some ⟨b, o, none⟩ ∧ b < B ∧ L.map Fo.f = P ∧ (∀ x ∈ L, Cod w B x.A x.f.code) ∧ ∀ (j : Nat) (u : Value), (L.flatMap Fo.cells)[j]? = some u → w.cell? ⟨b, o + j, none⟩ = some u := by
  obtain ⟨b, o, rfl, hb, hc⟩ := h hl
  obtain ⟨L, hL, hp⟩ := list_of' P.length (fun i (x : Fo) => P[i]? = some x.f ∧ w.cell? ⟨b, o + i * 2, none⟩ = some (.int .i64 x.f.needs) ∧ w.cell? ⟨b, o + i * 2 + 1, none⟩ = some (.slice x.A x.f.code.length x.c) ∧ Cod w B x.A x.f.code) (fun i hi => by
    obtain ⟨f, hf⟩ : ∃ f, P[i]? = some f := ⟨_, List.getElem?_eq_getElem hi⟩
    obtain ⟨A', c, h1, h2, h3⟩ := hc i f hf
    exact ⟨⟨f, A', c⟩, hf, h1, h2, h3⟩)
  refine ⟨b, o, L, rfl, hb, ?_, fun x hx => ?_, fun j u hu => ?_⟩
  · apply List.ext_getElem?
    intro i
    rw [List.getElem?_map]
    rcases Nat.lt_or_ge i P.length with hi | hi
    · obtain ⟨x, hx⟩ : ∃ x, L[i]? = some x := ⟨_, List.getElem?_eq_getElem (by omega)⟩
      rw [hx, (hp i x hx).1]
      rfl
    · rw [List.getElem?_eq_none (by omega), List.getElem?_eq_none hi]
      rfl
  · obtain ⟨i, hi⟩ := List.getElem?_of_mem hx
    exact (hp i x hi).2.2.2
  · have hj := (List.getElem?_eq_some_iff.1 hu).1
    rw [flat_len Fo.cells 2 Fo.cells_len] at hj
    obtain ⟨x, hx⟩ : ∃ x, L[j / 2]? = some x := ⟨_, List.getElem?_eq_getElem (by omega)⟩
    obtain ⟨_, h1, h2, _⟩ := hp _ x hx
    have hf := flat_at Fo.cells 2 Fo.cells_len hx (j := j % 2) (by omega)
    rw [show j / 2 * 2 + j % 2 = j by omega, hu] at hf
    have hm : j % 2 = 0 ∨ j % 2 = 1 := by omega
    rcases hm with hm | hm
    · rw [hm] at hf; rw [show o + j = o + j / 2 * 2 by omega, h1, hf]; rfl
    · rw [hm] at hf; rw [show o + j = o + j / 2 * 2 + 1 by omega, h2, hf]; rfl

theorem Fo.ones (l : List Fo) : ∀ u ∈ l.flatMap Fo.cells, u.oneCell' = true := fun u hu => by
  obtain ⟨i, _, hi⟩ := List.mem_flatMap.1 hu
  exact i.one u hi

/-- A row of functions whose k-th one is put anew. -/
theorem prg_put {w w' : World} {B g n cap k : Nat} {L : List Fo} {x : Fo} (h : OwnR w B 40 2 (some ⟨g, 0, none⟩) n cap (L.flatMap Fo.cells)) (hk : k < n)
    (hw : w' = (w.setCell ⟨g, k * 2, none⟩ (.int .i64 x.f.needs)).setCell ⟨g, k * 2 + 1, none⟩ (.slice x.A x.f.code.length x.c)) (hc : ∀ y ∈ L, Cod w' w'.heap.size y.A y.f.code) (hx : Cod w' w'.heap.size x.A x.f.code) :
    Prg w' w'.heap.size (some ⟨g, 0, none⟩) ((L.map Fo.f).set k x.f) := by
  have hlen := h.1
  rw [flat_len Fo.cells 2 Fo.cells_len] at hlen
  obtain ⟨_, h2⟩ := h
  rcases h2 with ⟨h2, _⟩ | ⟨g', c', cur, hv, hb, hh, hnc, hcm, hcs, htk⟩
  · cases h2
  · injection hv with hv
    injection hv with hv
    injection hv with hv
    subst hv
    have hbl : Blk w g cur := ⟨_, hh⟩
    have hbl' : Blk w' g ((cur.setIfInBounds (k * 2) (.int .i64 x.f.needs)).setIfInBounds (k * 2 + 1) (.slice x.A x.f.code.length x.c)) := by
      rw [hw]
      exact (hbl.set _ _).set _ _
    intro _
    refine ⟨g, 0, rfl, hbl'.lt, fun i f hf => ?_⟩
    have hcell : ∀ j u, j < n * 2 → (L.flatMap Fo.cells)[j]? = some u → cur[j]? = some u := fun j u hj hu => by
      rw [← htk, List.getElem?_take, if_pos hj] at hu
      simpa using hu
    by_cases e : i = k
    · subst e
      rw [List.getElem?_set, if_pos rfl, if_pos (by rw [List.length_map]; omega)] at hf
      cases hf
      refine ⟨x.A, x.c, ?_, ?_, hx⟩
      · rw [Nat.zero_add]
        refine hbl'.cell ?_
        rw [Array.getElem?_setIfInBounds_ne (by omega), Array.getElem?_setIfInBounds_self_of_lt (by omega)]
      · rw [Nat.zero_add]
        refine hbl'.cell ?_
        rw [Array.getElem?_setIfInBounds_self_of_lt (by simp; omega)]
    · rw [List.getElem?_set, if_neg (fun h => e h.symm), List.getElem?_map] at hf
      obtain ⟨y, hy, rfl⟩ := Option.map_eq_some_iff.1 hf
      have hil : i < n := by have := (List.getElem?_eq_some_iff.1 hy).1; omega
      refine ⟨y.A, y.c, ?_, ?_, hc y (List.mem_of_getElem? hy)⟩
      · rw [Nat.zero_add]
        refine hbl'.cell ?_
        rw [Array.getElem?_setIfInBounds_ne (by omega), Array.getElem?_setIfInBounds_ne (by omega)]
        exact hcell _ _ (by omega) (by rw [← Nat.add_zero (i * 2), flat_at Fo.cells 2 Fo.cells_len hy (by omega)]; rfl)
      · rw [Nat.zero_add]
        refine hbl'.cell ?_
        rw [Array.getElem?_setIfInBounds_ne (by omega), Array.getElem?_setIfInBounds_ne (by omega)]
        exact hcell _ _ (by omega) (by rw [flat_at Fo.cells 2 Fo.cells_len hy (by omega)]; rfl)

end Go.Proofs.YtpjcdjooiaefdaaDoor
