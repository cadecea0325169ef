/-
  A clock in memory: its ticks, its row of deadlines, its map of places.
-/
import Derived.Test.YtpgbhgkikpmhiaaMi
import Derived.Test.YtpgbhgkikpmhiaaCk
import Derived.Laws.OwnMore
namespace Go.Proofs.Ytpgbhgkikpmhiaa
open Go.RowKit
set_option linter.unusedVariables false

def dues (L : List Due) : List Value := L.flatMap fun d => [iV d.1, iV d.2]

theorem dues_len (L : List Due) : (dues L).length = L.length * 2 := by
  induction L with
  | nil => rfl
  | cons d L ih => simp only [dues, List.flatMap_cons, List.length_append, List.length_cons, List.length_nil] at ih ⊢; omega

theorem dues_app (L M : List Due) : dues (L ++ M) = dues L ++ dues M := by simp [dues]

theorem dues_at (L : List Due) (i : Nat) (h : i < L.length) : (dues L)[i * 2]? = some (iV (at_ L i).1) ∧ (dues L)[i * 2 + 1]? = some (iV (at_ L i).2) := by
  induction L generalizing i with
  | nil => simp at h
  | cons d L ih =>
    have e : dues (d :: L) = iV d.1 :: iV d.2 :: dues L := rfl
    cases i with
    | zero => rw [e]; exact ⟨rfl, rfl⟩
    | succ i =>
      have := ih i (by simpa using h)
      rw [e, show (i + 1) * 2 = i * 2 + 2 by omega]
      exact this

theorem at_mem {L : List Due} {i : Nat} (h : i < L.length) : at_ L i ∈ L := by
  unfold at_
  rw [List.getD_eq_getElem?_getD, List.getElem?_eq_getElem h]
  exact List.getElem_mem h

theorem mem_at {L : List Due} {x : Due} (h : x ∈ L) : ∃ i, i < L.length ∧ at_ L i = x := by
  obtain ⟨i, hi, e⟩ := List.mem_iff_getElem.1 h
  exact ⟨i, hi, by unfold at_; rw [List.getD_eq_getElem?_getD, List.getElem?_eq_getElem hi, e]; rfl⟩

theorem dues_set (L : List Due) (i : Nat) (x : Due) (h : i < L.length) : ((dues L).set (i * 2) (iV x.1)).set (i * 2 + 1) (iV x.2) = dues (L.set i x) := by
  induction L generalizing i with
  | nil => simp at h
  | cons d L ih =>
    have e : ∀ (d : Due) L, dues (d :: L) = iV d.1 :: iV d.2 :: dues L := fun _ _ => rfl
    cases i with
    | zero => rfl
    | succ i =>
      rw [e, List.set_cons_succ, e, show (i + 1) * 2 = i * 2 + 2 by omega]
      simp only [List.set_cons_succ]
      rw [ih i (by simpa using h)]

theorem set_at (L : List Due) (i : Nat) (h : i < L.length) : L.set i (at_ L i) = L := by
  unfold at_
  rw [List.getD_eq_getElem?_getD, List.getElem?_eq_getElem h]
  simp

/-! ### Where each id stands -/

structure Plc (m : Int → Option Int) (L : List Due) : Prop where
  yes : ∀ i, i < L.length → m (at_ L i).2 = some (i : Int)
  no : ∀ k v, m k = some v → ∃ i : Nat, i < L.length ∧ v = i ∧ (at_ L i).2 = k

theorem Plc.inj {m : Int → Option Int} {L : List Due} (h : Plc m L) {i j : Nat} (hi : i < L.length) (hj : j < L.length) (e : (at_ L i).2 = (at_ L j).2) : i = j := by
  have h1 := h.yes i hi
  rw [e, h.yes j hj] at h1
  simp only [Option.some.injEq] at h1
  omega

theorem Plc.nil : Plc (fun _ => none) [] := ⟨fun i h => by simp at h, fun k v h => by cases h⟩

theorem Plc.swp {m : Int → Option Int} {L : List Due} (h : Plc m L) {i j : Nat} (hi : i < L.length) (hj : j < L.length) : Plc (mput (mput m (at_ L j).2 i) (at_ L i).2 j) (swp L i j) := by
  have sw := fun x => swp_at L i j x hi hj
  refine ⟨fun k hk => ?_, fun k v hv => ?_⟩
  · rw [swp_len] at hk
    rw [sw]
    unfold mput
    by_cases e : k = j
    · subst e
      rw [if_pos rfl, if_pos rfl]
    · rw [if_neg e]
      by_cases e2 : k = i
      · subst e2
        rw [if_pos rfl, if_neg (fun hh => e (h.inj hj hk hh).symm), if_pos rfl]
      · rw [if_neg e2, if_neg (fun hh => e2 (h.inj hk hi hh)), if_neg (fun hh => e (h.inj hk hj hh))]
        exact h.yes k hk
  · rw [swp_len]
    unfold mput at hv
    by_cases e : k = (at_ L i).2
    · rw [if_pos e] at hv
      simp only [Option.some.injEq] at hv
      exact ⟨j, hj, hv.symm, by rw [sw, if_pos rfl, e]⟩
    · rw [if_neg e] at hv
      by_cases e2 : k = (at_ L j).2
      · rw [if_pos e2] at hv
        simp only [Option.some.injEq] at hv
        refine ⟨i, hi, hv.symm, ?_⟩
        rw [sw, if_neg (fun hh => e (by rw [e2, hh])), if_pos rfl, e2]
      · rw [if_neg e2] at hv
        obtain ⟨x, hx, rfl, hk⟩ := h.no k v hv
        refine ⟨x, hx, rfl, ?_⟩
        rw [sw, if_neg (fun hh => e2 (by rw [← hk, hh])), if_neg (fun hh => e (by rw [← hk, hh])), hk]

theorem at_app (L : List Due) (x : Due) (i : Nat) : at_ (L ++ [x]) i = if i < L.length then at_ L i else if i = L.length then x else (0, 0) := by
  unfold at_
  rw [List.getD_eq_getElem?_getD, List.getElem?_append]
  by_cases h : i < L.length
  · rw [if_pos h, if_pos h, List.getD_eq_getElem?_getD]
  · rw [if_neg h, if_neg h]
    by_cases e : i = L.length
    · subst e; simp
    · rw [if_neg e, List.getElem?_eq_none (by simp; omega)]; rfl

theorem Plc.push {m : Int → Option Int} {L : List Due} (h : Plc m L) {x : Due} (hx : m x.2 = none) : Plc (mput m x.2 L.length) (L ++ [x]) := by
  refine ⟨fun k hk => ?_, fun k v hv => ?_⟩
  · rw [at_app]
    unfold mput
    by_cases e : k < L.length
    · rw [if_pos e, if_neg (fun hh => by rw [← hh, h.yes k e] at hx; cases hx)]
      exact h.yes k e
    · have e2 : k = L.length := by simp at hk; omega
      rw [if_neg e, if_pos e2, if_pos rfl, e2]
  · unfold mput at hv
    by_cases e : k = x.2
    · rw [if_pos e] at hv
      simp only [Option.some.injEq] at hv
      exact ⟨L.length, by simp, hv.symm, by rw [at_app, if_neg (by omega), if_pos rfl, e]⟩
    · rw [if_neg e] at hv
      obtain ⟨i, hi, rfl, hk⟩ := h.no k v hv
      exact ⟨i, by simp; omega, rfl, by rw [at_app, if_pos hi, hk]⟩

theorem at_take (L : List Due) (n i : Nat) (h : i < n) : at_ (L.take n) i = at_ L i := by
  unfold at_
  rw [List.getD_eq_getElem?_getD, List.getD_eq_getElem?_getD, List.getElem?_take, if_pos h]

theorem Plc.pop {m : Int → Option Int} {L : List Due} {n : Nat} (h : Plc m L) (hn : L.length = n + 1) : Plc (mdel m (at_ L n).2) (L.take n) := by
  have hl : (L.take n).length = n := by rw [List.length_take]; omega
  refine ⟨fun k hk => ?_, fun k v hv => ?_⟩
  · rw [hl] at hk
    rw [at_take _ _ _ hk]
    unfold mdel
    rw [if_neg (fun hh => by have := h.inj (by omega) (by omega) hh; omega)]
    exact h.yes k (by omega)
  · unfold mdel at hv
    by_cases e : k = (at_ L n).2
    · rw [if_pos e] at hv; cases hv
    · rw [if_neg e] at hv
      obtain ⟨i, hi, rfl, hk⟩ := h.no k v hv
      have : i ≠ n := fun hh => e (by rw [← hk, hh])
      exact ⟨i, by rw [hl]; omega, rfl, by rw [at_take _ _ _ (by omega), hk]⟩

theorem Plc.ids {m : Int → Option Int} {L : List Due} (h : Plc m L) : Ids L := by
  unfold Ids
  rw [List.nodup_iff_pairwise_ne, List.pairwise_iff_getElem]
  intro i j hi hj hlt e
  simp only [List.length_map] at hi hj
  have e1 : ∀ k (hk : k < L.length), (at_ L k).2 = (L.map (·.2))[k]'(by simpa using hk) := fun k hk => by
    unfold at_
    rw [List.getD_eq_getElem?_getD, List.getElem?_eq_getElem hk]
    simp
  have := h.inj hi hj (by rw [e1 i hi, e1 j hj]; exact e)
  omega

/-! ### In memory -/

/-- A clock in memory: block c, its row at A, its map in block b. -/
structure IsK (w : World) (c : Nat) (now : Int) (A : Option Addr) (cap b : Nat) (L : List Due) : Prop where
  hc : TBlk w c #[.int .i64 now, .slice A L.length cap, .map (some b)] 58
  row : OwnR w 0 64 2 A L.length cap (dues L)
  map : ∃ m, IsPm w b m ∧ Plc m L

/-- What is the clock's own. -/
def ownK (c : Nat) (A : Option Addr) (b : Nat) (k : Nat) : Prop := k = c ∨ k = b ∨ ownB A k

section
variable {w : World} {c : Nat} {now : Int} {A : Option Addr} {cap b : Nat} {L : List Due}

theorem IsK.keep (h : IsK w c now A cap b L) {S : Nat → Prop} {w' : World} (f : Fr S w w') (hs : ∀ k, ownK c A b k → ¬ S k) : IsK w' c now A cap b L := by
  obtain ⟨m, hm, hp⟩ := h.map
  exact ⟨h.hc.keep f (hs c (.inl rfl)), OwnR.keep h.row f (fun j hj => hs j (.inr (.inr hj))), m, hm.fr f (hs b (.inr (.inl rfl))), hp⟩

theorem IsK.same (h : IsK w c now A cap b L) {w' : World} (f : Fr (fun _ => False) w w') : IsK w' c now A cap b L := h.keep f (fun _ _ hh => hh)

theorem IsK.own_lt (h : IsK w c now A cap b L) : ∀ k, ownK c A b k → k < w.heap.size := by
  obtain ⟨m, hm, hp⟩ := h.map
  rintro k (rfl | rfl | hk)
  · exact h.hc.lt
  · exact hm.lt
  · exact (OwnR.lt h.row k hk).2

theorem IsK.cb (h : IsK w c now A cap b L) : c ≠ b := by
  obtain ⟨m, hm, hp⟩ := h.map
  exact hm.ne h.hc
theorem IsK.cA (h : IsK w c now A cap b L) : ¬ ownB A c := OwnR.ne h.row h.hc (by decide)
theorem IsK.bA (h : IsK w c now A cap b L) : ¬ ownB A b := by
  obtain ⟨m, hm, hp⟩ := h.map
  exact hm.own h.row

theorem IsK.c0 (h : IsK w c now A cap b L) : w.cell? ⟨c, 0, none⟩ = some (.int .i64 now) := h.hc.cell rfl
theorem IsK.c1 (h : IsK w c now A cap b L) : w.cell? ⟨c, 1, none⟩ = some (.slice A L.length cap) := h.hc.cell rfl
theorem IsK.c2 (h : IsK w c now A cap b L) : w.cell? ⟨c, 2, none⟩ = some (.map (some b)) := h.hc.cell rfl

theorem IsK.small (h : IsK w c now A cap b L) : L.length ≤ maxLen := by
  obtain ⟨h1, h2⟩ := h.row
  rcases h2 with ⟨_, h2⟩ | ⟨g, c', cur, _, _, _, h3, h4, _⟩
  · unfold maxLen; omega
  · omega

/-- A place of the row. -/
theorem IsK.gt (h : IsK w c now A cap b L) {i : Nat} (hi : i < L.length) : ∃ g, A = some ⟨g, 0, none⟩ ∧ g < w.heap.size ∧ L.length ≤ cap ∧ ∀ w' S, Fr S w w' → ¬ S g → ∀ k, k < L.length → w'.cell? ⟨g, k * 2, none⟩ = some (.int .i64 (at_ L k).1) ∧ w'.cell? ⟨g, k * 2 + 1, none⟩ = some (.int .i64 (at_ L k).2) ∧ w'.frozen? ⟨g, k * 2, none⟩ = false ∧ w'.frozen? ⟨g, k * 2 + 1, none⟩ = false := by
  obtain ⟨g, rfl, _, hg, _, _⟩ := OwnR.cell h.row (by omega)
  refine ⟨g, rfl, hg, ?_, fun w' S f hs k hk => ?_⟩
  · obtain ⟨h1, h2⟩ := h.row
    rcases h2 with ⟨_, h2⟩ | ⟨g', c', cur, hv, _, _, h3, _⟩
    · omega
    · injection hv with _ _ hv; omega
  · have hr := OwnR.keep h.row f (fun j hj => by obtain ⟨a, ha, rfl⟩ := hj; injection ha with ha; subst ha; exact hs)
    obtain ⟨g', hA, _, _, hf, hcl⟩ := OwnR.cell hr (by omega)
    injection hA with hA
    injection hA with hA
    subst hA
    obtain ⟨d1, d2⟩ := dues_at L k hk
    exact ⟨hcl _ _ d1, hcl _ _ d2, hf _, hf _⟩

end
end Go.Proofs.Ytpgbhgkikpmhiaa
