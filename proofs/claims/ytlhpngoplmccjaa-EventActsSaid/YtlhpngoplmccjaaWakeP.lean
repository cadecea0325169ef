/-
  Who waits, and what is there: plain.
-/
import Derived.Test.YtlhpngoplmccjaaEvM
namespace Go.Proofs.Ytlhpngoplmccjaa
open Go.RowKit
set_option linter.unusedVariables false

/-- What holds of one who looks: d things are there that were told of. -/
structure TI (t d n S a s : Int) : Prop where
  n0 : n = 0 ∨ n = 1 ∨ n = 2 ∨ n = 3
  st : s ≤ t
  rd : n = 1 ∨ n = 2 → a = 1
  ly : n = 3 → a = 2
  pk : a = 2 → s = t → n = 3 ∧ d ≤ 0
  lk : n = 2 → S ≤ 0 → s = t → d ≤ 0
  sb : 0 ≤ S ∧ S ≤ 1000

def pend (N : List Int) : Int := N.getD 0 0 + N.getD 1 0 + N.getD 2 0

structure WI (i : Nat) (t c : Int) (N S : List Int) (a s : Nat → Int) : Prop where
  t0 : 0 ≤ t
  ti : t ≤ i
  c0 : 0 ≤ c
  ci : c ≤ i
  nl : N.length = 6
  sl : S.length = 6
  nx : ∀ j, j < 3 → N.getD j 0 = 0 ∨ N.getD j 0 = 1
  th : ∀ j, 3 ≤ j → j < 6 → TI t (c - pend N) (N.getD j 0) (S.getD j 0) (a j) (s j)

theorem gs (L : List Int) (u : Nat) (x : Int) (j : Nat) (h : u < L.length) : (L.set u x).getD j 0 = if u = j then x else L.getD j 0 := by
  rw [List.getD_eq_getElem?_getD, List.getD_eq_getElem?_getD, List.getElem?_set]
  split
  · rename_i e
    subst e
    simp
  · rfl

theorem pend_far (N : List Int) (u : Nat) (x : Int) (h : u < N.length) (h3 : 3 ≤ u) : pend (N.set u x) = pend N := by
  unfold pend
  rw [gs _ _ _ _ h, gs _ _ _ _ h, gs _ _ _ _ h, if_neg (by omega), if_neg (by omega), if_neg (by omega)]

theorem pend_near (N : List Int) (u : Nat) (x : Int) (h : u < N.length) (h3 : u < 3) : pend (N.set u x) = pend N + x - N.getD u 0 := by
  unfold pend
  rw [gs _ _ _ _ h, gs _ _ _ _ h, gs _ _ _ _ h]
  match u, h3 with
  | 0, _ => simp; omega
  | 1, _ => simp; omega
  | 2, _ => simp; omega

def updi (f : Nat → Int) (u : Nat) (x : Int) (j : Nat) : Int := if j = u then x else f j

section
variable {i : Nat} {t c : Int} {N S : List Int} {a s : Nat → Int}

theorem WI.put (h : WI i t c N S a s) {u : Nat} (hu : u < 3) (hn : N.getD u 0 = 0) : WI (i + 1) t (c + 1) (N.set u 1) S a s := by
  have hl := h.nl
  refine ⟨h.t0, by have := h.ti; omega, by have := h.c0; omega, by have := h.ci; omega, by simpa using hl, h.sl, ?_, ?_⟩
  · intro j hj
    rw [gs _ _ _ _ (by omega)]
    split
    · exact .inr rfl
    · exact h.nx j hj
  · intro j j3 j6
    have := h.th j j3 j6
    rw [gs _ _ _ _ (by omega), if_neg (by omega), pend_near _ _ _ (by omega) hu, hn, show c + 1 - (pend N + 1 - 0) = c - pend N by omega]
    exact this

theorem WI.tell (h : WI i t c N S a s) {u : Nat} (hu : u < 3) (hn : N.getD u 0 = 1) : WI (i + 1) (t + 1) c (N.set u 0) S a s := by
  have hl := h.nl
  refine ⟨by have := h.t0; omega, by have := h.ti; omega, h.c0, by have := h.ci; omega, by simpa using hl, h.sl, ?_, ?_⟩
  · intro j hj
    rw [gs _ _ _ _ (by omega)]
    split
    · exact .inl rfl
    · exact h.nx j hj
  · intro j j3 j6
    have H := h.th j j3 j6
    rw [gs _ _ _ _ (by omega), if_neg (by omega)]
    have := H.st
    exact ⟨H.n0, by omega, H.rd, H.ly, fun _ hh => by omega, fun _ _ hh => by omega, H.sb⟩

/-- What turns of one who looks. -/
theorem WI.look (h : WI i t c N S a s) {u : Nat} (u3 : 3 ≤ u) (u6 : u < 6) (n' S' a' s' c' : Int) (hc : 0 ≤ c') (hcc : c' ≤ c) (H : TI t (c' - pend N) n' S' a' s') :
    WI (i + 1) t c' (N.set u n') (S.set u S') (updi a u a') (updi s u s') := by
  have hl := h.nl
  have hs := h.sl
  refine ⟨h.t0, by have := h.ti; omega, hc, by have := h.ci; omega, by simpa using hl, by simpa using hs, ?_, ?_⟩
  · intro j hj
    rw [gs _ _ _ _ (by omega), if_neg (by omega)]
    exact h.nx j hj
  · intro j j3 j6
    rw [gs _ _ _ _ (by omega), gs _ _ _ _ (by omega), pend_far _ _ _ (by omega) u3]
    unfold updi
    by_cases hj : u = j
    · subst hj
      rw [if_pos rfl, if_pos rfl, if_pos rfl, if_pos rfl]
      exact H
    · rw [if_neg hj, if_neg hj, if_neg (fun hh => hj hh.symm), if_neg (fun hh => hj hh.symm)]
      have H := h.th j j3 j6
      exact ⟨H.n0, H.st, H.rd, H.ly, fun h1 h2 => ⟨(H.pk h1 h2).1, by have := (H.pk h1 h2).2; omega⟩, fun h1 h2 h3 => by have := H.lk h1 h2 h3; omega, H.sb⟩

theorem WI.up (h : WI i t c N S a s) : WI (i + 1) t c N S a s :=
  ⟨h.t0, by have := h.ti; omega, h.c0, by have := h.ci; omega, h.nl, h.sl, h.nx, h.th⟩

theorem set_same (L : List Int) (u : Nat) (h : u < L.length) : L.set u (L.getD u 0) = L := by
  apply List.ext_getElem
  · simp
  · intro j h1 h2
    rw [List.getElem_set]
    split
    · rename_i e
      subst e
      simp [h]
    · rfl

theorem updi_same (f : Nat → Int) (u : Nat) : updi f u (f u) = f := by
  funext j
  unfold updi
  split
  · rename_i e
    rw [e]
  · rfl
end
theorem tmod_bd (i n : Int) (hn : 1 ≤ n) : -n < i.tmod n ∧ i.tmod n < n := by
  by_cases h : 0 ≤ i
  · rw [Int.tmod_eq_emod_of_nonneg h]
    have := Int.emod_nonneg i (show n ≠ 0 by omega)
    have := Int.emod_lt_of_pos i (show 0 < n by omega)
    omega
  · have e : i.tmod n = -((-i) % n) := by
      rw [← Int.tmod_eq_emod_of_nonneg (show 0 ≤ -i by omega), Int.neg_tmod, Int.neg_neg]
    rw [e]
    have := Int.emod_nonneg (-i) (show n ≠ 0 by omega)
    have := Int.emod_lt_of_pos (-i) (show 0 < n by omega)
    omega

theorem tmod_rd (i n : Int) (hn : 1 ≤ n) : (i.tmod n + n).tmod n = i % n := by
  have h1 := tmod_bd i n hn
  have h2 : (i.tmod n + n) % n = i % n := by
    have e := Int.mul_tdiv_add_tmod i n
    have e2 : i.tmod n = i + n * (-(i.tdiv n)) := by rw [Int.mul_neg]; omega
    rw [Int.add_emod_right, e2, Int.add_mul_emod_self_left]
  rw [Int.tmod_eq_emod_of_nonneg (by omega), h2]


/-- Rows of pointers to waits: the first k of six. -/
def pl (x : Nat → Nat) (k : Nat) : Array Value := ((List.range 6).map fun j => if j < k then Value.pointer (some ⟨x j, 0, none⟩) else Value.pointer none).toArray

theorem pl_at (x : Nat → Nat) (k j : Nat) (h : j < 6) (hk : j < k) : (pl x k)[j]? = some (.pointer (some ⟨x j, 0, none⟩)) := by
  simp [pl, h, hk]

def updn (f : Nat → Nat) (u : Nat) (x : Nat) (j : Nat) : Nat := if j = u then x else f j

theorem pl_set (x : Nat → Nat) (k y : Nat) (h : k < 6) : (pl x k).setIfInBounds k (.pointer (some ⟨y, 0, none⟩)) = pl (updn x k y) (k + 1) := by
  match k, h with
  | 0, _ => rfl
  | 1, _ => rfl
  | 2, _ => rfl
  | 3, _ => rfl
  | 4, _ => rfl
  | 5, _ => rfl

theorem made_pl (x : Nat → Nat) : madeCells #[.pointer none] 6 = pl x 0 := by
  apply Array.ext
  · simp [pl, size_madeCells]
  · intro j h1 h2
    simp [madeCells, pl, Nat.mod_one]

/-- Where all lies. -/
structure Env (B0 : Nat) (b : MB) (be bn bs bw : Nat) : Prop where
  ob : ∀ k, b.own k → B0 ≤ k ∧ k < be
  b0 : B0 ≤ be
  e1 : be < bn
  e2 : bn < bs
  e3 : bs < bw

/-- What lies there. -/
structure Mem (w0 : World) (b : MB) (be bn bs bw : Nat) (x : Nat → Nat) (t c : Int) (N S : List Int) (a s : Nat → Int) (st : List Int) (w : World) : Prop where
  intro ::
  hM : IsM w b (mk [t, c] 2 st)
  hB : Blk w be #[.int .i64 0]
  hN : Blk w bn (ints N)
  hS : Blk w bs (ints S)
  hW : Blk w bw (pl x 6)
  hx : ∀ j, j < 6 → WT w (x j) 0 (a j) (s j) ∧ bw < x j
  xx : ∀ i j, i < 6 → j < 6 → x i = x j → i = j
  sl : st.length = 7
  hF : Fr (fun _ => False) w0 w

section
variable {w0 w w' : World} {b : MB} {be bn bs bw : Nat} {x : Nat → Nat} {t c : Int} {N S : List Int} {a s : Nat → Int} {st : List Int}

theorem Mem.same (h : Mem w0 b be bn bs bw x t c N S a s st w) (F : Fr (fun _ => False) w w') : Mem w0 b be bn bs bw x t c N S a s st w' :=
  ⟨h.hM.same F, h.hB.same F, h.hN.same F, h.hS.same F, h.hW.same F, fun j hj => ⟨(h.hx j hj).1.same F, (h.hx j hj).2⟩, h.xx, h.sl, h.hF.trans F⟩

theorem Mem.mach (E : Env w0.heap.size b be bn bs bw) (h : Mem w0 b be bn bs bw x t c N S a s st w) {t' c' : Int} {st' : List Int} (hM : IsM w' b (mk [t', c'] 2 st')) (hs : st'.length = 7) (F : Fr b.own w w') : Mem w0 b be bn bs bw x t' c' N S a s st' w' :=
  ⟨hM, h.hB.keep F (fun hh => by have := E.ob _ hh; omega), h.hN.keep F (fun hh => by have := E.ob _ hh; have := E.e1; omega), h.hS.keep F (fun hh => by have := E.ob _ hh; have := E.e1; have := E.e2; omega),
    h.hW.keep F (fun hh => by have := E.ob _ hh; have := E.e1; have := E.e2; have := E.e3; omega), fun j hj => ⟨(h.hx j hj).1.keep F (fun hh => by have := E.ob _ hh; have := E.e1; have := E.e2; have := E.e3; have := (h.hx j hj).2; omega), (h.hx j hj).2⟩,
    h.xx, hs, h.hF.since F (fun i hi hl => by have := E.ob _ hi; omega)⟩

theorem Mem.wait (E : Env w0.heap.size b be bn bs bw) (h : Mem w0 b be bn bs bw x t c N S a s st w) {u : Nat} (hu : u < 6) {a' s' : Int} (hX : WT w' (x u) 0 a' s') (F : Fr (fun i => i = x u) w w') : Mem w0 b be bn bs bw x t c N S (updi a u a') (updi s u s') st w' := by
  have hl := (h.hx u hu).2
  have := E.e1; have := E.e2; have := E.e3; have := E.b0
  refine ⟨h.hM.keep F (fun k hk hh => by have := E.ob _ hk; have hh2 : k = x u := hh; omega), h.hB.keep F (fun hh => by have hh2 : be = x u := hh; omega), h.hN.keep F (fun hh => by have hh2 : bn = x u := hh; omega), h.hS.keep F (fun hh => by have hh2 : bs = x u := hh; omega),
    h.hW.keep F (fun hh => by have hh2 : bw = x u := hh; omega), fun j hj => ?_, h.xx, h.sl, h.hF.since F (fun i hi hl2 => by have hh2 : i = x u := hi; omega)⟩
  unfold updi
  by_cases hj2 : j = u
  · subst hj2
    rw [if_pos rfl, if_pos rfl]
    exact ⟨hX, hl⟩
  · rw [if_neg hj2, if_neg hj2]
    exact ⟨(h.hx j hj).1.keep F (fun hh => hj2 (h.xx j u hj hu hh)), (h.hx j hj).2⟩

theorem Mem.ready (E : Env w0.heap.size b be bn bs bw) (h : Mem w0 b be bn bs bw x t c N S a s st w) {u : Nat} (hu : u < 6) {a' s' : Int} {st' : List Int} (hM : IsM w' b (mk [t, c] 2 st')) (hs : st'.length = 7) (hX : WT w' (x u) 0 a' s') (F : Fr (fun i => b.own i ∨ i = x u) w w') : Mem w0 b be bn bs bw x t c N S (updi a u a') (updi s u s') st' w' := by
  have hl := (h.hx u hu).2
  have := E.e1; have := E.e2; have := E.e3; have := E.b0
  refine ⟨hM, h.hB.keep F (fun hh => by rcases hh with hh | hh; (have := E.ob _ hh; omega); omega), h.hN.keep F (fun hh => by rcases hh with hh | hh; (have := E.ob _ hh; omega); omega), h.hS.keep F (fun hh => by rcases hh with hh | hh; (have := E.ob _ hh; omega); omega),
    h.hW.keep F (fun hh => by rcases hh with hh | hh; (have := E.ob _ hh; omega); omega), fun j hj => ?_, h.xx, hs, h.hF.since F (fun i hi hl2 => by rcases hi with hh | hh; (have := E.ob _ hh; omega); omega)⟩
  unfold updi
  by_cases hj2 : j = u
  · subst hj2
    rw [if_pos rfl, if_pos rfl]
    exact ⟨hX, hl⟩
  · rw [if_neg hj2, if_neg hj2]
    exact ⟨(h.hx j hj).1.keep F (fun hh => by
      have := (h.hx j hj).2
      rcases hh with hh | hh
      · have := E.ob _ hh; omega
      · exact hj2 (h.xx j u hj hu hh)), (h.hx j hj).2⟩

theorem Mem.next (E : Env w0.heap.size b be bn bs bw) (h : Mem w0 b be bn bs bw x t c N S a s st w) (u : Nat) (v : Int) : Mem w0 b be bn bs bw x t c (N.set u v) S a s st (w.setCell ⟨bn, u, none⟩ (.int .i64 v)) := by
  have F : Fr (fun i => i = bn) w (w.setCell ⟨bn, u, none⟩ (.int .i64 v)) := Fr.setCell _ _ _ rfl
  have := E.e1; have := E.e2; have := E.e3; have := E.b0
  refine ⟨h.hM.keep F (fun k hk hh => by have := E.ob _ hk; have hh2 : k = bn := hh; omega), h.hB.keep F (fun hh => by have hh2 : be = bn := hh; omega), by rw [← ints_set]; exact h.hN.set u _, h.hS.keep F (fun hh => by have hh2 : bs = bn := hh; omega),
    h.hW.keep F (fun hh => by have hh2 : bw = bn := hh; omega), fun j hj => ⟨(h.hx j hj).1.keep F (fun hh => by have hh2 : x j = bn := hh; have := (h.hx j hj).2; omega), (h.hx j hj).2⟩, h.xx, h.sl, h.hF.since F (fun i hi hl2 => by have hh2 : i = bn := hi; omega)⟩

theorem Mem.saw (E : Env w0.heap.size b be bn bs bw) (h : Mem w0 b be bn bs bw x t c N S a s st w) (u : Nat) (v : Int) : Mem w0 b be bn bs bw x t c N (S.set u v) a s st (w.setCell ⟨bs, u, none⟩ (.int .i64 v)) := by
  have F : Fr (fun i => i = bs) w (w.setCell ⟨bs, u, none⟩ (.int .i64 v)) := Fr.setCell _ _ _ rfl
  have := E.e1; have := E.e2; have := E.e3; have := E.b0
  refine ⟨h.hM.keep F (fun k hk hh => by have := E.ob _ hk; have hh2 : k = bs := hh; omega), h.hB.keep F (fun hh => by have hh2 : be = bs := hh; omega), h.hN.keep F (fun hh => by have hh2 : bn = bs := hh; omega), by rw [← ints_set]; exact h.hS.set u _,
    h.hW.keep F (fun hh => by have hh2 : bw = bs := hh; omega), fun j hj => ⟨(h.hx j hj).1.keep F (fun hh => by have hh2 : x j = bs := hh; have := (h.hx j hj).2; omega), (h.hx j hj).2⟩, h.xx, h.sl, h.hF.since F (fun i hi hl2 => by have hh2 : i = bs := hi; omega)⟩

theorem Mem.cN (h : Mem w0 b be bn bs bw x t c N S a s st w) (u : Nat) (hu : u < N.length) : w.cell? ⟨bn, u, none⟩ = some (.int .i64 (N.getD u 0)) := h.hN.cell (ints_at _ _ hu)
theorem Mem.cS (h : Mem w0 b be bn bs bw x t c N S a s st w) (u : Nat) (hu : u < S.length) : w.cell? ⟨bs, u, none⟩ = some (.int .i64 (S.getD u 0)) := h.hS.cell (ints_at _ _ hu)
theorem Mem.cW (h : Mem w0 b be bn bs bw x t c N S a s st w) (u : Nat) (hu : u < 6) : w.cell? ⟨bw, u, none⟩ = some (.pointer (some ⟨x u, 0, none⟩)) := h.hW.cell (pl_at _ _ _ hu hu)
theorem Mem.cB (h : Mem w0 b be bn bs bw x t c N S a s st w) : w.cell? ⟨be, 0, none⟩ = some (.int .i64 0) := h.hB.cell rfl
end
end Go.Proofs.Ytlhpngoplmccjaa
