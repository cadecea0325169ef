/-
  ScopeSpreads: what is in memory, and what it stands for.
-/
import Derived.Test.YtoajdknhllaoeaaArd
namespace Go.Proofs.Ytoajdknhllaoeaa
open Go.RowKit
set_option linter.unusedVariables false

/-- What the law's rows hold: the scopes; whom was asked; and of each worker: whether it looks, at which scope, how many steps it did, its look, which scope is next, what its rows' places hold, what was asked ahead; on: a look of it stands. -/
structure SpD where
  T : Sc
  am : Nat → Bool
  busy : Nat → Bool
  of : Nat → Nat
  st : Nat → Nat
  lk : Nat → Nat
  nx : Nat → Int
  lp : Nat → Value
  hp : Nat → Value
  ah : Nat → Nat → Bool
  on : Nat → Bool
  vl : Nat → Bool

abbrev ptr (k : Nat) : Value := .pointer (some ⟨k, 0, none⟩)

/-- A row of truths that lies in a block's beginning. -/
def BB (w : World) (g n : Nat) (f : Nat → Bool) : Prop := g < w.heap.size ∧ ∀ i, i < n → w.cell? ⟨g, i, none⟩ = some (.bool (f i))

theorem BB.keep {w w' : World} {g n : Nat} {f : Nat → Bool} (h : BB w g n f) {S : Nat → Prop} (F : Fr S w w') (hs : ¬ S g) : BB w' g n f :=
  ⟨Nat.lt_of_lt_of_le h.1 F.size, fun i hi => (World.cell?_of_block (w := w) (F.block g h.1 hs)).trans (h.2 i hi)⟩

structure SpM (w0 : World) (b : MB) (tb n : Nat) (par nst : Nat → Nat) (A1 : Option Addr) (c1 B : Nat) (D : SpD) (w : World) : Prop where
  ex : ∃ O, Trm w O b tb D.T ∧ (∀ k, O k → w0.heap.size ≤ k ∧ k < B) ∧ (∀ k, ownB A1 k → ¬ O k)
  fr : Fr (fun _ => False) w0 w
  lo : w0.heap.size ≤ B
  sz : B + 6 ≤ w.heap.size
  r1 : OwnR w w0.heap.size 3 1 A1 n c1 (fV (pI par) n)
  a1 : ∀ k, ownB A1 k → k < B
  h0 : Blk w B (aV (fun k => .bool (D.am k)) n)
  h1 : Blk w (B + 1) (aV D.lp 3)
  h2 : Blk w (B + 2) (aV (fun k => .bool (D.busy k)) 3)
  h3 : Blk w (B + 3) (aV (fun k => .int .i64 (D.of k : Nat)) 3)
  h4 : Blk w (B + 4) (aV (fun k => .int .i64 (D.st k : Nat)) 3)
  h5 : Blk w (B + 5) (aV D.hp 3)
  n3 : D.T.n = n
  pa : D.T.par = par
  na : D.T.nst = nst
  z : D.T.z = 200
  s3 : D.T.s.length = 3
  lks : ∀ k, k < 3 → D.on k = true → D.lp k = ptr (D.lk k) ∧ B + 6 ≤ D.lk k ∧ LkM w (D.lk k) tb (D.nx k) (D.vl k) ∧ ∃ g cap, D.hp k = .slice (some ⟨g, 0, none⟩) n cap ∧ n ≤ cap ∧ B + 6 ≤ g ∧ BB w g n (D.ah k) ∧ ∀ k', k' < 3 → D.on k' = true → D.lk k' ≠ g
  dis : ∀ k k', k < 3 → k' < 3 → D.on k = true → D.on k' = true → k ≠ k' → D.lk k ≠ D.lk k'

section
variable {w0 w w' : World} {b : MB} {tb n : Nat} {par nst : Nat → Nat} {A1 : Option Addr} {c1 B : Nat} {D : SpD}

theorem SpM.same (h : SpM w0 b tb n par nst A1 c1 B D w) (F : Fr (fun _ => False) w w') : SpM w0 b tb n par nst A1 c1 B D w' := by
  obtain ⟨O, k1, k2, k3⟩ := h.ex
  refine { h with ex := ⟨O, k1.same F, k2, k3⟩, fr := h.fr.trans F, sz := Nat.le_trans h.sz F.size, r1 := OwnR.same h.r1 F, h0 := h.h0.keep F id, h1 := h.h1.keep F id, h2 := h.h2.keep F id, h3 := h.h3.keep F id, h4 := h.h4.keep F id, h5 := h.h5.keep F id, lks := fun k hk ho => ?_ }
  obtain ⟨e1, e2, e3, g, cap, e4, e5, e6, e7, e8⟩ := h.lks k hk ho
  exact ⟨e1, e2, e3.keep F id, g, cap, e4, e5, e6, e7.keep F id, e8⟩

/-- The tree has turned. -/
theorem SpM.turn (h : SpM w0 b tb n par nst A1 c1 B D w) {O : Nat → Prop} {T' : Sc} (k2 : ∀ k, O k → w0.heap.size ≤ k ∧ k < B) (k3 : ∀ k, ownB A1 k → ¬ O k) (hT : Trm w' O b tb T') (F : Fr O w w') (e1 : T'.n = D.T.n) (e2 : T'.par = D.T.par) (e3 : T'.nst = D.T.nst) (e4 : T'.z = D.T.z) (e5 : T'.s.length = D.T.s.length) :
    SpM w0 b tb n par nst A1 c1 B { D with T := T' } w' := by
  have no : ∀ k, B ≤ k → ¬ O k := fun k hk ho => by have := (k2 k ho).2; omega
  refine ⟨⟨O, hT, k2, k3⟩, h.fr.since F (fun i hi hl => by have := (k2 i hi).1; omega), h.lo, Nat.le_trans h.sz F.size, OwnR.keep h.r1 F k3, h.a1, h.h0.keep F (no _ (by omega)), h.h1.keep F (no _ (by omega)), h.h2.keep F (no _ (by omega)), h.h3.keep F (no _ (by omega)), h.h4.keep F (no _ (by omega)), h.h5.keep F (no _ (by omega)), by rw [← h.n3]; exact e1, by rw [← h.pa]; exact e2, by rw [← h.na]; exact e3, by rw [← h.z]; exact e4, by rw [← h.s3]; exact e5, fun k hk ho => ?_, h.dis⟩
  obtain ⟨e1, e2, e3, g, cap, e4, e5, e6, e7, e8⟩ := h.lks k hk ho
  exact ⟨e1, e2, e3.keep F (no _ (by omega)), g, cap, e4, e5, e6, e7.keep F (no _ (by omega)), e8⟩

/-- A store into one of the six fixed rows. -/
theorem fixed_store (h : SpM w0 b tb n par nst A1 c1 B D w) {i u : Nat} (hi : i < 6) (v : Value) {w9 : World} (hw : w9 = w.setCell ⟨B + i, u, none⟩ v) :
    (∃ O, Trm w9 O b tb D.T ∧ (∀ k, O k → w0.heap.size ≤ k ∧ k < B) ∧ (∀ k, ownB A1 k → ¬ O k)) ∧ Fr (fun _ => False) w0 w9 ∧ B + 6 ≤ w9.heap.size ∧ OwnR w9 w0.heap.size 3 1 A1 n c1 (fV (pI par) n) ∧ (∀ (j : Nat) c, j ≠ i → j < 6 → Blk w (B + j) c → Blk w9 (B + j) c) ∧ (∀ c, Blk w (B + i) c → Blk w9 (B + i) (c.setIfInBounds u v)) ∧
    (∀ k, k < 3 → D.on k = true → B + 6 ≤ D.lk k ∧ LkM w9 (D.lk k) tb (D.nx k) (D.vl k)) ∧ ∀ g f, B + 6 ≤ g → BB w g n f → BB w9 g n f := by
  subst hw
  have F : Fr (fun k => k = B + i) w (w.setCell ⟨B + i, u, none⟩ v) := Fr.setCell _ _ _ rfl
  obtain ⟨O, k1, k2, k3⟩ := h.ex
  refine ⟨⟨O, k1.keep F (fun k hk e => by have := (k2 k hk).2; omega), k2, k3⟩, h.fr.since F (fun j hj hl => by have := h.lo; omega), Nat.le_trans h.sz F.size, OwnR.keep h.r1 F (fun k hk e => by have := h.a1 k hk; omega), fun j c hj hj6 hb => hb.keep F (by omega), fun c hb => hb.set u v, fun k hk ho => ?_, fun g f hg hf => hf.keep F (by omega)⟩
  obtain ⟨e1, e2, e3, _⟩ := h.lks k hk ho
  exact ⟨e2, e3.keep F (by omega)⟩

theorem upd_eq {f g : Nat → Value} {n : Nat} (h : ∀ k, k < n → f k = g k) {w : World} {k : Nat} (hb : Blk w k (aV f n)) : Blk w k (aV g n) := by rw [← aV_cong h]; exact hb

theorem SpM.putAm (h : SpM w0 b tb n par nst A1 c1 B D w) {u : Nat} (hu : u < n) (v : Bool) : SpM w0 b tb n par nst A1 c1 B { D with am := fun k => if k = u then v else D.am k } (w.setCell ⟨B, u, none⟩ (.bool v)) := by
  obtain ⟨q1, q2, q3, q4, q5, q6, q7, q8⟩ := fixed_store h (i := 0) (u := u) (by omega) (.bool v) rfl
  have h0 := q6 _ h.h0
  rw [aV_set _ hu] at h0
  refine ⟨q1, q2, h.lo, q3, q4, h.a1, upd_eq (fun k hk => by by_cases e : k = u <;> simp [e]) h0, q5 1 _ (by omega) (by omega) h.h1, q5 2 _ (by omega) (by omega) h.h2, q5 3 _ (by omega) (by omega) h.h3, q5 4 _ (by omega) (by omega) h.h4, q5 5 _ (by omega) (by omega) h.h5, h.n3, h.pa, h.na, h.z, h.s3, fun k hk ho => ?_, h.dis⟩
  obtain ⟨e1, e2, e3, g, cap, e4, e5, e6, e7, e8⟩ := h.lks k hk ho
  exact ⟨e1, e2, (q7 k hk ho).2, g, cap, e4, e5, e6, q8 g _ e6 e7, e8⟩

theorem SpM.putLp (h : SpM w0 b tb n par nst A1 c1 B D w) {u : Nat} (hu : u < 3) (v : Value) (hon : D.on u = false) : SpM w0 b tb n par nst A1 c1 B { D with lp := fun k => if k = u then v else D.lp k } (w.setCell ⟨B + 1, u, none⟩ v) := by
  obtain ⟨q1, q2, q3, q4, q5, q6, q7, q8⟩ := fixed_store h (i := 1) (u := u) (by omega) v rfl
  have h0 := q6 _ h.h1
  rw [aV_set _ hu] at h0
  refine ⟨q1, q2, h.lo, q3, q4, h.a1, q5 0 _ (by omega) (by omega) h.h0, h0, q5 2 _ (by omega) (by omega) h.h2, q5 3 _ (by omega) (by omega) h.h3, q5 4 _ (by omega) (by omega) h.h4, q5 5 _ (by omega) (by omega) h.h5, h.n3, h.pa, h.na, h.z, h.s3, fun k hk ho => ?_, h.dis⟩
  obtain ⟨e1, e2, e3, g, cap, e4, e5, e6, e7, e8⟩ := h.lks k hk ho
  have hne : k ≠ u := fun e => by rw [e] at ho; rw [show D.on u = true from ho] at hon; cases hon
  exact ⟨by show (if k = u then v else D.lp k) = _; rw [if_neg hne]; exact e1, e2, (q7 k hk ho).2, g, cap, e4, e5, e6, q8 g _ e6 e7, e8⟩

theorem SpM.putBusy (h : SpM w0 b tb n par nst A1 c1 B D w) {u : Nat} (hu : u < 3) (v : Bool) : SpM w0 b tb n par nst A1 c1 B { D with busy := fun k => if k = u then v else D.busy k } (w.setCell ⟨B + 2, u, none⟩ (.bool v)) := by
  obtain ⟨q1, q2, q3, q4, q5, q6, q7, q8⟩ := fixed_store h (i := 2) (u := u) (by omega) (.bool v) rfl
  have h0 := q6 _ h.h2
  rw [aV_set _ hu] at h0
  refine ⟨q1, q2, h.lo, q3, q4, h.a1, q5 0 _ (by omega) (by omega) h.h0, q5 1 _ (by omega) (by omega) h.h1, upd_eq (fun k hk => by by_cases e : k = u <;> simp [e]) h0, q5 3 _ (by omega) (by omega) h.h3, q5 4 _ (by omega) (by omega) h.h4, q5 5 _ (by omega) (by omega) h.h5, h.n3, h.pa, h.na, h.z, h.s3, fun k hk ho => ?_, h.dis⟩
  obtain ⟨e1, e2, e3, g, cap, e4, e5, e6, e7, e8⟩ := h.lks k hk ho
  exact ⟨e1, e2, (q7 k hk ho).2, g, cap, e4, e5, e6, q8 g _ e6 e7, e8⟩

theorem SpM.putOf (h : SpM w0 b tb n par nst A1 c1 B D w) {u : Nat} (hu : u < 3) (v : Nat) : SpM w0 b tb n par nst A1 c1 B { D with of := fun k => if k = u then v else D.of k } (w.setCell ⟨B + 3, u, none⟩ (.int .i64 (v : Nat))) := by
  obtain ⟨q1, q2, q3, q4, q5, q6, q7, q8⟩ := fixed_store h (i := 3) (u := u) (by omega) (.int .i64 (v : Nat)) rfl
  have h0 := q6 _ h.h3
  rw [aV_set _ hu] at h0
  refine ⟨q1, q2, h.lo, q3, q4, h.a1, q5 0 _ (by omega) (by omega) h.h0, q5 1 _ (by omega) (by omega) h.h1, q5 2 _ (by omega) (by omega) h.h2, upd_eq (fun k hk => by by_cases e : k = u <;> simp [e]) h0, q5 4 _ (by omega) (by omega) h.h4, q5 5 _ (by omega) (by omega) h.h5, h.n3, h.pa, h.na, h.z, h.s3, fun k hk ho => ?_, h.dis⟩
  obtain ⟨e1, e2, e3, g, cap, e4, e5, e6, e7, e8⟩ := h.lks k hk ho
  exact ⟨e1, e2, (q7 k hk ho).2, g, cap, e4, e5, e6, q8 g _ e6 e7, e8⟩

theorem SpM.putSt (h : SpM w0 b tb n par nst A1 c1 B D w) {u : Nat} (hu : u < 3) (v : Nat) (x : Int) (hx : x = v) : SpM w0 b tb n par nst A1 c1 B { D with st := fun k => if k = u then v else D.st k } (w.setCell ⟨B + 4, u, none⟩ (.int .i64 x)) := by
  subst hx
  obtain ⟨q1, q2, q3, q4, q5, q6, q7, q8⟩ := fixed_store h (i := 4) (u := u) (by omega) (.int .i64 (v : Nat)) rfl
  have h0 := q6 _ h.h4
  rw [aV_set _ hu] at h0
  refine ⟨q1, q2, h.lo, q3, q4, h.a1, q5 0 _ (by omega) (by omega) h.h0, q5 1 _ (by omega) (by omega) h.h1, q5 2 _ (by omega) (by omega) h.h2, q5 3 _ (by omega) (by omega) h.h3, upd_eq (fun k hk => by by_cases e : k = u <;> simp [e]) h0, q5 5 _ (by omega) (by omega) h.h5, h.n3, h.pa, h.na, h.z, h.s3, fun k hk ho => ?_, h.dis⟩
  obtain ⟨e1, e2, e3, g, cap, e4, e5, e6, e7, e8⟩ := h.lks k hk ho
  exact ⟨e1, e2, (q7 k hk ho).2, g, cap, e4, e5, e6, q8 g _ e6 e7, e8⟩

theorem SpM.putHp (h : SpM w0 b tb n par nst A1 c1 B D w) {u : Nat} (hu : u < 3) (v : Value) (hon : D.on u = false) : SpM w0 b tb n par nst A1 c1 B { D with hp := fun k => if k = u then v else D.hp k } (w.setCell ⟨B + 5, u, none⟩ v) := by
  obtain ⟨q1, q2, q3, q4, q5, q6, q7, q8⟩ := fixed_store h (i := 5) (u := u) (by omega) v rfl
  have h0 := q6 _ h.h5
  rw [aV_set _ hu] at h0
  refine ⟨q1, q2, h.lo, q3, q4, h.a1, q5 0 _ (by omega) (by omega) h.h0, q5 1 _ (by omega) (by omega) h.h1, q5 2 _ (by omega) (by omega) h.h2, q5 3 _ (by omega) (by omega) h.h3, q5 4 _ (by omega) (by omega) h.h4, h0, h.n3, h.pa, h.na, h.z, h.s3, fun k hk ho => ?_, h.dis⟩
  obtain ⟨e1, e2, e3, g, cap, e4, e5, e6, e7, e8⟩ := h.lks k hk ho
  have hne : k ≠ u := fun e => by rw [e] at ho; rw [show D.on u = true from ho] at hon; cases hon
  exact ⟨e1, e2, (q7 k hk ho).2, g, cap, by show (if k = u then v else D.hp k) = _; rw [if_neg hne]; exact e4, e5, e6, q8 g _ e6 e7, e8⟩

/-- A look that was made stands. -/
theorem SpM.begun (h : SpM w0 b tb n par nst A1 c1 B D w) {u l g cap : Nat} (hu : u < 3) (x : Int) (f : Nat → Bool) (hp : D.lp u = ptr l) (hl : B + 6 ≤ l) (hL : LkM w l tb x false) (hs : D.hp u = .slice (some ⟨g, 0, none⟩) n cap) (hc : n ≤ cap) (hg : B + 6 ≤ g) (hf : BB w g n f)
    (hlg : l ≠ g) (h1 : ∀ k, k < 3 → D.on k = true → D.lk k ≠ l ∧ D.lk k ≠ g ∧ ∀ g' cap', D.hp k = .slice (some ⟨g', 0, none⟩) n cap' → l ≠ g') :
    SpM w0 b tb n par nst A1 c1 B { D with lk := fun k => if k = u then l else D.lk k, nx := fun k => if k = u then x else D.nx k, ah := fun k => if k = u then f else D.ah k, on := fun k => if k = u then true else D.on k, vl := fun k => if k = u then false else D.vl k } w := by
  refine { h with lks := fun k hk ho => ?_, dis := fun k k' hk hk' ho ho' hne => ?_ }
  · by_cases e : k = u
    · subst e
      refine ⟨?_, ?_, ?_, g, cap, hs, hc, hg, ?_, fun k' hk' ho' => ?_⟩
      · show D.lp k = ptr (if k = k then l else D.lk k); rw [if_pos rfl]; exact hp
      · show B + 6 ≤ (if k = k then l else D.lk k); rw [if_pos rfl]; exact hl
      · show LkM w (if k = k then l else D.lk k) tb (if k = k then x else D.nx k) (if k = k then false else D.vl k); rw [if_pos rfl, if_pos rfl, if_pos rfl]; exact hL
      · show BB w g n (if k = k then f else D.ah k); rw [if_pos rfl]; exact hf
      · show (if k' = k then l else D.lk k') ≠ g
        by_cases e' : k' = k
        · rw [if_pos e']; exact hlg
        · rw [if_neg e']
          have ho2 : D.on k' = true := by
            have h3 : (if k' = k then true else D.on k') = true := ho'
            rw [if_neg e'] at h3; exact h3
          exact (h1 k' hk' ho2).2.1
    · have ho2 : D.on k = true := by
        have h3 : (if k = u then true else D.on k) = true := ho
        rw [if_neg e] at h3; exact h3
      obtain ⟨e1, e2, e3, g', cap', e4, e5, e6, e7, e8⟩ := h.lks k hk ho2
      refine ⟨?_, ?_, ?_, g', cap', e4, e5, e6, ?_, fun k' hk' ho' => ?_⟩
      · show D.lp k = ptr (if k = u then l else D.lk k); rw [if_neg e]; exact e1
      · show B + 6 ≤ (if k = u then l else D.lk k); rw [if_neg e]; exact e2
      · show LkM w (if k = u then l else D.lk k) tb (if k = u then x else D.nx k) (if k = u then false else D.vl k); rw [if_neg e, if_neg e, if_neg e]; exact e3
      · show BB w g' n (if k = u then f else D.ah k); rw [if_neg e]; exact e7
      · show (if k' = u then l else D.lk k') ≠ g'
        by_cases e' : k' = u
        · rw [if_pos e']; exact (h1 k hk ho2).2.2 g' cap' e4
        · rw [if_neg e']
          have ho3 : D.on k' = true := by
            have h3 : (if k' = u then true else D.on k') = true := ho'
            rw [if_neg e'] at h3; exact h3
          exact e8 k' hk' ho3
  · show (if k = u then l else D.lk k) ≠ (if k' = u then l else D.lk k')
    have on2 : ∀ j, j ≠ u → (if j = u then true else D.on j) = true → D.on j = true := fun j hj h3 => by rw [if_neg hj] at h3; exact h3
    by_cases e : k = u
    · rw [if_pos e]
      have e' : k' ≠ u := fun h => hne (e.trans h.symm)
      rw [if_neg e']
      exact fun h => (h1 k' hk' (on2 k' e' ho')).1 h.symm
    · rw [if_neg e]
      by_cases e' : k' = u
      · rw [if_pos e']; exact (h1 k hk (on2 k e ho)).1
      · rw [if_neg e']; exact h.dis k k' hk hk' (on2 k e ho) (on2 k' e' ho') hne

/-- A look has done a step. -/
theorem SpM.stepped (h : SpM w0 b tb n par nst A1 c1 B D w) {O : Nat → Prop} {u j : Nat} {x : Int} {v : Bool} (hu : u < 3) (ho : D.on u = true) (k2 : ∀ k, O k → w0.heap.size ≤ k ∧ k < B) (k3 : ∀ k, ownB A1 k → ¬ O k) (p : LsPost O b tb D.T (D.lk u) j x v w w') :
    SpM w0 b tb n par nst A1 c1 B { D with T := D.T.step j, nx := fun k => if k = u then x else D.nx k, vl := fun k => if k = u then v else D.vl k } w' := by
  obtain ⟨p1, p2, p3⟩ := p
  obtain ⟨f1, f2, f3, g, cap, f4, f5, f6, f7, f8⟩ := h.lks u hu ho
  have no : ∀ k, B ≤ k → k ≠ D.lk u → ¬ (O k ∨ k = D.lk u) := fun k hk hne hh => by
    rcases hh with hh | hh
    · have := (k2 k hh).2; omega
    · exact hne hh
  refine ⟨⟨O, p1, k2, k3⟩, h.fr.since p3 (fun i hi hl => by rcases hi with hi | hi; have := (k2 i hi).1; omega; have := h.lo; omega), h.lo, Nat.le_trans h.sz p3.size, OwnR.keep h.r1 p3 (fun k hk hh => by rcases hh with hh | hh; exact k3 k hk hh; have := h.a1 k hk; omega), h.a1, h.h0.keep p3 (no _ (by omega) (by omega)), h.h1.keep p3 (no _ (by omega) (by omega)), h.h2.keep p3 (no _ (by omega) (by omega)), h.h3.keep p3 (no _ (by omega) (by omega)), h.h4.keep p3 (no _ (by omega) (by omega)), h.h5.keep p3 (no _ (by omega) (by omega)), h.n3, h.pa, h.na, h.z, ?_, fun k hk hok => ?_, h.dis⟩
  · show (stp D.T.s j).length = 3
    rw [stp_len]; exact h.s3
  · obtain ⟨e1, e2, e3, g', cap', e4, e5, e6, e7, e8⟩ := h.lks k hk hok
    have hg : BB w' g' n (D.ah k) := e7.keep p3 (no _ (by omega) (fun e => e8 u hu ho e.symm))
    refine ⟨e1, e2, ?_, g', cap', e4, e5, e6, hg, e8⟩
    show LkM w' (D.lk k) tb (if k = u then x else D.nx k) (if k = u then v else D.vl k)
    by_cases e : k = u
    · subst e
      rw [if_pos rfl, if_pos rfl]
      exact p2
    · rw [if_neg e, if_neg e]
      exact e3.keep p3 (no _ (by omega) (h.dis k u hk hu hok ho e))

/-- A look is given up. -/
theorem SpM.off (h : SpM w0 b tb n par nst A1 c1 B D w) (u : Nat) : SpM w0 b tb n par nst A1 c1 B { D with on := fun k => if k = u then false else D.on k } w := by
  have on3 : ∀ q, (if q = u then false else D.on q) = true → D.on q = true := fun q h3 => by
    by_cases e : q = u
    · rw [if_pos e] at h3; cases h3
    · rw [if_neg e] at h3; exact h3
  refine { h with lks := fun k hk ho => ?_, dis := fun k k' hk hk' ho ho' hne => h.dis k k' hk hk' (on3 k ho) (on3 k' ho') hne }
  obtain ⟨e1, e2, e3, g', cap', e4, e5, e6, e7, e8⟩ := h.lks k hk (on3 k ho)
  exact ⟨e1, e2, e3, g', cap', e4, e5, e6, e7, fun k' hk' ho' => e8 k' hk' (on3 k' ho')⟩

/-! ### The same at a block's own name, the world named -/
theorem SpM.putLp' (h : SpM w0 b tb n par nst A1 c1 B D w) {u b1 : Nat} {w9 : World} (hu : u < 3) (v : Value) (hon : D.on u = false) (hb : Hid (B + 1 = b1)) (hw : w.setCell ⟨b1, u, none⟩ v = w9) : SpM w0 b tb n par nst A1 c1 B { D with lp := fun k => if k = u then v else D.lp k } w9 ∧ Fr (fun k => B ≤ k ∧ k < B + 6) w w9 := by
  have hb2 : B + 1 = b1 := hb.out
  subst hb2 hw
  exact ⟨h.putLp hu v hon, Fr.setCell _ _ _ (by show B ≤ B + 1 ∧ B + 1 < B + 6; omega)⟩
theorem SpM.putBusy' (h : SpM w0 b tb n par nst A1 c1 B D w) {u b1 : Nat} {w9 : World} (hu : u < 3) (v : Bool) (hb : Hid (B + 2 = b1)) (hw : w.setCell ⟨b1, u, none⟩ (.bool v) = w9) : SpM w0 b tb n par nst A1 c1 B { D with busy := fun k => if k = u then v else D.busy k } w9 ∧ Fr (fun k => B ≤ k ∧ k < B + 6) w w9 := by
  have hb2 : B + 2 = b1 := hb.out
  subst hb2 hw
  exact ⟨h.putBusy hu v, Fr.setCell _ _ _ (by show B ≤ B + 2 ∧ B + 2 < B + 6; omega)⟩
theorem SpM.putOf' (h : SpM w0 b tb n par nst A1 c1 B D w) {u b1 : Nat} {w9 : World} (hu : u < 3) (v : Nat) (hb : Hid (B + 3 = b1)) (hw : w.setCell ⟨b1, u, none⟩ (.int .i64 (v : Nat)) = w9) : SpM w0 b tb n par nst A1 c1 B { D with of := fun k => if k = u then v else D.of k } w9 ∧ Fr (fun k => B ≤ k ∧ k < B + 6) w w9 := by
  have hb2 : B + 3 = b1 := hb.out
  subst hb2 hw
  exact ⟨h.putOf hu v, Fr.setCell _ _ _ (by show B ≤ B + 3 ∧ B + 3 < B + 6; omega)⟩
theorem SpM.putSt' (h : SpM w0 b tb n par nst A1 c1 B D w) {u b1 : Nat} {w9 : World} (hu : u < 3) (v : Nat) (x : Int) (hx : x = v) (hb : Hid (B + 4 = b1)) (hw : w.setCell ⟨b1, u, none⟩ (.int .i64 x) = w9) : SpM w0 b tb n par nst A1 c1 B { D with st := fun k => if k = u then v else D.st k } w9 ∧ Fr (fun k => B ≤ k ∧ k < B + 6) w w9 := by
  have hb2 : B + 4 = b1 := hb.out
  subst hb2 hw
  exact ⟨h.putSt hu v x hx, Fr.setCell _ _ _ (by show B ≤ B + 4 ∧ B + 4 < B + 6; omega)⟩
end
end Go.Proofs.Ytoajdknhllaoeaa
