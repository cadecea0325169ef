/-
  A tree of scopes, and its machine, as they stand in memory.
-/
import Derived.Test.YtoajdknhllaoeaaSc
import Derived.Test.YtoajdknhllaoeaaTb
namespace Go.Proofs.Ytoajdknhllaoeaa
open Go.RowKit
set_option linter.unusedVariables false

/-- A tree's row. -/
def tv (par : Nat → Nat) : Nat → List Value
  | 0 => []
  | n + 1 => tv par n ++ [.int .i64 (pI par n), .int .i64 ((2 * n : Nat) : Int)]

theorem tv_len (par : Nat → Nat) (n : Nat) : (tv par n).length = 2 * n := by
  induction n with
  | zero => rfl
  | succ n ih => rw [tv, List.length_append, ih]; simp; omega

theorem tv_at (par : Nat → Nat) {n k : Nat} (h : k < n) : (tv par n)[2 * k]? = some (.int .i64 (pI par k)) ∧ (tv par n)[2 * k + 1]? = some (.int .i64 ((2 * k : Nat) : Int)) := by
  induction n with
  | zero => omega
  | succ n ih =>
    rw [tv]
    by_cases e : k = n
    · subst e
      rw [List.getElem?_append_right (by rw [tv_len]; omega), List.getElem?_append_right (by rw [tv_len]; omega), tv_len]
      constructor
      · simp
      · rw [show 2 * k + 1 - 2 * k = 1 by omega]; simp
    · obtain ⟨h1, h2⟩ := ih (by omega)
      rw [List.getElem?_append_left (by rw [tv_len]; omega), List.getElem?_append_left (by rw [tv_len]; omega)]
      exact ⟨h1, h2⟩

theorem tv_cong {par par' : Nat → Nat} {n : Nat} (h : ∀ k, k < n → par k = par' k) : tv par n = tv par' n := by
  induction n with
  | zero => rfl
  | succ n ih =>
    rw [tv, tv, ih (fun k hk => h k (by omega))]
    unfold pI
    rw [h n (by omega)]

theorem tv_opn (T : Sc) {p : Nat} (h0 : 0 < T.n) : tv (T.opn p).par (T.n + 1) = tv T.par T.n ++ [.int .i64 (p : Nat), .int .i64 ((2 * T.n : Nat) : Int)] := by
  rw [tv, pI_pos _ h0]
  rw [tv_cong (par := (T.opn p).par) (par' := T.par) (fun k hk => by show (if k = T.n then p else T.par k) = _; rw [if_neg (by omega)])]
  rw [show (T.opn p).par T.n = p by show (if T.n = T.n then p else T.par T.n) = _; rw [if_pos rfl]]

structure IsT (w : World) (b : MB) (tb : Nat) (A : Option Addr) (cap : Nat) (l : List Int) (T : Sc) : Prop where
  m : IsM w b ⟨l, 2 * T.n, T.s⟩
  t : TBlk w tb #[.slice A T.n cap] 81
  r : OwnR w 0 83 2 A T.n cap (tv T.par T.n)
  c : Cel T l
  ok : T.ok
  bt : ¬ b.own tb
  ar : ∀ k, ownB A k → ¬ b.own k

/-- A tree at tb, on a machine b; O bears their blocks. -/
structure Trm (w : World) (O : Nat → Prop) (b : MB) (tb : Nat) (T : Sc) : Prop where
  ex : ∃ A cap l, IsT w b tb A cap l T ∧ (∀ k, b.own k → O k) ∧ O tb ∧ ∀ k, ownB A k → O k
  lt : ∀ k, O k → k < w.heap.size

section
variable {w w' : World} {O : Nat → Prop} {b : MB} {tb : Nat} {T : Sc} {A : Option Addr} {cap : Nat} {l : List Int}

theorem IsT.keep (h : IsT w b tb A cap l T) {S : Nat → Prop} (f : Fr S w w') (h1 : ∀ k, b.own k → ¬ S k) (h2 : ¬ S tb) (h3 : ∀ k, ownB A k → ¬ S k) : IsT w' b tb A cap l T :=
  ⟨h.m.keep f h1, h.t.keep f h2, h.r.keep f h3, h.c, h.ok, h.bt, h.ar⟩

theorem Trm.keep (h : Trm w O b tb T) {S : Nat → Prop} (f : Fr S w w') (hs : ∀ k, O k → ¬ S k) : Trm w' O b tb T := by
  obtain ⟨A, cap, l, h1, h2, h3, h4⟩ := h.ex
  exact ⟨⟨A, cap, l, h1.keep f (fun k hk => hs k (h2 k hk)) (hs _ h3) (fun k hk => hs k (h4 k hk)), h2, h3, h4⟩, fun k hk => Nat.lt_of_lt_of_le (h.lt k hk) f.size⟩

theorem Trm.same (h : Trm w O b tb T) (f : Fr (fun _ => False) w w') : Trm w' O b tb T := h.keep f (fun _ _ hh => hh)

theorem Trm.ok (h : Trm w O b tb T) : T.ok := by
  obtain ⟨A, cap, l, h1, _⟩ := h.ex
  exact h1.ok
theorem Trm.le (h : Trm w O b tb T) : 2 * T.n ≤ T.z := by
  obtain ⟨A, cap, l, h1, _⟩ := h.ex
  exact h1.c.le
theorem Trm.small (h : Trm w O b tb T) : T.n ≤ 524288 := by
  obtain ⟨A, cap, l, h1, _⟩ := h.ex
  have h2 := h1.m.small
  have h3 := h1.m.le
  have e1 : (⟨l, 2 * T.n, T.s⟩ : Mach).all.length = l.length := rfl
  have e2 : (⟨l, 2 * T.n, T.s⟩ : Mach).used = 2 * T.n := rfl
  omega
theorem Trm.few (h : Trm w O b tb T) : T.s.length ≤ 17 := by
  obtain ⟨A, cap, l, h1, _⟩ := h.ex
  exact h1.m.few
theorem Trm.pos (h : Trm w O b tb T) : 0 < T.n := h.ok.pos
theorem Trm.own (h : Trm w O b tb T) : ∀ k, b.own k → O k := by
  obtain ⟨A, cap, l, h1, h2, h3, h4⟩ := h.ex
  exact h2

/-- The row is read. -/
theorem IsT.row (h : IsT w b tb A cap l T) : ∃ g, A = some ⟨g, 0, none⟩ ∧ g < w.heap.size ∧ T.n ≤ cap ∧ ∀ k, k < T.n → w.cell? ⟨g, k * 2, none⟩ = some (.int .i64 (pI T.par k)) ∧ w.cell? ⟨g, k * 2 + 1, none⟩ = some (.int .i64 ((2 * k : Nat) : Int)) := by
  obtain ⟨g, hA, _, hg, _, hc⟩ := h.r.cell h.ok.pos
  have hcap : T.n ≤ cap := by
    rcases h.r.2 with ⟨h3, h4⟩ | ⟨g', c', cur, hv, _, _, h5, _⟩
    · have := h.ok.pos; omega
    · injection hv with _ _ hv; omega
  refine ⟨g, hA, hg, hcap, fun k hk => ?_⟩
  obtain ⟨h1, h2⟩ := tv_at T.par hk
  rw [Nat.mul_comm]
  exact ⟨hc _ _ h1, hc _ _ h2⟩

/-- The machine has turned, and nothing else. -/
theorem IsT.turn (h : IsT w b tb A cap l T) {T' : Sc} {l' : List Int} (hm : IsM w' b ⟨l', 2 * T.n, T'.s⟩) (F : Fr b.own w w') (hc : Cel T' l') (hn : T'.n = T.n) (hp : T'.par = T.par) (hq : T'.nst = T.nst) : IsT w' b tb A cap l' T' := by
  refine ⟨by rw [hn]; exact hm, ?_, ?_, hc, ?_, h.bt, h.ar⟩
  · rw [hn]; exact h.t.keep F h.bt
  · rw [hn, hp]; exact h.r.keep F h.ar
  · unfold Sc.ok; rw [hn, hp, hq]; exact h.ok

theorem Trm.turn (hlt : ∀ k, O k → k < w.heap.size) (h : IsT w b tb A cap l T) (h2 : ∀ k, b.own k → O k) (h3 : O tb) (h4 : ∀ k, ownB A k → O k) {T' : Sc} {l' : List Int} (hm : IsM w' b ⟨l', 2 * T.n, T'.s⟩) (F : Fr b.own w w') (hc : Cel T' l') (hn : T'.n = T.n) (hp : T'.par = T.par) (hq : T'.nst = T.nst) : Trm w' O b tb T' ∧ Fr O w w' :=
  ⟨⟨⟨A, cap, l', h.turn hm F hc hn hp hq, h2, h3, h4⟩, fun k hk => Nat.lt_of_lt_of_le (hlt k hk) F.size⟩, F.mono h2⟩
end
end Go.Proofs.Ytoajdknhllaoeaa
