/-
  A tree, and a look, of one's own.
-/
import Derived.Test.YtoajdknhllaoeaaOpn
namespace Go.Proofs.Ytoajdknhllaoeaa
open Go.RowKit
set_option linter.unusedVariables false

/-- A tree all of which is younger than a world, nothing of which has turned since. -/
def OwnT (w0 w : World) (b : MB) (tb : Nat) (T : Sc) : Prop := ∃ O, Trm w O b tb T ∧ (∀ k, O k → w0.heap.size ≤ k) ∧ Fr (fun _ => False) w0 w

/-- A look beside it. -/
def OwnL (w0 w : World) (b : MB) (tb : Nat) (T : Sc) (lb : Nat) (x : Int) (v : Bool) : Prop := ∃ O, Trm w O b tb T ∧ (∀ k, O k → w0.heap.size ≤ k) ∧ Fr (fun _ => False) w0 w ∧ LkM w lb tb x v ∧ ¬ O lb ∧ w0.heap.size ≤ lb

section
variable {w0 w w' : World} {b : MB} {tb lb : Nat} {T : Sc} {x : Int} {v : Bool}

theorem OwnT.fr (h : OwnT w0 w b tb T) : Fr (fun _ => False) w0 w := by
  obtain ⟨O, h1, h2, h3⟩ := h
  exact h3
theorem OwnL.fr (h : OwnL w0 w b tb T lb x v) : Fr (fun _ => False) w0 w := by
  obtain ⟨O, h1, h2, h3, h4⟩ := h
  exact h3
theorem OwnL.tree (h : OwnL w0 w b tb T lb x v) : OwnT w0 w b tb T := by
  obtain ⟨O, h1, h2, h3, h4⟩ := h
  exact ⟨O, h1, h2, h3⟩
theorem OwnT.same (h : OwnT w0 w b tb T) (F : Fr (fun _ => False) w w') : OwnT w0 w' b tb T := by
  obtain ⟨O, h1, h2, h3⟩ := h
  exact ⟨O, h1.same F, h2, h3.trans F⟩
theorem OwnL.same (h : OwnL w0 w b tb T lb x v) (F : Fr (fun _ => False) w w') : OwnL w0 w' b tb T lb x v := by
  obtain ⟨O, h1, h2, h3, h4, h5, h6⟩ := h
  exact ⟨O, h1.same F, h2, h3.trans F, h4.keep F id, h5, h6⟩
theorem own_turn {O : Nat → Prop} {T' : Sc} (h2 : ∀ k, O k → w0.heap.size ≤ k) (h3 : Fr (fun _ => False) w0 w) (h : Trm w' O b tb T') (F : Fr O w w') : OwnT w0 w' b tb T' :=
  ⟨O, h, h2, h3.since F (fun i hi hl => by have := h2 i hi; omega)⟩
theorem own_post {O : Nat → Prop} {T' : Sc} (h2 : ∀ k, O k → w0.heap.size ≤ k) (h3 : Fr (fun _ => False) w0 w) (h : TrPost O b tb T' w w') : OwnT w0 w' b tb T' := by
  obtain ⟨O', k1, k2, k3⟩ := h
  refine ⟨O', k1, fun k hk => ?_, h3.since k2 (fun i hi hl => by have := h2 i hi; omega)⟩
  rcases k3 k hk with h4 | h4
  · exact h2 k h4
  · have := h3.size; omega

theorem OwnT.ok (h : OwnT w0 w b tb T) : T.ok := by obtain ⟨O, h1, _⟩ := h; exact h1.ok
theorem OwnT.small (h : OwnT w0 w b tb T) : T.n ≤ 524288 := by obtain ⟨O, h1, _⟩ := h; exact h1.small
end

section
variable {w0 : World} {b : MB} {tb lb : Nat} {T : Sc} (w : World)

theorem ow_open (j p : Nat) (x y n : Int) (hx : x = j) (hy : y = p) (hj : j < T.s.length) (hp : p < T.n) (hd : T.nst p ≠ 32) (hz : 2 * T.n + 2 ≤ T.z) (hn : n = T.n) (h : OwnT w0 w b tb T) :
    Calls Try.prog 14 #[.pointer (some ⟨tb, 0, none⟩), .pointer (some ⟨b.m, 0, none⟩), .int .i64 x, .int .i64 y] w fun e w' => e = .returned (.tuple #[.int .i64 n, .int .i64 0]) ∧ OwnT w0 w' b tb ((T.step j).opn p) := by
  subst hy hn
  obtain ⟨O, h1, h2, h3⟩ := h
  exact (open_ok w j p x hx hj hp hd hz h1).mono fun e w' ⟨he, hp⟩ => ⟨he, own_post h2 h3 hp⟩

theorem ow_deep (p : Nat) (x y : Int) (hy : y = p) (hp : p < T.n) (hd : T.nst p = 32) (h : OwnT w0 w b tb T) :
    Calls Try.prog 14 #[.pointer (some ⟨tb, 0, none⟩), .pointer (some ⟨b.m, 0, none⟩), .int .i64 x, .int .i64 y] w fun e w' => e = .returned (.tuple #[.int .i64 0, .int .i64 23]) ∧ OwnT w0 w' b tb T := by
  subst hy
  obtain ⟨O, h1, h2, h3⟩ := h
  exact (open_deep w p x hp hd h1).mono fun e w' ⟨he, hF⟩ => ⟨he, O, h1.same hF, h2, h3.trans hF⟩

theorem ow_nest (k : Nat) (y : Int) (m : Nat) (hy : y = k) (hk : k < T.n) (hm : T.nst k = m) (h : OwnT w0 w b tb T) :
    Calls Try.prog 28 #[.pointer (some ⟨tb, 0, none⟩), .int .i64 y] w fun e w' => e = .returned (.int .i64 m) ∧ Fr (fun _ => False) w w' := by
  subst hy hm
  obtain ⟨O, h1, h2, h3⟩ := h
  exact nest_ok w k hk h1

theorem ow_inside (k o : Nat) (y z : Int) (r : Bool) (hy : y = k) (hz : z = o) (hk : k < T.n) (ho : o < T.n) (hr : r = true ↔ Ard T.par T.nst k o) (h : OwnT w0 w b tb T) :
    Calls Try.prog 30 #[.pointer (some ⟨tb, 0, none⟩), .int .i64 y, .int .i64 z] w fun e w' => e = .returned (.bool r) ∧ Fr (fun _ => False) w w' := by
  subst hy hz
  obtain ⟨O, h1, h2, h3⟩ := h
  exact inside_ok w k o r hk ho hr h1

theorem ow_ask (j k : Nat) (x y : Int) (r : Bool) (hx : x = j) (hy : y = k) (hj : j < T.s.length) (hk : k < T.n) (hr : (!T.asked k) = r) (h : OwnT w0 w b tb T) :
    Calls Try.prog 19 #[.pointer (some ⟨tb, 0, none⟩), .pointer (some ⟨b.m, 0, none⟩), .int .i64 x, .int .i64 y] w fun e w' => e = .returned (.tuple #[.bool r, .int .i64 0]) ∧ OwnT w0 w' b tb ((T.step j).ask k) := by
  subst hy
  obtain ⟨O, h1, h2, h3⟩ := h
  exact (ask_ok w j k x hx hj hk r hr h1).mono fun e w' ⟨he, hp, hF⟩ => ⟨he, own_turn h2 h3 hp hF⟩

theorem ow_look (k : Nat) (y : Int) (hy : y = k) (hk : k < T.n) (h : OwnT w0 w b tb T) :
    Calls Try.prog 32 #[.pointer (some ⟨tb, 0, none⟩), .int .i64 y] w fun e w' => ∃ lb, e = .returned (.tuple #[.pointer (some ⟨lb, 0, none⟩), .int .i64 0]) ∧ OwnL w0 w' b tb T lb k false := by
  subst hy
  obtain ⟨O, h1, h2, h3⟩ := h
  refine (look_ok w k hk h1).mono ?_
  rintro e w' ⟨lb, he, hB, hF, hlo⟩
  exact ⟨lb, he, O, h1.same hF, h2, h3.trans hF, hB, fun hh => by have := h1.lt _ hh; omega, Nat.le_trans h3.size hlo⟩

theorem own_ls {O : Nat → Prop} {w w' : World} {j : Nat} {x' : Int} {v' : Bool} (h2 : ∀ k, O k → w0.heap.size ≤ k) (h3 : Fr (fun _ => False) w0 w) (h5 : ¬ O lb) (h6 : w0.heap.size ≤ lb) (h : LsPost O b tb T lb j x' v' w w') : OwnL w0 w' b tb (T.step j) lb x' v' := by
  obtain ⟨k1, k2, k3⟩ := h
  exact ⟨O, k1, h2, h3.since k3 (fun i hi hl => by rcases hi with hi | rfl; have := h2 i hi; omega; omega), k2, h5, h6⟩

theorem ol_yes (j k : Nat) (v : Bool) (x y : Int) (hx : x = j) (hj : j < T.s.length) (hk : k < T.n) (ha : T.asked k = true) (h : OwnL w0 w b tb T lb k v) :
    Calls Try.prog 34 #[.pointer (some ⟨lb, 0, none⟩), .pointer (some ⟨b.m, 0, none⟩), .int .i64 x] w fun e w' => e = .returned (.tuple #[.bool true, .bool true, .int .i64 0]) ∧ OwnL w0 w' b tb (T.step j) lb (-1) true := by
  obtain ⟨O, h1, h2, h3, h4, h5, h6⟩ := h
  exact (lstep_yes w lb k j v x hk hx hj ha h4 h1 h5).mono fun e w' ⟨he, hp⟩ => ⟨he, own_ls h2 h3 h5 h6 hp⟩

theorem ol_not (j k : Nat) (v : Bool) (x y : Int) (r : Bool) (hx : x = j) (hj : j < T.s.length) (hk : k < T.n) (ha : T.asked k = false) (hy : pI T.par k = y) (hr : (y == -1) = r) (h : OwnL w0 w b tb T lb k v) :
    Calls Try.prog 34 #[.pointer (some ⟨lb, 0, none⟩), .pointer (some ⟨b.m, 0, none⟩), .int .i64 x] w fun e w' => e = .returned (.tuple #[.bool r, .bool false, .int .i64 0]) ∧ OwnL w0 w' b tb (T.step j) lb y false := by
  subst hy
  obtain ⟨O, h1, h2, h3, h4, h5, h6⟩ := h
  exact (lstep_not w lb k j v x r hr hk hx hj ha h4 h1 h5).mono fun e w' ⟨he, hp⟩ => ⟨he, own_ls h2 h3 h5 h6 hp⟩

theorem ow_used (n : Int) (hn : n = ((2 * T.n : Nat) : Int)) (h : OwnT w0 w b tb T) :
    Calls Try.prog 23 #[.pointer (some ⟨b.m, 0, none⟩)] w fun e w' => e = .returned (.int .i64 n) ∧ w = w' := by
  subst hn
  obtain ⟨O, h1, h2, h3⟩ := h
  obtain ⟨A, cap, l, k1, _⟩ := h1.ex
  exact used_ok b ⟨l, 2 * T.n, T.s⟩ w k1.m

theorem ow_steps (j : Nat) (x v : Int) (hx : x = j) (hj : j < T.s.length) (hv : T.s.getD j 0 = v) (h : OwnT w0 w b tb T) :
    Calls Try.prog 21 #[.pointer (some ⟨b.m, 0, none⟩), .int .i64 x] w fun e w' => e = .returned (.int .i64 v) ∧ w = w' := by
  subst hx hv
  obtain ⟨O, h1, h2, h3⟩ := h
  obtain ⟨A, cap, l, k1, _⟩ := h1.ex
  exact steps_in b ⟨l, 2 * T.n, T.s⟩ j w k1.m hj
end
end Go.Proofs.Ytoajdknhllaoeaa
