/-
  Scopes: Open, New (walks).
-/
import Derived.Test.YtoajdknhllaoeaaGro
namespace Go.Proofs.Ytoajdknhllaoeaa
open Go.RowKit
set_option linter.unusedVariables false

/-- What a call that may make the row anew leaves. -/
def TrPost (O : Nat → Prop) (b : MB) (tb : Nat) (T : Sc) (w w' : World) : Prop := ∃ O', Trm w' O' b tb T ∧ Fr O w w' ∧ ∀ k, O' k → O k ∨ w.heap.size ≤ k

theorem Trm.post {w w' : World} {O : Nat → Prop} {b : MB} {tb : Nat} {T : Sc} (h : Trm w' O b tb T) (F : Fr O w w') : TrPost O b tb T w w' := ⟨O, h, F, fun k hk => .inl hk⟩

section
variable {O : Nat → Prop} {b : MB} {tb : Nat} {T : Sc} (w : World)

theorem grow_ok (j p : Nat) (x y : Int) (hx : x = j) (hy : y = p) (hj : j < T.s.length) (hp : p < T.n) (hz : 2 * T.n + 2 ≤ T.z) (h : Trm w O b tb T) :
    Calls Try.prog 38 #[.pointer (some ⟨tb, 0, none⟩), .pointer (some ⟨b.m, 0, none⟩), .int .i64 x, .int .i64 y] w fun e w' => e = .returned (.tuple #[.int .i64 (T.n : Nat), .int .i64 0]) ∧ TrPost O b tb ((T.step j).opn p) w w' := by
  subst hy
  have hs := h.small
  have hlt := h.lt
  obtain ⟨A, cap, l, h1, h2, h3, h4⟩ := h.ex
  have hlen := h1.c.len
  refine (grow_raw w A cap l (2 * T.n) T.n T.s (tv T.par T.n) j x (p : Nat) hx hj (by omega) (by omega) h1.m h1.t h1.r h1.bt h1.ar).mono ?_
  rintro e w' ⟨rfl, A', cap', k1, k2, k3, k4, k5⟩
  have hfree : ∀ i, 2 * T.n ≤ i → l.getD i 0 = 0 := h1.m.free
  refine ⟨rfl, fun k => b.own k ∨ k = tb ∨ ownB A' k, ⟨⟨A', cap', l, ⟨k1, k2, ?_, (h1.c.step j).opn p hz hfree, (h1.ok.step j).opn hp, h1.bt, ?_⟩, fun k hk => .inl hk, .inr (.inl rfl), fun k hk => .inr (.inr hk)⟩, ?_⟩, k4.mono ?_, ?_⟩
  · exact OwnR.eq k3 (tv_opn (T.step j) h1.ok.pos).symm
  · intro k hk hb
    rcases k5 k hk with h6 | h6
    · exact h1.ar k h6 hb
    · have := hlt k (h2 k hb); omega
  · rintro k (hk | rfl | hk)
    · exact Nat.lt_of_lt_of_le (hlt k (h2 k hk)) k4.size
    · exact k2.lt
    · exact (OwnR.lt k3 k hk).2
  · rintro k (hk | rfl | hk)
    · exact h2 k hk
    · exact h3
    · exact h4 k hk
  · rintro k (hk | rfl | hk)
    · exact .inl (h2 k hk)
    · exact .inl h3
    · exact (k5 k hk).imp_left (h4 k)

/-- A growing that the machine refuses. -/
theorem grow_err (tb : Nat) (mv : Value) (x y er : Int) (her : er ≠ 0) (Z : World → Prop) (h : Calls Try.prog 50 #[mv, .int .i64 x, .int .i64 2] w fun e w' => e = .returned (.tuple #[.int .i64 0, .int .i64 er]) ∧ Z w') :
    Calls Try.prog 38 #[.pointer (some ⟨tb, 0, none⟩), mv, .int .i64 x, .int .i64 y] w fun e w' => e = .returned (.tuple #[.int .i64 0, .int .i64 er]) ∧ Z w' := by
  have HH := hid h
  have t1 : (er != 0) = true := by simpa using her
  clear h her
  go_enter Try.func38, Try.ntmps38
  go_wp2_with fail
  refine HH.out.mono ?_
  rintro e w1 ⟨rfl, hz⟩
  go_wp2_with fail
  go_ret2
  exact ⟨rfl, hz⟩

theorem grow_who (x y : Int) (hx : x < 0 ∨ (T.s.length : Int) ≤ x) (h : Trm w O b tb T) :
    Calls Try.prog 38 #[.pointer (some ⟨tb, 0, none⟩), .pointer (some ⟨b.m, 0, none⟩), .int .i64 x, .int .i64 y] w fun e w' => e = .returned (.tuple #[.int .i64 0, .int .i64 10]) ∧ Trm w' O b tb T ∧ Fr O w w' := by
  obtain ⟨A, cap, l, h1, h2, h3, h4⟩ := h.ex
  exact grow_err w tb _ x y 10 (by decide) _ ((alloc_who b ⟨l, 2 * T.n, T.s⟩ x 2 w h1.m hx).mono fun e w' ⟨he, hw⟩ => ⟨he, hw ▸ ⟨h, Fr.refl _ _⟩⟩)

theorem grow_full (j : Nat) (x y : Int) (hx : x = j) (hj : j < T.s.length) (hz : T.z < 2 * T.n + 2) (h : Trm w O b tb T) :
    Calls Try.prog 38 #[.pointer (some ⟨tb, 0, none⟩), .pointer (some ⟨b.m, 0, none⟩), .int .i64 x, .int .i64 y] w fun e w' => e = .returned (.tuple #[.int .i64 0, .int .i64 21]) ∧ Trm w' O b tb T ∧ Fr O w w' := by
  subst hx
  obtain ⟨A, cap, l, h1, h2, h3, h4⟩ := h.ex
  have hlen := h1.c.len
  refine grow_err w tb _ _ y 21 (by decide) _ ((alloc_full b ⟨l, 2 * T.n, T.s⟩ j 2 w h1.m hj (by omega) (by show (l.length : Int) - (2 * T.n : Nat) < 2; omega)).mono ?_)
  rintro e w' ⟨he, hm, hF⟩
  exact ⟨he, Trm.turn h.lt h1 h2 h3 h4 (T' := T) (l' := l) hm hF h1.c rfl rfl rfl⟩

set_option maxRecDepth 100000 in
set_option maxHeartbeats 1000000 in
theorem open_any (p : Nat) (x v er : Int) (Z : World → Prop) (hp : p < T.n) (hd : T.nst p ≠ 32) (h : Trm w O b tb T)
    (hg : ∀ W, Fr (fun _ => False) w W → Calls Try.prog 38 #[.pointer (some ⟨tb, 0, none⟩), .pointer (some ⟨b.m, 0, none⟩), .int .i64 x, .int .i64 (p : Nat)] W fun e w' => e = .returned (.tuple #[.int .i64 v, .int .i64 er]) ∧ Z w') :
    Calls Try.prog 14 #[.pointer (some ⟨tb, 0, none⟩), .pointer (some ⟨b.m, 0, none⟩), .int .i64 x, .int .i64 p] w fun e w' => e = .returned (.tuple #[.int .i64 v, .int .i64 er]) ∧ Z w' := by
  have HFI := hid (find_ok w p hp h)
  have HNS := hid (fun (W : World) (F : Fr (fun _ => False) w W) => nest_ok W p hp (h.same F))
  have HG := hid hg
  obtain ⟨q, hq⟩ : ∃ q, T.nst p = q := ⟨_, rfl⟩
  rw [hq] at HNS hd
  obtain ⟨px, hpx⟩ : ∃ x, pI T.par p = x := ⟨_, rfl⟩
  obtain ⟨y, hy⟩ : ∃ y : Int, ((2 * p : Nat) : Int) = y := ⟨_, rfl⟩
  rw [hpx, hy] at HFI
  have t1 : ((q : Int) == 32) = false := by simp; omega
  clear h hg hp hq hpx hy hd
  go_enter Try.func14, Try.ntmps14
  go_wp2_with fail
  refine HFI.out.mono ?_
  rintro e w1 ⟨rfl, hF1⟩
  have HF1 := hid (hF1.trans (Fr.alloc _ w1 (.cells #[.int .i64 px, .int .i64 y] 83)))
  clear hF1
  go_wp2_with fail
  refine (HNS.out _ HF1.out).mono ?_
  rintro e w2 ⟨rfl, hF2⟩
  have HF2 := hid (HF1.out.trans hF2)
  clear hF2
  go_wp2_with fail
  refine (HG.out _ HF2.out).mono ?_
  rintro e w3 ⟨rfl, hz⟩
  go_wp2_with fail
  go_ret2
  exact ⟨rfl, hz⟩

set_option maxRecDepth 100000 in
set_option maxHeartbeats 1000000 in
theorem open_deep (p : Nat) (x : Int) (hp : p < T.n) (hd : T.nst p = 32) (h : Trm w O b tb T) :
    Calls Try.prog 14 #[.pointer (some ⟨tb, 0, none⟩), .pointer (some ⟨b.m, 0, none⟩), .int .i64 x, .int .i64 p] w fun e w' => e = .returned (.tuple #[.int .i64 0, .int .i64 23]) ∧ Fr (fun _ => False) w w' := by
  have HFI := hid (find_ok w p hp h)
  have HNS := hid (fun (W : World) (F : Fr (fun _ => False) w W) => nest_ok W p hp (h.same F))
  rw [hd] at HNS
  obtain ⟨px, hpx⟩ : ∃ x, pI T.par p = x := ⟨_, rfl⟩
  obtain ⟨y, hy⟩ : ∃ y : Int, ((2 * p : Nat) : Int) = y := ⟨_, rfl⟩
  rw [hpx, hy] at HFI
  clear h hp hpx hy hd
  go_enter Try.func14, Try.ntmps14
  go_wp2_with fail
  refine HFI.out.mono ?_
  rintro e w1 ⟨rfl, hF1⟩
  have HF1 := hid (hF1.trans (Fr.alloc _ w1 (.cells #[.int .i64 px, .int .i64 y] 83)))
  clear hF1
  go_wp2_with fail
  refine (HNS.out _ HF1.out).mono ?_
  rintro e w2 ⟨rfl, hF2⟩
  have HF2 := hid (HF1.out.trans hF2)
  clear hF2
  go_wp2_with fail
  go_ret2
  exact ⟨rfl, HF2.out⟩

theorem TrPost.older {w1 w' : World} (h : TrPost O b tb T w1 w') (F : Fr (fun _ => False) w w1) : TrPost O b tb T w w' := by
  obtain ⟨O', h1, h2, h3⟩ := h
  exact ⟨O', h1, (F.mono (fun _ h => h.elim)).trans h2, fun k hk => (h3 k hk).imp_right (fun h => by have := F.size; omega)⟩

theorem open_ok (j p : Nat) (x : Int) (hx : x = j) (hj : j < T.s.length) (hp : p < T.n) (hd : T.nst p ≠ 32) (hz : 2 * T.n + 2 ≤ T.z) (h : Trm w O b tb T) :
    Calls Try.prog 14 #[.pointer (some ⟨tb, 0, none⟩), .pointer (some ⟨b.m, 0, none⟩), .int .i64 x, .int .i64 p] w fun e w' => e = .returned (.tuple #[.int .i64 (T.n : Nat), .int .i64 0]) ∧ TrPost O b tb ((T.step j).opn p) w w' :=
  open_any w p x _ 0 (fun w' => TrPost O b tb ((T.step j).opn p) w w') hp hd h fun W F => (grow_ok W j p x _ hx rfl hj hp hz (h.same F)).mono fun e w' ⟨he, hz⟩ => ⟨he, hz.older w F⟩

theorem open_who (p : Nat) (x : Int) (hx : x < 0 ∨ (T.s.length : Int) ≤ x) (hp : p < T.n) (hd : T.nst p ≠ 32) (h : Trm w O b tb T) :
    Calls Try.prog 14 #[.pointer (some ⟨tb, 0, none⟩), .pointer (some ⟨b.m, 0, none⟩), .int .i64 x, .int .i64 p] w fun e w' => e = .returned (.tuple #[.int .i64 0, .int .i64 10]) ∧ Trm w' O b tb T ∧ Fr O w w' :=
  open_any w p x _ 10 (fun w' => Trm w' O b tb T ∧ Fr O w w') hp hd h fun W F => (grow_who W x _ hx (h.same F)).mono fun e w' ⟨he, hz, hF⟩ => ⟨he, hz, (F.mono (fun _ h => h.elim)).trans hF⟩

theorem open_full (j p : Nat) (x : Int) (hx : x = j) (hj : j < T.s.length) (hp : p < T.n) (hd : T.nst p ≠ 32) (hz : T.z < 2 * T.n + 2) (h : Trm w O b tb T) :
    Calls Try.prog 14 #[.pointer (some ⟨tb, 0, none⟩), .pointer (some ⟨b.m, 0, none⟩), .int .i64 x, .int .i64 p] w fun e w' => e = .returned (.tuple #[.int .i64 0, .int .i64 21]) ∧ Trm w' O b tb T ∧ Fr O w w' :=
  open_any w p x _ 21 (fun w' => Trm w' O b tb T ∧ Fr O w w') hp hd h fun W F => (grow_full W j x _ hx hj hz (h.same F)).mono fun e w' ⟨he, hz, hF⟩ => ⟨he, hz, (F.mono (fun _ h => h.elim)).trans hF⟩
end

/-- A tree of the world alone. -/
def scT (z : Nat) (s : List Int) : Sc := ⟨z, s, 1, fun _ => 0, fun _ => 0, fun _ => false, fun _ => 0⟩

theorem scT_ok (z : Nat) (s : List Int) : (scT z s).ok := ⟨by show 0 < 1; omega, fun k h1 h2 => by have h3 : k < 1 := h2; omega, rfl, fun k h1 h2 => by have h3 : k < 1 := h2; omega⟩

section
variable {b : MB} (w : World)

set_option maxRecDepth 100000 in
set_option maxHeartbeats 1000000 in
theorem new_tree (l s : List Int) (j : Nat) (x : Int) (hx : x = j) (hj : j < s.length) (hz : 2 ≤ l.length) (hm : IsM w b ⟨l, 0, s⟩) :
    Calls Try.prog 11 #[.pointer (some ⟨b.m, 0, none⟩), .int .i64 x] w fun e w' => ∃ tb O, e = .returned (.tuple #[.pointer (some ⟨tb, 0, none⟩), .int .i64 0]) ∧ Trm w' O b tb (scT l.length (stp s j)) ∧ Fr b.own w w' ∧ ∀ k, O k → b.own k ∨ w.heap.size ≤ k := by
  have hF0 := Fr.alloc (fun _ => False) w (.cells #[.slice none 0 0] 81)
  have hT0 := TBlk.new w #[.slice none 0 0] 81
  have hlt := hm.own_lt
  have hfree : ∀ i, 0 ≤ i → l.getD i 0 = 0 := hm.free
  have HG := hid (grow_raw (b := b) (tb := w.heap.size) (w.alloc (.cells #[.slice none 0 0] 81)) none 0 l 0 0 s [] j x (-1) hx hj (by omega) (by omega) (hm.same hF0) hT0 (OwnR.nil _ _ _ _) (fun h => by have := hlt _ h; omega) (by rintro k ⟨a, ha, _⟩; cases ha))
  have HL := hid hlt
  have HFR := hid hfree
  have HZ := hid hz
  clear hT0 hm hlt hfree hx hj hz
  go_enter Try.func11, Try.ntmps11
  go_wp2_with fail
  refine HG.out.mono ?_
  rintro e w1 ⟨rfl, A', cap', k1, k2, k3, k4, k5⟩
  have H1 := hid k1
  have H2 := hid k2
  have H3 := hid k3
  have H4 := hid k4
  have H5 := hid k5
  clear k1 k2 k3 k4 k5
  go_wp2_with fail
  go_ret2
  have hlo : ∀ k, ownB A' k → w.heap.size + 1 ≤ k := by
    intro k hk
    rcases H5.out k hk with ⟨a, ha, _⟩ | h
    · cases ha
    · simpa using h
  refine ⟨w.heap.size, fun k => b.own k ∨ k = w.heap.size ∨ ownB A' k, rfl, ⟨⟨A', cap', l, ⟨H1.out, H2.out, OwnR.eq H3.out rfl, ⟨rfl, HZ.out, fun k hk => HFR.out _ (Nat.zero_le _), fun k hk => HFR.out _ (Nat.zero_le _)⟩, scT_ok _ _, fun h => by have := HL.out _ h; omega, fun k hk hb => by have := HL.out _ hb; have := hlo k hk; omega⟩, fun k hk => .inl hk, .inr (.inl rfl), fun k hk => .inr (.inr hk)⟩, ?_⟩, ?_, ?_⟩
  · rintro k (hk | rfl | hk)
    · have := HL.out k hk; have := H4.out.size; simp at this; omega
    · exact H2.out.lt
    · exact (OwnR.lt H3.out k hk).2
  · refine ((Fr.alloc b.own w (.cells #[.slice none 0 0] 81))).since H4.out ?_
    rintro i (hi | rfl | ⟨a, ha, _⟩) hl
    · exact hi
    · omega
    · cases ha
  · rintro k (hk | rfl | hk)
    · exact .inl hk
    · exact .inr (Nat.le_refl _)
    · exact .inr (by have := hlo k hk; omega)

set_option maxRecDepth 100000 in
set_option maxHeartbeats 1000000 in
theorem new_tree_err (mv : Value) (x er : Int) (her : er ≠ 0) (Z : World → Prop) (h : Calls Try.prog 50 #[mv, .int .i64 x, .int .i64 2] (w.alloc (.cells #[.slice none 0 0] 81)) fun e w' => e = .returned (.tuple #[.int .i64 0, .int .i64 er]) ∧ Z w') :
    Calls Try.prog 11 #[mv, .int .i64 x] w fun e w' => e = .returned (.tuple #[.pointer none, .int .i64 er]) ∧ Z w' := by
  have HG := hid (grow_err _ w.heap.size mv x (-1) er her Z h)
  have t1 : (er != 0) = true := by simpa using her
  clear h her
  go_enter Try.func11, Try.ntmps11
  go_wp2_with fail
  refine HG.out.mono ?_
  rintro e w1 ⟨rfl, hz⟩
  go_wp2_with fail
  go_ret2
  exact ⟨rfl, hz⟩

theorem new_tree_nil (x : Int) : Calls Try.prog 11 #[.pointer none, .int .i64 x] w fun e w' => e = .returned (.tuple #[.pointer none, .int .i64 2]) ∧ Fr (fun _ => False) w w' :=
  new_tree_err w _ x 2 (by decide) (fun w' => Fr (fun _ => False) w w') ((alloc_nil x 2 _).mono fun e w' ⟨he, hw⟩ => ⟨he, hw ▸ Fr.alloc _ _ _⟩)

theorem new_tree_full (l s : List Int) (j : Nat) (x : Int) (hx : x = j) (hj : j < s.length) (hz : l.length < 2) (hm : IsM w b ⟨l, 0, s⟩) :
    Calls Try.prog 11 #[.pointer (some ⟨b.m, 0, none⟩), .int .i64 x] w fun e w' => e = .returned (.tuple #[.pointer none, .int .i64 21]) ∧ Fr b.own w w' := by
  subst hx
  refine new_tree_err w _ _ 21 (by decide) (fun w' => Fr b.own w w') ((alloc_full b ⟨l, 0, s⟩ j 2 _ (hm.same (Fr.alloc _ _ _)) hj (by omega) (by show (l.length : Int) - (0 : Nat) < 2; omega)).mono ?_)
  rintro e w' ⟨he, _, hF⟩
  exact ⟨he, (Fr.alloc _ _ _).trans hF⟩
end
end Go.Proofs.Ytoajdknhllaoeaa
