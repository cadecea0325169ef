/-
  Scopes: what each call tells and does where its scope is found (walks).
-/
import Derived.Test.YtoajdknhllaoeaaSg
import Derived.Test.YtoajdknhllaoeaaAdd
import Derived.Test.YtoajdknhllaoeaaCalls
namespace Go.Proofs.Ytoajdknhllaoeaa
open Go.RowKit
set_option linter.unusedVariables false

section
variable {O : Nat → Prop} {b : MB} {tb : Nat} {T : Sc} (w : World)

set_option maxHeartbeats 400000 in
theorem slive_ok (x y : Int) (h0 : 0 ≤ y) (h1 : y ≤ 4000000) : Calls Try.prog 42 #[.agg #[.int .i64 x, .int .i64 y]] w fun e w' => e = .returned (.int .i64 (y + 1)) ∧ Fr (fun _ => False) w w' := by
  go_enter Try.func42, Try.ntmps42
  go_wp2_with fail
  go_ret
  exact ⟨rfl, Fr.alloc _ _ _⟩

set_option maxHeartbeats 400000 in
theorem sasked_ok (x y : Int) : Calls Try.prog 44 #[.agg #[.int .i64 x, .int .i64 y]] w fun e w' => e = .returned (.int .i64 y) ∧ Fr (fun _ => False) w w' := by
  go_enter Try.func44, Try.ntmps44
  go_wp2_with fail
  go_ret
  exact ⟨rfl, Fr.alloc _ _ _⟩

/-! ### The machine's calls -/

theorem tadd_ok (j k : Nat) (x y v : Int) (hx : x = j) (hy : y = ((2 * k + 1 : Nat) : Int)) (hj : j < T.s.length) (hk : k < T.n) (h : Trm w O b tb T) :
    Calls Try.prog 51 #[.pointer (some ⟨b.m, 0, none⟩), .int .i64 x, .int .i64 y, .int .i64 v] w fun e w' => e = .returned (.tuple #[.int .i64 (T.live k), .int .i64 0]) ∧ Trm w' O b tb ((T.step j).add k v) ∧ Fr O w w' := by
  subst hx hy
  obtain ⟨A, cap, l, h1, h2, h3, h4⟩ := h.ex
  refine (add_ok b ⟨l, 2 * T.n, T.s⟩ j (2 * k + 1) v w h1.m hj (show 2 * k + 1 < 2 * T.n by omega)).mono ?_
  rintro e w' ⟨rfl, hm, hF⟩
  have e1 : l.getD (2 * k + 1) 0 = T.live k := h1.c.liv k hk
  exact ⟨by rw [show (⟨l, 2 * T.n, T.s⟩ : Mach).all = l from rfl, e1], Trm.turn h.lt h1 h2 h3 h4 (T' := (T.step j).add k v) (l' := l.set (2 * k + 1) (wrap64 (T.live k + v))) (by rw [← e1]; exact hm) hF ((h1.c.step j).setLive hk v) rfl rfl rfl⟩

theorem tload_ask (j k : Nat) (x y : Int) (hx : x = j) (hy : y = ((2 * k : Nat) : Int)) (hj : j < T.s.length) (hk : k < T.n) (h : Trm w O b tb T) :
    Calls Try.prog 41 #[.pointer (some ⟨b.m, 0, none⟩), .int .i64 x, .int .i64 y] w fun e w' => e = .returned (.tuple #[.int .i64 (bI (T.asked k)), .int .i64 0]) ∧ Trm w' O b tb (T.step j) ∧ Fr O w w' := by
  subst hx hy
  obtain ⟨A, cap, l, h1, h2, h3, h4⟩ := h.ex
  refine (load_ok b ⟨l, 2 * T.n, T.s⟩ j (2 * k) w h1.m hj (show 2 * k < 2 * T.n by omega)).mono ?_
  rintro e w' ⟨rfl, hm, hF⟩
  exact ⟨by rw [show (⟨l, 2 * T.n, T.s⟩ : Mach).all = l from rfl, h1.c.ask k hk], Trm.turn h.lt h1 h2 h3 h4 (T' := T.step j) (l' := l) hm hF (h1.c.step j) rfl rfl rfl⟩

theorem tload_live (j k : Nat) (x y : Int) (hx : x = j) (hy : y = ((2 * k + 1 : Nat) : Int)) (hj : j < T.s.length) (hk : k < T.n) (h : Trm w O b tb T) :
    Calls Try.prog 41 #[.pointer (some ⟨b.m, 0, none⟩), .int .i64 x, .int .i64 y] w fun e w' => e = .returned (.tuple #[.int .i64 (T.live k), .int .i64 0]) ∧ Trm w' O b tb (T.step j) ∧ Fr O w w' := by
  subst hx hy
  obtain ⟨A, cap, l, h1, h2, h3, h4⟩ := h.ex
  refine (load_ok b ⟨l, 2 * T.n, T.s⟩ j (2 * k + 1) w h1.m hj (show 2 * k + 1 < 2 * T.n by omega)).mono ?_
  rintro e w' ⟨rfl, hm, hF⟩
  exact ⟨by rw [show (⟨l, 2 * T.n, T.s⟩ : Mach).all = l from rfl, h1.c.liv k hk], Trm.turn h.lt h1 h2 h3 h4 (T' := T.step j) (l' := l) hm hF (h1.c.step j) rfl rfl rfl⟩

theorem tcas_ok (j k : Nat) (x y : Int) (r : Bool) (hx : x = j) (hy : y = ((2 * k : Nat) : Int)) (hj : j < T.s.length) (hk : k < T.n) (h : Trm w O b tb T) (hr : (!T.asked k) = r) :
    Calls Try.prog 43 #[.pointer (some ⟨b.m, 0, none⟩), .int .i64 x, .int .i64 y, .int .i64 0, .int .i64 1] w fun e w' => e = .returned (.tuple #[.bool r, .int .i64 0]) ∧ Trm w' O b tb ((T.step j).ask k) ∧ Fr O w w' := by
  subst hx hy hr
  obtain ⟨A, cap, l, h1, h2, h3, h4⟩ := h.ex
  have e1 : l.getD (2 * k) 0 = bI (T.asked k) := h1.c.ask k hk
  cases ha : T.asked k with
  | false =>
    rw [ha] at e1
    refine (cas_yes b ⟨l, 2 * T.n, T.s⟩ j (2 * k) 0 1 w h1.m hj (show 2 * k < 2 * T.n by omega) e1).mono ?_
    rintro e w' ⟨rfl, hm, hF⟩
    exact ⟨rfl, Trm.turn h.lt h1 h2 h3 h4 (T' := (T.step j).ask k) (l' := l.set (2 * k) 1) hm hF ((h1.c.step j).setAsk hk) rfl rfl rfl⟩
  | true =>
    rw [ha] at e1
    refine (cas_not b ⟨l, 2 * T.n, T.s⟩ j (2 * k) 0 1 w h1.m hj (show 2 * k < 2 * T.n by omega) (by show l.getD (2 * k) 0 ≠ 0; rw [e1]; decide)).mono ?_
    rintro e w' ⟨rfl, hm, hF⟩
    exact ⟨rfl, Trm.turn h.lt h1 h2 h3 h4 (T' := (T.step j).ask k) (l' := l) hm hF ((h1.c.step j).same hk ha) rfl rfl rfl⟩

theorem tpeek_ask (k : Nat) (y : Int) (hy : y = ((2 * k : Nat) : Int)) (hk : k < T.n) (h : Trm w O b tb T) :
    Calls Try.prog 46 #[.pointer (some ⟨b.m, 0, none⟩), .int .i64 y] w fun e w' => e = .returned (.int .i64 (bI (T.asked k))) ∧ w = w' := by
  subst hy
  obtain ⟨A, cap, l, h1, h2, h3, h4⟩ := h.ex
  have := peek_in b ⟨l, 2 * T.n, T.s⟩ (2 * k) w h1.m (show 2 * k < 2 * T.n by omega)
  rw [show (⟨l, 2 * T.n, T.s⟩ : Mach).all = l from rfl, h1.c.ask k hk] at this
  exact this

theorem tpeek_live (k : Nat) (y : Int) (hy : y = ((2 * k + 1 : Nat) : Int)) (hk : k < T.n) (h : Trm w O b tb T) :
    Calls Try.prog 46 #[.pointer (some ⟨b.m, 0, none⟩), .int .i64 y] w fun e w' => e = .returned (.int .i64 (T.live k)) ∧ w = w' := by
  subst hy
  obtain ⟨A, cap, l, h1, h2, h3, h4⟩ := h.ex
  have := peek_in b ⟨l, 2 * T.n, T.s⟩ (2 * k + 1) w h1.m (show 2 * k + 1 < 2 * T.n by omega)
  rw [show (⟨l, 2 * T.n, T.s⟩ : Mach).all = l from rfl, h1.c.liv k hk] at this
  exact this

/-! ### Nobody who may ask -/

theorem tno_add (x y v : Int) (hx : x < 0 ∨ (T.s.length : Int) ≤ x) (h : Trm w O b tb T) :
    Calls Try.prog 51 #[.pointer (some ⟨b.m, 0, none⟩), .int .i64 x, .int .i64 y, .int .i64 v] w fun e w' => e = .returned (.tuple #[.int .i64 0, .int .i64 10]) ∧ Trm w' O b tb T ∧ Fr O w w' := by
  obtain ⟨A, cap, l, h1, h2, h3, h4⟩ := h.ex
  refine (add_who b ⟨l, 2 * T.n, T.s⟩ x y v w h1.m hx).mono ?_
  rintro e w' ⟨rfl, hm, hF⟩
  exact ⟨rfl, Trm.turn h.lt h1 h2 h3 h4 (T' := T) (l' := l) hm hF h1.c rfl rfl rfl⟩

theorem tno_load (x y : Int) (hx : x < 0 ∨ (T.s.length : Int) ≤ x) (h : Trm w O b tb T) :
    Calls Try.prog 41 #[.pointer (some ⟨b.m, 0, none⟩), .int .i64 x, .int .i64 y] w fun e w' => e = .returned (.tuple #[.int .i64 0, .int .i64 10]) ∧ Trm w' O b tb T ∧ Fr O w w' := by
  obtain ⟨A, cap, l, h1, h2, h3, h4⟩ := h.ex
  refine (load_who b ⟨l, 2 * T.n, T.s⟩ x y w h1.m hx).mono ?_
  rintro e w' ⟨rfl, hm⟩
  subst hm
  exact ⟨rfl, h, Fr.refl _ _⟩

theorem tno_cas (x y : Int) (hx : x < 0 ∨ (T.s.length : Int) ≤ x) (h : Trm w O b tb T) :
    Calls Try.prog 43 #[.pointer (some ⟨b.m, 0, none⟩), .int .i64 x, .int .i64 y, .int .i64 0, .int .i64 1] w fun e w' => e = .returned (.tuple #[.bool false, .int .i64 10]) ∧ Trm w' O b tb T ∧ Fr O w w' := by
  obtain ⟨A, cap, l, h1, h2, h3, h4⟩ := h.ex
  refine (cas_who b ⟨l, 2 * T.n, T.s⟩ x y 0 1 w h1.m hx).mono ?_
  rintro e w' ⟨rfl, hm⟩
  subst hm
  exact ⟨rfl, h, Fr.refl _ _⟩

set_option maxRecDepth 100000 in
set_option maxHeartbeats 1000000 in
theorem count_ok (j k : Nat) (x : Int) (hx : x = j) (hj : j < T.s.length) (hk : k < T.n) (v : Int) (HZ : T.z ≤ 4000000) (h : Trm w O b tb T) : Calls Try.prog 40 #[.pointer (some ⟨tb, 0, none⟩), .pointer (some ⟨b.m, 0, none⟩), .int .i64 x, .int .i64 k, .int .i64 v] w fun e w' => e = .returned (.tuple #[.int .i64 (T.live k), .int .i64 0]) ∧ Trm w' O b tb ((T.step j).add k v) ∧ Fr O w w' := by
  have HFI := hid (find_ok w k hk h)
  have HSA := hid (fun W => slive_ok W (pI T.par k) ((2 * k : Nat) : Int) (by omega) (by have := h.le; have := HZ; omega))
  have HM := hid (fun W (F : Fr (fun _ => False) w W) => tadd_ok W j k x _ v hx rfl hj hk (h.same F))
  obtain ⟨px, hpx⟩ : ∃ x, pI T.par k = x := ⟨_, rfl⟩
  obtain ⟨y, hy⟩ : ∃ y : Int, ((2 * k : Nat) : Int) = y := ⟨_, rfl⟩
  rw [hpx, hy] at HFI HSA
  rw [show ((2 * k + 1 : Nat) : Int) = y + 1 by omega] at HM
  clear h hpx hy hx hk hj
  go_enter Try.func40, Try.ntmps40
  go_wp2_with fail
  refine HFI.out.mono ?_
  rintro e w1 ⟨rfl, hF1⟩
  have HF1 := hid hF1
  clear hF1
  go_wp2_with fail
  refine (HSA.out _).mono ?_
  rintro e w2 ⟨rfl, hF2⟩
  have HF2 := hid (HF1.out.trans ((Fr.alloc _ _ _).trans hF2))
  clear hF2
  go_wp2_with fail
  refine (HM.out _ HF2.out).mono ?_
  rintro e w3 ⟨rfl, h3, hF3⟩
  go_wp2_with fail
  go_ret2
  exact ⟨rfl, h3, (HF2.out.mono (fun _ h => h.elim)).trans hF3⟩

set_option maxRecDepth 100000 in
set_option maxHeartbeats 1000000 in
theorem count_who (k : Nat) (x : Int) (hx : x < 0 ∨ (T.s.length : Int) ≤ x) (hk : k < T.n) (v : Int) (HZ : T.z ≤ 4000000) (h : Trm w O b tb T) : Calls Try.prog 40 #[.pointer (some ⟨tb, 0, none⟩), .pointer (some ⟨b.m, 0, none⟩), .int .i64 x, .int .i64 k, .int .i64 v] w fun e w' => e = .returned (.tuple #[.int .i64 0, .int .i64 10]) ∧ Trm w' O b tb T ∧ Fr O w w' := by
  have HFI := hid (find_ok w k hk h)
  have HSA := hid (fun W => slive_ok W (pI T.par k) ((2 * k : Nat) : Int) (by omega) (by have := h.le; have := HZ; omega))
  have HM := hid (fun W (F : Fr (fun _ => False) w W) => tno_add W x ((2 * k + 1 : Nat) : Int) v hx (h.same F))
  obtain ⟨px, hpx⟩ : ∃ x, pI T.par k = x := ⟨_, rfl⟩
  obtain ⟨y, hy⟩ : ∃ y : Int, ((2 * k : Nat) : Int) = y := ⟨_, rfl⟩
  rw [hpx, hy] at HFI HSA
  rw [show ((2 * k + 1 : Nat) : Int) = y + 1 by omega] at HM
  clear h hpx hy hx hk
  go_enter Try.func40, Try.ntmps40
  go_wp2_with fail
  refine HFI.out.mono ?_
  rintro e w1 ⟨rfl, hF1⟩
  have HF1 := hid hF1
  clear hF1
  go_wp2_with fail
  refine (HSA.out _).mono ?_
  rintro e w2 ⟨rfl, hF2⟩
  have HF2 := hid (HF1.out.trans ((Fr.alloc _ _ _).trans hF2))
  clear hF2
  go_wp2_with fail
  refine (HM.out _ HF2.out).mono ?_
  rintro e w3 ⟨rfl, h3, hF3⟩
  go_wp2_with fail
  go_ret2
  exact ⟨rfl, h3, (HF2.out.mono (fun _ h => h.elim)).trans hF3⟩

set_option maxRecDepth 100000 in
set_option maxHeartbeats 1000000 in
theorem live_ok (j k : Nat) (x : Int) (hx : x = j) (hj : j < T.s.length) (hk : k < T.n) (HZ : T.z ≤ 4000000) (h : Trm w O b tb T) : Calls Try.prog 18 #[.pointer (some ⟨tb, 0, none⟩), .pointer (some ⟨b.m, 0, none⟩), .int .i64 x, .int .i64 k] w fun e w' => e = .returned (.tuple #[.int .i64 (T.live k), .int .i64 0]) ∧ Trm w' O b tb (T.step j) ∧ Fr O w w' := by
  have HFI := hid (find_ok w k hk h)
  have HSA := hid (fun W => slive_ok W (pI T.par k) ((2 * k : Nat) : Int) (by omega) (by have := h.le; have := HZ; omega))
  have HM := hid (fun W (F : Fr (fun _ => False) w W) => tload_live W j k x _ hx rfl hj hk (h.same F))
  obtain ⟨px, hpx⟩ : ∃ x, pI T.par k = x := ⟨_, rfl⟩
  obtain ⟨y, hy⟩ : ∃ y : Int, ((2 * k : Nat) : Int) = y := ⟨_, rfl⟩
  rw [hpx, hy] at HFI HSA
  rw [show ((2 * k + 1 : Nat) : Int) = y + 1 by omega] at HM
  clear h hpx hy hx hk hj
  go_enter Try.func18, Try.ntmps18
  go_wp2_with fail
  refine HFI.out.mono ?_
  rintro e w1 ⟨rfl, hF1⟩
  have HF1 := hid hF1
  clear hF1
  go_wp2_with fail
  refine (HSA.out _).mono ?_
  rintro e w2 ⟨rfl, hF2⟩
  have HF2 := hid (HF1.out.trans ((Fr.alloc _ _ _).trans hF2))
  clear hF2
  go_wp2_with fail
  refine (HM.out _ HF2.out).mono ?_
  rintro e w3 ⟨rfl, h3, hF3⟩
  go_wp2_with fail
  go_ret2
  exact ⟨rfl, h3, (HF2.out.mono (fun _ h => h.elim)).trans hF3⟩

set_option maxRecDepth 100000 in
set_option maxHeartbeats 1000000 in
theorem live_who (k : Nat) (x : Int) (hx : x < 0 ∨ (T.s.length : Int) ≤ x) (hk : k < T.n) (HZ : T.z ≤ 4000000) (h : Trm w O b tb T) : Calls Try.prog 18 #[.pointer (some ⟨tb, 0, none⟩), .pointer (some ⟨b.m, 0, none⟩), .int .i64 x, .int .i64 k] w fun e w' => e = .returned (.tuple #[.int .i64 0, .int .i64 10]) ∧ Trm w' O b tb T ∧ Fr O w w' := by
  have HFI := hid (find_ok w k hk h)
  have HSA := hid (fun W => slive_ok W (pI T.par k) ((2 * k : Nat) : Int) (by omega) (by have := h.le; have := HZ; omega))
  have HM := hid (fun W (F : Fr (fun _ => False) w W) => tno_load W x ((2 * k + 1 : Nat) : Int) hx (h.same F))
  obtain ⟨px, hpx⟩ : ∃ x, pI T.par k = x := ⟨_, rfl⟩
  obtain ⟨y, hy⟩ : ∃ y : Int, ((2 * k : Nat) : Int) = y := ⟨_, rfl⟩
  rw [hpx, hy] at HFI HSA
  rw [show ((2 * k + 1 : Nat) : Int) = y + 1 by omega] at HM
  clear h hpx hy hx hk
  go_enter Try.func18, Try.ntmps18
  go_wp2_with fail
  refine HFI.out.mono ?_
  rintro e w1 ⟨rfl, hF1⟩
  have HF1 := hid hF1
  clear hF1
  go_wp2_with fail
  refine (HSA.out _).mono ?_
  rintro e w2 ⟨rfl, hF2⟩
  have HF2 := hid (HF1.out.trans ((Fr.alloc _ _ _).trans hF2))
  clear hF2
  go_wp2_with fail
  refine (HM.out _ HF2.out).mono ?_
  rintro e w3 ⟨rfl, h3, hF3⟩
  go_wp2_with fail
  go_ret2
  exact ⟨rfl, h3, (HF2.out.mono (fun _ h => h.elim)).trans hF3⟩

set_option maxRecDepth 100000 in
set_option maxHeartbeats 1000000 in
theorem ask_ok (j k : Nat) (x : Int) (hx : x = j) (hj : j < T.s.length) (hk : k < T.n) (r : Bool) (hr : (!T.asked k) = r) (h : Trm w O b tb T) : Calls Try.prog 19 #[.pointer (some ⟨tb, 0, none⟩), .pointer (some ⟨b.m, 0, none⟩), .int .i64 x, .int .i64 k] w fun e w' => e = .returned (.tuple #[.bool r, .int .i64 0]) ∧ Trm w' O b tb ((T.step j).ask k) ∧ Fr O w w' := by
  have HFI := hid (find_ok w k hk h)
  have HSA := hid (fun W => sasked_ok W (pI T.par k) ((2 * k : Nat) : Int))
  have HM := hid (fun W (F : Fr (fun _ => False) w W) => tcas_ok W j k x _ r hx rfl hj hk (h.same F) hr)
  obtain ⟨px, hpx⟩ : ∃ x, pI T.par k = x := ⟨_, rfl⟩
  obtain ⟨y, hy⟩ : ∃ y : Int, ((2 * k : Nat) : Int) = y := ⟨_, rfl⟩
  rw [hpx, hy] at HFI HSA
  rw [hy] at HM
  clear h hpx hy hx hk hj
  go_enter Try.func19, Try.ntmps19
  go_wp2_with fail
  refine HFI.out.mono ?_
  rintro e w1 ⟨rfl, hF1⟩
  have HF1 := hid hF1
  clear hF1
  go_wp2_with fail
  refine (HSA.out _).mono ?_
  rintro e w2 ⟨rfl, hF2⟩
  have HF2 := hid (HF1.out.trans ((Fr.alloc _ _ _).trans hF2))
  clear hF2
  go_wp2_with fail
  refine (HM.out _ HF2.out).mono ?_
  rintro e w3 ⟨rfl, h3, hF3⟩
  go_wp2_with fail
  go_ret2
  exact ⟨rfl, h3, (HF2.out.mono (fun _ h => h.elim)).trans hF3⟩

set_option maxRecDepth 100000 in
set_option maxHeartbeats 1000000 in
theorem ask_who (k : Nat) (x : Int) (hx : x < 0 ∨ (T.s.length : Int) ≤ x) (hk : k < T.n)  (h : Trm w O b tb T) : Calls Try.prog 19 #[.pointer (some ⟨tb, 0, none⟩), .pointer (some ⟨b.m, 0, none⟩), .int .i64 x, .int .i64 k] w fun e w' => e = .returned (.tuple #[.bool false, .int .i64 10]) ∧ Trm w' O b tb T ∧ Fr O w w' := by
  have HFI := hid (find_ok w k hk h)
  have HSA := hid (fun W => sasked_ok W (pI T.par k) ((2 * k : Nat) : Int))
  have HM := hid (fun W (F : Fr (fun _ => False) w W) => tno_cas W x ((2 * k : Nat) : Int) hx (h.same F))
  obtain ⟨px, hpx⟩ : ∃ x, pI T.par k = x := ⟨_, rfl⟩
  obtain ⟨y, hy⟩ : ∃ y : Int, ((2 * k : Nat) : Int) = y := ⟨_, rfl⟩
  rw [hpx, hy] at HFI HSA
  rw [hy] at HM
  clear h hpx hy hx hk
  go_enter Try.func19, Try.ntmps19
  go_wp2_with fail
  refine HFI.out.mono ?_
  rintro e w1 ⟨rfl, hF1⟩
  have HF1 := hid hF1
  clear hF1
  go_wp2_with fail
  refine (HSA.out _).mono ?_
  rintro e w2 ⟨rfl, hF2⟩
  have HF2 := hid (HF1.out.trans ((Fr.alloc _ _ _).trans hF2))
  clear hF2
  go_wp2_with fail
  refine (HM.out _ HF2.out).mono ?_
  rintro e w3 ⟨rfl, h3, hF3⟩
  go_wp2_with fail
  go_ret2
  exact ⟨rfl, h3, (HF2.out.mono (fun _ h => h.elim)).trans hF3⟩

set_option maxRecDepth 100000 in
set_option maxHeartbeats 1000000 in
theorem asked_ok (j k : Nat) (x : Int) (hx : x = j) (hj : j < T.s.length) (hk : k < T.n) (r : Bool) (hr : T.asked k = r)  (h : Trm w O b tb T) : Calls Try.prog 20 #[.pointer (some ⟨tb, 0, none⟩), .pointer (some ⟨b.m, 0, none⟩), .int .i64 x, .int .i64 k] w fun e w' => e = .returned (.tuple #[.bool r, .int .i64 0]) ∧ Trm w' O b tb (T.step j) ∧ Fr O w w' := by
  have HFI := hid (find_ok w k hk h)
  have HSA := hid (fun W => sasked_ok W (pI T.par k) ((2 * k : Nat) : Int))
  have HM := hid (fun W (F : Fr (fun _ => False) w W) => tload_ask W j k x _ hx rfl hj hk (h.same F))
  obtain ⟨px, hpx⟩ : ∃ x, pI T.par k = x := ⟨_, rfl⟩
  obtain ⟨y, hy⟩ : ∃ y : Int, ((2 * k : Nat) : Int) = y := ⟨_, rfl⟩
  rw [hpx, hy] at HFI HSA
  rw [hy] at HM
  have HB := hid (show (bI r != 0) = r from by cases r <;> rfl)
  rw [hr] at HM
  obtain ⟨q, hq⟩ : ∃ q, bI r = q := ⟨_, rfl⟩
  rw [hq] at HM HB
  have t9 : (q != 0) = r := HB.out
  clear hq
  clear h hpx hy hx hk hj
  go_enter Try.func20, Try.ntmps20
  go_wp2_with fail
  refine HFI.out.mono ?_
  rintro e w1 ⟨rfl, hF1⟩
  have HF1 := hid hF1
  clear hF1
  go_wp2_with fail
  refine (HSA.out _).mono ?_
  rintro e w2 ⟨rfl, hF2⟩
  have HF2 := hid (HF1.out.trans ((Fr.alloc _ _ _).trans hF2))
  clear hF2
  go_wp2_with fail
  refine (HM.out _ HF2.out).mono ?_
  rintro e w3 ⟨rfl, h3, hF3⟩
  go_wp2_with fail
  go_ret2
  exact ⟨rfl, h3, (HF2.out.mono (fun _ h => h.elim)).trans hF3⟩

set_option maxRecDepth 100000 in
set_option maxHeartbeats 1000000 in
theorem asked_who (k : Nat) (x : Int) (hx : x < 0 ∨ (T.s.length : Int) ≤ x) (hk : k < T.n)  (h : Trm w O b tb T) : Calls Try.prog 20 #[.pointer (some ⟨tb, 0, none⟩), .pointer (some ⟨b.m, 0, none⟩), .int .i64 x, .int .i64 k] w fun e w' => e = .returned (.tuple #[.bool false, .int .i64 10]) ∧ Trm w' O b tb T ∧ Fr O w w' := by
  have HFI := hid (find_ok w k hk h)
  have HSA := hid (fun W => sasked_ok W (pI T.par k) ((2 * k : Nat) : Int))
  have HM := hid (fun W (F : Fr (fun _ => False) w W) => tno_load W x ((2 * k : Nat) : Int) hx (h.same F))
  obtain ⟨px, hpx⟩ : ∃ x, pI T.par k = x := ⟨_, rfl⟩
  obtain ⟨y, hy⟩ : ∃ y : Int, ((2 * k : Nat) : Int) = y := ⟨_, rfl⟩
  rw [hpx, hy] at HFI HSA
  rw [hy] at HM
  clear h hpx hy hx hk
  go_enter Try.func20, Try.ntmps20
  go_wp2_with fail
  refine HFI.out.mono ?_
  rintro e w1 ⟨rfl, hF1⟩
  have HF1 := hid hF1
  clear hF1
  go_wp2_with fail
  refine (HSA.out _).mono ?_
  rintro e w2 ⟨rfl, hF2⟩
  have HF2 := hid (HF1.out.trans ((Fr.alloc _ _ _).trans hF2))
  clear hF2
  go_wp2_with fail
  refine (HM.out _ HF2.out).mono ?_
  rintro e w3 ⟨rfl, h3, hF3⟩
  go_wp2_with fail
  go_ret2
  exact ⟨rfl, h3, (HF2.out.mono (fun _ h => h.elim)).trans hF3⟩

set_option maxRecDepth 100000 in
set_option maxHeartbeats 1000000 in
theorem enter_ok (j k : Nat) (x : Int) (hx : x = j) (hj : j < T.s.length) (hk : k < T.n) (HZ : T.z ≤ 4000000) (h : Trm w O b tb T) : Calls Try.prog 16 #[.pointer (some ⟨tb, 0, none⟩), .pointer (some ⟨b.m, 0, none⟩), .int .i64 x, .int .i64 k] w fun e w' => e = .returned (.int .i64 0) ∧ Trm w' O b tb ((T.step j).add k 1) ∧ Fr O w w' := by
  have HC := hid (count_ok w j k x hx hj hk 1 HZ h)
  
  clear h hx hk hj
  go_enter Try.func16, Try.ntmps16
  go_wp2_with fail
  refine HC.out.mono ?_
  rintro e w3 ⟨rfl, h3, hF3⟩
  go_wp2_with fail
  go_ret
  exact ⟨rfl, h3, hF3⟩

set_option maxRecDepth 100000 in
set_option maxHeartbeats 1000000 in
theorem enter_who (k : Nat) (x : Int) (hx : x < 0 ∨ (T.s.length : Int) ≤ x) (hk : k < T.n) (HZ : T.z ≤ 4000000) (h : Trm w O b tb T) : Calls Try.prog 16 #[.pointer (some ⟨tb, 0, none⟩), .pointer (some ⟨b.m, 0, none⟩), .int .i64 x, .int .i64 k] w fun e w' => e = .returned (.int .i64 10) ∧ Trm w' O b tb T ∧ Fr O w w' := by
  have HC := hid (count_who w k x hx hk 1 HZ h)
  
  clear h hx hk
  go_enter Try.func16, Try.ntmps16
  go_wp2_with fail
  refine HC.out.mono ?_
  rintro e w3 ⟨rfl, h3, hF3⟩
  go_wp2_with fail
  go_ret
  exact ⟨rfl, h3, hF3⟩

set_option maxRecDepth 100000 in
set_option maxHeartbeats 1000000 in
theorem leave_ok (j k : Nat) (x : Int) (hx : x = j) (hj : j < T.s.length) (hk : k < T.n) (HZ : T.z ≤ 4000000) (r : Bool) (hr : (T.live k == 1) = r) (h : Trm w O b tb T) : Calls Try.prog 17 #[.pointer (some ⟨tb, 0, none⟩), .pointer (some ⟨b.m, 0, none⟩), .int .i64 x, .int .i64 k] w fun e w' => e = .returned (.tuple #[.bool r, .int .i64 0]) ∧ Trm w' O b tb ((T.step j).add k (-1)) ∧ Fr O w w' := by
  have HC := hid (count_ok w j k x hx hj hk (-1) HZ h)
  obtain ⟨q, hq⟩ : ∃ q, T.live k = q := ⟨_, rfl⟩
  rw [hq] at HC hr
  have t1 : (q == 1) = r := hr
  clear hq hr
  clear h hx hk hj
  go_enter Try.func17, Try.ntmps17
  go_wp2_with fail
  refine HC.out.mono ?_
  rintro e w3 ⟨rfl, h3, hF3⟩
  go_wp2_with fail
  go_ret2
  exact ⟨rfl, h3, hF3⟩

set_option maxRecDepth 100000 in
set_option maxHeartbeats 1000000 in
theorem leave_who (k : Nat) (x : Int) (hx : x < 0 ∨ (T.s.length : Int) ≤ x) (hk : k < T.n) (HZ : T.z ≤ 4000000) (h : Trm w O b tb T) : Calls Try.prog 17 #[.pointer (some ⟨tb, 0, none⟩), .pointer (some ⟨b.m, 0, none⟩), .int .i64 x, .int .i64 k] w fun e w' => e = .returned (.tuple #[.bool false, .int .i64 10]) ∧ Trm w' O b tb T ∧ Fr O w w' := by
  have HC := hid (count_who w k x hx hk (-1) HZ h)
  
  clear h hx hk
  go_enter Try.func17, Try.ntmps17
  go_wp2_with fail
  refine HC.out.mono ?_
  rintro e w3 ⟨rfl, h3, hF3⟩
  go_wp2_with fail
  go_ret2
  exact ⟨rfl, h3, hF3⟩

set_option maxRecDepth 100000 in
set_option maxHeartbeats 1000000 in
theorem peek_ok (k : Nat) (hk : k < T.n) (HZ : T.z ≤ 4000000) (r : Bool) (hr : T.asked k = r) (h : Trm w O b tb T) : Calls Try.prog 24 #[.pointer (some ⟨tb, 0, none⟩), .pointer (some ⟨b.m, 0, none⟩), .int .i64 k] w fun e w' => e = .returned (.tuple #[.bool r, .int .i64 (T.live k)]) ∧ Fr (fun _ => False) w w' := by
  have HFI := hid (find_ok w k hk h)
  have HSA := hid (fun W => sasked_ok W (pI T.par k) ((2 * k : Nat) : Int))
  have HSL := hid (fun W => slive_ok W (pI T.par k) ((2 * k : Nat) : Int) (by omega) (by have := h.le; omega))
  have HMA := hid (fun W (F : Fr (fun _ => False) w W) => tpeek_ask W k _ rfl hk (h.same F))
  have HML := hid (fun W (F : Fr (fun _ => False) w W) => tpeek_live W k _ rfl hk (h.same F))
  obtain ⟨px, hpx⟩ : ∃ x, pI T.par k = x := ⟨_, rfl⟩
  obtain ⟨y, hy⟩ : ∃ y : Int, ((2 * k : Nat) : Int) = y := ⟨_, rfl⟩
  obtain ⟨lv, hlv⟩ : ∃ x, T.live k = x := ⟨_, rfl⟩
  rw [hpx, hy] at HFI HSA HSL
  rw [hy] at HMA
  rw [show ((2 * k + 1 : Nat) : Int) = y + 1 by omega] at HML
  rw [hlv] at HML ⊢
  rw [hr] at HMA
  have HB := hid (show (bI r != 0) = r from by cases r <;> rfl)
  obtain ⟨q, hq⟩ : ∃ q, bI r = q := ⟨_, rfl⟩
  rw [hq] at HMA HB
  have t9 : (q != 0) = r := HB.out
  clear h hpx hy hq hlv hr
  go_enter Try.func24, Try.ntmps24
  go_wp2_with fail
  refine HFI.out.mono ?_
  rintro e w1 ⟨rfl, hF1⟩
  have HF1 := hid hF1
  clear hF1
  go_upto_region 4 with fail
  have hB := Blk.new w1 #[.int .i64 px, .int .i64 y] 83
  have hF2 := HF1.out.trans (Fr.alloc _ w1 (.cells #[.int .i64 px, .int .i64 y] 83))
  obtain ⟨w2, hw2⟩ : ∃ w2, w1.alloc (.cells #[.int .i64 px, .int .i64 y] 83) = w2 := ⟨_, rfl⟩
  rw [hw2] at hB hF2 ⊢
  clear hw2
  have HF2 := hid hF2
  have HB2 := hid hB
  clear hF2 hB
  have HFd := hid (Fr.refl (fun _ => False) w2)
  have HSS := hid (show ∀ W, Fr (fun _ => False) w2 W → W.cell? ⟨w1.heap.size, 0, none⟩ = some (.int .i64 px) ∧ W.cell? ⟨w1.heap.size, 1, none⟩ = some (.int .i64 y) from fun W F => ⟨(HB2.out.keep F id).cell rfl, (HB2.out.keep F id).cell rfl⟩)
  go_region_held3 (fun W => W.cell? ⟨w1.heap.size, 0, none⟩ = some (.int .i64 px) ∧ W.cell? ⟨w1.heap.size, 1, none⟩ = some (.int .i64 y))
    (first | exact HSS.out _ HFd.out | exact HSS.out _ (HFd.out.trans (Fr.drew _ _)))
    (first
      | (go_at_call 44; (with_reducible refine (HSA.out _).mono ?_); rintro e w6 ⟨rfl, hF6⟩; have HFd := hid (HFd.out.trans (show Fr (fun _ => False) _ w6 from by first | exact hF6 | exact (Fr.drew _ _).trans hF6)); clear hF6)
      | (go_at_call 42; (with_reducible refine (HSL.out _).mono ?_); rintro e w7 ⟨rfl, hF7⟩; have HFd := hid (HFd.out.trans (show Fr (fun _ => False) _ w7 from by first | exact hF7 | exact (Fr.drew _ _).trans hF7)); clear hF7)
      | (go_at_call 46; go_must (first
          | ((with_reducible refine (HMA.out _ (HF2.out.trans (by first | exact HFd.out | exact HFd.out.trans (Fr.drew _ _)))).mono ?_); rintro e w8 ⟨rfl, rfl⟩)
          | ((with_reducible refine (HML.out _ (HF2.out.trans (by first | exact HFd.out | exact HFd.out.trans (Fr.drew _ _)))).mono ?_); rintro e w9 ⟨rfl, rfl⟩))))
  all_goals
    go_wp2_with fail
    go_ret2
    exact ⟨rfl, HF2.out.trans (HFd.out.trans (by first | exact Fr.refl _ _ | exact Fr.drew _ _))⟩

end
end Go.Proofs.Ytoajdknhllaoeaa
