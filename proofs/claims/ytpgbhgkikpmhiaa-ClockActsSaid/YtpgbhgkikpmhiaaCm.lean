/-
  A clock: what Now, Len, Next, Set, Drop do (walks).
-/
import Derived.Test.YtpgbhgkikpmhiaaHf
import Derived.Deep.QuietTactic
import Derived.BigQuiet
namespace Go.Proofs.Ytpgbhgkikpmhiaa
open Go.RowKit
set_option linter.unusedVariables false

/-- A clock in memory, at c, with the deadlines T; O bears its blocks. -/
structure Ckm (w : World) (O : Nat → Prop) (c : Nat) (now : Int) (T : List Due) : Prop where
  ex : ∃ A cap b L, IsK w c now A cap b L ∧ Hp L.length L ∧ L.Perm T ∧ ∀ k, ownK c A b k → O k
  srt : Srt T
  lt : ∀ k, O k → k < w.heap.size

theorem Ckm.keep {w w' : World} {O : Nat → Prop} {c : Nat} {now : Int} {T : List Due} (h : Ckm w O c now T) {S : Nat → Prop} (f : Fr S w w') (hs : ∀ k, O k → ¬ S k) : Ckm w' O c now T := by
  obtain ⟨A, cap, b, L, h1, h2, h3, h4⟩ := h.ex
  exact ⟨⟨A, cap, b, L, h1.keep f (fun k hk => hs k (h4 k hk)), h2, h3, h4⟩, h.srt, fun k hk => Nat.lt_of_lt_of_le (h.lt k hk) f.size⟩

theorem Ckm.same {w w' : World} {O : Nat → Prop} {c : Nat} {now : Int} {T : List Due} (h : Ckm w O c now T) (f : Fr (fun _ => False) w w') : Ckm w' O c now T := h.keep f (fun _ _ hh => hh)

theorem Ckm.ids {w : World} {O : Nat → Prop} {c : Nat} {now : Int} {T : List Due} (h : Ckm w O c now T) : Ids T := by
  obtain ⟨A, cap, b, L, h1, h2, h3, h4⟩ := h.ex
  obtain ⟨m, hm, hP⟩ := h1.map
  exact hP.ids.perm h3

/-- What a call that turns a clock leaves. -/
def CkPost (O : Nat → Prop) (c : Nat) (now : Int) (T : List Due) (w w' : World) : Prop := ∃ O', Ckm w' O' c now T ∧ Fr O w w' ∧ ∀ k, O' k → O k ∨ w.heap.size ≤ k

def sum2 (a b : Int) : Int := a + b

section
variable {c : Nat} {now : Int} {O : Nat → Prop} {T : List Due} (w : World)

set_option maxHeartbeats 400000 in
theorem ck_now (h : Ckm w O c now T) : Calls Try.prog 21 #[.pointer (some ⟨c, 0, none⟩)] w fun e w' => e = .returned (.int .i64 now) ∧ w = w' := by
  obtain ⟨A, cap, b, L, h1, h2, h3, h4⟩ := h.ex
  have c0 := h1.c0
  clear h h1 h2 h3 h4
  go_enter Try.func21, Try.ntmps21
  go_wp2
  go_ret
  exact ⟨rfl, rfl⟩

set_option maxHeartbeats 400000 in
theorem ck_now_nil : Calls Try.prog 21 #[.pointer none] w fun e w' => e = .returned (.int .i64 0) ∧ w = w' := by
  go_enter Try.func21, Try.ntmps21
  go_wp2
  go_ret
  exact ⟨rfl, rfl⟩

set_option maxHeartbeats 400000 in
theorem ck_len (h : Ckm w O c now T) : Calls Try.prog 22 #[.pointer (some ⟨c, 0, none⟩)] w fun e w' => e = .returned (.int .i64 T.length) ∧ w = w' := by
  obtain ⟨A, cap, b, L, h1, h2, h3, h4⟩ := h.ex
  have HL := hid (ln_len w h1)
  have hl := h1.hc.lt
  rw [h3.length_eq] at HL
  have c0 := h1.c0
  clear h h1 h2 h3 h4
  go_enter Try.func22, Try.ntmps22
  go_wp2_with fail
  refine HL.out.mono ?_
  rintro e w1 ⟨rfl, rfl⟩
  go_wp2_with fail
  go_ret
  exact ⟨rfl, rfl⟩

set_option maxHeartbeats 400000 in
theorem ck_len_nil : Calls Try.prog 22 #[.pointer none] w fun e w' => e = .returned (.int .i64 0) ∧ w = w' := by
  go_enter Try.func22, Try.ntmps22
  go_wp2
  go_ret
  exact ⟨rfl, rfl⟩

set_option maxHeartbeats 400000 in
theorem ck_next_nil : Calls Try.prog 18 #[.pointer none] w fun e w' => e = .returned (.tuple #[.int .i64 0, .int .i64 0, .bool false]) ∧ w = w' := by
  go_enter Try.func18, Try.ntmps18
  go_wp2_with fail
  refine (ck_len_nil w).mono ?_
  rintro e w1 ⟨rfl, rfl⟩
  go_wp2_with fail
  refine bodyPost_ret (results_tmp3 rfl _ _ _) rfl ?_
  exact ⟨rfl, rfl⟩

set_option maxHeartbeats 400000 in
theorem ck_next_none (h : Ckm w O c now []) : Calls Try.prog 18 #[.pointer (some ⟨c, 0, none⟩)] w fun e w' => e = .returned (.tuple #[.int .i64 0, .int .i64 0, .bool false]) ∧ w = w' := by
  have HL := hid (ck_len w h)
  clear h
  go_enter Try.func18, Try.ntmps18
  go_wp2_with fail
  refine HL.out.mono ?_
  rintro e w1 ⟨rfl, rfl⟩
  go_wp2_with fail
  refine bodyPost_ret (results_tmp3 rfl _ _ _) rfl ?_
  exact ⟨rfl, rfl⟩

set_option maxRecDepth 100000 in
set_option maxHeartbeats 800000 in
theorem ck_next_some (x : Due) (h : Ckm w O c now (x :: T)) : Calls Try.prog 18 #[.pointer (some ⟨c, 0, none⟩)] w fun e w' => e = .returned (.tuple #[.int .i64 x.1, .int .i64 x.2, .bool true]) ∧ Fr (fun _ => False) w w' := by
  have HL := hid (ck_len w h)
  obtain ⟨A, cap, b, L, h1, h2, h3, h4⟩ := h.ex
  have hx := head_is h2 h3 h.srt
  have hlen : 0 < L.length := by rw [h3.length_eq]; simp
  have c1 := h1.c1
  obtain ⟨g, rfl, hg, hcap, hG⟩ := h1.gt hlen
  obtain ⟨x1, y1, -, -⟩ := hG w (fun _ => False) (Fr.refl _ _) id 0 hlen
  rw [hx] at x1 y1
  simp only [Nat.zero_mul, Nat.zero_add] at x1 y1
  obtain ⟨n, hn⟩ : ∃ n, L.length = n := ⟨_, rfl⟩
  rw [h3.length_eq] at hn
  rw [h3.length_eq, hn] at c1 hcap hlen
  rw [hn] at HL
  obtain ⟨a, i⟩ := x
  simp only at x1 y1 ⊢
  have t0 : ((n : Int) == 0) = false := by simp; omega
  have t1 : (0 : Int) < (n : Int) := by omega
  have hl := h1.hc.lt
  clear h h1 h2 h3 h4 hx hG hn
  go_enter Try.func18, Try.ntmps18
  go_wp2_with fail
  refine HL.out.mono ?_
  rintro e w1 ⟨rfl, rfl⟩
  go_upto_region 4 with fail
  have hB := Blk.new w #[.int .i64 a, .int .i64 i] 64
  have HF := hid (Fr.alloc (fun _ => False) w (.cells #[.int .i64 a, .int .i64 i] 64))
  obtain ⟨w2, hw2⟩ : ∃ w2, w.alloc (.cells #[.int .i64 a, .int .i64 i] 64) = w2 := ⟨_, rfl⟩
  rw [hw2] at hB HF ⊢
  have b0 := hB.cell (i := 0) rfl
  have b1 := hB.cell (i := 1) rfl
  simp only [List.getElem_toArray, List.getElem_cons_zero, List.getElem_cons_succ] at b0 b1
  clear hw2 hB
  go_region
  go_wp2_with fail
  refine bodyPost_ret (results_tmp3 rfl _ _ _) rfl ?_
  exact ⟨rfl, HF.out.trans (Fr.drew _ _)⟩
end
end Go.Proofs.Ytpgbhgkikpmhiaa
