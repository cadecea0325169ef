/-
  The chapter's example (walk).
-/
import Derived.Test.YtoajdknhllaoeaaOw
namespace Go.Proofs.Ytoajdknhllaoeaa
open Go.RowKit
set_option linter.unusedVariables false

theorem new_mk (n k : Nat) (x y : Int) (hx : x = n) (hy : y = k) (w : World) (h1 : 1 ≤ n) (h2 : n ≤ 1048576) (h3 : 1 ≤ k) (h4 : k ≤ 16) :
    Calls Try.prog 10 #[.int .i64 x, .int .i64 y] w fun e w' => ∃ b : MB, e = .returned (.tuple #[.pointer (some ⟨b.m, 0, none⟩), .int .i64 0]) ∧ IsM w' b ⟨List.replicate n 0, 0, List.replicate (k + 1) 0⟩ ∧ Fr (fun _ => False) w w' ∧ ∀ i, b.own i → w.heap.size ≤ i := by
  subst hx hy
  exact new_ok n k w h1 h2 h3 h4

/-- A tree on a machine of one's own. -/
theorem ow_new (w0 : World) (b : MB) (z c : Nat) (j : Nat) (x : Int) (w : World) (hx : x = j) (hj : j < c) (hz : 2 ≤ z) (hm : IsM w b ⟨List.replicate z 0, 0, List.replicate c 0⟩) (hF : Fr (fun _ => False) w0 w) (hlo : ∀ i, b.own i → w0.heap.size ≤ i) :
    Calls Try.prog 11 #[.pointer (some ⟨b.m, 0, none⟩), .int .i64 x] w fun e w' => ∃ tb, e = .returned (.tuple #[.pointer (some ⟨tb, 0, none⟩), .int .i64 0]) ∧ OwnT w0 w' b tb (scT z (stp (List.replicate c 0) j)) := by
  refine (new_tree w _ _ j x hx (by simpa using hj) (by simpa using hz) hm).mono ?_
  rintro e w' ⟨tb, O, he, hT, hF2, hl⟩
  rw [List.length_replicate] at hT
  refine ⟨tb, he, O, hT, fun k hk => ?_, hF.since hF2 (fun i hi hl => by have := hlo i hi; omega)⟩
  rcases hl k hk with h | h
  · exact hlo k h
  · have := hF.size; omega

section
variable {w0 : World} {b : MB} {tb : Nat} {T : Sc} (w : World)

def LoRel (w0 : World) (b : MB) (tb : Nat) (T : Sc) (lb k p : Nat) (d : Nat) (z : Value) (wr : World) : Prop :=
  (d = 2 ∧ z = .int .i64 1 ∧ OwnL w0 wr b tb T lb k false) ∨ (d = 1 ∧ z = .int .i64 2 ∧ OwnL w0 wr b tb (T.step 0) lb p false)

set_option maxRecDepth 100000 in
set_option maxHeartbeats 2000000 in
theorem looks_ok (k p : Nat) (y : Int) (want : Bool) (hy : y = k) (h0 : 0 < T.s.length) (hk : k < T.n) (hp : p < T.n) (ha : T.asked k = false) (hpp : pI T.par k = p) (hw : T.asked p = want) (hr : want = true ∨ pI T.par p = -1) (h : OwnT w0 w b tb T) :
    Calls Try.prog 37 #[.pointer (some ⟨tb, 0, none⟩), .pointer (some ⟨b.m, 0, none⟩), .int .i64 y, .int .i64 2, .bool want] w fun e w' => e = .returned (.bool true) ∧ OwnT w0 w' b tb ((T.step 0).step 0) := by
  have HLK := hid (ow_look w k y hy hk h)
  have HN := hid (fun (W : World) lb (hL : OwnL w0 W b tb T lb k false) => ol_not W 0 k false 0 p false rfl h0 hk ha hpp (by simp) hL)
  have HLS := hid (show ∀ (W : World) lb, OwnL w0 W b tb (T.step 0) lb p false → Calls Try.prog 34 #[.pointer (some ⟨lb, 0, none⟩), .pointer (some ⟨b.m, 0, none⟩), .int .i64 0] W fun e w' => e = .returned (.tuple #[.bool true, .bool want, .int .i64 0]) ∧ OwnT w0 w' b tb ((T.step 0).step 0) from by
    intro W lb hL
    have hl : 0 < (T.step 0).s.length := by show 0 < (stp T.s 0).length; rw [stp_len]; exact h0
    cases want with
    | true => exact (ol_yes W 0 p false 0 0 rfl hl hp hw hL).mono fun e w' ⟨he, hh⟩ => ⟨he, hh.tree⟩
    | false => exact (ol_not W 0 p false 0 (-1) true rfl hl hp hw (by rcases hr with h | h; cases h; exact h) (by decide) hL).mono fun e w' ⟨he, hh⟩ => ⟨he, hh.tree⟩)
  have t5 : (want == want) = true := by simp
  clear h hk hp ha hpp hw hr h0 hy
  go_enter Try.func37, Try.ntmps37
  go_wp2_with fail
  refine HLK.out.mono ?_
  rintro e w1 ⟨lb, rfl, hL⟩
  have HL := hid (show LoRel w0 b tb T lb k p 2 (.int .i64 1) w1 from .inl ⟨rfl, rfl, hL⟩)
  clear hL
  go_wp2_with fail
  go_loopg [13] 2 (fun d z wr => LoRel w0 b tb T lb k p d z wr)
  case atStart => exact HL.out
  case round =>
    clear HL
    rcases hrel with ⟨rfl, rfl, hL⟩ | ⟨rfl, rfl, hL⟩
    · have HL := hid hL
      clear hL
      go_wp2_with fail
      refine (HN.out _ _ HL.out).mono ?_
      rintro e w2 ⟨rfl, hL2⟩
      have HL2 := hid hL2
      clear hL2
      go_wp2_with fail
      go_roundg 1
      case rel => exact .inr ⟨rfl, rfl, HL2.out⟩
      case measure => omega
    · have HL := hid hL
      clear hL
      go_wp2_with fail
      refine (HLS.out _ _ HL.out).mono ?_
      rintro e w2 ⟨rfl, hL2⟩
      have HL2 := hid hL2
      clear hL2
      go_wp2_with fail
      go_ret
      exact ⟨rfl, HL2.out⟩
end

def aw0 : Sc := scT 8 (stp (List.replicate 2 0) 0)
def aw1 : Sc := (aw0.step 0).opn 0
def aw2 : Sc := (aw1.step 0).opn 1
def aw3 : Sc := (aw2.step 0).opn 0
def aw4 : Sc := (aw3.step 0).ask 1
def aw5 : Sc := (aw4.step 1).ask 1
def aw6 : Sc := (aw5.step 0).step 0

theorem aw_in1 : (true = true) ↔ Ard aw3.par aw3.nst 2 1 := ⟨fun _ => ⟨1, by decide, rfl⟩, fun _ => rfl⟩
theorem aw_in2 : (false = true) ↔ Ard aw3.par aw3.nst 3 1 := ⟨fun h => (by cases h), fun ⟨j, hj, he⟩ => by
  have h3 : aw3.nst 3 = 1 := rfl
  rw [h3] at hj
  rcases Nat.lt_or_ge j 1 with h | h
  · obtain rfl : j = 0 := by omega
    exact absurd he (by decide)
  · obtain rfl : j = 1 := by omega
    exact absurd he (by decide)⟩

set_option maxRecDepth 100000 in
set_option maxHeartbeats 2000000 in
theorem awake_ok (w : World) : Calls Try.prog 9 #[] w fun e w' => e = .returned (.bool true) ∧ Fr (fun _ => False) w w' := by
  go_enter Try.func9, Try.ntmps9
  go_wp2_with fail
  refine (new_mk 8 1 8 1 rfl rfl _ (by omega) (by omega) (by omega) (by omega)).mono ?_
  rintro e w1 ⟨b, rfl, hM, hF, hown⟩
  have HM := hid hM
  have HF := hid hF
  have HO := hid hown
  clear hM hF hown
  go_wp2_with fail
  refine (ow_new w b 8 2 0 0 _ rfl (by omega) (by omega) HM.out HF.out HO.out).mono ?_
  rintro e w2 ⟨tb, rfl, h⟩
  have HT0 := hid (show OwnT w w2 b tb aw0 from h)
  clear h HM HF HO
  go_wp2_with fail
  refine (ow_open w2 0 0 0 0 1 rfl rfl (by decide) (by decide) (by decide) (by decide) rfl HT0.out).mono ?_
  rintro e w3 ⟨rfl, h⟩
  have HT1 := hid (show OwnT w w3 b tb aw1 from h)
  clear h HT0
  go_wp2_with fail
  refine (ow_open w3 0 1 0 1 2 rfl rfl (by decide) (by decide) (by decide) (by decide) rfl HT1.out).mono ?_
  rintro e w4 ⟨rfl, h⟩
  have HT2 := hid (show OwnT w w4 b tb aw2 from h)
  clear h HT1
  go_wp2_with fail
  refine (ow_open w4 0 0 0 0 3 rfl rfl (by decide) (by decide) (by decide) (by decide) rfl HT2.out).mono ?_
  rintro e w5 ⟨rfl, h⟩
  have HT3 := hid (show OwnT w w5 b tb aw3 from h)
  clear h HT2
  go_wp2_with fail
  refine (ow_nest w5 2 2 2 rfl (by decide) rfl HT3.out).mono ?_
  rintro e w6 ⟨rfl, hF⟩
  have HT4 := hid (HT3.out.same hF)
  clear hF HT3
  go_wp2_with fail
  refine (ow_inside w6 2 1 2 1 true rfl rfl (by decide) (by decide) aw_in1 HT4.out).mono ?_
  rintro e w7 ⟨rfl, hF⟩
  have HT5 := hid (HT4.out.same hF)
  clear hF HT4
  go_wp2_with fail
  refine (ow_inside w7 3 1 3 1 false rfl rfl (by decide) (by decide) aw_in2 HT5.out).mono ?_
  rintro e w8 ⟨rfl, hF⟩
  have HT6 := hid (HT5.out.same hF)
  clear hF HT5
  go_wp2_with fail
  refine (ow_ask w8 0 1 0 1 true rfl rfl (by decide) (by decide) rfl HT6.out).mono ?_
  rintro e w9 ⟨rfl, h⟩
  have HT7 := hid (show OwnT w w9 b tb aw4 from h)
  clear h HT6
  go_wp2_with fail
  refine (ow_ask w9 1 1 1 1 false rfl rfl (by decide) (by decide) rfl HT7.out).mono ?_
  rintro e wa ⟨rfl, h⟩
  have HT8 := hid (show OwnT w wa b tb aw5 from h)
  clear h HT7
  go_wp2_with fail
  refine (looks_ok wa 2 1 2 true rfl (by decide) (by decide) (by decide) rfl rfl rfl (.inl rfl) HT8.out).mono ?_
  rintro e wb ⟨rfl, h⟩
  have HT9 := hid (show OwnT w wb b tb aw6 from h)
  clear h HT8
  go_wp2_with fail
  refine (looks_ok wb 3 0 3 false rfl (by decide) (by decide) (by decide) rfl rfl rfl (.inr rfl) HT9.out).mono ?_
  rintro e wc ⟨rfl, h⟩
  have HT10 := hid h.fr
  clear h HT9
  go_wp2_with fail
  go_ret
  exact ⟨rfl, HT10.out⟩
end Go.Proofs.Ytoajdknhllaoeaa
