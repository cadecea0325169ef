/-
  What DequeOnce counts: who, count, lies.
-/
import Derived.Test.YtlhpngoplmccjaaSame
import Derived.Test.YtlhpngoplmccjaaDqLaw
import Derived.Deep.DeepCutAuto
import Derived.Deep.DeepMust
import Derived.Deep.LoopGhost
import Derived.Deep.QuietTactic
import Derived.BigQuiet
namespace Go.Proofs.Ytlhpngoplmccjaa
open Go.RowKit
set_option linter.unusedVariables false

/-- A row of truths that is read. -/
def BoolR (w : World) (g : Nat) (l : List Bool) : Prop := g < w.heap.size ∧ ∀ k, k < l.length → w.cell? ⟨g, k, none⟩ = some (.bool (l.getD k false))

theorem BoolR.same {w w' : World} {g : Nat} {l : List Bool} (h : BoolR w g l) (F : Fr (fun _ => False) w w') : BoolR w' g l :=
  ⟨Nat.lt_of_lt_of_le h.1 F.size, fun k hk => (World.cell?_of_block (w := w) (F.block g h.1 id)).trans (h.2 k hk)⟩

def CtRel (l : List Bool) (w : World) (n : Nat) (d : Nat) (x y : Value) (wr : World) : Prop := ∃ k, k ≤ n ∧ d = n + 1 - k ∧ x = .int .i64 (cb l k) ∧ y = .int .i64 k ∧ Fr (fun _ => False) w wr

theorem count_ok (g n c : Nat) (l : List Bool) (w : World) (hB : BoolR w g l) (hn : n ≤ l.length) (hl : n ≤ 1000) :
    Calls Try.prog 29 #[.slice (some ⟨g, 0, none⟩) n c] w fun e w' => e = .returned (.int .i64 (cb l n)) ∧ Fr (fun _ => False) w w' := by
  have HB := hid hB
  have HN := hid hn
  have HREL := hid (show CtRel l w n (n + 1) (.int .i64 0) (.int .i64 0) w from ⟨0, by omega, by omega, rfl, rfl, Fr.refl _ _⟩)
  clear hB hn
  go_enter Try.func29, Try.ntmps29
  go_wp2_with fail
  go_loopg [3, 4] (n + 1) (fun d x y wr => CtRel l w n d x y wr)
  case atStart => exact HREL.out
  case round =>
    clear HREL
    obtain ⟨k, hk, rfl, rfl, rfl, hF⟩ := hrel
    have HF := hid hF
    have HK := hid hk
    clear hF hk
    have hcb := cb_le l k
    obtain ⟨z, hz⟩ : ∃ z, cb l k = z := ⟨_, rfl⟩
    by_cases hlt : k < n
    · have c1 := (HB.out.same HF.out).2 k (by have := HN.out; omega)
      have hlt2 : (k : Int) < n := by omega
      have hs : cb l (k + 1) = z + if l.getD k false then 1 else 0 := by rw [cb, hz]
      have HSS := hid hs
      rw [hz] at hcb ⊢
      clear hs hz
      rcases hb : l.getD k false with _ | _
      · rw [hb] at c1 HSS
        have HS2 := hid (show cb l (k + 1) = z from by have := HSS.out; simpa using this)
        clear hb
        go_wp2_with fail
        go_roundg (n + 1 - (k + 1))
        case rel => exact ⟨k + 1, by omega, rfl, by rw [HS2.out], by go_num, HF.out⟩
        case measure => omega
      · rw [hb] at c1 HSS
        have HS2 := hid (show cb l (k + 1) = z + 1 from by have := HSS.out; simpa using this)
        clear hb
        go_wp2_with fail
        go_roundg (n + 1 - (k + 1))
        case rel => exact ⟨k + 1, by omega, rfl, by rw [HS2.out]; go_num, by go_num, HF.out⟩
        case measure => omega
    · obtain rfl : k = n := by have := HK.out; omega
      go_wp2_with fail
      go_ret
      exact ⟨rfl, HF.out⟩

/-- Which numbers of the first k are told, in their order. -/
def tl (l : List Bool) : Nat → List Int
  | 0 => []
  | k + 1 => if l.getD k false then tl l k ++ [(k : Int)] else tl l k

theorem tl_len (l : List Bool) (k : Nat) : (tl l k).length = cb l k := by
  induction k with
  | zero => rfl
  | succ k ih =>
    rw [tl, cb]
    split
    · rw [List.length_append, ih]; rfl
    · exact ih

theorem tl_at (l : List Bool) {n : Nat} (k : Nat) (hk : k < n) (hb : l.getD k false = true) : (tl l n).getD (cb l k) 0 = k := by
  induction n with
  | zero => omega
  | succ n ih =>
    rw [tl]
    by_cases hkn : k = n
    · subst hkn
      rw [if_pos hb, List.getD_eq_getElem?_getD, List.getElem?_append_right (by rw [tl_len]; omega), tl_len]
      simp
    · have h1 := ih (by omega)
      have hlt : cb l k < (tl l n).length := by
        rw [tl_len]
        have hm : ∀ j, k + 1 ≤ j → cb l k + 1 ≤ cb l j := by
          intro j hj
          induction j with
          | zero => omega
          | succ j ih2 =>
            rw [cb]
            by_cases hj2 : k = j
            · subst hj2
              rw [hb]
              simp
            · have := ih2 (by omega)
              omega
        exact hm n (by omega)
      split
      · rw [List.getD_eq_getElem?_getD, List.getElem?_append_left hlt, ← List.getD_eq_getElem?_getD]
        exact h1
      · exact h1

def LsRel2 (l : List Bool) (w : World) (n : Nat) (d : Nat) (x y : Value) (wr : World) : Prop := ∃ k, k ≤ n ∧ d = n + 1 - k ∧ x = .int .i64 (cb l k) ∧ y = .int .i64 k ∧ Fr (fun _ => False) w wr

/-- lies, where the list is what the truths tell. -/
theorem lies_ok (A : Option Addr) (g n m c c' : Nat) (l : List Bool) (L : List Int) (w : World) (hA : IntR w A L) (hB : BoolR w g l) (hn : n = l.length) (hm : m = L.length) (hL : L = tl l n) (hl : n ≤ 1000) :
    Calls Try.prog 30 #[.slice A m c, .slice (some ⟨g, 0, none⟩) n c'] w fun e w' => e = .returned (.bool true) ∧ Fr (fun _ => False) w w' := by
  have HA := hid hA
  have HB := hid hB
  have HN := hid hn
  have HLT := hid (show m = cb l n from by rw [hm, hL, tl_len])
  have HM := hid hm
  have HL := hid hL
  have HREL := hid (show LsRel2 l w n (n + 1) (.int .i64 0) (.int .i64 0) w from ⟨0, by omega, by omega, rfl, rfl, Fr.refl _ _⟩)
  clear hA hB hn hm hL
  go_enter Try.func30, Try.ntmps30
  go_wp2_with fail
  go_loopg [5, 6] (n + 1) (fun d x y wr => LsRel2 l w n d x y wr)
  case atStart => exact HREL.out
  case round =>
    clear HREL
    obtain ⟨k, hk, rfl, rfl, rfl, hF⟩ := hrel
    have HF := hid hF
    have HK := hid hk
    clear hF hk
    have hcb := cb_le l k
    by_cases hlt : k < n
    · have c1 := (HB.out.same HF.out).2 k (by have := HN.out; omega)
      have hlt2 : (k : Int) < n := by omega
      rcases hb : l.getD k false with _ | _
      · have HS2 := hid (show cb l (k + 1) = cb l k from by rw [cb, hb]; simp)
        obtain ⟨z, hz⟩ : ∃ z, cb l k = z := ⟨_, rfl⟩
        rw [hz] at HS2 hcb ⊢
        rw [hb] at c1
        clear hb hz
        go_wp2_with fail
        go_roundg (n + 1 - (k + 1))
        case rel => exact ⟨k + 1, by omega, rfl, by rw [HS2.out], by go_num, HF.out⟩
        case measure => omega
      · have HS2 := hid (show cb l (k + 1) = cb l k + 1 from by rw [cb, hb]; simp)
        have hat := tl_at l k hlt hb
        have hlm : cb l k < m := by
          rw [HLT.out]
          have h1 : ∀ j, k + 1 ≤ j → cb l (k + 1) ≤ cb l j := by
            intro j hj
            induction j with
            | zero => omega
            | succ j ih =>
              by_cases hj2 : k = j
              · subst hj2; exact Nat.le_refl _
              · have := ih (by omega)
                have h3 : cb l j ≤ cb l (j + 1) := by rw [cb]; omega
                omega
          have := h1 n (by omega)
          have := HS2.out
          omega
        obtain ⟨g1, o1, rfl, hg1, hc1⟩ := (HA.out.same HF.out) (by have := HM.out; omega)
        have c2 := hc1 (cb l k) (by have := HM.out; omega)
        rw [HL.out, hat] at c2
        obtain ⟨z, hz⟩ : ∃ z, cb l k = z := ⟨_, rfl⟩
        rw [hz] at HS2 hcb hlm c2 ⊢
        rw [hb] at c1
        have t1 : decide ((m : Int) ≤ (z : Int)) = false := by simp; omega
        have hz1 : (z : Int) < (m : Int) := by omega
        have t2 : ((k : Int) != (k : Int)) = false := by simp
        clear hb hz hat hc1 hg1
        go_wp2_with fail
        go_roundg (n + 1 - (k + 1))
        case rel => exact ⟨k + 1, by omega, rfl, by rw [HS2.out]; go_num, by go_num, HF.out⟩
        case measure => omega
    · obtain rfl : k = n := by have := HK.out; omega
      have hmz := HLT.out
      obtain ⟨z, hz⟩ : ∃ z, cb l k = z := ⟨_, rfl⟩
      rw [hz] at hmz hcb ⊢
      have t3 : ((z : Int) == (m : Int)) = true := by simp; omega
      clear hz
      subst hmz
      go_wp2_with fail
      go_ret
      exact ⟨by simp, HF.out⟩

theorem tmod_bounds (i n : Int) (hn : 1 ≤ n) : -n < i.tmod n ∧ i.tmod n < n := by
  by_cases h : 0 ≤ i
  · rw [Int.tmod_eq_emod_of_nonneg h]
    have := Int.emod_nonneg i (show n ≠ 0 by omega)
    have := Int.emod_lt_of_pos i (show 0 < n by omega)
    omega
  · have e : i.tmod n = -((-i) % n) := by
      rw [← Int.tmod_eq_emod_of_nonneg (show 0 ≤ -i by omega), Int.neg_tmod, Int.neg_neg]
    rw [e]
    have := Int.emod_nonneg (-i) (show n ≠ 0 by omega)
    have := Int.emod_lt_of_pos (-i) (show 0 < n by omega)
    omega

theorem tmod_round (i n : Int) (hn : 1 ≤ n) : (i.tmod n + n).tmod n = i % n := by
  have h1 := tmod_bounds i n hn
  have h2 : (i.tmod n + n) % n = i % n := by
    have e := Int.mul_tdiv_add_tmod i n
    have e2 : i.tmod n = i + n * (-(i.tdiv n)) := by rw [Int.mul_neg]; omega
    rw [Int.add_emod_right, e2, Int.add_mul_emod_self_left]
  rw [Int.tmod_eq_emod_of_nonneg (by omega), h2]

/-- Whose turn it is. -/
theorem who_ok (a d x : Int) (w : World) :
    Calls Try.prog 13 #[.agg #[.int .i64 a, .int .i64 d, .int .i64 x]] w fun e w' => e = .returned (.int .i64 (a % 4)) ∧ Fr (fun _ => False) w w' := by
  have h1 := tmod_bounds a 4 (by omega)
  have h2 := tmod_round a 4 (by omega)
  have h3 := Int.emod_nonneg a (show (4 : Int) ≠ 0 by omega)
  have h4 := Int.emod_lt_of_pos a (show (0 : Int) < 4 by omega)
  obtain ⟨t, ht⟩ : ∃ t, a.tmod 4 = t := ⟨_, rfl⟩
  obtain ⟨r, hr⟩ : ∃ r, a % 4 = r := ⟨_, rfl⟩
  rw [ht] at h1 h2
  rw [hr] at h2 h3 h4 ⊢
  clear hr
  go_enter Try.func13, Try.ntmps13
  go_wp2_with fail
  go_ret
  exact ⟨rfl, Fr.alloc _ _ _⟩

theorem cb_find (l : List Bool) (n i : Nat) (h : i < cb l n) : ∃ K, K < n ∧ l.getD K false = true ∧ cb l K = i := by
  induction n with
  | zero => exact absurd h (Nat.not_lt_zero _)
  | succ n ih =>
    rw [cb] at h
    rcases hb : l.getD n false with _ | _
    · rw [hb] at h
      obtain ⟨K, h1, h2, h3⟩ := ih (by simpa using h)
      exact ⟨K, by omega, h2, h3⟩
    · rw [hb] at h
      simp at h
      by_cases hi : i < cb l n
      · obtain ⟨K, h1, h2, h3⟩ := ih hi
        exact ⟨K, by omega, h2, h3⟩
      · exact ⟨n, by omega, hb, by omega⟩

theorem In.tl_is {l : List Bool} {g : Int → Int} {a b : Int} (h : In l g a b) (i : Nat) (hi : i < cb l l.length) : (tl l l.length).getD i 0 = g (a + i) := by
  obtain ⟨K, h1, h2, h3⟩ := cb_find l l.length i hi
  have h4 := (h.at_ K h2).2
  rw [h3] at h4
  have h5 := tl_at l K h1 h2
  rw [h3] at h5
  rw [h5, h4]

/-- What List tells, if the deque's things are the truths. -/
theorem dqL_tl {M : Mach} {R : Rg} {l : List Bool} {g : Int → Int} {hi : Int} (h1 : rd M 1 = hi) (h : In l g (rd M 0) hi) (hc : ∀ i, rd M 0 ≤ i → i < hi → rd M (R.place i) = g i) : dqL M R = tl l l.length := by
  have hn := h.count
  unfold dqL
  rw [show (rd M 1 - rd M 0).toNat = cb l l.length by omega]
  apply List.ext_getElem
  · rw [dqN_len, tl_len]
  · intro i h2 h3
    have hi2 : i < cb l l.length := by rw [tl_len] at h3; exact h3
    have h4 := dqN_at M R (cb l l.length) i hi2
    have h5 := h.tl_is i hi2
    rw [hc _ (by omega) (by omega), ← h5] at h4
    rw [List.getD_eq_getElem?_getD, List.getD_eq_getElem?_getD, List.getElem?_eq_getElem h2, List.getElem?_eq_getElem h3] at h4
    exact h4
end Go.Proofs.Ytlhpngoplmccjaa
