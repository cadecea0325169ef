/-
  Workers who go in and out: the set's number, plain; what lies in memory.
-/
import Derived.Test.YtiofdfgcghiibaaRf
import Derived.Test.YtiofdfgcghiibaaAw
namespace Go.Proofs.Ytiofdfgcghiibaa
open Go.RowKit
set_option linter.unusedVariables false

/-- The number of a set of workers below n. -/
def sm (B : Nat → Bool) : Nat → Int
  | 0 => 0
  | n + 1 => sm B n + if B n then 2 ^ n else 0

theorem sm_in (B : Nat → Bool) (n : Nat) : 0 ≤ sm B n ∧ sm B n < 2 ^ n := by
  induction n with
  | zero => simp [sm]
  | succ n ih =>
    have h2 : (0 : Int) < 2 ^ n := Int.pow_pos (by decide)
    rw [sm, Int.pow_succ]
    split <;> omega

theorem bit_small (y : Int) (n k : Nat) (h0 : 0 ≤ y) (h1 : y < 2 ^ n) (hk : n ≤ k) : bitB y k = false := by
  unfold bitB
  have h2 : (2 : Int) ^ n ≤ 2 ^ k := by
    obtain ⟨d, rfl⟩ : ∃ d, k = n + d := ⟨k - n, by omega⟩
    rw [Int.pow_add]
    have h3 : (0 : Int) < 2 ^ n := Int.pow_pos (by decide)
    have h4 : (0 : Int) < 2 ^ d := Int.pow_pos (by decide)
    have h5 := Int.mul_le_mul_of_nonneg_left (show (1 : Int) ≤ 2 ^ d by omega) (Int.le_of_lt h3)
    omega
  rw [Int.ediv_eq_zero_of_lt h0 (by omega)]
  rfl

theorem bit_top (y : Int) (n k : Nat) (h0 : 0 ≤ y) (h1 : y < 2 ^ n) : bitB (y + 2 ^ n) k = if k = n then true else bitB y k := by
  have hp : (0 : Int) < 2 ^ n := Int.pow_pos (by decide)
  rcases Nat.lt_trichotomy k n with h | h | h
  · rw [if_neg (by omega)]
    unfold bitB
    obtain ⟨d, rfl⟩ : ∃ d, n = k + (d + 1) := ⟨n - k - 1, by omega⟩
    have hq : (0 : Int) < 2 ^ k := Int.pow_pos (by decide)
    have e : (2 : Int) ^ (k + (d + 1)) = 2 ^ k * (2 * 2 ^ d) := by rw [Int.pow_add, Int.pow_succ, Int.mul_comm (2 ^ d) 2]
    rw [e, Int.add_mul_ediv_left _ _ (Int.ne_of_gt hq)]
    generalize (2 : Int) ^ d = z
    generalize y / 2 ^ k = q
    apply decide_eq_decide.2
    omega
  · subst h
    rw [if_pos rfl]
    unfold bitB
    rw [show y + 2 ^ k = y + 2 ^ k * 1 by omega, Int.add_mul_ediv_left _ _ (Int.ne_of_gt hp), Int.ediv_eq_zero_of_lt h0 h1]
    rfl
  · rw [if_neg (by omega), bit_small y n k h0 h1 (by omega), bit_small (y + 2 ^ n) (n + 1) k (by omega) (by rw [Int.pow_succ]; omega) (by omega)]

theorem bit_sm (B : Nat → Bool) (n k : Nat) : bitB (sm B n) k = (decide (k < n) && B k) := by
  induction n with
  | zero => simp [sm, bitB]
  | succ n ih =>
    obtain ⟨h0, h1⟩ := sm_in B n
    rw [sm]
    rcases hb : B n with _ | _
    · simp only [Bool.false_eq_true, if_false, Int.add_zero]
      rw [ih]
      by_cases e : k = n
      · subst e; simp [hb]
      · congr 1
        apply decide_eq_decide.2
        omega
    · simp only [if_true]
      rw [bit_top _ _ _ h0 h1]
      by_cases e : k = n
      · subst e; simp [hb]
      · rw [if_neg e, ih]
        congr 1
        apply decide_eq_decide.2
        omega

/-- How many. -/
def ct (B : Nat → Bool) : Nat → Nat
  | 0 => 0
  | n + 1 => ct B n + if B n then 1 else 0

theorem ct_le (B : Nat → Bool) (n : Nat) : ct B n ≤ n := by
  induction n with
  | zero => simp [ct]
  | succ n ih => rw [ct]; split <;> omega

theorem mem_ct (x : Int) (n : Nat) : (memN x n).length = ct (bitB x) n := by
  induction n with
  | zero => rfl
  | succ n ih =>
    rw [memN, ct, List.length_append, ih]
    split <;> simp

theorem ct_same {B C : Nat → Bool} {n : Nat} (h : ∀ k, k < n → B k = C k) : ct B n = ct C n := by
  induction n with
  | zero => rfl
  | succ n ih => rw [ct, ct, ih (fun k hk => h k (by omega)), h n (by omega)]

theorem ct_more {B : Nat → Bool} {n : Nat} (d : Nat) (h : ∀ k, n ≤ k → B k = false) : ct B (n + d) = ct B n := by
  induction d with
  | zero => rfl
  | succ d ih => rw [← Nat.add_assoc, ct, ih, h (n + d) (by omega)]; simp

theorem count_sm (B : Nat → Bool) (n : Nat) (hn : n ≤ 64) : (memN (sm B n) 64).length = ct B n := by
  rw [mem_ct]
  rw [show (64 : Nat) = n + (64 - n) by omega, ct_more (64 - n) (fun k hk => by rw [bit_sm, decide_eq_false (by omega)]; rfl)]
  exact ct_same (fun k hk => by rw [bit_sm, decide_eq_true hk]; rfl)

def upB (B : Nat → Bool) (u : Nat) (x : Bool) : Nat → Bool := fun k => if k = u then x else B k

theorem sm_out {B : Nat → Bool} {u n : Nat} {x : Bool} (h : n ≤ u) : sm (upB B u x) n = sm B n := by
  induction n with
  | zero => rfl
  | succ n ih =>
    rw [sm, sm, ih (by omega)]
    have : upB B u x n = B n := by unfold upB; rw [if_neg (by omega)]
    rw [this]

theorem sm_up {B : Nat → Bool} {u n : Nat} (x : Bool) (h : u < n) : sm (upB B u x) n = sm B n + (if x then 2 ^ u else 0) - if B u then 2 ^ u else 0 := by
  induction n with
  | zero => omega
  | succ n ih =>
    rw [sm, sm]
    by_cases e : u = n
    · subst e
      rw [sm_out (Nat.le_refl _)]
      have : upB B u x u = x := by unfold upB; rw [if_pos rfl]
      rw [this]
      omega
    · rw [ih (by omega)]
      have : upB B u x n = B n := by unfold upB; rw [if_neg (by omega)]
      rw [this]
      omega

/-- A row of truths of so many. -/
def blF (B : Nat → Bool) (n : Nat) : Array Value := ((List.range n).map fun k => Value.bool (B k)).toArray

theorem blF_at (B : Nat → Bool) (n k : Nat) (h : k < n) : (blF B n)[k]? = some (.bool (B k)) := by simp [blF, h]
theorem blF_set (B : Nat → Bool) (n u : Nat) (x : Bool) (h : u < n) : (blF B n).setIfInBounds u (.bool x) = blF (upB B u x) n := by
  unfold blF
  rw [List.setIfInBounds_toArray]
  congr 1
  apply List.ext_getElem
  · simp
  · intro i h1 h2
    simp only [List.length_map, List.length_range] at h2
    rw [List.getElem_set]
    simp only [List.getElem_map, List.getElem_range]
    unfold upB
    by_cases e : u = i
    · rw [if_pos e, if_pos e.symm]
    · rw [if_neg e, if_neg (fun h => e h.symm)]

structure MvE (w0 : World) (b : MB) (be bt bi : Nat) : Prop where
  ob : ∀ k, b.own k → w0.heap.size ≤ k ∧ k < be
  l0 : w0.heap.size ≤ be
  l1 : be < bt
  l2 : bt < bi

structure MvM (w0 : World) (b : MB) (be bt bi : Nat) (K : Int) (B : Nat → Bool) (s : List Int) (w : World) : Prop where
  of ::
  hM : IsM w b (mk [sm B 17, 32] 2 s)
  sl : s.length = 17
  sb : ∀ j, j < 17 → 0 ≤ s.getD j 0 ∧ s.getD j 0 ≤ K
  hs : Blk w be #[.int .i64 0]
  ht : Blk w bt #[.int .i64 1]
  hi : Blk w bi (blF B 17)
  fr : Fr (fun _ => False) w0 w

section
variable {w0 w w' : World} {b : MB} {be bt bi : Nat} {K : Int} {B : Nat → Bool} {s : List Int}

theorem MvM.same (h : MvM w0 b be bt bi K B s w) (F : Fr (fun _ => False) w w') : MvM w0 b be bt bi K B s w' :=
  ⟨h.hM.same F, h.sl, h.sb, h.hs.keep F id, h.ht.keep F id, h.hi.keep F id, h.fr.trans F⟩

theorem MvM.up (h : MvM w0 b be bt bi K B s w) {K' : Int} (hk : K ≤ K') : MvM w0 b be bt bi K' B s w :=
  { h with sb := fun j hj => by have := h.sb j hj; omega }

theorem stp_at (s : List Int) (u j : Nat) (hu : u < s.length) : (stp s u).getD j 0 = if u = j then wrap64 (s.getD u 0 + 1) else s.getD j 0 := by
  unfold stp
  rw [List.getD_eq_getElem?_getD, List.getElem?_set]
  split
  · rename_i e
    subst e
    simp [hu]
  · rw [← List.getD_eq_getElem?_getD]

/-- A turn: the machine's operation, and the law's own row. -/
theorem MvM.turn (E : MvE w0 b be bt bi) (h : MvM w0 b be bt bi K B s w) (u : Nat) (hu : u < 17) (x : Bool) (z : Int) (hz : z = sm (upB B u x) 17) (hK : K ≤ 1000) (hM : IsM w' b (mk ([sm B 17, 32].set 0 z) 2 (stp s u))) (F : Fr b.own w w') :
    (∀ j, j < 17 → w'.cell? ⟨bi, j, none⟩ = some (.bool (B j))) ∧ w'.frozen? ⟨bi, u, none⟩ = false ∧ MvM w0 b be bt bi (K + 1) (upB B u x) (stp s u) (w'.setCell ⟨bi, u, none⟩ (.bool x)) ∧ (stp s u).getD u 0 = s.getD u 0 + 1 := by
  have E1 := E.l0; have E2 := E.l1; have E3 := E.l2
  have nb : ∀ k, be ≤ k → ¬ b.own k := fun k hk hh => by have := E.ob _ hh; omega
  have hi2 := h.hi.keep F (nb _ (by omega))
  have F2 : Fr (fun k => k = bi) w' (w'.setCell ⟨bi, u, none⟩ (.bool x)) := Fr.setCell _ _ _ rfl
  have hsu := h.sb u hu
  have hw : wrap64 (s.getD u 0 + 1) = s.getD u 0 + 1 := by unfold wrap64; omega
  have hs2 : (stp s u).getD u 0 = s.getD u 0 + 1 := by rw [stp_at s u u (by rw [h.sl]; exact hu), if_pos rfl, hw]
  refine ⟨fun j hj => hi2.cell (blF_at B 17 j hj), hi2.frozen u, ⟨?_, ?_, ?_, ?_, ?_, ?_, ?_⟩, hs2⟩
  · subst hz
    exact hM.keep F2 (fun k hk hh => nb _ (by omega) (hh ▸ hk))
  · rw [stp_len]; exact h.sl
  · intro j hj
    rw [stp_at s u j (by rw [h.sl]; exact hu)]
    have := h.sb j hj
    split
    · rw [hw]; omega
    · omega
  · exact (h.hs.keep F (nb _ (Nat.le_refl _))).keep F2 (by omega)
  · exact (h.ht.keep F (nb _ (by omega))).keep F2 (by omega)
  · rw [← blF_set B 17 u x hu]; exact hi2.set u _
  · exact (h.fr.since F (fun i hi hl => by have := E.ob _ hi; omega)).since F2 (fun i hi hl => by have h2 : i = bi := hi; omega)
end

/-- Adding a worker's bit, or taking it away. -/
theorem enter_z {B : Nat → Bool} {u : Nat} (hu : u < 17) (hb : B u = false) : wrap64 ([sm B 17, 32].getD 0 0 + 2 ^ u) = sm (upB B u true) 17 := by
  have h1 := sm_up (B := B) true hu
  have h2 := sm_in (upB B u true) 17
  rw [hb] at h1
  simp only [if_true, Bool.false_eq_true, if_false] at h1
  show wrap64 (sm B 17 + 2 ^ u) = _
  rw [show sm B 17 + 2 ^ u = sm (upB B u true) 17 by omega]
  unfold wrap64
  omega

theorem leave_z {B : Nat → Bool} {u : Nat} (hu : u < 17) (hb : B u = true) : wrap64 ([sm B 17, 32].getD 0 0 + -(2 ^ u)) = sm (upB B u false) 17 := by
  have h1 := sm_up (B := B) false hu
  have h2 := sm_in (upB B u false) 17
  rw [hb] at h1
  simp only [if_true, Bool.false_eq_true, if_false] at h1
  show wrap64 (sm B 17 + -(2 ^ u)) = _
  rw [show sm B 17 + -(2 ^ u) = sm (upB B u false) 17 by omega]
  unfold wrap64
  omega

theorem pow_17 (u : Nat) (hu : u < 17) : wrap64 (1 * 2 ^ u) = 2 ^ u ∧ wrap64 (-1 * 2 ^ u) = -(2 ^ u) := by
  have h0 : (0 : Int) < 2 ^ u := Int.pow_pos (by decide)
  have h1 : (2 : Int) ^ u ≤ 2 ^ 17 := by
    obtain ⟨d, hd⟩ : ∃ d, 17 = u + d := ⟨17 - u, by omega⟩
    rw [hd, Int.pow_add]
    have h4 : (0 : Int) < 2 ^ d := Int.pow_pos (by decide)
    have h5 := Int.mul_le_mul_of_nonneg_left (show (1 : Int) ≤ 2 ^ d by omega) (Int.le_of_lt h0)
    omega
  generalize (2 : Int) ^ u = p at *
  unfold wrap64
  omega

theorem wrapped_17 (a : Int) : ∃ u : Nat, u < 17 ∧ (Int.tmod (Int.tmod a 17 + 17) 17) = u := by
  have h1 : -17 < Int.tmod a 17 ∧ Int.tmod a 17 < 17 := by
    have h2 := Int.tmod_lt_of_pos a (show (0 : Int) < 17 by decide)
    have h3 := Int.tmod_lt_of_pos (-a) (show (0 : Int) < 17 by decide)
    rw [Int.neg_tmod] at h3
    omega
  generalize Int.tmod a 17 = t at h1
  have h4 : 0 ≤ t + 17 := by omega
  rw [Int.tmod_eq_emod_of_nonneg h4]
  exact ⟨((t + 17) % 17).toNat, by omega, by omega⟩
end Go.Proofs.Ytiofdfgcghiibaa
