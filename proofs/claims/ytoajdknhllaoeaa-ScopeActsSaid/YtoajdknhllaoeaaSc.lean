/-
  Stage 14, plain: scopes, what they are asked, how many live; the errors of calls.
-/
import Derived.Test.YtoajdknhllaoeaaTr
namespace Go.Proofs.Ytoajdknhllaoeaa
open Go.RowKit
set_option linter.unusedVariables false

/-- One caller's steps, one more. -/
def stp (s : List Int) (j : Nat) : List Int := s.set j (wrap64 (s.getD j 0 + 1))
theorem stp_len (s : List Int) (j : Nat) : (stp s j).length = s.length := by simp [stp]

/-- Scopes, and the machine on which they lie: its cells, the steps of its callers; how many scopes; in which one each was opened; how many are around it; whether it was asked; how many live. -/
structure Sc where
  z : Nat
  s : List Int
  n : Nat
  par : Nat → Nat
  nst : Nat → Nat
  asked : Nat → Bool
  live : Nat → Int

namespace Sc
def step (T : Sc) (j : Nat) : Sc := { T with s := Go.Proofs.Ytoajdknhllaoeaa.stp T.s j }
def opn (T : Sc) (p : Nat) : Sc :=
  { T with n := T.n + 1, par := fun k => if k = T.n then p else T.par k, nst := fun k => if k = T.n then T.nst p + 1 else T.nst k, asked := fun k => if k = T.n then false else T.asked k, live := fun k => if k = T.n then 0 else T.live k }
def ask (T : Sc) (k : Nat) : Sc := { T with asked := fun i => if i = k then true else T.asked i }
def add (T : Sc) (k : Nat) (v : Int) : Sc := { T with live := fun i => if i = k then wrap64 (T.live k + v) else T.live i }
/-- The scopes are those of a tree. -/
def ok (T : Sc) : Prop := Tre T.n T.par T.nst
end Sc

theorem Sc.ok.opn {T : Sc} (h : T.ok) {p : Nat} (hp : p < T.n) : (T.opn p).ok := Tre.open h hp
theorem Sc.ok.step {T : Sc} (h : T.ok) (j : Nat) : (T.step j).ok := h
theorem Sc.ok.ask {T : Sc} (h : T.ok) (k : Nat) : (T.ask k).ok := h
theorem Sc.ok.add {T : Sc} (h : T.ok) (k : Nat) (v : Int) : (T.add k v).ok := h

/-- What a scope's row tells: in which scope it was opened (-1: none). -/
def pI (par : Nat → Nat) (k : Nat) : Int := bif k == 0 then -1 else (par k : Int)

theorem pI_zero (par : Nat → Nat) : pI par 0 = -1 := rfl
theorem pI_pos (par : Nat → Nat) {k : Nat} (h : 0 < k) : pI par k = par k := by
  unfold pI
  rw [show (k == 0) = false by simp; omega]
  rfl

theorem pI_up {n : Nat} {par nst : Nat → Nat} (h : Tre n par nst) {k j : Nat} (hk : k < n) (hj : j < nst k) : pI par (up par k j) = (up par k (j + 1) : Nat) := pI_pos _ (h.up_pos hk hj)
theorem pI_top {n : Nat} {par nst : Nat → Nat} (h : Tre n par nst) {k : Nat} (hk : k < n) : pI par (up par k (nst k)) = -1 := by rw [h.up_top hk, pI_zero]

theorem getD_set (l : List Int) (k i : Nat) (x : Int) (hk : k < l.length) : (l.set k x).getD i 0 = if k = i then x else l.getD i 0 := by
  by_cases h : k = i
  · subst h
    simp [hk]
  · rw [if_neg h, List.getD_eq_getElem?_getD, List.getElem?_set_ne h, ← List.getD_eq_getElem?_getD]

def bI (b : Bool) : Int := bif b then 1 else 0

/-- The numbers of a machine's cells are those of scopes. -/
structure Cel (T : Sc) (l : List Int) : Prop where
  len : l.length = T.z
  le : 2 * T.n ≤ T.z
  ask : ∀ k, k < T.n → l.getD (2 * k) 0 = bI (T.asked k)
  liv : ∀ k, k < T.n → l.getD (2 * k + 1) 0 = T.live k

section
variable {T : Sc} {l : List Int}

theorem Cel.step (h : Cel T l) (j : Nat) : Cel (T.step j) l := ⟨h.len, h.le, h.ask, h.liv⟩

theorem Cel.opn (h : Cel T l) (p : Nat) (hz : 2 * T.n + 2 ≤ T.z) (hf : ∀ i, 2 * T.n ≤ i → l.getD i 0 = 0) : Cel (T.opn p) l := by
  refine ⟨h.len, by show 2 * (T.n + 1) ≤ T.z; omega, fun k hk => ?_, fun k hk => ?_⟩
  · have hk' : k < T.n + 1 := hk
    show _ = bI (if k = T.n then false else T.asked k)
    by_cases e : k = T.n
    · rw [if_pos e, hf _ (by omega)]; rfl
    · rw [if_neg e]; exact h.ask k (by omega)
  · have hk' : k < T.n + 1 := hk
    show _ = (if k = T.n then 0 else T.live k)
    by_cases e : k = T.n
    · rw [if_pos e, hf _ (by omega)]
    · rw [if_neg e]; exact h.liv k (by omega)

theorem Cel.setAsk (h : Cel T l) {k : Nat} (hk : k < T.n) : Cel (T.ask k) (l.set (2 * k) 1) := by
  have hle := h.le
  have hlen := h.len
  refine ⟨by show (l.set _ _).length = T.z; simpa using h.len, h.le, fun i hi => ?_, fun i hi => ?_⟩
  · rw [getD_set _ _ _ _ (by omega)]
    show _ = bI (if i = k then true else T.asked i)
    by_cases e : i = k
    · rw [if_pos (by omega), if_pos e]; rfl
    · rw [if_neg (by omega), if_neg e]; exact h.ask i hi
  · rw [getD_set _ _ _ _ (by omega), if_neg (by omega)]
    exact h.liv i hi

theorem Cel.same (h : Cel T l) {k : Nat} (hk : k < T.n) (ha : T.asked k = true) : Cel (T.ask k) l := by
  refine ⟨h.len, h.le, fun i hi => ?_, h.liv⟩
  show _ = bI (if i = k then true else T.asked i)
  by_cases e : i = k
  · rw [if_pos e, e, h.ask k hk, ha]
  · rw [if_neg e]; exact h.ask i hi

theorem Cel.setLive (h : Cel T l) {k : Nat} (hk : k < T.n) (v : Int) : Cel (T.add k v) (l.set (2 * k + 1) (wrap64 (T.live k + v))) := by
  have hle := h.le
  have hlen := h.len
  refine ⟨by show (l.set _ _).length = T.z; simpa using h.len, h.le, fun i hi => ?_, fun i hi => ?_⟩
  · rw [getD_set _ _ _ _ (by omega), if_neg (by omega)]
    exact h.ask i hi
  · rw [getD_set _ _ _ _ (by omega)]
    show _ = (if i = k then _ else T.live i)
    by_cases e : i = k
    · rw [if_pos (by omega), if_pos e]
    · rw [if_neg (by omega), if_neg e]; exact h.liv i hi
end

/-! ### Steps -/

/-- The sum of the first m callers' steps. -/
def sumN (s : List Int) : Nat → Int
  | 0 => 0
  | m + 1 => sumN s m + s.getD m 0

/-- All of c callers have done k steps together, none less than none. -/
structure Did (s : List Int) (c : Nat) (k : Nat) : Prop where
  len : s.length = c
  pos : ∀ j, j < c → 0 ≤ s.getD j 0
  sum : sumN s c = k

theorem sumN_le {s : List Int} {c : Nat} (hp : ∀ j, j < c → 0 ≤ s.getD j 0) : (0 ≤ sumN s c) ∧ ∀ j, j < c → s.getD j 0 ≤ sumN s c := by
  induction c with
  | zero => exact ⟨Int.le_refl _, fun j hj => by omega⟩
  | succ c ih =>
    obtain ⟨h1, h2⟩ := ih (fun j hj => hp j (by omega))
    have h3 := hp c (by omega)
    refine ⟨by rw [sumN]; omega, fun j hj => ?_⟩
    rw [sumN]
    by_cases e : j = c
    · subst e; omega
    · have := h2 j (by omega); omega

theorem sumN_set {s : List Int} {c j : Nat} {x : Int} (hs : j < s.length) : sumN (s.set j x) c = if j < c then sumN s c - s.getD j 0 + x else sumN s c := by
  induction c with
  | zero => simp [sumN]
  | succ c ih =>
    rw [sumN, sumN, ih, getD_set _ _ _ _ hs]
    by_cases e : j = c
    · subst e
      rw [if_neg (by omega), if_pos rfl, if_pos (by omega)]
      omega
    · rw [if_neg e]
      by_cases hl : j < c
      · rw [if_pos hl, if_pos (by omega)]; omega
      · rw [if_neg hl, if_neg (by omega)]

theorem Did.stp {s : List Int} {c k j : Nat} (h : Did s c k) (hj : j < c) (hk : k < 100000) : Did (stp s j) c (k + 1) := by
  obtain ⟨h1, h2, h3⟩ := h
  have h4 := (sumN_le h2).2 j hj
  have h5 := h2 j hj
  have hw : wrap64 (s.getD j 0 + 1) = s.getD j 0 + 1 := by unfold wrap64; omega
  refine ⟨by rw [stp_len]; exact h1, fun i hi => ?_, ?_⟩
  · unfold Go.Proofs.Ytoajdknhllaoeaa.stp
    rw [getD_set _ _ _ _ (by omega), hw]
    split
    · omega
    · exact h2 i hi
  · unfold Go.Proofs.Ytoajdknhllaoeaa.stp
    rw [sumN_set (by omega), if_pos hj, hw]
    omega

theorem Did.start (c : Nat) : Did (List.replicate c 0) c 0 := by
  have hz : ∀ j, (List.replicate c (0 : Int)).getD j 0 = 0 := fun j => by
    rw [List.getD_eq_getElem?_getD, List.getElem?_replicate]
    split <;> rfl
  refine ⟨by simp, fun j _ => by rw [hz]; omega, ?_⟩
  have : ∀ m, sumN (List.replicate c 0) m = 0 := fun m => by
    induction m with
    | zero => rfl
    | succ m ih => rw [sumN, ih, hz]; rfl
  exact this c
end Go.Proofs.Ytoajdknhllaoeaa
