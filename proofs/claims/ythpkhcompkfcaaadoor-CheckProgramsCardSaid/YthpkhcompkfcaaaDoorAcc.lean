/-
  Which programs may be, as plain data: what follows of it.
-/
import Derived.Test.YthpkhcompkfcaaaDoorSearch
namespace Go.Proofs.YthpkhcompkfcaaaDoor
open Go.RowKit

/-- A program is accepted: what that comes to. -/
structure Acc (P : List Fn) : Prop where
  one : 1 ≤ P.length
  few : P.length ≤ 32
  fns : ∀ (k : Nat) f, P[k]? = some f → 0 ≤ f.needs ∧ f.needs ≤ 255 ∧ 1 ≤ f.code.length ∧ f.code.length ≤ 128 ∧ ∀ (j : Nat) i, f.code[j]? = some i → chk i = 0
  root : ∀ f, P[0]? = some f → f.needs = 0
  flow : ∀ (k : Nat) f, P[k]? = some f → ∀ (j : Nat) i, f.code[j]? = some i → wrongAt P f j i = 0

theorem shapeF_none {k : Nat} {f : Fn} : shapeF k f = Flt.none ↔ (0 ≤ f.needs ∧ f.needs ≤ 255 ∧ 1 ≤ f.code.length ∧ f.code.length ≤ 128 ∧ ∀ (j : Nat) i, f.code[j]? = some i → chk i = 0) := by
  unfold shapeF
  split
  · rename_i h
    constructor
    · intro e; injection e with _ _ e; exact absurd e (by decide)
    · intro e; omega
  · rename_i h
    split
    · rename_i h2
      constructor
      · intro e; injection e with _ _ e; exact absurd e (by decide)
      · intro e; omega
    · rename_i h2
      rw [firstW_none]
      simp only [flt_none]
      exact ⟨fun h3 => ⟨by omega, by omega, by omega, by omega, h3⟩, fun h3 => h3.2.2.2.2⟩

theorem sizeF_none {P : List Fn} : sizeF P = Flt.none ↔ (1 ≤ P.length ∧ P.length ≤ 32) := by
  unfold sizeF
  split
  · rename_i h
    constructor
    · intro e; injection e with _ _ e; exact absurd e (by decide)
    · intro e; omega
  · rename_i h
    exact ⟨fun _ => by omega, fun _ => rfl⟩

theorem rootF_none {P : List Fn} : rootF P = Flt.none ↔ ∀ f, P[0]? = some f → f.needs = 0 := by
  unfold rootF
  cases h : P[0]? with
  | none => simp
  | some f =>
    simp only [Option.some.injEq, forall_eq']
    split
    · rename_i h; simp [h]
    · rename_i h
      constructor
      · intro e; injection e with _ _ e; exact absurd e (by decide)
      · intro e; exact absurd e h

theorem prgF_none {P : List Fn} : prgF P = Flt.none ↔ Acc P := by
  unfold prgF
  have e1 := @sizeF_none P
  have e2 : partsF P = Flt.none ↔ ∀ (k : Nat) f, P[k]? = some f → _ := firstW_none.trans ⟨fun h k f hk => shapeF_none.1 (h k f hk), fun h k f hk => shapeF_none.2 (h k f hk)⟩
  have e3 := @rootF_none P
  have e4 : flowsF P = Flt.none ↔ ∀ (k : Nat) f, P[k]? = some f → ∀ (j : Nat) i, f.code[j]? = some i → wrongAt P f j i = 0 := by
    unfold flowsF
    rw [firstW_none]
    constructor
    · intro h k f hk j i hj
      have h2 := h k f hk
      unfold flowF at h2
      rw [firstW_none] at h2
      have h3 := h2 j i hj
      rw [flt_none] at h3
      rw [Nat.zero_add] at h3
      exact h3
    · intro h k f hk
      unfold flowF
      rw [firstW_none]
      intro j i hj
      rw [flt_none, Nat.zero_add]
      exact h k f hk j i hj
  constructor
  · intro h
    by_cases h1 : sizeF P = Flt.none
    · rw [if_neg (fun h => h h1)] at h
      by_cases h2 : partsF P = Flt.none
      · rw [if_neg (fun h => h h2)] at h
        by_cases h3 : rootF P = Flt.none
        · rw [if_neg (fun h => h h3)] at h
          exact ⟨(e1.1 h1).1, (e1.1 h1).2, e2.1 h2, e3.1 h3, e4.1 h⟩
        · rw [if_pos h3] at h; exact absurd h h3
      · rw [if_pos h2] at h; exact absurd h h2
    · rw [if_pos h1] at h; exact absurd h h1
  · intro A
    rw [if_neg (fun h => h (e1.2 ⟨A.one, A.few⟩)), if_neg (fun h => h (e2.2 A.fns)), if_neg (fun h => h (e3.2 A.root))]
    exact e4.2 A.flow

theorem wrongAt_zero {P : List Fn} {f : Fn} {k : Nat} {x : Ins} : wrongAt P f k x = 0 ↔ (goalW P f x = false ∧ endW f k x = false ∧ scopeW f k x = false ∧ handW P f k x = false) := by
  unfold wrongAt
  cases goalW P f x <;> cases endW f k x <;> cases scopeW f k x <;> cases handW P f k x <;> simp

open Classical in
/-- Whether a program may be. -/
noncomputable def accB (P : List Fn) : Bool := decide (prgF P = Flt.none)
theorem accB_true {P : List Fn} : accB P = true ↔ Acc P := by unfold accB; rw [decide_eq_true_iff, prgF_none]
theorem accB_code {P : List Fn} : (prgF P).code = 0 ↔ prgF P = Flt.none := by
  constructor
  · intro h
    -- a fault that is told has an error
    have key : ∀ {α : Type} (g : Nat → α → Flt) (l : List α) (k0 : Nat), (∀ k x, (g k x).code = 0 → g k x = Flt.none) → (firstW g k0 l).code = 0 → firstW g k0 l = Flt.none := by
      intro α g l k0 hg h
      by_cases hn : firstW g k0 l = Flt.none
      · exact hn
      · obtain ⟨k, x, _, e⟩ := firstW_is hn
        rw [e] at h ⊢
        exact hg _ _ h
    have hflt : ∀ k a e, (flt k a e).code = 0 → flt k a e = Flt.none := by
      intro k a e h
      unfold flt at h ⊢
      split
      · rfl
      · rename_i hh; rw [if_neg hh] at h; exact absurd h hh
    unfold prgF at h ⊢
    split
    · rename_i h1
      rw [if_pos h1] at h
      unfold sizeF at h ⊢
      split
      · rename_i h2; rw [if_pos h2] at h; exact absurd h (by decide)
      · rfl
    · rename_i h1
      rw [if_neg h1] at h
      split
      · rename_i h2
        rw [if_pos h2] at h
        exact key _ _ _ (fun k f hf => by
          unfold shapeF at hf ⊢
          split
          · rename_i h3; rw [if_pos h3] at hf; exact absurd hf (by simp)
          · rename_i h3
            rw [if_neg h3] at hf
            split
            · rename_i h4; rw [if_pos h4] at hf; exact absurd hf (by simp)
            · rename_i h4
              rw [if_neg h4] at hf
              exact key _ _ _ (fun j i hj => hflt _ _ _ hj) hf) h
      · rename_i h2
        rw [if_neg h2] at h
        split
        · rename_i h3
          rw [if_pos h3] at h
          unfold rootF at h ⊢
          split
          · rename_i f hf
            rw [hf] at h
            simp only at h
            split
            · rfl
            · rename_i h4; rw [if_neg h4] at h; exact absurd h (by decide)
          · rfl
        · rename_i h3
          rw [if_neg h3] at h
          exact key _ _ _ (fun k f hf => key _ _ _ (fun j i hj => hflt _ _ _ hj) hf) h
  · intro h; rw [h]; rfl

/-! ### What may be said of an instruction that may be -/

theorem chk_fld {i : Ins} (h : chk i = 0) : 0 ≤ i.op ∧ i.op ≤ 16 ∧ ∀ k, k < 4 → bad i.op.toNat k (i.fld k) = false := by
  unfold chk at h
  split at h
  · exact absurd h (by decide)
  · rename_i ho
    split at h
    · exact absurd h (by decide)
    · rename_i hw
      simp only [Ins.wrong, Bool.or_eq_true, not_or, Bool.not_eq_true] at hw
      refine ⟨by omega, by omega, fun k hk => ?_⟩
      have hm : k = 0 ∨ k = 1 ∨ k = 2 ∨ k = 3 := by omega
      rcases hm with rfl | rfl | rfl | rfl
      · exact hw.1.1.1
      · exact hw.1.1.2
      · exact hw.1.2
      · exact hw.2

theorem chk_rng {i : Ins} (h : chk i = 0) {o k : Nat} (ho : i.op = o) (hk : k < 4) : lo o k ≤ i.fld k ∧ i.fld k ≤ hi o k := by
  have hb := (chk_fld h).2.2 k hk
  rw [ho] at hb
  unfold bad at hb
  simp only [Bool.or_eq_false_iff, decide_eq_false_iff_not, Int.toNat_natCast] at hb
  omega

theorem chk_6 {i : Ins} (h : chk i = 0) (ho : i.op = 6) : 0 ≤ i.n ∧ i.n ≤ 127 := chk_rng h (o := 6) (k := 3) ho (by omega)
theorem chk_7 {i : Ins} (h : chk i = 0) (ho : i.op = 7) : 0 ≤ i.n ∧ i.n ≤ 127 := chk_rng h (o := 7) (k := 3) ho (by omega)
theorem chk_8 {i : Ins} (h : chk i = 0) (ho : i.op = 8) : 0 ≤ i.a ∧ i.a ≤ 7 ∧ 0 ≤ i.n ∧ i.n ≤ 31 :=
  ⟨(chk_rng h (o := 8) (k := 0) ho (by omega)).1, (chk_rng h (o := 8) (k := 0) ho (by omega)).2, (chk_rng h (o := 8) (k := 3) ho (by omega)).1, (chk_rng h (o := 8) (k := 3) ho (by omega)).2⟩
theorem chk_9 {i : Ins} (h : chk i = 0) (ho : i.op = 9) : 0 ≤ i.b ∧ i.b ≤ 7 := chk_rng h (o := 9) (k := 1) ho (by omega)
theorem chk_10 {i : Ins} (h : chk i = 0) (ho : i.op = 10) : 0 ≤ i.c ∧ i.c ≤ 7 := chk_rng h (o := 10) (k := 2) ho (by omega)
theorem isJ_op {i : Ins} (h : isJ i = true) : i.op = 6 ∨ i.op = 7 := by simpa [isJ] using h
theorem chk_J {i : Ins} (h : chk i = 0) (ho : isJ i = true) : 0 ≤ i.n ∧ i.n ≤ 127 := by
  rcases isJ_op ho with ho | ho
  · exact chk_6 h ho
  · exact chk_7 h ho

theorem takes_lt {P : List Fn} {x : Ins} (h : chk x = 0) : takes P x < 256 := by
  unfold takes
  have pw : ∀ b : Int, 0 ≤ b → b ≤ 7 → 2 ^ b.toNat < 256 := fun b h1 h2 => by
    have : 2 ^ b.toNat ≤ 2 ^ 7 := Nat.pow_le_pow_right (by omega) (by omega)
    omega
  split
  · rename_i h9
    exact pw _ (chk_9 h h9).1 (chk_9 h h9).2
  · split
    · rename_i h10
      exact pw _ (chk_10 h h10).1 (chk_10 h h10).2
    · split
      · split
        · exact low_lt _
        · omega
      · omega

theorem less_zero {a b : Nat} (ha : a < 256) : less a b = 0 ↔ ∀ h, h < 8 → a.testBit h = true → b.testBit h = true := by
  constructor
  · intro e h hh hb
    have := less_bit a b h hh
    rw [e, hb] at this
    simpa using this
  · intro e
    refine mask_ext (less_lt ha) (by omega) fun h hh => ?_
    rw [less_bit _ _ _ hh, Nat.zero_testBit]
    cases hb : a.testBit h with
    | false => rfl
    | true => rw [e h hh hb]; rfl

theorem less_all {a : Nat} (ha : a < 256) : less a 255 = 0 := (less_zero ha).2 fun h hh _ => (by decide : ∀ h, h < 8 → (255 : Nat).testBit h = true) h hh

end Go.Proofs.YthpkhcompkfcaaaDoor
