/-
  Steps of operations, evaluated: for the chapter's example.
-/
import Derived.Test.YtlhpngoplmccjaaTakes
namespace Go.Proofs.Ytlhpngoplmccjaa
open Go.RowKit
set_option linter.unusedVariables false

instance (r : Rg) : Decidable r.Right := by unfold Rg.Right; infer_instance

def wordB (x : Int) : Bool := decide ((rgOf x).Right) && decide ((rgOf x).word = x)

theorem wordB_of {x : Int} (h : wordB x = true) : ∃ R : Rg, R.Right ∧ x = R.word := by
  unfold wordB at h
  simp only [Bool.and_eq_true, decide_eq_true_eq] at h
  exact ⟨_, h.1, h.2.symm⟩

def inRB (o : DOp) : Bool := decide (1 ≤ o.nx) && ((o.kind == 0 && decide (o.nx ≤ 8)) || (o.kind == 1 && decide (o.nx ≤ 8)) || (o.kind == 2 && decide (o.nx ≤ 5)))

theorem inRB_of {o : DOp} (h : inRB o = true) : o.InR := by
  unfold inRB at h
  unfold DOp.InR
  simp at h
  omega

def safeB (o : DOp) (M : Mach) : Bool :=
  decide (3 ≤ M.used) && inRB o && match o.kind, o.nx with
  | 0, 3 => wordB (rd M 2)
  | 1, 2 => wordB (rd M 2)
  | 2, 3 => wordB (rd M 2)
  | 0, 4 => decide (o.rg.Right ∧ 1 ≤ pow (o.rg.l + 1) ∧ 0 ≤ o.rg.l + 1 ∧ o.rg.l + 1 ≤ 8 ∧ (M.used : Int) + pow (o.rg.l + 1) ≤ M.all.length ∧ M.used ≤ 600 ∧ o.t < o.b ∧ o.b - o.t = pow o.rg.l)
  | 0, 5 => decide (o.rg.Right ∧ o.to.Right ∧ o.pl < o.b ∧ o.rg.place o.pl < M.used ∧ o.to.place o.pl < M.used ∧ 3 ≤ o.to.place o.pl ∧ o.b - o.t = pow o.rg.l ∧ o.to.l = o.rg.l + 1)
  | 0, 6 => decide o.to.Right
  | 0, 7 => decide (o.rg.Right ∧ o.rg.place o.b < M.used ∧ 3 ≤ o.rg.place o.b)
  | 1, 6 => decide (o.rg.Right ∧ o.rg.place (o.b - 1) < M.used)
  | 2, 4 => decide (o.rg.Right ∧ o.rg.place o.t < M.used)
  | _, _ => true

theorem safeB_of {o : DOp} {M : Mach} (h : safeB o M = true) : o.safe M := by
  unfold safeB at h
  simp only [Bool.and_eq_true, decide_eq_true_eq] at h
  obtain ⟨⟨h1, h2⟩, h3⟩ := h
  refine ⟨h1, inRB_of h2, ?_⟩
  split at h3
  all_goals rename_i hk hn
  all_goals simp only [hk, hn]
  · exact wordB_of h3
  · exact wordB_of h3
  · exact wordB_of h3
  · exact of_decide_eq_true h3
  · exact of_decide_eq_true h3
  · exact of_decide_eq_true h3
  · exact of_decide_eq_true h3
  · exact of_decide_eq_true h3
  · exact of_decide_eq_true h3

def tk (most : Int) : Nat → DOp → Mach → Option (DOp × Mach)
  | 0, _, _ => none
  | 1, o, M => bif safeB o M then some (o.act most M) else none
  | n + 2, o, M => bif safeB o M && (o.act most M).1.how == 0 then tk most (n + 1) (o.act most M).1 (o.act most M).2 else none

theorem tk_of {most : Int} : ∀ (n : Nat) (o : DOp) (M : Mach) (r : DOp × Mach), tk most n o M = some r → Tk most o M n r.1 r.2
  | 0, _, _, _, h => by cases h
  | 1, o, M, r, h => by
    unfold tk at h
    cases hs : safeB o M
    · rw [hs] at h; cases h
    · rw [hs] at h
      injection h with h
      rw [← h]
      exact Tk.last o M (safeB_of hs)
  | n + 2, o, M, r, h => by
    unfold tk at h
    cases hs : safeB o M && (o.act most M).1.how == 0
    · rw [hs] at h; cases h
    · rw [hs] at h
      simp only [Bool.and_eq_true, beq_iff_eq] at hs
      exact Tk.step o M (n + 1) _ _ (safeB_of hs.1) hs.2 (tk_of (n + 1) _ _ r h)

/-! ### The chapter's example -/

def x0 : Mach := newM ⟨List.replicate 16 0, 0, []⟩ 0
def x1 : Option (DOp × Mach) := tk 1 5 (beginOp 0 5) x0
def m1 : Mach := ((tk 1 5 (beginOp 0 5) x0).getD (beginOp 0 0, x0)).2
def m2 : Mach := ((tk 1 9 (beginOp 0 6) m1).getD (beginOp 0 0, x0)).2
def m3 : Mach := ((tk 1 3 (beginOp 0 7) m2).getD (beginOp 0 0, x0)).2
def m4 : Mach := ((tk 1 4 (beginOp 2 0) m3).getD (beginOp 0 0, x0)).2
def o4 : DOp := ((tk 1 4 (beginOp 2 0) m3).getD (beginOp 0 0, x0)).1
def m5 : Mach := (o4.act 1 m4).2
def o5 : DOp := (o4.act 1 m4).1

theorem tk_get {most : Int} {n : Nat} {o : DOp} {M : Mach} {h : Nat} (e : (tk most n o M).map (fun r => r.1.how) = some h) : Tk most o M n ((tk most n o M).getD (beginOp 0 0, x0)).1 ((tk most n o M).getD (beginOp 0 0, x0)).2 ∧ ((tk most n o M).getD (beginOp 0 0, x0)).1.how = h := by
  obtain ⟨r, hr, he⟩ := Option.map_eq_some_iff.1 e
  rw [hr]
  exact ⟨tk_of n o M r hr, he⟩

theorem e1 : (tk 1 5 (beginOp 0 5) x0).map (fun r => r.1.how) = some 1 := by decide +kernel
theorem e2 : (tk 1 9 (beginOp 0 6) m1).map (fun r => r.1.how) = some 1 := by decide +kernel
theorem e3 : (tk 1 3 (beginOp 0 7) m2).map (fun r => r.1.how) = some 4 := by decide +kernel
theorem e4 : (tk 1 4 (beginOp 2 0) m3).map (fun r => r.1.how) = some 2 := by decide +kernel
theorem e5 : safeB o4 m4 = true ∧ (o4.act 1 m4).1.how = 1 ∧ (o4.act 1 m4).1.got = 5 ∧ o4.got = 5 := by decide +kernel
theorem e6 : dqL m5 ⟨4, 1⟩ = [6] ∧ (rd m5 2 = (⟨4, 1⟩ : Rg).word) := by decide +kernel
theorem ec : CellB 1000 x0 ∧ CellB 1000 m1 ∧ CellB 1000 m2 ∧ CellB 1000 m3 := by unfold CellB; decide +kernel
theorem ecl : x0.all.length = 16 ∧ m1.all.length = 16 ∧ m2.all.length = 16 ∧ m3.all.length = 16 := by decide +kernel
def o1' : DOp := ((tk 1 5 (beginOp 0 5) x0).getD (beginOp 0 0, x0)).1
def o2' : DOp := ((tk 1 9 (beginOp 0 6) m1).getD (beginOp 0 0, x0)).1
def o3' : DOp := ((tk 1 3 (beginOp 0 7) m2).getD (beginOp 0 0, x0)).1
theorem t1 : Tk 1 (beginOp 0 5) x0 5 o1' m1 ∧ o1'.how = 1 := tk_get e1
theorem t2 : Tk 1 (beginOp 0 6) m1 9 o2' m2 ∧ o2'.how = 1 := tk_get e2
theorem t3 : Tk 1 (beginOp 0 7) m2 3 o3' m3 ∧ o3'.how = 4 := tk_get e3
theorem t4 : Tk 1 (beginOp 2 0) m3 4 o4 m4 ∧ o4.how = 2 := tk_get e4
end Go.Proofs.Ytlhpngoplmccjaa
