/-
  Fuel: what is told of it, plainly.
-/
import Derived.Test.YtpjcdjooiaefdaaDoorVRun
namespace Go.Proofs.YtpjcdjooiaefdaaDoor
open Go.RowKit
set_option linter.unusedVariables false

section
variable {P : List Fn} {rows rows2 : List Rw} {st st2 : Nat} {er er2 : Int}

/-- A run that told nothing wrong. -/
theorem RunIs.went {F : Nat} (h : RunIs P F rows st 0) : Acc P ∧ F ≤ 1048576 ∧ ∃ n, exec P F n 0 0 rootT rootG = some (.done ⟨rows, st⟩) := by
  rcases h with ⟨_, _, _, h⟩ | ⟨_, _, _, _, h⟩ | ⟨A, h0, h1, n, o, he, ho⟩
  · cases h
  · cases h
  · rw [Int.toNat_natCast] at he
    have hN : F ≤ 1048576 := by omega
    cases o with
    | err c =>
      obtain ⟨_, _, rfl⟩ := ho
      rcases exec_errs A hN _ _ _ _ _ _ (root_inv A _) he with h | h <;> cases h
    | done G =>
      obtain ⟨rfl, rfl, _⟩ := ho
      exact ⟨A, hN, n, he⟩

theorem RunIs.does {F : Nat} {n : Nat} (A : Acc P) (hF : F ≤ 1048576) (he : exec P F n 0 0 rootT rootG = some (.done ⟨rows, st⟩)) (h : RunIs P F rows2 st2 er2) : rows2 = rows ∧ st2 = st ∧ er2 = 0 := by
  rcases h with ⟨h, _⟩ | ⟨_, h, _⟩ | ⟨_, _, _, n', o, he', ho⟩
  · exact absurd A h
  · omega
  · rw [Int.toNat_natCast] at he'
    have := exec_one he he'
    subst this
    exact ho

theorem RunIs.more {F M : Nat} (h : RunIs P F rows st 0) (hM : F + M ≤ 1048576) (h2 : RunIs P (F + M : Nat) rows2 st2 er2) : rows2 = rows ∧ st2 = st ∧ er2 = 0 := by
  obtain ⟨A, hF, n, he⟩ := h.went
  exact RunIs.does A hM (exec_more (by omega) _ _ _ _ _ _ he (by simp)) h2

theorem RunIs.just {F : Nat} (h : RunIs P F rows st 0) (h2 : RunIs P (st : Nat) rows2 st2 er2) : rows2 = rows ∧ st2 = st ∧ er2 = 0 := by
  obtain ⟨A, hF, n, he⟩ := h.went
  have hle := (exec_ext A hF _ _ _ _ _ _ (root_inv A _) he).2
  exact RunIs.does A (by have h : st ≤ F := hle; omega) (exec_less A hF _ _ _ _ _ _ (root_inv A _) he (Nat.le_refl _)) h2

theorem RunIs.bounds {F : Nat} (h : RunIs P F rows st 0) : 1 ≤ st ∧ st ≤ F ∧ 1 ≤ rows.length := by
  obtain ⟨A, hF, n, he⟩ := h.went
  obtain ⟨E, hle⟩ := exec_ext A hF _ _ _ _ _ _ (root_inv A _) he
  have h1 := E.steps
  have h2 := E.len
  have e1 : rootG.rows.length = 1 := rfl
  have e2 : rootG.st = 0 := rfl
  simp only at h1 h2 hle
  omega

theorem RunIs.short {F : Nat} (h : RunIs P F rows st 0) (h2 : RunIs P ((st : Int) - 1) rows2 st2 er2) : er2 = 22 := by
  have hb := h.bounds
  obtain ⟨A, hF, n, he⟩ := h.went
  obtain ⟨k, rfl⟩ : ∃ k, st = k + 1 := ⟨st - 1, by omega⟩
  rw [show ((k + 1 : Nat) : Int) - 1 = (k : Nat) by omega] at h2
  have hs := exec_short (N' := k) A hF _ _ _ _ _ _ (root_inv A _) he (by simp only; omega)
  rcases h2 with ⟨h, _⟩ | ⟨_, h, _⟩ | ⟨_, _, _, n', o, he', ho⟩
  · exact absurd A h
  · omega
  · rw [Int.toNat_natCast] at he'
    have := exec_one hs he'
    subst this
    exact ho.2.2

theorem RunIs.fails {F M : Nat} (hM : F + M ≤ 1048576) (h : RunIs P F rows st er) (he : er ≠ 0) (h2 : RunIs P (F + M : Nat) rows2 st2 er2) : rows = [] ∧ st = 0 ∧ (er = er2 ∨ er = 22) := by
  rcases h with ⟨hA, h1, h3, h4⟩ | ⟨_, h, _⟩ | ⟨A, _, _, n, o, hx, ho⟩
  · refine ⟨h1, h3, .inl ?_⟩
    rcases h2 with ⟨_, _, _, h5⟩ | ⟨h5, _⟩ | ⟨h5, _⟩
    · rw [h4, h5]
    · exact absurd h5 hA
    · exact absurd h5 hA
  · omega
  · cases o with
    | done G => exact absurd ho.2.2 he
    | err c =>
      obtain ⟨h1, h3, rfl⟩ := ho
      refine ⟨h1, h3, ?_⟩
      by_cases hc : er = 22
      · exact .inr hc
      refine .inl ?_
      rw [Int.toNat_natCast] at hx
      have hx2 := exec_more (N' := F + M) (by omega) _ _ _ _ _ _ hx (by simp [hc])
      rcases h2 with ⟨h5, _⟩ | ⟨_, h5, _⟩ | ⟨_, _, _, n', o', hx', ho'⟩
      · exact absurd A h5
      · omega
      · rw [Int.toNat_natCast] at hx'
        have := exec_one hx2 hx'
        subst this
        exact ho'.2.2.symm

theorem RunIs.parents {F : Nat} (h : RunIs P F rows st 0) : ∀ (j : Nat) r, rows[j]? = some r → (j = 0 → r.par = -1) ∧ (j ≠ 0 → 0 ≤ r.par) ∧ r.par < j := by
  obtain ⟨A, hF, n, he⟩ := h.went
  obtain ⟨h1, r0, h2, h3, _⟩ := exec_par A hF _ _ _ _ _ _ (root_inv A _) he
  intro j r hr
  by_cases hj : j = 0
  · subst hj
    simp only at h2
    rw [h2] at hr
    injection hr with hr
    subst hr
    have : r0.par = -1 := h3
    exact ⟨fun _ => this, fun h => absurd rfl h, by omega⟩
  · have := h1 j r (by show 1 ≤ j; omega) hr
    exact ⟨fun h => absurd h hj, fun _ => by omega, this.2⟩

theorem RunIs.sum {F : Nat} (h : RunIs P F rows st 0) : sumS rows = st := by
  obtain ⟨A, hF, n, he⟩ := h.went
  have := exec_sum A hF _ _ _ _ _ _ (root_inv A _) he
  have e1 : sumS rootG.rows = 0 := rfl
  have e2 : rootG.st = 0 := rfl
  have e3 : rootT.F.st = 0 := rfl
  rw [e1, e2, e3] at this
  simp only at this
  omega
end

theorem wrap_add (x y : Int) : wrap64 (wrap64 x + y) = wrap64 (x + y) := by
  unfold wrap64
  omega

theorem sumS_take {l : List Rw} {j : Nat} {r : Rw} (h : l[j]? = some r) : sumS (l.take (j + 1)) = sumS (l.take j) + r.st := by
  rw [take_snoc' h, sumS_add]
  simp [sumS]

end Go.Proofs.YtpjcdjooiaefdaaDoor
