/-
  Runs of programs with a first function that is given.
-/
import Derived.Test.YtpjcdjooiaefdaaDoorVFuelM
import Derived.Test.YtpjcdjooiaefdaaDoorVSerT
import Derived.Test.YtpjcdjooiaefdaaDoorVRowsC
namespace Go.Proofs.YtpjcdjooiaefdaaDoor
open Go.RowKit
set_option linter.unusedVariables false

section
variable {P : List Fn} {rows : List Rw} {st : Nat} {er : Int}

theorem RunIs.doe {F : Nat} (h : RunIs P F rows st 0) : Acc P ∧ F ≤ 1048576 ∧ Doe P F 0 0 rootT rootG ⟨rows, st⟩ := by
  obtain ⟨A, hF, n, he⟩ := h.went
  exact ⟨A, hF, root_inv A F, n, he⟩

theorem RunIs.neg {fuel : Int} (h : RunIs P fuel rows st 0) : 0 ≤ fuel := by
  rcases h with ⟨_, _, _, h⟩ | ⟨_, _, _, _, h⟩ | ⟨A, h0, _⟩
  · cases h
  · cases h
  · exact h0

theorem RunIs.nilled {fuel : Int} (h : RunIs P fuel rows st er) (he : er ≠ 0) : rows = [] := by
  rcases h with ⟨_, h, _⟩ | ⟨_, _, h, _⟩ | ⟨A, h0, h1, n, o, hx, ho⟩
  · exact h
  · exact h
  · cases o with
    | err c => exact ho.1
    | done G => exact absurd ho.2.2 he

theorem RunIs.whys {fuel : Int} (A : Acc P) (hf : fuel ≤ 1048576) (h : RunIs P fuel rows st er) (he : er ≠ 0) : er = 22 ∨ er = 23 ∨ (er = 10 ∧ fuel < 0) := by
  rcases h with ⟨h, _⟩ | ⟨_, h, _, _, h2⟩ | ⟨_, h0, h1, n, o, hx, ho⟩
  · exact absurd A h
  · exact .inr (.inr ⟨h2, by omega⟩)
  · cases o with
    | err c =>
      obtain ⟨_, _, rfl⟩ := ho
      rcases exec_errs A (by omega) _ _ _ _ _ _ (root_inv A _) hx with h | h
      · exact .inl h
      · exact .inr (.inl h)
    | done G => exact absurd ho.2.2 he

theorem RunIs.twice {V : Int} {q : Nat} {fuel : Int} (A : Acc P) (hq1 : 1 ≤ q) (hq : q < P.length) (hn : needsOf P q = 0) (h : RunIs (P.set 0 ⟨0, twCode V q⟩) fuel rows st 0) : ∃ r0 L, Brood q 0 L ∧ rows = r0 :: L ++ shL 1 L.length id L := by
  have h0 := h.neg
  obtain ⟨F, rfl⟩ : ∃ F : Nat, fuel = F := ⟨fuel.toNat, by omega⟩
  obtain ⟨A', hF, d⟩ := h.doe
  exact tw_exec A' hF (List.getElem?_set_self (by omega)) (by rw [needs_set hq1]; exact hn) d

theorem RunIs.scopes {q : Nat} {fuel : Int} (hq1 : 1 ≤ q) (hq : q < P.length) (hn : needsOf P q = 0) (h : RunIs (P.set 0 ⟨0, scCode q⟩) fuel rows st 0) :
    ∃ r0 L, r0.kind = 2 ∧ r0.cl = [false, true] ∧ r0.par = -1 ∧ Brood q 1 L ∧ rows = r0 :: L ++ [lostR 1 q, lostR 2 q] ++ shL 1 (L.length + 2) (fun _ => 0) L := by
  have h0 := h.neg
  obtain ⟨F, rfl⟩ : ∃ F : Nat, fuel = F := ⟨fuel.toNat, by omega⟩
  obtain ⟨A', hF, d⟩ := h.doe
  exact sc_exec A' hF (List.getElem?_set_self (by omega)) (by rw [needs_set hq1]; exact hn) d
end

/-- A row that is forked, further behind. -/
theorem brood_sh {q i0 : Int} {L : List Rw} {d : Nat} {c : Int → Int} (B : Brood q i0 L) : (∀ (i : Nat) r, 1 ≤ i → L[i]? = some r → r.sh 1 d c = { r with par := r.par + d }) ∧ ∀ r, L[0]? = some r → r.sh 1 d c = { r with in_ := c i0 } := by
  constructor
  · intro i r hi hr
    have := B.more i r hi hr
    unfold Rw.sh
    rw [shI_big (by omega), if_neg (by omega)]
  · intro r hr
    obtain ⟨r', hr', h1, h2, _⟩ := B.first
    rw [hr] at hr'
    injection hr' with hr'
    subst hr'
    unfold Rw.sh shI
    rw [if_neg (by omega), if_pos (by omega), h2]

theorem twice_at {L rows : List Rw} {r0 : Rw} {m d : Nat} {c : Int → Int} {Z : List Rw} (hrows : rows = r0 :: L ++ Z ++ shL 1 d c L) (hm : L.length = m) (hz : Z.length = d - m) (hd : m ≤ d) : ∀ (i : Nat) r, L[i]? = some r → rows[i + 1]? = some r ∧ rows[d + (i + 1)]? = some (r.sh 1 d c) := by
  intro i r hr
  have hil := (List.getElem?_eq_some_iff.1 hr).1
  rw [hrows]
  constructor
  · rw [List.cons_append, List.cons_append, List.getElem?_cons_succ, List.getElem?_append_left (by rw [List.length_append]; omega), List.getElem?_append_left hil]
    exact hr
  · rw [List.cons_append, List.cons_append, ← Nat.add_assoc, List.getElem?_cons_succ, List.getElem?_append_right (by rw [List.length_append]; omega), show d + i - (L ++ Z).length = i by rw [List.length_append]; omega]
    unfold shL
    rw [List.getElem?_map, hr]
    rfl

theorem twice_nums {m ln : Nat} (h : ln = 2 * m + 1) (hb : ln ≤ 1048577) : ∃ (dm : Int) (m1 : Nat), m1 = m + 1 ∧ wrap64 ((ln : Int) - 1) = dm ∧ wrap64 (dm.tdiv 2) = (m : Int) ∧ wrap64 (2 * (m : Int)) = dm ∧ wrap64 (dm + 1) = (ln : Int) ∧ wrap64 ((m : Int) + 1) = (m1 : Int) ∧ (1 ≤ m → ¬ (m : Int) < 1 ∧ (0 : Int) ≤ m1 ∧ (m1 : Int) < ln ∧ (1 : Int) < ln) := by
  refine ⟨2 * (m : Int), m + 1, rfl, ?_, ?_, ?_, ?_, ?_, fun h => ⟨by omega, by omega, by omega, by omega⟩⟩
  · rw [wrap_small (by omega) (by omega)]; omega
  · rw [Int.mul_tdiv_cancel_left _ (by decide)]; exact wrap_small (by omega) (by omega)
  · exact wrap_small (by omega) (by omega)
  · rw [wrap_small (by omega) (by omega)]; omega
  · rw [wrap_small (by omega) (by omega)]; omega

theorem twice_cells {w : World} {A : Option Addr} {q : Int} {L rows : List Rw} {r0 : Rw} {m : Nat} (h : RdR w A rows) (hB : Brood q 0 L) (hrows : rows = r0 :: L ++ shL 1 m id L) (hm : L.length = m) {M : Nat} (hM : M = 7) :
    ∃ gr, A = some ⟨gr, 0, none⟩ ∧ gr < w.heap.size ∧ w.cell? ⟨gr, M, none⟩ = some (.int .i64 0) ∧ w.cell? ⟨gr, (m + 1) * M, none⟩ = some (.int .i64 0) := by
  subst hM
  have hat := twice_at (r0 := r0) (Z := []) (rows := rows) (c := id) (d := m) (by rw [hrows, List.append_nil]) hm (by simp) (Nat.le_refl _)
  obtain ⟨ra, hra, h0, _⟩ := hB.first
  obtain ⟨gr, hg, hgl, hc1⟩ := h.cell (hat 0 ra hra).1
  obtain ⟨gr', hg', _, hc2⟩ := h.cell (hat 0 ra hra).2
  rw [hg] at hg'
  injection hg' with hg'
  injection hg' with hg'
  subst hg'
  refine ⟨gr, hg, hgl, ?_, ?_⟩
  · have := hc1 0 (.int .i64 ra.par) rfl
    rw [h0] at this
    exact this
  · have e : (ra.sh 1 m id).par = 0 := by
      rw [(brood_sh hB).2 ra hra]
      exact h0
    have := hc2 0 (.int .i64 (ra.sh 1 m id).par) rfl
    rw [e] at this
    rw [show (m + 1) * 7 = (m + (0 + 1)) * 7 + 0 by omega]
    exact this

/-- Two rows that are the same, further behind. -/
theorem twice_rows {q : Int} {L rows : List Rw} {r0 : Rw} {m j : Nat} (hB : Brood q 0 L) (hrows : rows = r0 :: L ++ shL 1 m id L) (hm : L.length = m) (h1 : 1 ≤ j) (h2 : j ≤ m) :
    ∃ r s : Rw, rows[j]? = some r ∧ rows[m + j]? = some s ∧ (1 < j → s = { r with par := r.par + m } ∧ r.par ≤ j ∧ 0 ≤ r.par) ∧ (¬ 1 < j → s = r) := by
  have hat := twice_at (r0 := r0) (Z := []) (rows := rows) (c := id) (d := m) (by rw [hrows, List.append_nil]) hm (by simp) (Nat.le_refl _)
  obtain ⟨i, rfl⟩ : ∃ i, j = i + 1 := ⟨j - 1, by omega⟩
  obtain ⟨r, hr⟩ : ∃ r, L[i]? = some r := ⟨_, List.getElem?_eq_getElem (by omega)⟩
  refine ⟨r, r.sh 1 m id, (hat i r hr).1, (hat i r hr).2, fun h1 => ?_, fun h1 => ?_⟩
  · have := hB.more i r (by omega) hr
    exact ⟨(brood_sh hB).1 i r (by omega) hr, by omega, by omega⟩
  · obtain rfl : i = 0 := by omega
    rw [(brood_sh hB).2 r hr]
    obtain ⟨r', hr', _, h3, _⟩ := hB.first
    rw [hr] at hr'
    injection hr' with hr'
    subst hr'
    show ({ r with in_ := 0 } : Rw) = r
    cases r
    simp only at h3
    subst h3
    rfl

theorem twice_sub {pa : Int} {m j : Nat} (h0 : 0 ≤ pa) (h1 : pa ≤ j) (h2 : j ≤ m) (h3 : m ≤ 1048577) : wrap64 ((pa + m) - m) = pa := by
  rw [wrap_small (by omega) (by omega)]
  omega

theorem twice_sum {m j ln : Nat} (h : ln = 2 * m + 1) (hj : j ≤ m) (h3 : ln ≤ 1048577) : ∃ mj : Nat, mj = m + j ∧ wrap64 ((m : Int) + j) = (mj : Int) ∧ (0 : Int) ≤ mj ∧ (mj : Int) < ln ∧ (0 : Int) ≤ j ∧ (j : Int) < ln ∧ (j : Int) ≤ m := by
  refine ⟨m + j, rfl, ?_, by omega, by omega, by omega, by omega, by omega⟩
  rw [wrap_small (by omega) (by omega)]
  omega

end Go.Proofs.YtpjcdjooiaefdaaDoor
