/-
  Stage 7: a line read.
-/
import Derived.Test.YtnlbellbeepkaaaGreatDoorLine2
import Derived.Test.YtnlbellbeepkaaaGreatDoorFirst
import Derived.Test.YtnlbellbeepkaaaGreatDoorRRight
namespace Go.Proofs.YtnlbellbeepkaaaGreatDoor
open Go.RowKit
set_option linter.unusedVariables false
set_option linter.unusedSimpArgs false

theorem suffix_cases (x : Bs) : (∃ t, x = t ++ [10] ∧ Lib.hasSuffix x [10] = true ∧ Lib.trimSuffix x [10] = t) ∨ (Lib.hasSuffix x [10] = false ∧ Lib.trimSuffix x [10] = x ∧ ¬ ∃ t, x = t ++ [10]) := by
  by_cases h : ∃ t, x = t ++ [10]
  · left
    obtain ⟨t, rfl⟩ := h
    have h1 : Lib.hasSuffix (t ++ [10]) [10] = true := by
      unfold Lib.hasSuffix
      rw [List.isSuffixOf_iff_suffix]
      exact List.suffix_append t [10]
    refine ⟨t, rfl, h1, ?_⟩
    unfold Lib.trimSuffix
    rw [if_pos h1]
    simp
  · right
    have h1 : Lib.hasSuffix x [10] = false := by
      rw [← Bool.not_eq_true]
      intro hh
      unfold Lib.hasSuffix at hh
      rw [List.isSuffixOf_iff_suffix] at hh
      obtain ⟨t, ht⟩ := hh
      exact h ⟨t, ht.symm⟩
    refine ⟨h1, ?_, h⟩
    unfold Lib.trimSuffix
    rw [if_neg (by rw [h1]; simp)]

theorem splitB_wrds (t : Bs) : (Lib.splitB (bs [32]) 0 (min 8 (t.length + 1) - 1) (bs t)).map (·.data.toList) = wrds t := (Lib.splitB_data (bs [32]) 0 _ (bs t)).trans (wrds_min t)

/-- The words lie in a row of their own. -/
def WdPost (t : Bs) (w : World) (e : Ending) (w' : World) : Prop :=
  ∃ (cap : Nat) (o : Obj), e = .returned (.slice (some ⟨w.heap.size, 0, none⟩) (wrds t).length cap) ∧ w' = w.alloc o ∧ ∀ (j : Nat) x, (wrds t)[j]? = some x → (w.alloc o).cell? ⟨w.heap.size, j, none⟩ = some (.string (bs x))

theorem split_ok (t : Bs) (hl : t.length ≤ 1000000) (w : World) (ht : Tabz w) : Calls Tryz.prog 42 #[.string (bs t), .string (bs [32]), .int .i64 8] w (WdPost t w) := by
  obtain ⟨m, hm⟩ := ht.most
  have hS := Tryz.strings_SplitN (bs t) (bs [32]) 8 m w (by rw [bs_size]; omega) hm (by decide) (by omega) (by omega)
  rw [bs_size] at hS
  have hw := splitB_wrds t
  obtain ⟨L, hL⟩ : ∃ L, Lib.splitB (bs [32]) 0 (min 8 (t.length + 1) - 1) (bs t) = L := ⟨_, rfl⟩
  rw [hL] at hS hw
  have hlen : L.length = (wrds t).length := by rw [← hw, List.length_map]
  refine hS.mono ?_
  rintro e w' ⟨rfl, rfl⟩
  refine ⟨_, _, by rw [hlen], rfl, fun j x hx => ?_⟩
  refine (Blk.new w _ 9).cell ?_
  rw [← hw, List.getElem?_map] at hx
  obtain ⟨s, hs, rfl⟩ := Option.map_eq_some_iff.1 hx
  have hj := (List.getElem?_eq_some_iff.1 hs).1
  unfold Lib.cellsOf
  rw [List.getElem?_toArray, List.getElem?_append_left (by simpa using hj), List.getElem?_map, hs]
  simp [bs]

/-- The row, as far as it is read. -/
def rowAt (ws : List Bs) : Nat → Tw
  | 0 => ⟨0, 0, 0, 0, 0, 0, ⟨#[]⟩⟩
  | j + 1 => setR ws j (rowAt ws j)

theorem rowAt_all {ws : List Bs} (h : ∀ j, j < 7 → lnE ws j = 0) : rowAt ws 7 = lnR ws := by
  have h3 := h 3 (by omega)
  simp only [lnE] at h3
  simp only [rowAt, setR, lnR]
  cases hk : kindN (ws.getD 3 []) with
  | none => rw [hk] at h3; simp at h3
  | some k => rfl

def LnJ (ws : List Bs) (lb wb cap : Nat) (w0 : World) (j : Nat) (W : World) : Prop := (∀ i, i < j → lnE ws i = 0) ∧ LnS W lb wb cap ws (rowAt ws j) ∧ Fr (fun k => k = lb) w0 W
def LnQ (ws : List Bs) (lb wb cap : Nat) (w0 : World) (x : Int) (W : World) : Prop := ∃ r, LnS W lb wb cap ws r ∧ Fr (fun k => k = lb) w0 W ∧ (x = 0 → (∀ j, j < 7 → lnE ws j = 0) ∧ r = rowAt ws 7) ∧ ((∀ j, j < 7 → lnE ws j = 0) → x = 0)

theorem ln_one {ws : List Bs} {lb wb cap : Nat} {w0 W : World} {j : Nat} (hj : j < 7) (hJ : LnJ ws lb wb cap w0 j W) {e : Ending} {w' : World} (h : LnPost W lb wb cap ws (rowAt ws j) j e w') : FsOne (LnJ ws lb wb cap w0) (LnQ ws lb wb cap w0) j e w' := by
  obtain ⟨h1, h2, h3⟩ := h
  refine ⟨_, h1, fun hx => ⟨fun i hi => ?_, h2, hJ.2.2.trans h3⟩, fun hx => ⟨_, h2, hJ.2.2.trans h3, fun h => absurd h hx, fun h => absurd (h j hj) hx⟩⟩
  rcases Nat.lt_or_ge i j with h | h
  · exact hJ.1 i h
  · obtain rfl : i = j := by omega
    exact hx

def lnFns : List Nat := [43, 44, 45, 46, 47, 48, 49]

set_option maxRecDepth 100000 in
set_option maxHeartbeats 2000000 in
theorem firsts_any (ws : List Bs) (lb wb cap g : Nat) (w0 W : World) (ht : Tabz w0) (hF0 : Fr (fun _ => False) w0 W) (hl : ws.length = 7) (hlen : ∀ j, j < 7 → (ws.getD j []).length ≤ 1000000) (hlb : w0.heap.size ≤ lb) (hg : g ≠ lb)
    (hB : Blk W g #[.func (.func 43) #[.pointer (some ⟨lb, 0, none⟩)] #[], .func (.func 44) #[.pointer (some ⟨lb, 0, none⟩)] #[], .func (.func 45) #[.pointer (some ⟨lb, 0, none⟩)] #[], .func (.func 46) #[.pointer (some ⟨lb, 0, none⟩)] #[], .func (.func 47) #[.pointer (some ⟨lb, 0, none⟩)] #[], .func (.func 48) #[.pointer (some ⟨lb, 0, none⟩)] #[], .func (.func 49) #[.pointer (some ⟨lb, 0, none⟩)] #[]])
    (h0 : LnS W lb wb cap ws (rowAt ws 0)) :
    Calls Tryz.prog 27 #[.slice (some ⟨g, 0, none⟩) 7 7] W (FsPost (LnQ ws lb wb cap W)) := by
  refine first_any g 7 lnFns (.pointer (some ⟨lb, 0, none⟩)) W (LnJ ws lb wb cap W) (LnQ ws lb wb cap W) rfl (by omega)
    (fun j f W' hf hJ => by
      have hB' := hB.keep hJ.2.2 (fun h => hg h)
      refine ⟨hB'.cell ?_, hB'.lt⟩
      match j, hf with
      | 0, hf => simp [lnFns] at hf; subst hf; rfl
      | 1, hf => simp [lnFns] at hf; subst hf; rfl
      | 2, hf => simp [lnFns] at hf; subst hf; rfl
      | 3, hf => simp [lnFns] at hf; subst hf; rfl
      | 4, hf => simp [lnFns] at hf; subst hf; rfl
      | 5, hf => simp [lnFns] at hf; subst hf; rfl
      | 6, hf => simp [lnFns] at hf; subst hf; rfl
      | j + 7, hf => simp [lnFns] at hf)
    (fun j f W' hf hJ => by
      have ht' : Tabz W' := ht.same ((hF0.since hJ.2.2 (fun i hi hlt => by omega)))
      match j, hf, hJ with
      | 0, hf, hJ => simp [lnFns] at hf; subst hf; exact (ln0_any lb wb cap ws _ W' ht' hl (hlen 0 (by omega)) hJ.2.1).mono fun e w' h => ln_one (by omega) hJ h
      | 1, hf, hJ => simp [lnFns] at hf; subst hf; exact (ln1_any lb wb cap ws _ W' ht' (by omega) hl (hlen 1 (by omega)) hJ.2.1).mono fun e w' h => ln_one (by omega) hJ h
      | 2, hf, hJ => simp [lnFns] at hf; subst hf; exact (ln2_any lb wb cap ws _ W' ht' (by omega) hl (hlen 2 (by omega)) hJ.2.1).mono fun e w' h => ln_one (by omega) hJ h
      | 3, hf, hJ => simp [lnFns] at hf; subst hf; exact (ln3_any lb wb cap ws _ W' ht' hl (hlen 3 (by omega)) hJ.2.1).mono fun e w' h => ln_one (by omega) hJ h
      | 4, hf, hJ => simp [lnFns] at hf; subst hf; exact (ln4_any lb wb cap ws _ W' ht' hl (hlen 4 (by omega)) hJ.2.1).mono fun e w' h => ln_one (by omega) hJ h
      | 5, hf, hJ => simp [lnFns] at hf; subst hf; exact (ln5_any lb wb cap ws _ W' ht' (by omega) hl (hlen 5 (by omega)) hJ.2.1).mono fun e w' h => ln_one (by omega) hJ h
      | 6, hf, hJ => simp [lnFns] at hf; subst hf; exact (ln6_any lb wb cap ws _ W' ht' hl (hlen 6 (by omega)) hJ.2.1).mono fun e w' h => ln_one (by omega) hJ h
      | j + 7, hf, hJ => simp [lnFns] at hf)
    (fun j f W' hf => by
      match j, hf with
      | 0, hf => simp [lnFns] at hf; subst hf; exact enters_of Tryz.func43 (by kernel_rfl) rfl _ _
      | 1, hf => simp [lnFns] at hf; subst hf; exact enters_of Tryz.func44 (by kernel_rfl) rfl _ _
      | 2, hf => simp [lnFns] at hf; subst hf; exact enters_of Tryz.func45 (by kernel_rfl) rfl _ _
      | 3, hf => simp [lnFns] at hf; subst hf; exact enters_of Tryz.func46 (by kernel_rfl) rfl _ _
      | 4, hf => simp [lnFns] at hf; subst hf; exact enters_of Tryz.func47 (by kernel_rfl) rfl _ _
      | 5, hf => simp [lnFns] at hf; subst hf; exact enters_of Tryz.func48 (by kernel_rfl) rfl _ _
      | 6, hf => simp [lnFns] at hf; subst hf; exact enters_of Tryz.func49 (by kernel_rfl) rfl _ _
      | j + 7, hf => simp [lnFns] at hf)
    ⟨fun i hi => by omega, h0, Fr.refl _ _⟩
    (fun W' hJ => ⟨_, hJ.2.1, hJ.2.2, fun _ => ⟨hJ.1, rfl⟩, fun _ => rfl⟩)

end Go.Proofs.YtnlbellbeepkaaaGreatDoor
