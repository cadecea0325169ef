/-
  Stage 7: Few, ints.
-/
import Derived.Test.YticlnopklpaikaaDoorKids
namespace Go.Proofs.YticlnopklpaikaaDoor
open Go.RowKit
set_option linter.unusedVariables false

def fewB (l : List Tw) : Prop := l.length ≤ 60 ∧ ∀ (i : Nat) r, l[i]? = some r → r.cl.size ≤ 100

def FwRel (l : List Tw) (n : Nat) (w : World) (d : Nat) (k : Value) (wr : World) : Prop :=
  ∃ j : Nat, j ≤ n ∧ j ≤ 61 ∧ d = 62 - j ∧ k = .int .i64 j ∧ (∀ (i : Nat) r, i < j → l[i]? = some r → r.cl.size ≤ 100) ∧ w = wr

set_option maxRecDepth 100000 in
set_option maxHeartbeats 2000000 in
theorem few_any (A : Option Addr) (n c : Nat) (l : List Tw) (w : World) (hA : RdT w A l) (hl : l.length = n) (hn : n ≤ 9223372036854775807) (hcl : ∀ (i : Nat) r, l[i]? = some r → r.cl.size ≤ 9223372036854775807) :
    Calls Tryd.prog 9 #[.slice A n c] w fun e w' => ∃ b : Bool, e = .returned (.bool b) ∧ (b = true → fewB l) ∧ w = w' := by
  have HL := hid hl
  have HA := hid hA
  have HCL := hid hcl
  clear hl hA hcl
  go_enter Tryd.func9, Tryd.ntmps9
  go_wp2_with fail
  go_loopg [3] 62 (fun d k wr => FwRel l n w d k wr)
  case atStart => exact ⟨0, by omega, by omega, by omega, rfl, fun i r h => by omega, rfl⟩
  case round =>
    obtain ⟨j, hj, hj2, hd, rfl, hall, rfl⟩ := hrel
    have HAL := hid hall
    have HD := hid hd
    clear hall hd
    by_cases hlt : j < n
    · by_cases h61 : j < 61
      · obtain ⟨r, hr⟩ : ∃ r, l[j]? = some r := ⟨_, List.getElem?_eq_getElem (by rw [HL.out]; omega)⟩
        obtain ⟨ga, oga, rfl, hga, hcc⟩ := HA.out.cell hr
        have q6 : w.cell? ⟨ga, oga + j * 7 + 6, none⟩ = some (.string r.cl) := hcc 6 _ rfl
        have hcr := HCL.out j r hr
        have HR := hid hr
        have hj0 : (0 : Int) ≤ j ∧ (j : Int) < n := by omega
        clear hr hcc
        by_cases h100 : 100 < r.cl.size
        · go_wp2_with fail
          go_ret
          exact ⟨false, rfl, (fun h => by cases h), rfl⟩
        · go_wp2_with fail
          go_roundg (62 - (j + 1))
          case rel => exact ⟨j + 1, by omega, by omega, rfl, by go_num, fun i r' hi hr' => by
            rcases Nat.lt_or_ge i j with h | h
            · exact HAL.out i r' h hr'
            · obtain rfl : i = j := by omega
              rw [HR.out] at hr'
              injection hr' with hr'
              subst hr'
              omega, rfl⟩
          case measure => have := HD.out; omega
      · have h60 : 60 < n := by omega
        go_wp2_with fail
        go_ret
        exact ⟨false, by first | rfl | (simp; omega), (fun h => by cases h), rfl⟩
    · by_cases h60 : n ≤ 60
      · go_wp2_with fail
        go_ret
        exact ⟨true, by first | rfl | (simp; omega), fun _ => ⟨by rw [HL.out]; exact h60, fun i r hr => HAL.out i r (by have := (List.getElem?_eq_some_iff.1 hr).1; rw [HL.out] at this; omega) hr⟩, rfl⟩
      · go_wp2_with fail
        go_ret
        exact ⟨false, by first | rfl | (simp; omega), (fun h => by cases h), rfl⟩

def ItRel (n : Nat) (w : World) (d : Nat) (k : Value) (wr : World) : Prop := ∃ j : Nat, j ≤ n ∧ d = n + 1 - j ∧ k = .int .i64 j ∧ Fr (fun _ => False) w wr

set_option maxRecDepth 100000 in
set_option maxHeartbeats 2000000 in
/-- Two rows of the same numbers. -/
theorem ints_any (A B : Option Addr) (n c c' B1 B2 : Nat) (l : List Int) (w : World) (hn : n ≤ 4000000) (hA : OwnR w B1 3 1 A n c (intsV l)) (hB : OwnR w B2 3 1 B n c' (intsV l)) :
    Calls Tryd.prog 12 #[.slice A n c, .slice B n c'] w fun e w' => e = .returned (.bool true) ∧ Fr (fun _ => False) w w' := by
  have HA := hid hA
  have HB := hid hB
  have HLN := hid (show l.length = n by have := hA.1; unfold intsV at this; rw [List.length_map] at this; omega)
  clear hA hB
  go_enter Tryd.func12, Tryd.ntmps12
  go_wp2_with fail
  go_loopg [5] (n + 1) (fun d k wr => ItRel n w d k wr)
  case atStart => exact ⟨0, by omega, by omega, rfl, Fr.refl _ _⟩
  case round =>
    obtain ⟨j, hj, hd, rfl, hF⟩ := hrel
    have HD := hid hd
    have HF := hid hF
    clear hd hF
    by_cases hlt : j < n
    · obtain ⟨x, hx⟩ : ∃ x, l[j]? = some x := ⟨_, List.getElem?_eq_getElem (by rw [HLN.out]; exact hlt)⟩
      obtain ⟨g1, rfl, _, hg1, _, hc1⟩ := (OwnR.same HA.out HF.out).cell (by omega)
      obtain ⟨g2, rfl, _, hg2, _, hc2⟩ := (OwnR.same HB.out HF.out).cell (by omega)
      have v1 := hc1 j (.int .i64 x) (by unfold intsV; rw [List.getElem?_map, hx]; rfl)
      have v2 := hc2 j (.int .i64 x) (by unfold intsV; rw [List.getElem?_map, hx]; rfl)
      have hj0 : (0 : Int) ≤ j ∧ (j : Int) < n := by omega
      clear hx hc1 hc2
      go_upto_region 6 with fail
      go_region_held3 (fun W => W.cell? ⟨g1, j, none⟩ = some (.int .i64 x) ∧ W.cell? ⟨g2, j, none⟩ = some (.int .i64 x)) (exact ⟨v1, v2⟩) (fail)
      clear v1 v2
      have HFd := hid (HF.out.trans (Fr.drew _ wr))
      have t1 : (x != x) = false := by simp
      go_wp2_with fail
      go_roundg (n + 1 - (j + 1))
      case rel => exact ⟨j + 1, by omega, rfl, by go_num, HFd.out⟩
      case measure => have := HD.out; omega
    · go_wp2_with fail
      go_ret
      exact ⟨rfl, HF.out⟩

end Go.Proofs.YticlnopklpaikaaDoor
