/-
  Stage 7: Few, ints.
-/
import Derived.Test.YtnlbellbeepkaaaGreatDoorKids
namespace Go.Proofs.YtnlbellbeepkaaaGreatDoor
open Go.RowKit
set_option linter.unusedVariables false

def fewB (l : List Tw) : Prop := l.length ≤ 60 ∧ ∀ (i : Nat) r, l[i]? = some r → r.cl.size ≤ 100

def FwRel (l : List Tw) (n : Nat) (w : World) (d : Nat) (k : Value) (wr : World) : Prop :=
  ∃ j : Nat, j ≤ n ∧ j ≤ 61 ∧ d = 62 - j ∧ k = .int .i64 j ∧ (∀ (i : Nat) r, i < j → l[i]? = some r → r.cl.size ≤ 100) ∧ w = wr

set_option maxRecDepth 100000 in
set_option maxHeartbeats 2000000 in
theorem few_any (A : Option Addr) (n c : Nat) (l : List Tw) (w : World) (hA : RdT w A l) (hl : l.length = n) (hn : n ≤ 9223372036854775807) (hcl : ∀ (i : Nat) r, l[i]? = some r → r.cl.size ≤ 9223372036854775807) :
    Calls Tryz.prog 4 #[.slice A n c] w fun e w' => ∃ b : Bool, e = .returned (.bool b) ∧ (b = true → fewB l) ∧ w = w' := by
  have HL := hid hl
  have HA := hid hA
  have HCL := hid hcl
  clear hl hA hcl
  go_enter Tryz.func4, Tryz.ntmps4
  go_wp2_with fail
  go_loopg [3] 62 (fun d k wr => FwRel l n w d k wr)
  case atStart => exact ⟨0, by omega, by omega, by omega, rfl, fun i r h => by omega, rfl⟩
  case round =>
    obtain ⟨j, hj, hj2, hd, rfl, hall, rfl⟩ := hrel
    have HAL := hid hall
    have HD := hid hd
    clear hall hd
    by_cases hlt : j < n
    · by_cases h61 : j < 61
      · obtain ⟨r, hr⟩ : ∃ r, l[j]? = some r := ⟨_, List.getElem?_eq_getElem (by rw [HL.out]; omega)⟩
        obtain ⟨ga, oga, rfl, hga, hcc⟩ := HA.out.cell hr
        have q6 : w.cell? ⟨ga, oga + j * 7 + 6, none⟩ = some (.string r.cl) := hcc 6 _ rfl
        have hcr := HCL.out j r hr
        have HR := hid hr
        have hj0 : (0 : Int) ≤ j ∧ (j : Int) < n := by omega
        clear hr hcc
        by_cases h100 : 100 < r.cl.size
        · go_wp2_with fail
          go_ret
          exact ⟨false, rfl, (fun h => by cases h), rfl⟩
        · go_wp2_with fail
          go_roundg (62 - (j + 1))
          case rel => exact ⟨j + 1, by omega, by omega, rfl, by go_num, fun i r' hi hr' => by
            rcases Nat.lt_or_ge i j with h | h
            · exact HAL.out i r' h hr'
            · obtain rfl : i = j := by omega
              rw [HR.out] at hr'
              injection hr' with hr'
              subst hr'
              omega, rfl⟩
          case measure => have := HD.out; omega
      · have h60 : 60 < n := by omega
        go_wp2_with fail
        go_ret
        exact ⟨false, by first | rfl | (simp; omega), (fun h => by cases h), rfl⟩
    · by_cases h60 : n ≤ 60
      · go_wp2_with fail
        go_ret
        exact ⟨true, by first | rfl | (simp; omega), fun _ => ⟨by rw [HL.out]; exact h60, fun i r hr => HAL.out i r (by have := (List.getElem?_eq_some_iff.1 hr).1; rw [HL.out] at this; omega) hr⟩, rfl⟩
      · go_wp2_with fail
        go_ret
        exact ⟨false, by first | rfl | (simp; omega), (fun h => by cases h), rfl⟩

def ItRel (n : Nat) (w : World) (d : Nat) (k : Value) (wr : World) : Prop := ∃ j : Nat, j ≤ n ∧ d = n + 1 - j ∧ k = .int .i64 j ∧ Fr (fun _ => False) w wr

end Go.Proofs.YtnlbellbeepkaaaGreatDoor
