/-
  Whether two lists are the same: same of the laws.
-/
import Derived.Test.YtiofdfgcghiibaaLst
import Derived.WalkKit
namespace Go.Proofs.Ytiofdfgcghiibaa
open Go.RowKit
set_option linter.unusedVariables false

def SmRel (L L' : List Nat) (w : World) (d : Nat) (x : Value) (wr : World) : Prop :=
  ∃ k : Nat, k ≤ L.length ∧ d = L.length + 1 - k ∧ x = .int .i64 k ∧ (∀ i, i < k → L.getD i 0 = L'.getD i 0) ∧ Fr (fun _ => False) w wr

set_option maxRecDepth 100000 in
set_option maxHeartbeats 1000000 in
theorem same_yes (A A' : Option Addr) (L : List Nat) (n c c' : Nat) (w : World) (hA : NatR w A L) (hA' : NatR w A' L) (hn : L.length = n) (hl : n ≤ 1000) :
    Calls Try.prog 35 #[.slice A n c, .slice A' n c'] w fun e w' => e = .returned (.bool true) ∧ Fr (fun _ => False) w w' := by
  have HA := hid hA
  have HA' := hid hA'
  have HN := hid hn
  have HREL := hid (show SmRel L L w (n + 1) (.int .i64 0) w from ⟨0, by omega, by omega, rfl, fun _ _ => rfl, Fr.refl _ _⟩)
  clear hA hA' hn
  go_enter Try.func35, Try.ntmps35
  go_wp2_with fail
  go_loopg [5] (n + 1) (fun d x wr => SmRel L L w d x wr)
  case atStart => exact HREL.out
  case round =>
    clear HREL
    obtain ⟨k, hk, rfl, rfl, _, hF⟩ := hrel
    have HF := hid hF
    have HK := hid hk
    clear hF hk
    by_cases hlt : k < n
    · obtain ⟨g, off, rfl, hg, hc⟩ := (HA.out.same HF.out) (by have := HN.out; omega)
      obtain ⟨g', off', rfl, hg', hc'⟩ := (HA'.out.same HF.out) (by have := HN.out; omega)
      have c1 := hc k (by have := HN.out; omega)
      have c2 := hc' k (by have := HN.out; omega)
      have hlt2 : (k : Int) < n := by omega
      have t1 : (((L.getD k 0 : Nat) : Int) != ((L.getD k 0 : Nat) : Int)) = false := by simp
      obtain ⟨z, hz⟩ : ∃ z : Int, ((L.getD k 0 : Nat) : Int) = z := ⟨_, rfl⟩
      rw [hz] at c1 c2 t1
      clear hc hc' hz hg hg'
      go_wp2_with fail
      go_quiet (fail)
      go_wp2_with fail
      go_roundg (L.length + 1 - (k + 1))
      case rel => exact ⟨k + 1, by have := HN.out; omega, rfl, by go_num, fun _ _ => rfl, HF.out.trans (Fr.drewN _ _ _)⟩
      case measure => have := HN.out; omega
    · obtain rfl : k = n := by have := HK.out; have := HN.out; omega
      go_wp2_with fail
      go_ret
      exact ⟨rfl, HF.out⟩
end Go.Proofs.Ytiofdfgcghiibaa
