/-
  First: the least worker that is not among bits.
-/
import Derived.Test.YtiofdfgcghiibaaHas
namespace Go.Proofs.Ytiofdfgcghiibaa
open Go.RowKit
set_option linter.unusedVariables false

def FsRel (x : Int) (m : Nat) (w : World) (d : Nat) (z : Value) (wr : World) : Prop := ∃ k : Nat, k ≤ m ∧ d = m + 1 - k ∧ z = .int .i64 k ∧ (∀ j, j < k → bitB x j = true) ∧ w = wr

set_option maxRecDepth 100000 in
set_option maxHeartbeats 1000000 in
theorem first_go (x n : Int) (m : Nat) (r : Int) (hr : FirstP x m r) (z : Int) (hz : z = min n 64) (hm : m = z.toNat) (w : World) : Calls Try.prog 33 #[.int .i64 x, .int .i64 n] w fun e w' => e = .returned (.int .i64 r) ∧ w = w' := by
  have HR := hid hr
  have HM := hid hm
  have HZ := hid hz
  clear hr hm hz
  go_enter Try.func33, Try.ntmps33
  go_wp2_with fail
  · obtain rfl : z = 64 := by have := HZ.out; omega
    go_loopg [8] (m + 1) (fun d u wr => FsRel x m w d u wr)
    case atStart => exact ⟨0, by omega, by omega, rfl, fun j hj => by omega, rfl⟩
    case round =>
      obtain ⟨k, hk, rfl, rfl, hb, hwr⟩ := hrel
      obtain ⟨ws, hws⟩ : ∃ ws, ws = wr := ⟨_, rfl⟩
      rw [← hws] at hwr ⊢
      clear hws
      subst hwr
      have HK := hid hk
      have HB := hid hb
      clear hk hb
      by_cases hlt : k < m
      · have hlt2 : (k : Int) < 64 := by have := HM.out; omega
        have hk64 : k < 64 := by have := HM.out; omega
        have HH := hid (has_any x k w)
        rw [has_nat x k hk64] at HH
        rcases hbit : bitB x k with _ | _
        · rw [hbit] at HH
          have HBT := hid hbit
          clear hbit
          have HE := hid (show r = (k : Int) from HR.out.one (.inr ⟨k, hlt, rfl, HBT.out, HB.out⟩))
          go_wp2_with fail
          refine (HH.out).mono ?_
          rintro e w1 ⟨rfl, rfl⟩
          go_wp2_with fail
          go_ret
          exact ⟨by rw [HE.out]; rfl, rfl⟩
        · rw [hbit] at HH
          have HBT := hid hbit
          clear hbit
          go_wp2_with fail
          refine (HH.out).mono ?_
          rintro e w1 ⟨rfl, rfl⟩
          go_wp2_with fail
          go_roundg (m + 1 - (k + 1))
          case rel => exact ⟨k + 1, by omega, rfl, by go_num, fun j hj => by
            by_cases e : j = k
            · subst e; exact HBT.out
            · exact HB.out j (by omega), rfl⟩
          case measure => omega
      · have hlt2 : ¬ (k : Int) < 64 := by have := HM.out; have := HK.out; omega
        have HE := hid (show r = -1 from HR.out.one (.inl ⟨rfl, fun j hj => HB.out j (by have := HK.out; omega)⟩))
        go_wp2_with fail
        go_ret
        exact ⟨by rw [HE.out]; rfl, rfl⟩
  · obtain rfl : z = n := by have := HZ.out; omega
    go_loopg [8] (m + 1) (fun d u wr => FsRel x m w d u wr)
    case atStart => exact ⟨0, by omega, by omega, rfl, fun j hj => by omega, rfl⟩
    case round =>
      obtain ⟨k, hk, rfl, rfl, hb, hwr⟩ := hrel
      obtain ⟨ws, hws⟩ : ∃ ws, ws = wr := ⟨_, rfl⟩
      rw [← hws] at hwr ⊢
      clear hws
      subst hwr
      have HK := hid hk
      have HB := hid hb
      clear hk hb
      by_cases hlt : k < m
      · have hlt2 : (k : Int) < z := by have := HM.out; omega
        have hk64 : k < 64 := by have := HM.out; omega
        have HH := hid (has_any x k w)
        rw [has_nat x k hk64] at HH
        rcases hbit : bitB x k with _ | _
        · rw [hbit] at HH
          have HBT := hid hbit
          clear hbit
          have HE := hid (show r = (k : Int) from HR.out.one (.inr ⟨k, hlt, rfl, HBT.out, HB.out⟩))
          go_wp2_with fail
          refine (HH.out).mono ?_
          rintro e w1 ⟨rfl, rfl⟩
          go_wp2_with fail
          go_ret
          exact ⟨by rw [HE.out]; rfl, rfl⟩
        · rw [hbit] at HH
          have HBT := hid hbit
          clear hbit
          go_wp2_with fail
          refine (HH.out).mono ?_
          rintro e w1 ⟨rfl, rfl⟩
          go_wp2_with fail
          go_roundg (m + 1 - (k + 1))
          case rel => exact ⟨k + 1, by omega, rfl, by go_num, fun j hj => by
            by_cases e : j = k
            · subst e; exact HBT.out
            · exact HB.out j (by omega), rfl⟩
          case measure => omega
      · have hlt2 : ¬ (k : Int) < z := by have := HM.out; have := HK.out; omega
        have HE := hid (show r = -1 from HR.out.one (.inl ⟨rfl, fun j hj => HB.out j (by have := HK.out; omega)⟩))
        go_wp2_with fail
        go_ret
        exact ⟨by rw [HE.out]; rfl, rfl⟩

/-- The number of places that are looked at. -/
def lim (n : Int) : Nat := (min n 64).toNat

theorem first_any (x n : Int) (w : World) : Calls Try.prog 33 #[.int .i64 x, .int .i64 n] w fun e w' => ∃ r, e = .returned (.int .i64 r) ∧ FirstP x (lim n) r ∧ w = w' := by
  obtain ⟨r, hr⟩ := FirstP.ex x (lim n)
  exact (first_go x n _ r hr _ rfl rfl w).mono fun e w' h => ⟨r, h.1, hr, h.2⟩
end Go.Proofs.Ytiofdfgcghiibaa
