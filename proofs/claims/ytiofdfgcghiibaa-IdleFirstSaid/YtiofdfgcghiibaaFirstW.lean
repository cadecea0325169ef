/-
  IdleFirst answers true at every input.
-/
import Derived.Test.YtiofdfgcghiibaaRf
import Derived.Test.YtiofdfgcghiibaaAw
import Derived.Deep.DeepCutAuto
import Derived.Deep.DeepMust
import Derived.Deep.RegionHeld3
namespace Go.Proofs.Ytiofdfgcghiibaa
open Go.RowKit
set_option linter.unusedVariables false

theorem bit_mod (y : Int) (k : Nat) (hk : k < 64) : bitB (IntKind.u64.wrap y) k = bitB y k := by
  rw [← bit_wrap y k hk, ← bit_wrap (IntKind.u64.wrap y) k hk]
  congr 1
  rw [IntKind.wrap_u64, IntKind.wrap_i64, IntKind.wrap_i64]
  omega

theorem bit_low (q : Int) (N k : Nat) (hk : k < N) : bitB (q * 2 ^ N) k = false := by
  unfold bitB
  obtain ⟨d, rfl⟩ : ∃ d, N = k + (d + 1) := ⟨N - k - 1, by omega⟩
  have hp : (0 : Int) < 2 ^ k := Int.pow_pos (by decide)
  have e : q * 2 ^ (k + (d + 1)) = 2 ^ k * (2 * (q * 2 ^ d)) := by
    rw [Int.pow_add, Int.pow_succ, Int.mul_comm (2 ^ k), ← Int.mul_assoc, Int.mul_comm _ (2 ^ k)]
    congr 1
    rw [Int.mul_comm (2 ^ d) 2, ← Int.mul_assoc, Int.mul_comm q 2, Int.mul_assoc]
  rw [e, Int.mul_ediv_cancel_left _ (Int.ne_of_gt hp)]
  simp

/-- What is laid over the bits from N on is no matter to the first N. -/
theorem bit_over (x m : Int) (N k : Nat) (hN : N < 64) (hk : k < N) : bitB (bits BinOp.or IntKind.i64 x (wrap64 (IntKind.u64.wrap (m * 2 ^ N)))) k = bitB x k := by
  rw [← IntWalk.i64_left, bit_or _ _ _ (by omega), bit_wrap _ _ (by omega), bit_mod _ _ (by omega), bit_low _ _ _ hk]
  simp

theorem lim_is (N : Nat) (h : N ≤ 64) : lim (N : Int) = N := by unfold lim; omega

def FtRel (w : World) (U : Nat) (d : Nat) (z : Value) (wr : World) : Prop := ∃ k : Nat, k ≤ U ∧ d = U + 1 - k ∧ z = .int .i64 k ∧ w = wr

set_option maxRecDepth 100000 in
set_option maxHeartbeats 4000000 in
theorem firstLaw (x n m : Int) (w0 : World) :
    Calls Try.prog 6 #[.int .i64 x, .int .i64 n, .int .i64 m] w0 fun e w' => e = .returned (.bool true) ∧ Below w0.heap.size w0 w' := by
  have HG0 := hid (Fr.refl (fun _ => False) w0)
  obtain ⟨r, hr⟩ := FirstP.ex x (lim n)
  have HR := hid hr
  have hFI := hid (show ∀ w, Calls Try.prog 33 #[.int .i64 x, .int .i64 n] w fun e w' => e = .returned (.int .i64 r) ∧ w = w' from fun w => (first_any x n w).mono fun e w' ⟨r', h1, h2, h3⟩ => ⟨by rw [h1, h2.one HR.out], h3⟩)
  have hHA := hid (fun k w => has_any x k w)
  clear hr
  have hLAST := hid (show ∀ N : Nat, n = N → N < 64 → ∀ m w, Calls Try.prog 33 #[.int .i64 (bits BinOp.or IntKind.i64 x (wrap64 (IntKind.u64.wrap (m * 2 ^ N)))), .int .i64 (N : Int)] w fun e w' => e = .returned (.int .i64 r) ∧ w = w' from fun N h1 h2 m w => (first_any _ (N : Int) w).mono fun e w' ⟨r', g1, g2, g3⟩ => ⟨by
    have h3 := HR.out
    rw [h1] at h3
    rw [lim_is N (by omega)] at g2 h3
    rw [g1, g2.one (h3.bits (fun k hk => bit_over x m N k h2 hk))], g3⟩)
  rcases HR.out with ⟨h1, h2⟩ | ⟨a, h1, h2, h3, h4⟩
  · subst h1
    by_cases h64 : n < 64
    · obtain ⟨U, hU⟩ : ∃ U, U = n.toNat := ⟨_, rfl⟩
      have HU := hid hU
      have HB := hid (show ∀ k, k < U → bitB x k = true ∧ k < 64 from fun k hk => ⟨h2 k (by unfold lim; omega), by omega⟩)
      clear hU h2
      go_enter Try.func6, Try.ntmps6
      go_wp2_with fail
      refine (hFI.out _).mono ?_
      rintro e w' ⟨rfl, rfl⟩
      go_wp2_with fail
      have HREL := hid (show FtRel w0 U (U + 1) (.int .i64 0) w0 from ⟨0, by omega, by omega, rfl, rfl⟩)
      go_loopg [9] (U + 1) (fun d z wr => FtRel w0 U d z wr)
      case atStart => exact HREL.out
      case round =>
        clear HREL
        obtain ⟨k, hk, rfl, rfl, hwr⟩ := hrel
        obtain ⟨ws, hws⟩ : ∃ ws, ws = wr := ⟨_, rfl⟩
        rw [← hws] at hwr ⊢
        clear hws
        subst hwr
        have HK := hid hk
        clear hk
        by_cases hlt : k < U
        · have hlt2 : (k : Int) < n := by have := HU.out; omega
          have hH := hid (show Calls Try.prog 30 #[.int .i64 x, .int .i64 (k : Int)] w0 fun e w' => e = .returned (.bool true) ∧ w0 = w' from by
            have := hHA.out (k : Int) w0
            obtain ⟨h1, h2⟩ := HB.out k hlt
            rw [has_nat x k h2, h1] at this
            exact this)
          go_wp2_with fail
          refine hH.out.mono ?_
          rintro e w' ⟨rfl, rfl⟩
          go_wp2_with fail
          go_roundg (U + 1 - (k + 1))
          case rel => exact ⟨k + 1, by omega, rfl, by go_num, rfl⟩
          case measure => omega
        · have hlt2 : ¬ (k : Int) < n := by have := HU.out; have := HK.out; omega
          by_cases h0 : n < 0
          · have t1 : decide (n < 0) = true := by simpa using h0
            go_wp2_with fail
            refine (awake_ok _).mono ?_
            rintro e w1 ⟨rfl, hF⟩
            go_wp2_with fail
            go_ret
            exact ⟨rfl, hF.below (Nat.le_refl _) (fun _ hh => hh.elim)⟩
          · have t1 : decide (n < 0) = false := by simpa using h0
            by_cases h63 : 63 < n
            · go_wp2_with fail
              refine (awake_ok _).mono ?_
              rintro e w1 ⟨rfl, hF⟩
              go_wp2_with fail
              go_ret
              exact ⟨rfl, hF.below (Nat.le_refl _) (fun _ hh => hh.elim)⟩
            · obtain ⟨N, hn⟩ := Int.eq_ofNat_of_zero_le (show 0 ≤ n by omega)
              have hN := hid (show N < 64 by omega)
              have HLA := hid (hLAST.out N hn hN.out)
              subst hn
              have hN64 : (N : Int) < 64 := by omega
              go_wp2_with fail
              refine (HLA.out _ _).mono ?_
              rintro e w' ⟨rfl, rfl⟩
              go_wp2_with fail
              refine (awake_ok _).mono ?_
              rintro e w1 ⟨rfl, hF⟩
              go_wp2_with fail
              go_ret
              exact ⟨rfl, hF.below (Nat.le_refl _) (fun _ hh => hh.elim)⟩
    · obtain ⟨U, hU⟩ : ∃ U, U = 64 := ⟨_, rfl⟩
      have HU := hid hU
      have HB := hid (show ∀ k, k < U → bitB x k = true ∧ k < 64 from fun k hk => ⟨h2 k (by unfold lim; omega), by omega⟩)
      clear hU h2
      go_enter Try.func6, Try.ntmps6
      go_wp2_with fail
      refine (hFI.out _).mono ?_
      rintro e w' ⟨rfl, rfl⟩
      go_wp2_with fail
      have HREL := hid (show FtRel w0 U (U + 1) (.int .i64 0) w0 from ⟨0, by omega, by omega, rfl, rfl⟩)
      go_loopg [9] (U + 1) (fun d z wr => FtRel w0 U d z wr)
      case atStart => exact HREL.out
      case round =>
        clear HREL
        obtain ⟨k, hk, rfl, rfl, hwr⟩ := hrel
        obtain ⟨ws, hws⟩ : ∃ ws, ws = wr := ⟨_, rfl⟩
        rw [← hws] at hwr ⊢
        clear hws
        subst hwr
        have HK := hid hk
        clear hk
        by_cases hlt : k < U
        · have hlt2 : (k : Int) < 64 := by have := HU.out; omega
          have hH := hid (show Calls Try.prog 30 #[.int .i64 x, .int .i64 (k : Int)] w0 fun e w' => e = .returned (.bool true) ∧ w0 = w' from by
            have := hHA.out (k : Int) w0
            obtain ⟨h1, h2⟩ := HB.out k hlt
            rw [has_nat x k h2, h1] at this
            exact this)
          go_wp2_with fail
          refine hH.out.mono ?_
          rintro e w' ⟨rfl, rfl⟩
          go_wp2_with fail
          go_roundg (U + 1 - (k + 1))
          case rel => exact ⟨k + 1, by omega, rfl, by go_num, rfl⟩
          case measure => omega
        · have hlt2 : ¬ (k : Int) < 64 := by have := HU.out; have := HK.out; omega
          by_cases h0 : n < 0
          · have t1 : decide (n < 0) = true := by simpa using h0
            go_wp2_with fail
            refine (awake_ok _).mono ?_
            rintro e w1 ⟨rfl, hF⟩
            go_wp2_with fail
            go_ret
            exact ⟨rfl, hF.below (Nat.le_refl _) (fun _ hh => hh.elim)⟩
          · have t1 : decide (n < 0) = false := by simpa using h0
            by_cases h63 : 63 < n
            · go_wp2_with fail
              refine (awake_ok _).mono ?_
              rintro e w1 ⟨rfl, hF⟩
              go_wp2_with fail
              go_ret
              exact ⟨rfl, hF.below (Nat.le_refl _) (fun _ hh => hh.elim)⟩
            · exact absurd h63 (by omega)
  · subst h2
    obtain ⟨U, hU⟩ : ∃ U, U = a := ⟨_, rfl⟩
    have HU := hid hU
    have ha : a < 64 := by unfold lim at h1; omega
    have han : (a : Int) < n := by unfold lim at h1; omega
    have HB := hid (show ∀ k, k < U → bitB x k = true ∧ k < 64 from fun k hk => ⟨h4 k (by omega), by omega⟩)
    have hHX := hid (show Calls Try.prog 30 #[.int .i64 x, .int .i64 (a : Int)] w0 fun e w' => e = .returned (.bool false) ∧ w0 = w' from by
      have := hHA.out (a : Int) w0
      rw [has_nat x a ha, h3] at this
      exact this)
    have ta1 : ¬ (64 : Int) ≤ a := by omega
    have ta2 : ¬ n ≤ (a : Int) := by omega
    have ta3 : ¬ (a : Int) < -1 := by omega
    clear hU h4 h3 h1
    go_enter Try.func6, Try.ntmps6
    go_wp2_with fail
    refine (hFI.out _).mono ?_
    rintro e w' ⟨rfl, rfl⟩
    go_wp2_with fail
    refine hHX.out.mono ?_
    rintro e w' ⟨rfl, rfl⟩
    go_wp2_with fail
    have HREL := hid (show FtRel w0 U (U + 1) (.int .i64 0) w0 from ⟨0, by omega, by omega, rfl, rfl⟩)
    go_loopg [9] (U + 1) (fun d z wr => FtRel w0 U d z wr)
    case atStart => exact HREL.out
    case round =>
      clear HREL
      obtain ⟨k, hk, rfl, rfl, hwr⟩ := hrel
      obtain ⟨ws, hws⟩ : ∃ ws, ws = wr := ⟨_, rfl⟩
      rw [← hws] at hwr ⊢
      clear hws
      subst hwr
      have HK := hid hk
      clear hk
      by_cases hlt : k < U
      · have hlt2 : (k : Int) < a := by have := HU.out; omega
        have hH := hid (show Calls Try.prog 30 #[.int .i64 x, .int .i64 (k : Int)] w0 fun e w' => e = .returned (.bool true) ∧ w0 = w' from by
          have := hHA.out (k : Int) w0
          obtain ⟨h1, h2⟩ := HB.out k hlt
          rw [has_nat x k h2, h1] at this
          exact this)
        go_wp2_with fail
        refine hH.out.mono ?_
        rintro e w' ⟨rfl, rfl⟩
        go_wp2_with fail
        go_roundg (U + 1 - (k + 1))
        case rel => exact ⟨k + 1, by omega, rfl, by go_num, rfl⟩
        case measure => omega
      · have hlt2 : ¬ (k : Int) < a := by have := HU.out; have := HK.out; omega
        by_cases h0 : n < 0
        · have t1 : decide (n < 0) = true := by simpa using h0
          go_wp2_with fail
          refine (awake_ok _).mono ?_
          rintro e w1 ⟨rfl, hF⟩
          go_wp2_with fail
          go_ret
          exact ⟨rfl, hF.below (Nat.le_refl _) (fun _ hh => hh.elim)⟩
        · have t1 : decide (n < 0) = false := by simpa using h0
          by_cases h63 : 63 < n
          · go_wp2_with fail
            refine (awake_ok _).mono ?_
            rintro e w1 ⟨rfl, hF⟩
            go_wp2_with fail
            go_ret
            exact ⟨rfl, hF.below (Nat.le_refl _) (fun _ hh => hh.elim)⟩
          · obtain ⟨N, hn⟩ := Int.eq_ofNat_of_zero_le (show 0 ≤ n by omega)
            have hN := hid (show N < 64 by omega)
            have HLA := hid (hLAST.out N hn hN.out)
            subst hn
            have hN64 : (N : Int) < 64 := by omega
            go_wp2_with fail
            refine (HLA.out _ _).mono ?_
            rintro e w' ⟨rfl, rfl⟩
            go_wp2_with fail
            refine (awake_ok _).mono ?_
            rintro e w1 ⟨rfl, hF⟩
            go_wp2_with fail
            go_ret
            exact ⟨rfl, hF.below (Nat.le_refl _) (fun _ hh => hh.elim)⟩
end Go.Proofs.Ytiofdfgcghiibaa
