/-
  The reference's numerals.
-/
import Derived.Test.YtepbnneggpcbcaaGreatDoorBlank
namespace Go.Proofs.YtepbnneggpcbcaaGreatDoor
open Go.RowKit

theorem dig_at : ∀ d, d < 10 → (⟨#[48, 49, 50, 51, 52, 53, 54, 55, 56, 57]⟩ : ByteArray).extract d (d + 1) = bs [UInt8.ofNat (48 + d)] := by decide

theorem bs_add (a b : Bs) : bs a ++ bs b = bs (a ++ b) := by
  unfold bs
  apply ByteArray.ext
  simp

theorem ret_str {a b : ByteArray} (h : a = b) : Ending.returned (.string a) = .returned (.string b) := by rw [h]

theorem wrap_small (x : Int) (h0 : -9223372036854775808 ≤ x) (h1 : x ≤ 9223372036854775807) : IntKind.i64.wrap x = x := by
  simp [IntKind.wrap, IntKind.signed, IntKind.bits]
  omega

def NumPost (w : World) (l : Bs) (e : Ending) (w' : World) : Prop := e = .returned (.string (bs l)) ∧ Fr (fun _ => False) w w'

set_option maxRecDepth 100000 in
set_option maxHeartbeats 1000000 in
theorem num_small (n : Nat) (h : n < 10) (w : World) : Calls Tryz.prog 18 #[.int .i64 (n : Int)] w (NumPost w (Lib.decDigits n)) := by
  have HQ := hid (show Lib.decDigits n = [UInt8.ofNat (48 + n)] from dec_small h)
  have HD := hid (dig_at n h)
  have z0 : (0 : Int) ≤ (n : Int) := by omega
  have z1 : (n : Int) < 10 := by omega
  have z2 : wrap64 ((n : Int) + 1) = ((n + 1 : Nat) : Int) := by unfold wrap64; omega
  have z3 : ((n + 1 : Nat) : Int) ≤ 10 := by omega
  have z4 : (n : Int) ≤ ((n + 1 : Nat) : Int) := by omega
  go_enter Tryz.func18, Tryz.ntmps18
  go_wp2_with fail
  go_ret
  rw [HQ.out]
  exact ⟨ret_str HD.out, Fr.refl _ _⟩

set_option maxRecDepth 100000 in
set_option maxHeartbeats 2000000 in
theorem num_big (n m d : Nat) (h : ¬ n < 10) (hb : n < 100000000000) (hm : n / 10 = m) (hd : n % 10 = d) (w : World) (hi : ∀ w, Calls Tryz.prog 18 #[.int .i64 (m : Int)] w (NumPost w (Lib.decDigits m))) :
    Calls Tryz.prog 18 #[.int .i64 (n : Int)] w (NumPost w (Lib.decDigits n)) := by
  have hd10 : d < 10 := by omega
  have HQ := hid (show Lib.decDigits n = Lib.decDigits m ++ [UInt8.ofNat (48 + d)] by rw [dec_big h, hm, hd])
  have hD := dig_at d hd10
  have HI := hid hi
  have z1 : ¬ (n : Int) < 10 := by omega
  have z2 : wrap64 ((d : Int) + 1) = (d : Int) + 1 := by unfold wrap64; omega
  have z7 : IntKind.i64.wrap ((d : Int) + 1) = (d : Int) + 1 := wrap_small _ (by omega) (by omega)
  have z3 : (d : Int) + 1 ≤ 10 := by omega
  have z4 : (0 : Int) ≤ (d : Int) + 1 := by omega
  have z6 : ((d : Int) + 1).toNat = d + 1 := by omega
  have z0 : (0 : Int) ≤ (d : Int) := by omega
  have z5 : (d : Int) ≤ 10 := by omega
  have z8 : (d : Int) ≤ (d : Int) + 1 := by omega
  have f1 : IntKind.i64.wrap ((n : Int) / 10) = (m : Int) := by
    rw [wrap_small _ (by omega) (by omega)]
    omega
  have f2 : (n : Int).tmod 10 = (d : Int) := by rw [Int.tmod_eq_emod_of_nonneg (by omega)]; omega
  have hl : (Lib.decDigits m).length ≤ 11 := dec_short 10 m (by have : (10 : Nat) ^ (10 + 1) = 100000000000 := by decide
                                                                omega)
  have q5 := add_ok (bs (Lib.decDigits m)) (bs [UInt8.ofNat (48 + d)]) (by rw [bs_size]; omega) (by rw [bs_size]; show 1 ≤ 200000; decide)
  rw [bs_add, ← HQ.out] at q5
  have q6 := q5
  rw [← hD] at q6
  have HD := hid hD
  clear hD
  clear hi hm hd hl
  go_enter Tryz.func18, Tryz.ntmps18
  go_wp2_with fail
  go_region_held3 (fun _ => True) (exact trivial) (first | (go_at_call 18; refine (HI.out _).mono ?_; rintro e w2 ⟨rfl, hF2⟩))
  all_goals
    go_wp2_with fail
    go_ret
    exact ⟨rfl, (Fr.drew _ _).trans hF2⟩

theorem num_any : ∀ (n : Nat), n < 100000000000 → ∀ w, Calls Tryz.prog 18 #[.int .i64 (n : Int)] w (NumPost w (Lib.decDigits n)) := by
  intro n
  induction n using Nat.strongRecOn with
  | _ n ih =>
    intro hb w
    by_cases h : n < 10
    · exact num_small n h w
    · exact num_big n (n / 10) (n % 10) h hb rfl rfl w (ih (n / 10) (by omega) (by omega))

set_option maxRecDepth 100000 in
set_option maxHeartbeats 1000000 in
/-- number. -/
theorem number_ref (x : Int) (h0 : -4294967296 ≤ x) (h1 : x ≤ 4294967296) (w : World) : Calls Tryz.prog 38 #[.int .i64 x] w (NumPost w (Lib.itoa x)) := by
  by_cases h : x < 0
  · obtain ⟨n, hn⟩ : ∃ n : Nat, -x = (n : Int) := ⟨(-x).toNat, by omega⟩
    have hq : Lib.itoa x = 45 :: Lib.decDigits n := by
      unfold Lib.itoa
      rw [if_pos h, show x.natAbs = n by omega]
    have HN := hid (num_any n (by omega) w)
    have z1 : wrap64 (-x) = (n : Int) := by rw [hn]; unfold wrap64; omega
    have z2 : IntKind.i64.wrap (-x) = (n : Int) := by rw [hn]; exact wrap_small _ (by omega) (by omega)
    have hl : (Lib.decDigits n).length ≤ 11 := dec_short 10 n (by have : (10 : Nat) ^ (10 + 1) = 100000000000 := by decide
                                                                  omega)
    have q5 : ∀ W, (Op.stringOp .add ⟨#[45]⟩ (bs (Lib.decDigits n))).run Tryz.prog W = .ok (.string (bs (Lib.itoa x))) W := by
      have := add_ok (bs [45]) (bs (Lib.decDigits n)) (by rw [bs_size]; decide) (by rw [bs_size]; omega)
      rw [bs_add] at this
      rw [hq]
      exact this
    clear hn hq hl
    go_enter Tryz.func38, Tryz.ntmps38
    go_wp2_with fail
    refine HN.out.mono ?_
    rintro e w2 ⟨rfl, hF⟩
    go_wp2_with fail
    go_ret
    exact ⟨rfl, hF⟩
  · obtain ⟨n, rfl⟩ : ∃ n : Nat, x = (n : Int) := ⟨x.toNat, by omega⟩
    have HN := hid (num_any n (by omega) w)
    rw [← itoa_nat] at HN
    go_enter Tryz.func38, Tryz.ntmps38
    go_wp2_with fail
    refine HN.out.mono ?_
    rintro e w2 ⟨rfl, hF⟩
    go_wp2_with fail
    go_ret
    exact ⟨rfl, hF⟩

end Go.Proofs.YtepbnneggpcbcaaGreatDoor
