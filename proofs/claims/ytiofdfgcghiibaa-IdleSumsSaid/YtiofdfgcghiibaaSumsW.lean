/-
  IdleSums answers true at every input.
-/
import Derived.Test.YtiofdfgcghiibaaRf
import Derived.Test.YtiofdfgcghiibaaAw
import Derived.Deep.DeepCutAuto
import Derived.Deep.DeepMust
import Derived.Deep.RegionHeld3
namespace Go.Proofs.Ytiofdfgcghiibaa
open Go.RowKit
set_option linter.unusedVariables false

/-- The sum of the numbers of the first so many of a list of bits. -/
def pw (L : List Nat) (i : Nat) : Int := ((L.take i).map (fun k => (2 : Int) ^ k)).sum

theorem pw_succ (L : List Nat) (i : Nat) (h : i < L.length) : pw L (i + 1) = pw L i + 2 ^ (L.getD i 0) := by
  unfold pw
  rw [List.take_add_one, List.getElem?_eq_getElem h, List.map_append, List.sum_append, List.getD_eq_getElem?_getD, List.getElem?_eq_getElem h]
  simp

theorem pw_nn (L : List Nat) (i : Nat) : 0 ≤ pw L i := by
  unfold pw
  induction (L.take i) with
  | nil => simp
  | cons a l ih =>
    simp only [List.map_cons, List.sum_cons]
    have : (0 : Int) < 2 ^ a := Int.pow_pos (by decide)
    omega

theorem pw_le (L : List Nat) (i d : Nat) : pw L i ≤ pw L (i + d) := by
  induction d with
  | zero => exact Int.le_refl _
  | succ d ih =>
    refine Int.le_trans ih ?_
    by_cases h : i + d < L.length
    · rw [← Nat.add_assoc, pw_succ L _ h]
      have : (0 : Int) < 2 ^ (L.getD (i + d) 0) := Int.pow_pos (by decide)
      omega
    · unfold pw
      rw [List.take_of_length_le (by omega), List.take_of_length_le (by omega)]
      exact Int.le_refl _

theorem pw_all (x : Int) : pw (memN x 64) (memN x 64).length = x % 18446744073709551616 := by
  unfold pw
  rw [List.take_of_length_le (Nat.le_refl _), memN_sum]
  rfl

theorem pw_max (x : Int) (i : Nat) (h : i ≤ (memN x 64).length) : pw (memN x 64) i ≤ 18446744073709551615 := by
  have h1 := pw_le (memN x 64) i ((memN x 64).length - i)
  rw [show i + ((memN x 64).length - i) = (memN x 64).length by omega, pw_all] at h1
  omega

theorem wrap_sum (S P : Int) (h0 : 0 ≤ S) (h1 : 0 < P) (h2 : S + P ≤ 18446744073709551615) : IntKind.u64.wrap (S + IntKind.u64.wrap P) = S + P := by
  rw [IntKind.wrap_u64, IntKind.wrap_u64]
  omega

/-- The one ahead of a place. -/
def ahead (L : List Nat) : Nat → Int
  | 0 => -1
  | i + 1 => (L.getD i 0 : Nat)

theorem ahead_lt (x : Int) (i : Nat) (h : i < (memN x 64).length) : ahead (memN x 64) i < ((memN x 64).getD i 0 : Nat) := by
  cases i with
  | zero => show (-1 : Int) < _; omega
  | succ i =>
    have := List.pairwise_iff_getElem.1 (memN_sorted x 64) i (i + 1) (by omega) h (by omega)
    show (((memN x 64).getD i 0 : Nat) : Int) < _
    rw [List.getD_eq_getElem?_getD, List.getD_eq_getElem?_getD, List.getElem?_eq_getElem h, List.getElem?_eq_getElem (by omega : i < (memN x 64).length)]
    simp only [Option.getD_some]
    omega

theorem at_bit (x : Int) (i : Nat) (h : i < (memN x 64).length) : (memN x 64).getD i 0 < 64 ∧ bitB x ((memN x 64).getD i 0) = true := by
  rw [List.getD_eq_getElem?_getD, List.getElem?_eq_getElem h]
  exact memN_mem (List.getElem_mem h)

def SuRel (w0 : World) (L : List Nat) (M : Nat) (A : Option Addr) (d : Nat) (s l z : Value) (wr : World) : Prop :=
  ∃ i : Nat, i ≤ M ∧ d = M + 1 - i ∧ s = .int .u64 (pw L i) ∧ l = .int .i64 (ahead L i) ∧ z = .int .i64 i ∧ NatR wr A L ∧ Fr (fun _ => False) w0 wr

set_option maxRecDepth 100000 in
set_option maxHeartbeats 4000000 in
theorem sumsLaw (x : Int) (w0 : World) :
    Calls Try.prog 5 #[.int .i64 x] w0 fun e w' => e = .returned (.bool true) ∧ Below w0.heap.size w0 w' := by
  have HPS := hid (fun i h => pw_succ (memN x 64) i h)
  have HPN := hid (fun i => pw_nn (memN x 64) i)
  have HPM := hid (fun i h => pw_max x i h)
  have HPA := hid (pw_all x)
  have HAH := hid (fun i h => ahead_lt x i h)
  have HAB := hid (fun i h => at_bit x i h)
  obtain ⟨L, hL⟩ : ∃ L, memN x 64 = L := ⟨_, rfl⟩
  obtain ⟨M, hM⟩ : ∃ M, L.length = M := ⟨_, rfl⟩
  have hM64 : M ≤ 64 := by rw [← hM, ← hL]; exact memN_len x 64
  have HL := hid hL
  have HM := hid hM
  rw [hL] at HPS HPN HPM HPA HAH HAB
  rw [hM] at HPS HPM HPA HAH HAB
  clear hL hM
  have hCT := hid (show ∀ w, Calls Try.prog 32 #[.int .i64 x] w fun e w' => e = .returned (.int .i64 M) ∧ Fr (fun _ => False) w w' from fun w => by have := count_any x w; rw [HL.out, HM.out] at this; exact this)
  have hLS := hid (show ∀ sb w, Blk w sb #[.int .i64 x] → Calls Try.prog 36 #[.func (.func 70) #[] #[.pointer (some ⟨sb, 0, none⟩)], .int .i64 100] w fun e w' => ∃ A cap, e = .returned (.slice A M cap) ∧ NatR w' A L ∧ Fr (fun _ => False) w w' from fun sb w hb => by
    have := list_any x sb 100 0 (by omega) (by omega) w hb
    rw [HL.out, List.take_of_length_le (by rw [HM.out]; omega)] at this
    rw [← HM.out]; exact this)
  have hHA := hid (fun k w => has_any x k w)
  have HG0 := hid (Fr.refl (fun _ => False) w0)
  go_enter Try.func5, Try.ntmps5
  go_wp2_with fail
  refine (mem_mk x _).mono ?_
  rintro e w1 ⟨rfl, hW⟩
  have hB := hid (show Blk w1 w0.heap.size #[.int .i64 x] from by rw [hW]; exact Blk.new _ _ _)
  have HG1 := hid (show Fr (fun _ => False) w0 w1 from by rw [hW]; exact Fr.alloc _ _ _)
  clear hW HG0
  go_wp2_with fail
  refine (hLS.out _ _ hB.out).mono ?_
  rintro e w2 ⟨A, cap, rfl, hN, hF⟩
  have HG2 := hid (HG1.out.trans hF)
  have HNA2 := hid hN
  clear hN hB
  clear hF HG1 
  go_wp2_with fail
  have HREL := hid (show SuRel w0 L M A (M + 1) (.int .u64 0) (.int .i64 (-1)) (.int .i64 0) w2 from ⟨0, by omega, by omega, rfl, rfl, rfl, HNA2.out, HG2.out⟩)
  go_loopg [4, 5, 6] (M + 1) (fun d s l z wr => SuRel w0 L M A d s l z wr)
  case atStart => exact HREL.out
  case round =>
    clear HREL
    obtain ⟨i, hi, rfl, rfl, rfl, rfl, hN, hF⟩ := hrel
    have HI := hid hi
    have HN := hid hN
    have HF := hid hF
    clear hi hN hF
    by_cases hlt : i < M
    · obtain ⟨g, off, rfl, hg, hc⟩ := HN.out (by rw [HM.out]; omega)
      have c0 := hc i (by rw [HM.out]; omega)
      have hps := HPS.out i hlt
      have hpn := HPN.out i
      have hpm := HPM.out (i + 1) (by omega)
      have hah := HAH.out i hlt
      obtain ⟨hk64, hkb⟩ := HAB.out i hlt
      obtain ⟨k, hk⟩ : ∃ k, L.getD i 0 = k := ⟨_, rfl⟩
      obtain ⟨S, hS⟩ : ∃ S, pw L i = S := ⟨_, rfl⟩
      obtain ⟨P, hP⟩ : ∃ P, (2 : Int) ^ k = P := ⟨_, rfl⟩
      have hP0 : 0 < P := by rw [← hP]; exact Int.pow_pos (by decide)
      obtain ⟨H, hH⟩ : ∃ H, ahead L i = H := ⟨_, rfl⟩
      have HAN := hid (show ahead L (i + 1) = (k : Int) from by show ((L.getD i 0 : Nat) : Int) = _; rw [hk])
      rw [hk] at c0 hps hah hk64 hkb
      rw [hP] at hps
      rw [hS] at hps hpn ⊢
      rw [hH] at hah ⊢
      have HPS2 := hid hps
      rw [hps] at hpm
      have hHX := hid (show ∀ w, Calls Try.prog 30 #[.int .i64 x, .int .i64 (k : Int)] w fun e w' => e = .returned (.bool true) ∧ w = w' from fun w => by
        have := hHA.out (k : Int) w
        rw [has_nat x k hk64, hkb] at this
        exact this)
      have ta1 : ¬ (k : Int) ≤ H := by omega
      have ta2 : ¬ (63 : Int) < (k : Int) := by omega
      have HWS := hid (show IntKind.u64.wrap (S + IntKind.u64.wrap (2 ^ k)) = pw L (i + 1) from by rw [hps, hP]; exact wrap_sum S P hpn hP0 hpm)
      clear hc hk hS hH hkb hps hP
      go_wp2_with fail
      refine (hHX.out _).mono ?_
      rintro e w' ⟨rfl, rfl⟩
      go_wp2_with fail
      go_roundg (M + 1 - (i + 1))
      case rel =>
        exact ⟨i + 1, by omega, rfl, by rw [HWS.out], by rw [HAN.out], by go_num, HN.out, HF.out⟩
      case measure => omega
    · obtain rfl : i = M := by have := HI.out; omega
      have hpa := HPA.out
      obtain ⟨S, hS⟩ : ∃ S, pw L i = S := ⟨_, rfl⟩
      rw [hS] at hpa ⊢
      have t1 : (S == IntKind.u64.wrap x) = true := by rw [IntKind.wrap_u64, hpa]; simp
      have t2 : ((i : Int) == (i : Int)) = true := by simp
      clear hpa hS
      go_wp2_with fail
      refine (hCT.out _).mono ?_
      rintro e w4 ⟨rfl, hF4⟩
      have HF4 := hid (HF.out.trans hF4)
      clear hF4
      go_wp2_with fail
      refine (awake_ok _).mono ?_
      rintro e w5 ⟨rfl, hF5⟩
      go_wp2_with fail
      go_ret
      exact ⟨rfl, (HF4.out.trans hF5).below (Nat.le_refl _) (fun _ hh => hh.elim)⟩
end Go.Proofs.Ytiofdfgcghiibaa
