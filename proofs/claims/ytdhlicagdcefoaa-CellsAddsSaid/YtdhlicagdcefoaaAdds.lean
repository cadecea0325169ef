/-
  CellsAdds answers true at any numbers and any place.
-/
import Derived.Test.YtdhlicagdcefoaaOnce
namespace Go.Proofs.Ytdhlicagdcefoaa
open Go.RowKit

def sumTo (g : Nat → Int) : Nat → Int
  | 0 => 0
  | k + 1 => sumTo g k + g k

theorem sumTo_congr {g h : Nat → Int} : ∀ {k : Nat}, (∀ i, i < k → g i = h i) → sumTo g k = sumTo h k
  | 0, _ => rfl
  | k + 1, hh => by simp only [sumTo]; rw [sumTo_congr (fun i hi => hh i (by omega)), hh k (by omega)]

theorem sumTo_add (g : Nat → Int) (a : Nat) : ∀ b, sumTo g (a + b) = sumTo g a + sumTo (fun i => g (a + i)) b
  | 0 => by simp [sumTo]
  | b + 1 => by
    rw [show a + (b + 1) = (a + b) + 1 by omega]
    simp only [sumTo]
    rw [sumTo_add g a b]
    omega

theorem sumTo_turned (g : Nat → Int) (n p : Nat) (hp : p ≤ n) : sumTo (fun i => g ((i + p) % n)) n = sumTo g n := by
  obtain ⟨q, rfl⟩ : ∃ q, n = q + p := ⟨n - p, by omega⟩
  rw [sumTo_add _ q p]
  have e1 : sumTo (fun i => g ((i + p) % (q + p))) q = sumTo (fun i => g (p + i)) q := sumTo_congr fun i hi => by
    rw [Nat.mod_eq_of_lt (by omega), Nat.add_comm]
  have e2 : sumTo (fun i => g ((q + i + p) % (q + p))) p = sumTo g p := sumTo_congr fun i hi => by
    rw [show q + i + p = i + (q + p) by omega, Nat.add_mod_right, Nat.mod_eq_of_lt (by omega)]
  rw [e1, e2, Nat.add_comm q p, sumTo_add g p q]
  omega

theorem wrap_add (a b : Int) : wrap64 (wrap64 a + b) = wrap64 (a + b) := by
  unfold wrap64
  omega
theorem wrap_sub (a s b : Int) : wrap64 (wrap64 (a - s) + wrap64 (-b)) = wrap64 (a - (s + b)) := by
  unfold wrap64
  omega
theorem wrap_was (a b : Int) : wrap64 (a + wrap64 (-b)) = wrap64 (a - b) := by
  unfold wrap64
  omega

def AddsRel (w : World) (b1 b2 : MB) (g h : Nat → Int) (len : Nat) (i : Value) (wr : World) : Prop :=
  ∃ (k : Nat) (M N : Mach), k ≤ len ∧ i = .int .i64 k ∧ IsM wr b1 M ∧ Good M ∧ M.all.getD 2 0 = wrap64 (sumTo g k) ∧ IsM wr b2 N ∧ Good N ∧ N.all.getD 2 0 = wrap64 (sumTo h k) ∧ Fr (fun _ => False) w wr

def AddsRel2 (w : World) (b1 : MB) (g : Nat → Int) (len : Nat) (i : Value) (wr : World) : Prop :=
  ∃ (k : Nat) (M : Mach), k ≤ len ∧ i = .int .i64 k ∧ IsM wr b1 M ∧ Good M ∧ M.all.getD 2 0 = wrap64 (sumTo g len - sumTo g k) ∧ Fr (fun _ => False) w wr

theorem Mach.step_getD (M : Mach) (j k : Nat) : (M.step j).all.getD k 0 = M.all.getD k 0 := rfl

set_option maxHeartbeats 1000000 in
theorem addsLaw_no (a : Option Addr) (len cap : Nat) (y : Int) (w : World) (h : ¬ (len ≤ 40 ∧ 0 ≤ y ∧ y ≤ len)) :
    Calls Try.prog 8 #[.slice a len cap, .int .i64 y] w fun e w' => e = .returned (.bool true) ∧ Below w.heap.size w w' := by
  have HX := hid h
  clear h
  go_enter Try.func8, Try.ntmps8
  go_wp2_with fail
  refine (made_ok _).mono ?_
  rintro e w1 ⟨b1, rfl, m1, hF1, hN1⟩
  clear m1 hN1
  go_wp2_with fail
  refine (made_ok _).mono ?_
  rintro e w2 ⟨b2, rfl, m2, hF2, hN2⟩
  clear m2 hN2
  by_cases t1 : (40 : Int) < len
  all_goals by_cases t2 : y < 0
  all_goals by_cases t3 : (len : Int) < y
  all_goals first
    | (exfalso
       have := HX.out
       omega)
    | (go_wp2_with fail
       refine (awake_ok _).mono ?_
       rintro e w3 ⟨rfl, hF3⟩
       go_wp2_with fail
       go_ret
       exact ⟨rfl, ((hF1.trans hF2).trans hF3).below (Nat.le_refl _) (fun _ hh => hh.elim)⟩)

set_option maxHeartbeats 1000000 in
theorem addsLaw_yes (a : Option Addr) (len cap p : Nat) (f : Nat → Nat → Int) (w : World) (h1 : len ≤ 40) (h2 : p ≤ len) (hr : Row w a len 1 f) :
    Calls Try.prog 8 #[.slice a len cap, .int .i64 p] w fun e w' => e = .returned (.bool true) ∧ Below w.heap.size w w' := by
  have HR := hid hr
  clear hr
  have t1 : decide ((40 : Int) < len) = false := by simp; omega
  have t2 : decide ((p : Int) < 0) = false := by simp
  have t3 : decide (len < p) = false := by simp; omega
  go_enter Try.func8, Try.ntmps8
  go_wp2_with fail
  refine (made_ok _).mono ?_
  rintro e w1 ⟨b1, rfl, m1, hF1, hN1⟩
  go_wp2_with fail
  refine (made_ok _).mono ?_
  rintro e w2 ⟨b2, rfl, m2, hF2, hN2⟩
  have HD : Hid (∀ i, b1.own i → ¬ b2.own i) := fun i hi hj => by have := m1.own_lt i hi; have := hN2 i hj; omega
  have HL1 : Hid (∀ i, b1.own i → i < w.heap.size → False) := fun i hi hl => by have := hN1 i hi; omega
  have HL2 : Hid (∀ i, b2.own i → i < w.heap.size → False) := fun i hi hl => by have := hN2 i hi; have := hF1.size; omega
  clear hN1 hN2
  replace m1 := m1.same hF2
  have hf2 := hF1.trans hF2
  clear hF1 hF2
  go_wp2_with fail
  go_loopw [7] (fun i wr => AddsRel w b1 b2 (fun i => f i 0) (fun i => f ((i + p) % len) 0) len i wr) (fun i _ => len - (intOf i).toNat)
  case atStart => exact ⟨0, _, _, Nat.zero_le _, rfl, m1, Good.made, by simp [sumTo, made0, wrap64], m2, Good.made, by simp [sumTo, made0, wrap64], hf2⟩
  case round =>
    obtain ⟨k, M, N, hk, rfl, hM, gM, eM, hN, gN, eN, hf⟩ := hrel
    have EM := hid eM
    have EN := hid eN
    clear eM eN
    by_cases hlt : k < len
    · obtain ⟨bl, off, rfl, hcell⟩ := HR.out.at_one hlt hf
      obtain ⟨x, hx⟩ : ∃ x, f k 0 = x := ⟨_, rfl⟩
      rw [hx] at hcell
      have HX := hid hx
      clear hx
      go_wp2_with fail
      rw [show ((k : Int) % 4) = ((k % 4 : Nat) : Int) by omega]
      refine (add_ok b1 M (k % 4) 2 x _ hM (by have := gM.1; omega) (by have := gM.2.1; omega)).mono ?_
      rintro e w3 ⟨rfl, m3, hF3⟩
      have hf3 := hf.since hF3 HL1.out
      have hN3 := hN.keep hF3 (fun i hi hj => HD.out i hj hi)
      obtain ⟨y, hy⟩ : ∃ y, f ((k + p) % len) 0 = y := ⟨_, rfl⟩
      have HY := hid hy
      clear hy
      have hml : (k + p) % len < len := Nat.mod_lt _ (by omega)
      have hcell2 := HR.out.cell_one hml hf3 HY.out
      have q1 : 0 ≤ ((k : Int) + p) % len := Int.emod_nonneg _ (by omega)
      have q2 : ((k : Int) + p) % len < len := Int.emod_lt_of_pos _ (by omega)
      go_wp2_with fail
      refine (add_ok b2 N 3 2 y _ hN3 (by have := gN.1; omega) (by have := gN.2.1; omega)).mono ?_
      rintro e w4 ⟨rfl, m4, hF4⟩
      have m5 := m3.keep hF4 HD.out
      clear q1 q2 hml hcell hcell2
      go_wp2_with fail
      go_roundw
      case rel =>
        refine ⟨k + 1, _, _, by omega, by go_num, m5, (gM.step _).put _ _, ?_, m4, (gN.step _).put _ _, ?_, hf3.since hF4 HL2.out⟩
        · rw [Mach.put_at _ _ _ (by have := (gM.step (k % 4)).2.2; omega), EM.out, wrap_add]
          simp only [sumTo]
          rw [HX.out]
        · rw [Mach.put_at _ _ _ (by have := (gN.step 3).2.2; omega), EN.out, wrap_add]
          simp only [sumTo]
          rw [HY.out]
      case measure => simp [intOf]; omega
    · obtain rfl : k = len := by omega
      have eS : sumTo (fun i => f ((i + p) % k) 0) k = sumTo (fun i => f i 0) k := sumTo_turned (fun i => f i 0) k p h2
      have EN2 : Hid (N.all.getD 2 0 = wrap64 (sumTo (fun i => f i 0) k)) := by rw [← eS]; exact EN.out
      clear eS EN
      obtain ⟨S, hS⟩ : ∃ S, sumTo (fun i => f i 0) k = S := ⟨_, rfl⟩
      go_wp2_with fail
      have hp := peek_in b1 M 2 _ hM (by have := gM.2.1; omega)
      rw [EM.out] at hp
      refine hp.mono ?_
      clear hp
      rintro e w3 ⟨rfl, rfl⟩
      go_wp2_with fail
      have hp := peek_in b2 N 2 _ hN (by have := gN.2.1; omega)
      rw [EN2.out] at hp
      refine hp.mono ?_
      clear hp
      rintro e w3 ⟨rfl, rfl⟩
      clear hN gN EN2 HL2 HD N
      go_wp2_with fail
      go_loopw [12] (fun i wr => AddsRel2 w b1 (fun i => f i 0) k i wr) (fun i _ => k - (intOf i).toNat)
      case atStart => exact ⟨0, _, Nat.zero_le _, rfl, hM, gM, by rw [EM.out]; simp [sumTo], hf⟩
      case round =>
        obtain ⟨j, L, hj, rfl, hL, gL, eL, hf6⟩ := hrel
        have EL := hid eL
        clear eL
        by_cases hjt : j < k
        · obtain ⟨bl, off, rfl, hcell⟩ := HR.out.at_one hjt hf6
          obtain ⟨x, hx⟩ : ∃ x, f j 0 = x := ⟨_, rfl⟩
          rw [hx] at hcell
          have HX := hid hx
          clear hx
          go_wp2_with fail
          obtain ⟨u, hu⟩ : ∃ u, L.all.getD 2 0 = u := ⟨_, rfl⟩
          have ha := add_ok b1 L 0 2 (wrap64 (-x)) _ hL (by have := gL.1; omega) (by have := gL.2.1; omega)
          rw [hu] at ha
          refine ha.mono ?_
          clear ha
          have HU := hid hu
          clear hu
          rintro e w5 ⟨rfl, m5, hF5⟩
          go_wp2_with fail
          have hl := load_ok b1 _ 1 2 _ m5 (by have := ((gL.step 0).put 2 (wrap64 (u + wrap64 (-x)))).1; omega) (by have := ((gL.step 0).put 2 (wrap64 (u + wrap64 (-x)))).2.1; omega)
          rw [Mach.put_at _ _ _ (by have := (gL.step 0).2.2; omega)] at hl
          refine hl.mono ?_
          clear hl
          rintro e w6 ⟨rfl, m6, hF6⟩
          have hf7 := (hf6.since hF5 HL1.out).since hF6 HL1.out
          have hcell7 := HR.out.cell_one hjt hf7 HX.out
          have tq : (wrap64 (u - x) != wrap64 (u + wrap64 (-x))) = false := by rw [wrap_was]; simp
          go_wp2_with fail
          go_roundw
          case rel =>
            refine ⟨j + 1, _, by omega, by go_num, m6, ((gL.step _).put _ _).step _, ?_, hf7⟩
            rw [Mach.step_getD, Mach.put_at _ _ _ (by have := (gL.step 0).2.2; omega), ← HU.out, EL.out, wrap_sub]
            simp only [sumTo]
            rw [HX.out]
          case measure => simp [intOf]; omega
        · obtain rfl : j = k := by omega
          have e0 : L.all.getD 2 0 = 0 := by rw [EL.out, Int.sub_self]; simp [wrap64]
          go_wp2_with fail
          have hp := peek_in b1 L 2 _ hL (by have := gL.2.1; omega)
          rw [e0] at hp
          refine hp.mono ?_
          clear hp e0
          rintro e w3 ⟨rfl, rfl⟩
          go_wp2_with fail
          refine (awake_ok _).mono ?_
          rintro e w4 ⟨rfl, hF4⟩
          go_wp2_with fail
          go_ret
          exact ⟨rfl, (hf6.trans hF4).below (Nat.le_refl _) (fun _ hh => hh.elim)⟩

theorem addsLaw (a : Option Addr) (len cap : Nat) (y : Int) (f : Nat → Nat → Int) (w : World) (hr : Row w a len 1 f) :
    Calls Try.prog 8 #[.slice a len cap, .int .i64 y] w fun e w' => e = .returned (.bool true) ∧ Below w.heap.size w w' := by
  by_cases h : len ≤ 40 ∧ 0 ≤ y ∧ y ≤ len
  · obtain ⟨p, rfl⟩ := Int.eq_ofNat_of_zero_le h.2.1
    exact addsLaw_yes a len cap p f w h.1 (by omega) hr
  · exact addsLaw_no a len cap y w h
end Go.Proofs.Ytdhlicagdcefoaa
