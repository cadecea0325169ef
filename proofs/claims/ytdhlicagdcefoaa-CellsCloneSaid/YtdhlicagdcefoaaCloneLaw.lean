/-
  CellsClone answers true at any calls and any place.
-/
import Derived.Test.YtdhlicagdcefoaaClone
import Derived.Test.YtdhlicagdcefoaaLeave
namespace Go.Proofs.Ytdhlicagdcefoaa
open Go.RowKit

theorem does_mono {M : Mach} (g : Good M) (o : OpD) {n : Int} (h0 : 0 ≤ M.stepsOf 0) (hn : M.stepsOf 0 ≤ n) (hb : n ≤ 1000) :
    M.stepsOf 0 ≤ (M.does o).2.2.stepsOf 0 ∧ (M.does o).2.2.stepsOf 0 ≤ n + 1 := by
  rw [does_steps g o 0]
  split
  · unfold wrap64
    omega
  · omega

theorem sameB_refl (M : Mach) : sameB M M = true := by simp [sameB, eqB]

theorem sameB_not {M N : Mach} (gM : Good M) (gN : Good N) (h : M.stepsOf 0 ≠ N.stepsOf 0) : sameB M N = false := by
  have e1 : M.stepsOf 0 = M.steps.getD 0 0 := by
    unfold Mach.stepsOf
    rw [if_pos ⟨by omega, by have := gM.1; omega⟩]
    rfl
  have e2 : N.stepsOf 0 = N.steps.getD 0 0 := by
    unfold Mach.stepsOf
    rw [if_pos ⟨by omega, by have := gN.1; omega⟩]
    rfl
  rw [e1, e2] at h
  have : eqB M.steps.length N.steps.length (fun i => M.steps.getD i 0) (fun i => N.steps.getD i 0) = false := by
    simp only [eqB, decide_eq_false_iff_not]
    intro hh
    exact h (hh.2 0 (by have := gM.1; omega))
  rw [sameB, this]
  simp

def CloneRel (w : World) (b : MB) (p n : Nat) (i : Value) (wr : World) : Prop :=
  ∃ (k : Nat) (M : Mach), k ≤ p ∧ n = p - k ∧ i = .int .i64 k ∧ IsM wr b M ∧ Good M ∧ 0 ≤ M.stepsOf 0 ∧ M.stepsOf 0 ≤ k ∧ Fr (fun _ => False) w wr

def CloneRel2 (w : World) (b c d : MB) (M : Mach) (len n : Nat) (i : Value) (wr : World) : Prop :=
  ∃ (k : Nat) (N : Mach), k ≤ len ∧ n = len - k ∧ i = .int .i64 k ∧ IsM wr b M ∧ IsM wr c N ∧ IsM wr d M ∧ Good N ∧ M.stepsOf 0 ≤ N.stepsOf 0 ∧ N.stepsOf 0 ≤ k ∧ Fr (fun _ => False) w wr

set_option maxRecDepth 100000 in
set_option maxHeartbeats 1000000 in
theorem cloneLaw_no (a : Option Addr) (len cap : Nat) (y : Int) (w : World) (h : ¬ (len ≤ 40 ∧ 0 ≤ y ∧ y ≤ len)) :
    Calls Try.prog 9 #[.slice a len cap, .int .i64 y] w fun e w' => e = .returned (.bool true) ∧ Below w.heap.size w w' := by
  have HX := hid h
  clear h
  go_enter Try.func9, Try.ntmps9
  go_wp2_with fail
  refine (made_ok _).mono ?_
  rintro e w1 ⟨b1, rfl, m1, hF1, hN1⟩
  clear m1 hN1
  by_cases t1 : (40 : Int) < len
  all_goals by_cases t2 : y < 0
  all_goals by_cases t3 : (len : Int) < y
  all_goals first
    | (exfalso
       have := HX.out
       omega)
    | (go_wp2_with fail
       refine (awake_ok _).mono ?_
       rintro e w3 ⟨rfl, hF3⟩
       go_wp2_with fail
       go_ret
       exact ⟨rfl, (hF1.trans hF3).below (Nat.le_refl _) (fun _ hh => hh.elim)⟩)

set_option maxRecDepth 100000 in
set_option maxHeartbeats 2000000 in
theorem cloneLaw_yes (a : Option Addr) (len cap p : Nat) (f : Nat → Nat → Int) (w : World) (h1 : len ≤ 40) (h2 : p ≤ len) (hr : Row w a len 5 f) :
    Calls Try.prog 9 #[.slice a len cap, .int .i64 p] w fun e w' => e = .returned (.bool true) ∧ Below w.heap.size w w' := by
  have HR := hid hr
  clear hr
  have t1 : decide ((40 : Int) < len) = false := by simp; omega
  have t2 : decide ((p : Int) < 0) = false := by simp
  have t3 : decide (len < p) = false := by simp; omega
  go_enter Try.func9, Try.ntmps9
  go_wp2_with fail
  refine (made_ok _).mono ?_
  rintro e w1 ⟨b, rfl, m1, hF1, hN1⟩
  have HL : Hid (∀ i, b.own i → i < w.heap.size → False) := fun i hi hl => by have := hN1 i hi; omega
  clear hN1
  go_wp2_with fail
  go_loopg [6] p (fun n i wr => CloneRel w b p n i wr)
  case atStart => exact ⟨0, _, Nat.zero_le _, rfl, rfl, m1, Good.made, by decide, by decide, hF1⟩
  case round =>
    obtain ⟨k, M, hk, rfl, rfl, hM, gM, s0, s1, hf⟩ := hrel
    by_cases hlt : k < p
    · obtain ⟨o, ho⟩ : ∃ o, OpD.of f k = o := ⟨_, rfl⟩
      have hlt2 : k < len := by omega
      obtain ⟨bl, off, rfl, r0, r1, r2, r3, r4⟩ := HR.out.at_five hlt2 hf ho
      clear ho
      go_wp2_with fail
      refine (does_any b M o _ hM).mono ?_
      rintro e w3 ⟨rfl, m3, hF3⟩
      have hd := does_mono gM o s0 s1 (by omega)
      clear r0 r1 r2 r3 r4
      go_wp2_with fail
      go_roundg (p - (k + 1))
      case measure => omega
      case rel => exact ⟨k + 1, _, by omega, rfl, by go_num, m3, does_good gM o, by omega, by omega, hf.since hF3 HL.out⟩
    · obtain rfl : k = p := by omega
      obtain ⟨wo, rfl⟩ : ∃ wo, wo = wr := ⟨_, rfl⟩
      clear hlt hk
      go_wp2_with fail
      refine (clone_ok b M _ hM (by have := gM.2.2; omega) (by have := gM.1; omega)).mono ?_
      rintro e w2 ⟨c, rfl, c2, hF2, hN2⟩
      have hM2 := hM.same hF2
      go_wp2_with fail
      refine (clone_ok b M _ hM2 (by have := gM.2.2; omega) (by have := gM.1; omega)).mono ?_
      rintro e w3 ⟨d, rfl, d3, hF3, hN3⟩
      have HBC : Hid (∀ i, b.own i → ¬ c.own i) := fun i hi hj => by have := hM.own_lt i hi; have := hN2 i hj; omega
      have HCD : Hid (∀ i, d.own i → ¬ c.own i) := fun i hi hj => by have := c2.own_lt i hj; have := hN3 i hi; omega
      have HLC : Hid (∀ i, c.own i → i < w.heap.size → False) := fun i hi hl => by have := hN2 i hi; have := hf.size; omega
      clear hN2 hN3
      have hM3 := hM2.same hF3
      have c3 := c2.same hF3
      have hf3 := (hf.trans hF2).trans hF3
      clear hM hM2 c2 hF2 hF3 hf
      go_wp2_with fail
      have hs := same_any b c M M _ hM3 c3
      rw [sameB_refl] at hs
      refine hs.mono ?_
      clear hs
      rintro e w' ⟨rfl, n1, rfl⟩
      have hM4 := hM3.same (Fr.drewN _ _ n1)
      have c4 := c3.same (Fr.drewN _ _ n1)
      have d4 := d3.same (Fr.drewN _ _ n1)
      have hf4 := hf3.trans (Fr.drewN _ _ n1)
      clear hM3 c3 d3 hf3
      obtain ⟨w4, hw4⟩ : ∃ w4, w3.drewN n1 = w4 := ⟨_, rfl⟩
      rw [hw4] at hM4 c4 d4 hf4 ⊢
      clear hw4
      go_wp2_with fail
      have hs := same_any c b M M _ c4 hM4
      rw [sameB_refl] at hs
      refine hs.mono ?_
      clear hs
      rintro e w' ⟨rfl, n1, rfl⟩
      have hM5 := hM4.same (Fr.drewN _ _ n1)
      have c5 := c4.same (Fr.drewN _ _ n1)
      have d5 := d4.same (Fr.drewN _ _ n1)
      have hf5 := hf4.trans (Fr.drewN _ _ n1)
      clear hM4 c4 d4 hf4
      obtain ⟨w5, hw5⟩ : ∃ w5, w4.drewN n1 = w5 := ⟨_, rfl⟩
      rw [hw5] at hM5 c5 d5 hf5 ⊢
      clear hw5
      go_wp2_with fail
      go_loopg [9] (len - k) (fun n i wr => CloneRel2 w b c d M len n i wr)
      case atStart => exact ⟨k, _, h2, rfl, rfl, hM5, c5, d5, gM, Int.le_refl _, s1, hf5⟩
      case round =>
        obtain ⟨q, N, hq, rfl, rfl, hM6, c6, d6, gN, u0, u1, hf6⟩ := hrel
        by_cases hqt : q < len
        · obtain ⟨o, ho⟩ : ∃ o, OpD.of f q = o := ⟨_, rfl⟩
          obtain ⟨bl, off, rfl, r0, r1, r2, r3, r4⟩ := HR.out.at_five hqt hf6 ho
          clear ho
          go_wp2_with fail
          refine (does_any c N o _ c6).mono ?_
          rintro e w7 ⟨rfl, m7, hF7⟩
          have hd := does_mono gN o (by omega) u1 (by omega)
          clear r0 r1 r2 r3 r4
          go_wp2_with fail
          go_roundg (len - (q + 1))
          case measure => omega
          case rel => exact ⟨q + 1, _, by omega, rfl, by go_num, hM6.keep hF7 HBC.out, m7, d6.keep hF7 HCD.out, does_good gN o, by omega, by omega, hf6.since hF7 HLC.out⟩
        · clear hM5 c5 d5 hf5
          go_wp2_with fail
          have hs := same_any b d M M _ hM6 d6
          rw [sameB_refl] at hs
          refine hs.mono ?_
          clear hs
          rintro e w' ⟨rfl, n1, rfl⟩
          replace hM6 := hM6.same (Fr.drewN _ _ n1)
          replace c6 := c6.same (Fr.drewN _ _ n1)
          replace d6 := d6.same (Fr.drewN _ _ n1)
          replace hf6 := hf6.trans (Fr.drewN _ _ n1)
          obtain ⟨w6, hw⟩ : ∃ w6, wr.drewN n1 = w6 := ⟨_, rfl⟩
          rw [hw] at hM6 c6 d6 hf6 ⊢
          clear hw
          clear d6
          go_wp2_with fail
          refine (add_ok c N 0 7 1 _ c6 (by have := gN.1; omega) (by have := gN.2.1; omega)).mono ?_
          rintro e w7 ⟨rfl, c7, hF7⟩
          have hM7 := hM6.keep hF7 HBC.out
          have hf7 := hf6.since hF7 HLC.out
          have gN7 := (gN.step 0).put 7 (wrap64 (N.all.getD 7 0 + 1))
          have hne : M.stepsOf 0 ≠ ((N.step 0).put 7 (wrap64 (N.all.getD 7 0 + 1))).stepsOf 0 := by
            have e1 : ((N.step 0).put 7 (wrap64 (N.all.getD 7 0 + 1))).stepsOf 0 = (N.step 0).stepsOf 0 := rfl
            rw [e1, steps_step N 0 (by have := gN.1; omega) 0, if_pos (by rfl)]
            unfold wrap64
            omega
          have hsame := sameB_not gM gN7 hne
          have HSame := hid hsame
          clear hne hsame hF7 hM6 c6 hf6
          obtain ⟨N7, hN7⟩ : ∃ N7, (N.step 0).put 7 (wrap64 (N.all.getD 7 0 + 1)) = N7 := ⟨_, rfl⟩
          rw [hN7] at c7 gN7 HSame
          clear hN7
          go_wp2_with fail
          refine (load_nil 0 0 _).mono ?_
          rintro e w' ⟨rfl, rfl⟩
          go_wp2_with fail
          refine (cas_nil 0 0 0 0 _).mono ?_
          rintro e w' ⟨rfl, rfl⟩
          go_wp2_with fail
          refine (add_nil 0 0 0 _).mono ?_
          rintro e w8 ⟨rfl, hF8⟩
          replace c7 := c7.same hF8
          replace hM7 := hM7.same hF8
          replace hf7 := hf7.trans hF8
          clear hF8
          go_wp2_with fail
          refine (alloc_nil 0 1 _).mono ?_
          rintro e w' ⟨rfl, rfl⟩
          go_wp2_with fail
          refine (store_nil 0 0 0 _).mono ?_
          rintro e w' ⟨rfl, rfl⟩
          go_wp2_with fail
          refine (steps_nil 0 _).mono ?_
          rintro e w' ⟨rfl, rfl⟩
          go_wp2_with fail
          refine (used_nil _).mono ?_
          rintro e w' ⟨rfl, rfl⟩
          go_wp2_with fail
          refine (peek_nil 0 _).mono ?_
          rintro e w' ⟨rfl, rfl⟩
          go_wp2_with fail
          refine (clone_nil _).mono ?_
          rintro e w' ⟨rfl, rfl⟩
          go_wp2_with fail
          have hs := same_any b c M N7 _ hM7 c7
          rw [HSame.out] at hs
          refine hs.mono ?_
          clear hs
          rintro e w' ⟨rfl, n1, rfl⟩
          replace hM7 := hM7.same (Fr.drewN _ _ n1)
          replace c7 := c7.same (Fr.drewN _ _ n1)
          replace hf7 := hf7.trans (Fr.drewN _ _ n1)
          obtain ⟨w9, hw⟩ : ∃ w9, w8.drewN n1 = w9 := ⟨_, rfl⟩
          rw [hw] at hM7 c7 hf7 ⊢
          clear hw
          go_wp2_with fail
          refine (same_nils _).mono ?_
          rintro e w' ⟨rfl, rfl⟩
          go_wp2_with fail
          refine (same_nil1 _ _).mono ?_
          rintro e w' ⟨rfl, rfl⟩
          go_wp2_with fail
          refine (same_nil2 _ _).mono ?_
          rintro e w' ⟨rfl, rfl⟩
          go_wp2_with fail
          refine (awake_ok _).mono ?_
          rintro e w10 ⟨rfl, hF10⟩
          go_wp2_with fail
          go_ret
          exact ⟨rfl, (hf7.trans hF10).below (Nat.le_refl _) (fun _ hh => hh.elim)⟩

theorem cloneLaw (a : Option Addr) (len cap : Nat) (y : Int) (f : Nat → Nat → Int) (w : World) (hr : Row w a len 5 f) :
    Calls Try.prog 9 #[.slice a len cap, .int .i64 y] w fun e w' => e = .returned (.bool true) ∧ Below w.heap.size w w' := by
  by_cases h : len ≤ 40 ∧ 0 ≤ y ∧ y ≤ len
  · obtain ⟨p, rfl⟩ := Int.eq_ofNat_of_zero_le h.2.1
    exact cloneLaw_yes a len cap p f w h.1 (by omega) hr
  · exact cloneLaw_no a len cap y w h
end Go.Proofs.Ytdhlicagdcefoaa
