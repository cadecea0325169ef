/-
  container/heap over a clock's line: down.
-/
import Derived.Test.YtpgbhgkikpmhiaaUp
namespace Go.Proofs.Ytpgbhgkikpmhiaa
open Go.RowKit
set_option linter.unusedVariables false

def DnRel (c : Nat) (now : Int) (A : Option Addr) (cap b n : Nat) (L : List Due) (w : World) (d : Nat) (p : Value) (wr : World) : Prop :=
  ∃ (k : Nat) (M : List Due), d = L.length - k ∧ k ≤ L.length ∧ p = .int .i64 k ∧ HpD n M k ∧ IsK wr c now A cap b M ∧ Sme n L M ∧ Fr (ownK c A b) w wr

theorem HpD.low {n : Nat} {L : List Due} {k j : Nat} (h : HpD n L k) (hj : j < n) (hp : par j = k) (h0 : 0 < j) (hb : ∀ i, 0 < i → i < n → par i = k → dle (at_ L j) (at_ L i)) (hl : ¬ dlt (at_ L j) (at_ L k)) : Hp n L :=
  h.done (fun i h0 h1 h2 => dle_trans hl (hb i h0 h1 h2))

/-- The sooner child. -/
theorem kid2 {n : Nat} {L : List Due} {k : Nat} (hl : dlt (at_ L (2 * k + 2)) (at_ L (2 * k + 1))) : ∀ i, 0 < i → i < n → par i = k → dle (at_ L (2 * k + 2)) (at_ L i) := fun i h0 h1 h2 => by
  rcases par_is h0 h2 with rfl | rfl
  · exact dle_of_lt hl
  · exact dle_refl _
theorem kid1 {n : Nat} {L : List Due} {k : Nat} (hl : ¬ dlt (at_ L (2 * k + 2)) (at_ L (2 * k + 1)) ∨ n ≤ 2 * k + 2) : ∀ i, 0 < i → i < n → par i = k → dle (at_ L (2 * k + 1)) (at_ L i) := fun i h0 h1 h2 => by
  rcases par_is h0 h2 with rfl | rfl
  · exact dle_refl _
  · rcases hl with hl | hl
    · exact hl
    · omega

section
variable {c : Nat} {now : Int} {A : Option Addr} {cap b : Nat} {L : List Due} (w : World)

set_option maxRecDepth 100000 in
set_option maxHeartbeats 3200000 in
theorem down_ok (h : IsK w c now A cap b L) (n i0 : Nat) (hu : HpD n L i0) (hi : i0 ≤ n) (hs : L.length < 100000) : Calls Try.prog 34 #[lnV c, .int .i64 i0, .int .i64 n] w fun e w' => (∃ v, e = .returned (.bool v)) ∧ HeapPost c now A cap b n L w w' := by
  have HH := hid h
  have HU := hid hu
  have HL := hid hs
  have hml := m_less c
  have hms := m_swap c
  have HNL := hid hu.ln
  unfold lnV
  clear h hu hs
  go_enter Try.func34, Try.ntmps34
  go_wp2_with fail
  go_loopg [7] (L.length - i0) (fun d p wr => DnRel c now A cap b n L w d p wr)
  case atStart => exact ⟨i0, L, rfl, by have := HNL.out; omega, rfl, HU.out, HH.out, Sme.refl n L, Fr.refl _ _⟩
  case round =>
    obtain ⟨k, M, hgk, hkl, rfl, hu, hK, hS, hF⟩ := hrel
    have HK := hid hK
    have HU2 := hid hu
    have HS2 := hid hS
    have HF2 := hid hF
    have HGK := hid hgk
    have hlm : M.length = L.length := hS.len
    obtain ⟨m, hm⟩ : ∃ m, 2 * k = m := ⟨_, rfl⟩
    obtain ⟨j1, hj1⟩ : ∃ m, 2 * k + 1 = m := ⟨_, rfl⟩
    obtain ⟨j2, hj2⟩ : ∃ m, 2 * k + 2 = m := ⟨_, rfl⟩
    have hb : k < 100000 := by have := HL.out; omega
    have q1 : wrap64 (2 * (k : Int)) = (m : Int) := by unfold wrap64; omega
    have q2 : wrap64 ((m : Int) + 1) = (j1 : Int) := by unfold wrap64; omega
    have q3 : wrap64 ((j1 : Int) + 1) = (j2 : Int) := by unfold wrap64; omega
    have HJ := hid (show j1 = 2 * k + 1 ∧ j2 = 2 * k + 2 from ⟨hj1.symm, hj2.symm⟩)
    have HKL := hid hkl
    clear hK hu hS hF hm hj1 hj2 hb hgk hkl
    by_cases hn1 : j1 < n
    · have HN1 := hid hn1
      have g1 : ¬ (n : Int) ≤ (j1 : Int) := by omega
      have g2 : ¬ n ≤ j1 := by omega
      have g3 : ¬ (j1 : Int) < 0 := by omega
      have HCASE := hid (show (j2 < n ∧ dlt (at_ M j2) (at_ M j1)) ∨ (j2 < n ∧ ¬ dlt (at_ M j2) (at_ M j1)) ∨ ¬ j2 < n from by by_cases h1 : j2 < n <;> by_cases h2 : dlt (at_ M j2) (at_ M j1) <;> simp [h1, h2])
      clear hn1
      rcases HCASE.out with ⟨h2, hl⟩ | ⟨h2, hl⟩ | h2
      · have g4 : (j2 : Int) < (n : Int) := by omega
        have HLE := hid (ln_less wr HK.out j2 j1 (by have := HNL.out; omega) (by have := HNL.out; have := HN1.out; omega))
        rw [decide_eq_true hl] at HLE
        have HB := hid (show ∀ i, 0 < i → i < n → par i = k → dle (at_ M j2) (at_ M i) from by
          have hk := kid2 (n := n) (k := k) (by have := HJ.out; rw [← this.1, ← this.2]; exact hl)
          rw [← HJ.out.2] at hk
          exact hk)
        have HJN := hid (show j2 < n ∧ par j2 = k ∧ 0 < j2 from ⟨by have := HN1.out; omega, by have := HJ.out; unfold par; omega, by have := HJ.out; omega⟩)
        clear hl
        go_wp2_with fail
        refine HLE.out.mono ?_
        rintro e w1 ⟨rfl, hF1⟩
        have HK1 := hid (HK.out.same hF1)
        have HF1 := hid (HF2.out.trans (hF1.mono (T := ownK c A b) (fun _ h => h.elim)))
        clear hF1
        have HLS := hid (ln_less w1 HK1.out j2 k (by have := HNL.out; have := HJN.out; omega) (by have := HNL.out; have := HJ.out; have := HN1.out; omega))
        by_cases hd : dlt (at_ M j2) (at_ M k)
        · rw [decide_eq_true hd] at HLS
          have HD := hid hd
          clear hd
          go_wp2_with fail
          refine HLS.out.mono ?_
          rintro e w2 ⟨rfl, hF2⟩
          have HK2 := hid (HK1.out.same hF2)
          have HF3 := hid (HF1.out.trans (hF2.mono (T := ownK c A b) (fun _ h => h.elim)))
          clear hF2
          go_wp2_with fail
          refine (ln_swap w2 HK2.out k j2 (by have := HNL.out; have := HJ.out; have := HN1.out; omega) (by have := HNL.out; have := HJN.out; omega)).mono ?_
          rintro e w3 ⟨rfl, hK3, hF3⟩
          have HK3 := hid hK3
          have HF4 := hid (HF3.out.trans hF3)
          clear hK3 hF3
          go_wp2_with fail
          go_roundg (L.length - j2)
          case rel => exact ⟨j2, swp M k j2, rfl, by have := HNL.out; have := HJN.out; omega, rfl, HU2.out.step HJN.out.2.2 HJN.out.1 HJN.out.2.1 HB.out HD.out, HK3.out, HS2.out.swp HNL.out (by have := HJ.out; have := HN1.out; omega) HJN.out.1, HF4.out⟩
          case measure => have := HGK.out; have := HJ.out; have := HNL.out; have := HJN.out; omega
        · rw [decide_eq_false hd] at HLS
          have HD := hid hd
          clear hd
          go_wp2_with fail
          refine HLS.out.mono ?_
          rintro e w2 ⟨rfl, hF2⟩
          have HK2 := hid (HK1.out.same hF2)
          have HF3 := hid (HF1.out.trans (hF2.mono (T := ownK c A b) (fun _ h => h.elim)))
          clear hF2
          go_wp2_with fail
          go_ret
          exact ⟨⟨_, rfl⟩, M, HK2.out, HU2.out.low HJN.out.1 HJN.out.2.1 HJN.out.2.2 HB.out HD.out, HS2.out, HF3.out⟩
      · have g4 : (j2 : Int) < (n : Int) := by omega
        have HLE := hid (ln_less wr HK.out j2 j1 (by have := HNL.out; omega) (by have := HNL.out; have := HN1.out; omega))
        rw [decide_eq_false hl] at HLE
        have HB := hid (show ∀ i, 0 < i → i < n → par i = k → dle (at_ M j1) (at_ M i) from by
          have hk := kid1 (n := n) (k := k) (.inl (by have := HJ.out; rw [← this.1, ← this.2]; exact hl))
          rw [← HJ.out.1] at hk
          exact hk)
        have HJN := hid (show j1 < n ∧ par j1 = k ∧ 0 < j1 from ⟨by have := HN1.out; omega, by have := HJ.out; unfold par; omega, by have := HJ.out; omega⟩)
        clear hl
        go_wp2_with fail
        refine HLE.out.mono ?_
        rintro e w1 ⟨rfl, hF1⟩
        have HK1 := hid (HK.out.same hF1)
        have HF1 := hid (HF2.out.trans (hF1.mono (T := ownK c A b) (fun _ h => h.elim)))
        clear hF1
        have HLS := hid (ln_less w1 HK1.out j1 k (by have := HNL.out; have := HJN.out; omega) (by have := HNL.out; have := HJ.out; have := HN1.out; omega))
        by_cases hd : dlt (at_ M j1) (at_ M k)
        · rw [decide_eq_true hd] at HLS
          have HD := hid hd
          clear hd
          go_wp2_with fail
          refine HLS.out.mono ?_
          rintro e w2 ⟨rfl, hF2⟩
          have HK2 := hid (HK1.out.same hF2)
          have HF3 := hid (HF1.out.trans (hF2.mono (T := ownK c A b) (fun _ h => h.elim)))
          clear hF2
          go_wp2_with fail
          refine (ln_swap w2 HK2.out k j1 (by have := HNL.out; have := HJ.out; have := HN1.out; omega) (by have := HNL.out; have := HJN.out; omega)).mono ?_
          rintro e w3 ⟨rfl, hK3, hF3⟩
          have HK3 := hid hK3
          have HF4 := hid (HF3.out.trans hF3)
          clear hK3 hF3
          go_wp2_with fail
          go_roundg (L.length - j1)
          case rel => exact ⟨j1, swp M k j1, rfl, by have := HNL.out; have := HJN.out; omega, rfl, HU2.out.step HJN.out.2.2 HJN.out.1 HJN.out.2.1 HB.out HD.out, HK3.out, HS2.out.swp HNL.out (by have := HJ.out; have := HN1.out; omega) HJN.out.1, HF4.out⟩
          case measure => have := HGK.out; have := HJ.out; have := HNL.out; have := HJN.out; omega
        · rw [decide_eq_false hd] at HLS
          have HD := hid hd
          clear hd
          go_wp2_with fail
          refine HLS.out.mono ?_
          rintro e w2 ⟨rfl, hF2⟩
          have HK2 := hid (HK1.out.same hF2)
          have HF3 := hid (HF1.out.trans (hF2.mono (T := ownK c A b) (fun _ h => h.elim)))
          clear hF2
          go_wp2_with fail
          go_ret
          exact ⟨⟨_, rfl⟩, M, HK2.out, HU2.out.low HJN.out.1 HJN.out.2.1 HJN.out.2.2 HB.out HD.out, HS2.out, HF3.out⟩
      · have g4 : ¬ (j2 : Int) < (n : Int) := by omega
        have HB := hid (show ∀ i, 0 < i → i < n → par i = k → dle (at_ M j1) (at_ M i) from by
          have hk := kid1 (n := n) (L := M) (k := k) (.inr (by have := HJ.out; omega))
          rw [← HJ.out.1] at hk
          exact hk)
        have HJN := hid (show j1 < n ∧ par j1 = k ∧ 0 < j1 from ⟨by have := HN1.out; omega, by have := HJ.out; unfold par; omega, by have := HJ.out; omega⟩)
        skip
        have HK1 := HK
        have HF1 := HF2
        have HLS := hid (ln_less wr HK1.out j1 k (by have := HNL.out; have := HJN.out; omega) (by have := HNL.out; have := HJ.out; have := HN1.out; omega))
        by_cases hd : dlt (at_ M j1) (at_ M k)
        · rw [decide_eq_true hd] at HLS
          have HD := hid hd
          clear hd
          go_wp2_with fail
          refine HLS.out.mono ?_
          rintro e w2 ⟨rfl, hF2⟩
          have HK2 := hid (HK1.out.same hF2)
          have HF3 := hid (HF1.out.trans (hF2.mono (T := ownK c A b) (fun _ h => h.elim)))
          clear hF2
          go_wp2_with fail
          refine (ln_swap w2 HK2.out k j1 (by have := HNL.out; have := HJ.out; have := HN1.out; omega) (by have := HNL.out; have := HJN.out; omega)).mono ?_
          rintro e w3 ⟨rfl, hK3, hF3⟩
          have HK3 := hid hK3
          have HF4 := hid (HF3.out.trans hF3)
          clear hK3 hF3
          go_wp2_with fail
          go_roundg (L.length - j1)
          case rel => exact ⟨j1, swp M k j1, rfl, by have := HNL.out; have := HJN.out; omega, rfl, HU2.out.step HJN.out.2.2 HJN.out.1 HJN.out.2.1 HB.out HD.out, HK3.out, HS2.out.swp HNL.out (by have := HJ.out; have := HN1.out; omega) HJN.out.1, HF4.out⟩
          case measure => have := HGK.out; have := HJ.out; have := HNL.out; have := HJN.out; omega
        · rw [decide_eq_false hd] at HLS
          have HD := hid hd
          clear hd
          go_wp2_with fail
          refine HLS.out.mono ?_
          rintro e w2 ⟨rfl, hF2⟩
          have HK2 := hid (HK1.out.same hF2)
          have HF3 := hid (HF1.out.trans (hF2.mono (T := ownK c A b) (fun _ h => h.elim)))
          clear hF2
          go_wp2_with fail
          go_ret
          exact ⟨⟨_, rfl⟩, M, HK2.out, HU2.out.low HJN.out.1 HJN.out.2.1 HJN.out.2.2 HB.out HD.out, HS2.out, HF3.out⟩
    · have HN1 := hid hn1
      have g1 : (n : Int) ≤ (j1 : Int) := by omega
      have g2 : n ≤ j1 := by omega
      clear hn1
      go_wp2_with fail
      go_ret
      exact ⟨⟨_, rfl⟩, M, HK.out, HU2.out.done (fun i h0 h1 h2 => by have := par_is h0 h2; have := HJ.out; have := HN1.out; omega), HS2.out, HF2.out⟩
end
end Go.Proofs.Ytpgbhgkikpmhiaa
