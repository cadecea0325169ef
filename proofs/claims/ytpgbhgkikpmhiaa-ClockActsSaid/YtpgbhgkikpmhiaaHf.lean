/-
  container/heap over a clock's line: Push, Pop, Remove.
-/
import Derived.Test.YtpgbhgkikpmhiaaDn
namespace Go.Proofs.Ytpgbhgkikpmhiaa
open Go.RowKit
set_option linter.unusedVariables false

def DsRel (c : Nat) (now : Int) (A : Option Addr) (cap b i0 : Nat) (L : List Due) (w : World) (d : Nat) (p : Value) (wr : World) : Prop :=
  d = 0 ∧ p = .int .i64 i0 ∧ IsK wr c now A cap b L ∧ Fr (fun _ => False) w wr

section
variable {c : Nat} {now : Int} {A : Option Addr} {cap b : Nat} {L : List Due} (w : World)

set_option maxRecDepth 100000 in
set_option maxHeartbeats 3200000 in
theorem down_stay (h : IsK w c now A cap b L) (n k : Nat) (hu : ∀ i, 0 < i → i < n → par i = k → dle (at_ L k) (at_ L i)) (hi : k < n) (hn : n ≤ L.length) (hs : L.length < 100000) : Calls Try.prog 34 #[lnV c, .int .i64 k, .int .i64 n] w fun e w' => e = .returned (.bool false) ∧ Fr (fun _ => False) w w' := by
  have HH := hid h
  have HU := hid hu
  have hml := m_less c
  have hms := m_swap c
  have HNL := hid hn
  have HHI := hid hi
  unfold lnV
  obtain ⟨m, hm⟩ : ∃ m, 2 * k = m := ⟨_, rfl⟩
  obtain ⟨j1, hj1⟩ : ∃ m, 2 * k + 1 = m := ⟨_, rfl⟩
  obtain ⟨j2, hj2⟩ : ∃ m, 2 * k + 2 = m := ⟨_, rfl⟩
  have q1 : wrap64 (2 * (k : Int)) = (m : Int) := by unfold wrap64; omega
  have q2 : wrap64 ((m : Int) + 1) = (j1 : Int) := by unfold wrap64; omega
  have q3 : wrap64 ((j1 : Int) + 1) = (j2 : Int) := by unfold wrap64; omega
  have HJ := hid (show j1 = 2 * k + 1 ∧ j2 = 2 * k + 2 from ⟨hj1.symm, hj2.symm⟩)
  clear h hu hs hn hi hm hj1 hj2
  go_enter Try.func34, Try.ntmps34
  go_wp2_with fail
  go_loopg [7] 0 (fun d p wr => DsRel c now A cap b k L w d p wr)
  case atStart => exact ⟨rfl, rfl, HH.out, Fr.refl _ _⟩
  case round =>
    obtain ⟨hd0, rfl, hK, hF⟩ := hrel
    have HK := hid hK
    have HF2 := hid hF
    clear hK hF
    by_cases hn1 : j1 < n
    · have HN1 := hid hn1
      have g1 : ¬ (n : Int) ≤ (j1 : Int) := by omega
      have g2 : ¬ n ≤ j1 := by omega
      have g3 : ¬ (j1 : Int) < 0 := by omega
      have HCASE := hid (show (j2 < n ∧ dlt (at_ L j2) (at_ L j1)) ∨ (j2 < n ∧ ¬ dlt (at_ L j2) (at_ L j1)) ∨ ¬ j2 < n from by by_cases h1 : j2 < n <;> by_cases h2 : dlt (at_ L j2) (at_ L j1) <;> simp [h1, h2])
      clear hn1
      rcases HCASE.out with ⟨h2, hl⟩ | ⟨h2, hl⟩ | h2
      · have g4 : (j2 : Int) < (n : Int) := by omega
        have HLE := hid (ln_less wr HK.out j2 j1 (by have := HNL.out; omega) (by have := HNL.out; have := HN1.out; omega))
        rw [decide_eq_true hl] at HLE
        have HJN := hid (show j2 < n ∧ par j2 = k ∧ 0 < j2 from ⟨by have := HN1.out; omega, by have := HJ.out; unfold par; omega, by have := HJ.out; omega⟩)
        clear hl
        go_wp2_with fail
        refine HLE.out.mono ?_
        rintro e w1 ⟨rfl, hF1⟩
        have HK1 := hid (HK.out.same hF1)
        have HF1 := hid (HF2.out.trans hF1)
        clear hF1
        have HLS := hid (ln_less w1 HK1.out j2 k (by have := HNL.out; have := HJN.out; omega) (by have := HNL.out; have := HHI.out; omega))
        rw [decide_eq_false (HU.out j2 HJN.out.2.2 HJN.out.1 HJN.out.2.1)] at HLS
        go_wp2_with fail
        refine HLS.out.mono ?_
        rintro e w2 ⟨rfl, hF2⟩
        have HF3 := hid (HF1.out.trans hF2)
        clear hF2
        go_wp2_with fail
        go_ret
        exact ⟨by simp, HF3.out⟩
      · have g4 : (j2 : Int) < (n : Int) := by omega
        have HLE := hid (ln_less wr HK.out j2 j1 (by have := HNL.out; omega) (by have := HNL.out; have := HN1.out; omega))
        rw [decide_eq_false hl] at HLE
        have HJN := hid (show j1 < n ∧ par j1 = k ∧ 0 < j1 from ⟨by have := HN1.out; omega, by have := HJ.out; unfold par; omega, by have := HJ.out; omega⟩)
        clear hl
        go_wp2_with fail
        refine HLE.out.mono ?_
        rintro e w1 ⟨rfl, hF1⟩
        have HK1 := hid (HK.out.same hF1)
        have HF1 := hid (HF2.out.trans hF1)
        clear hF1
        have HLS := hid (ln_less w1 HK1.out j1 k (by have := HNL.out; have := HJN.out; omega) (by have := HNL.out; have := HHI.out; omega))
        rw [decide_eq_false (HU.out j1 HJN.out.2.2 HJN.out.1 HJN.out.2.1)] at HLS
        go_wp2_with fail
        refine HLS.out.mono ?_
        rintro e w2 ⟨rfl, hF2⟩
        have HF3 := hid (HF1.out.trans hF2)
        clear hF2
        go_wp2_with fail
        go_ret
        exact ⟨by simp, HF3.out⟩
      · have g4 : ¬ (j2 : Int) < (n : Int) := by omega
        have HJN := hid (show j1 < n ∧ par j1 = k ∧ 0 < j1 from ⟨by have := HN1.out; omega, by have := HJ.out; unfold par; omega, by have := HJ.out; omega⟩)
        have HK1 := HK
        have HF1 := HF2
        have HLS := hid (ln_less wr HK1.out j1 k (by have := HNL.out; have := HJN.out; omega) (by have := HNL.out; have := HHI.out; omega))
        rw [decide_eq_false (HU.out j1 HJN.out.2.2 HJN.out.1 HJN.out.2.1)] at HLS
        go_wp2_with fail
        refine HLS.out.mono ?_
        rintro e w2 ⟨rfl, hF2⟩
        have HF3 := hid (HF1.out.trans hF2)
        clear hF2
        go_wp2_with fail
        go_ret
        exact ⟨by simp, HF3.out⟩
    · have g1 : (n : Int) ≤ (j1 : Int) := by omega
      have g2 : n ≤ j1 := by omega
      clear hn1
      go_wp2_with fail
      go_ret
      exact ⟨by simp, HF2.out⟩

/-! ### Push, Pop, Remove -/

theorem Hp.toU {n : Nat} {L : List Due} (h : Hp n L) {k : Nat} (hk : k < n) (hn : n ≤ L.length) : HpU n L k :=
  ⟨hk, hn, fun i h0 h1 _ => h i h0 h1, fun i h0 h1 hp h2 => dle_trans (h k h2 hk) (hp ▸ h i h0 h1)⟩

theorem Hp.take {n : Nat} {L : List Due} (h : Hp n L) : Hp n (L.take n) := fun i h0 h1 => by
  rw [at_take _ _ _ h1, at_take _ _ _ (by unfold par; omega)]
  exact h i h0 h1

theorem take_last {L : List Due} {n : Nat} (hn : L.length = n + 1) : L = L.take n ++ [at_ L n] := by
  have h1 : L.drop n = [at_ L n] := by
    unfold at_
    rw [List.drop_eq_getElem_cons (by omega), List.drop_eq_nil_of_le (by omega), List.getD_eq_getElem?_getD, List.getElem?_eq_getElem (by omega)]
    rfl
  conv => lhs; rw [← List.take_append_drop n L, h1]

def RemPost (c : Nat) (now : Int) (A : Option Addr) (cap b : Nat) (L : List Due) (x : Due) (w : World) (e : Ending) (w' : World) : Prop :=
  e = .returned (dueV x) ∧ ∃ K, IsK w' c now A cap b K ∧ Hp K.length K ∧ L.Perm (x :: K) ∧ Fr (ownK c A b) w w'

/-- What is left once the last one is taken. -/
theorem taken {L M : List Due} {n : Nat} {x : Due} (hp : M.Perm L) (hn : M.length = n + 1) (hx : at_ M n = x) (hh : Hp n M) : Hp (M.take n).length (M.take n) ∧ L.Perm (x :: M.take n) := by
  have hl : (M.take n).length = n := by rw [List.length_take]; omega
  refine ⟨by rw [hl]; exact hh.take, ?_⟩
  have h1 := take_last hn
  rw [hx] at h1
  refine hp.symm.trans ?_
  conv => lhs; rw [h1]
  exact List.perm_append_comm

set_option maxRecDepth 100000 in
set_option maxHeartbeats 1600000 in
theorem hp_pop (h : IsK w c now A cap b L) (n : Nat) (hn : L.length = n + 1) (hh : Hp (n + 1) L) (hs : n < 90000) : Calls Try.prog 29 #[lnV c] w (RemPost c now A cap b L (at_ L 0) w) := by
  have HL := hid (ln_len w h)
  rw [hn] at HL
  have HH := hid h
  have hml := m_len c
  have hms := m_swap c
  have hmp := m_pop c
  have HN := hid hn
  have HHP := hid hh
  unfold lnV
  clear h hn hh
  go_enter Try.func29, Try.ntmps29
  go_wp2_with fail
  refine HL.out.mono ?_
  rintro e w1 ⟨rfl, rfl⟩
  go_wp2_with fail
  refine (ln_swap w HH.out 0 n (by have := HN.out; omega) (by have := HN.out; omega)).mono ?_
  rintro e w2 ⟨rfl, hK2, hF2⟩
  have HK2 := hid hK2
  have HF2 := hid hF2
  clear hK2 hF2
  go_wp2_with fail
  refine (down_ok w2 HK2.out n 0 (HHP.out.pop (by have := HN.out; omega)) (by omega) (by rw [swp_len, HN.out]; omega)).mono ?_
  rintro e w3 ⟨⟨v, rfl⟩, M, hK3, hP3, hS3, hF3⟩
  have HK3 := hid hK3
  have HP3 := hid hP3
  have HS3 := hid hS3
  have HF3 := hid (HF2.out.trans hF3)
  have HM := hid (show M.length = n + 1 from by rw [hS3.len, swp_len, HN.out])
  clear hK3 hP3 hS3 hF3
  go_wp2_with fail
  refine (ln_pop w3 HK3.out n HM.out (by omega)).mono ?_
  rintro e w4 ⟨rfl, hK4, hF4⟩
  have HK4 := hid hK4
  have HF4 := hid (HF3.out.trans hF4)
  clear hK4 hF4
  unfold dueV
  go_wp2_with fail
  go_ret
  have hx : at_ M n = at_ L 0 := by rw [HS3.out.beh n (Nat.le_refl _), at_swp2 _ _ _ (by have := HN.out; omega) (by have := HN.out; omega)]
  have ht := taken (HS3.out.perm.trans (swp_perm L 0 n (by have := HN.out; omega) (by have := HN.out; omega))) HM.out hx HP3.out
  refine ⟨by rw [← hx]; rfl, _, HK4.out, ht.1, ht.2, HF4.out⟩

set_option maxRecDepth 100000 in
set_option maxHeartbeats 1600000 in
theorem hp_push (h : IsK w c now A cap b L) (d : Due) (hd : ∀ x ∈ L, x.2 ≠ d.2) (hh : Hp L.length L) (hs : L.length < 90000) : Calls Try.prog 31 #[lnV c, dueV d] w fun e w' => e = .returned (.tuple #[]) ∧ ∃ A' cap' K, IsK w' c now A' cap' b K ∧ Hp K.length K ∧ K.Perm (L ++ [d]) ∧ Fr (ownK c A b) w w' ∧ ∀ k, ownB A' k → ownB A k ∨ w.heap.size ≤ k := by
  have HPU := hid (ln_push w h d hd (by omega))
  have HHP := hid hh
  obtain ⟨n, hn⟩ : ∃ n, L.length = n := ⟨_, rfl⟩
  have hml := m_len c
  have hmp := m_push c
  have HS := hid hs
  have HN := hid hn
  rw [hn] at hs
  have HLT := hid h.own_lt
  unfold dueV at *
  unfold lnV
  clear h hh hd hn
  go_enter Try.func31, Try.ntmps31
  go_wp2_with fail
  refine HPU.out.mono ?_
  rintro e w1 ⟨rfl, A', cap', hK1, hF1, hA1⟩
  have HK1 := hid hK1
  have HF1 := hid hF1
  have HA1 := hid hA1
  have HL := hid (ln_len w1 hK1)
  rw [show (L ++ [d]).length = n + 1 by simp [HN.out]] at HL
  clear hK1 hF1 hA1
  go_wp2_with fail
  refine HL.out.mono ?_
  rintro e w2 ⟨rfl, rfl⟩
  go_wp2_with fail
  refine (up_ok w1 HK1.out (n + 1) n (by have := HHP.out.push d; rw [HN.out] at this; exact this) (by simp [HN.out]; omega)).mono ?_
  rintro e w3 ⟨rfl, K, hK3, hP3, hS3, hF3⟩
  have HK3 := hid hK3
  have HP3 := hid hP3
  have HS3 := hid hS3
  have HF3 := hid hF3
  clear hK3 hP3 hS3 hF3
  go_wp2_with fail
  go_end0
  refine ⟨rfl, A', cap', K, HK3.out, ?_, HS3.out.perm, HF1.out.since HF3.out (fun i hi hl => ?_), HA1.out⟩
  · rw [HS3.out.len, show (L ++ [d]).length = n + 1 by simp [HN.out]]; exact HP3.out
  · rcases hi with hi | hi | hi
    · exact .inl hi
    · exact .inr (.inl hi)
    · rcases HA1.out i hi with h | h
      · exact .inr (.inr h)
      · omega

set_option maxRecDepth 100000 in
set_option maxHeartbeats 1600000 in
theorem hp_remove (h : IsK w c now A cap b L) (i : Nat) (hi : i < L.length) (hh : Hp L.length L) (hs : L.length < 90000) : Calls Try.prog 28 #[lnV c, .int .i64 i] w (RemPost c now A cap b L (at_ L i) w) := by
  obtain ⟨n, hn⟩ : ∃ n, L.length = n + 1 := ⟨L.length - 1, by omega⟩
  have HL := hid (ln_len w h)
  rw [hn] at HL hh hs hi
  have HH := hid h
  have hml := m_len c
  have hms := m_swap c
  have hmp := m_pop c
  have HN := hid hn
  have HHP := hid hh
  have HI := hid hi
  unfold lnV
  clear h hn hh
  by_cases hin : n = i
  · subst hin
    have t0 : ((n : Int) != (n : Int)) = false := by simp
    go_enter Try.func28, Try.ntmps28
    go_wp2_with fail
    refine HL.out.mono ?_
    rintro e w1 ⟨rfl, rfl⟩
    go_wp2_with fail
    refine (ln_pop w HH.out n HN.out (by omega)).mono ?_
    rintro e w4 ⟨rfl, hK4, hF4⟩
    have HK4 := hid hK4
    have HF4 := hid hF4
    clear hK4 hF4
    unfold dueV
    go_wp2_with fail
    go_ret
    have ht := taken (n := n) (List.Perm.refl L) HN.out rfl (fun i h0 h1 => HHP.out i h0 (by omega))
    exact ⟨rfl, _, HK4.out, ht.1, ht.2, HF4.out⟩
  · have t0 : ((n : Int) != (i : Int)) = true := by simp; omega
    have hin2 : i < n := by omega
    have HIN := hid hin2
    have HX := hid (at_swp2 L i n (by have := HN.out; omega) (by have := HN.out; omega))
    have HX1 := hid (at_swp1 L i n (by have := HN.out; omega) (by have := HN.out; omega))
    have HPM := hid (swp_perm L i n (by have := HN.out; omega) (by have := HN.out; omega))
    have HML := hid (show (swp L i n).length = n + 1 by rw [swp_len, HN.out])
    have HD := hid (show (HpD n (swp L i n) i) ∨ (HpU n (swp L i n) i ∧ ∀ k, 0 < k → k < n → par k = i → dle (at_ (swp L i n) i) (at_ (swp L i n) k)) from by
      have hl : n + 1 ≤ L.length := by have := HN.out; omega
      by_cases h0 : i = 0
      · exact .inl (HHP.out.cut hl i hin2 (.inl h0))
      · by_cases hd : dle (at_ L (par i)) (at_ L n)
        · exact .inl (HHP.out.cut hl i hin2 (.inr hd))
        · have hd2 : dle (at_ L n) (at_ L (par i)) := by rcases dle_total (at_ L n) (at_ L (par i)) with h | h; exact h; exact absurd h hd
          refine .inr ⟨HHP.out.cutU hl i hin2 (by omega) hd2, fun k k0 k1 hp => ?_⟩
          have := (HHP.out.cutU hl i hin2 (by omega) hd2).ch k k0 k1 hp (by omega)
          rw [HX1.out]
          refine dle_trans ?_ this
          rw [swp_at L i n (par i) (by have := HN.out; omega) (by have := HN.out; omega), if_neg (by unfold par; omega), if_neg (by unfold par; omega)]
          exact hd2)
    clear hin hin2
    go_enter Try.func28, Try.ntmps28
    go_wp2_with fail
    refine HL.out.mono ?_
    rintro e w1 ⟨rfl, rfl⟩
    go_wp2_with fail
    refine (ln_swap w HH.out i n (by have := HN.out; have := HIN.out; omega) (by have := HN.out; omega)).mono ?_
    rintro e w2 ⟨rfl, hK2, hF2⟩
    have HK2 := hid hK2
    have HF2 := hid hF2
    clear hK2 hF2
    obtain ⟨S, hS⟩ : ∃ S, swp L i n = S := ⟨_, rfl⟩
    rw [hS] at HX HX1 HPM HML HD HK2
    clear hS
    go_wp2_with fail
    rcases HD.out with hd | ⟨hd, hk⟩
    · refine (down_ok w2 HK2.out n i hd (by have := HIN.out; omega) (by rw [HML.out]; omega)).mono ?_
      rintro e w3 ⟨⟨v, rfl⟩, M, hK3, hP3, hS3, hF3⟩
      have HK3 := hid hK3
      have HP3 := hid hP3
      have HS3 := hid hS3
      have HF3 := hid (HF2.out.trans hF3)
      have HM := hid (show M.length = n + 1 from by rw [hS3.len, HML.out])
      clear hK3 hP3 hS3 hF3 hd
      cases v
      · go_wp2_with fail
        refine (up_ok w3 HK3.out n i (HP3.out.toU HIN.out (by have := HM.out; omega)) (by have := HM.out; omega)).mono ?_
        rintro e w5 ⟨rfl, M2, hK5, hP5, hS5, hF5⟩
        have HK5 := hid hK5
        have HP5 := hid hP5
        have HS5 := hid (HS3.out.trans hS5)
        have HF5 := hid (HF3.out.trans hF5)
        have HM5 := hid (show M2.length = n + 1 from by rw [hS5.len, HM.out])
        clear hK5 hP5 hS5 hF5
        go_wp2_with fail
        refine (ln_pop w5 HK5.out n HM5.out (by omega)).mono ?_
        rintro e w4 ⟨rfl, hK4, hF4⟩
        have HK4 := hid hK4
        have HF4 := hid (HF5.out.trans hF4)
        clear hK4 hF4
        unfold dueV
        go_wp2_with fail
        go_ret
        have hx : at_ M2 n = at_ L i := by rw [HS5.out.beh n (Nat.le_refl _), HX.out]
        have ht := taken (HS5.out.perm.trans HPM.out) HM5.out hx HP5.out
        exact ⟨by rw [← hx]; rfl, _, HK4.out, ht.1, ht.2, HF4.out⟩
      · go_wp2_with fail
        refine (ln_pop w3 HK3.out n HM.out (by omega)).mono ?_
        rintro e w4 ⟨rfl, hK4, hF4⟩
        have HK4 := hid hK4
        have HF4 := hid (HF3.out.trans hF4)
        clear hK4 hF4
        unfold dueV
        go_wp2_with fail
        go_ret
        have hx : at_ M n = at_ L i := by rw [HS3.out.beh n (Nat.le_refl _), HX.out]
        have ht := taken (HS3.out.perm.trans HPM.out) HM.out hx HP3.out
        exact ⟨by rw [← hx]; rfl, _, HK4.out, ht.1, ht.2, HF4.out⟩
    · refine (down_stay w2 HK2.out n i hk HIN.out (by have := HML.out; omega) (by rw [HML.out]; omega)).mono ?_
      rintro e w3 ⟨rfl, hF3⟩
      have HK3 := hid (HK2.out.same hF3)
      have HF3 := hid (HF2.out.trans (hF3.mono (T := ownK c A b) (fun _ h => h.elim)))
      have HD2 := hid hd
      clear hF3 hd hk
      go_wp2_with fail
      refine (up_ok w3 HK3.out n i HD2.out (by rw [HML.out]; omega)).mono ?_
      rintro e w5 ⟨rfl, M2, hK5, hP5, hS5, hF5⟩
      have HK5 := hid hK5
      have HP5 := hid hP5
      have HS5 := hid hS5
      have HF5 := hid (HF3.out.trans hF5)
      have HM5 := hid (show M2.length = n + 1 from by rw [hS5.len, HML.out])
      clear hK5 hP5 hS5 hF5
      go_wp2_with fail
      refine (ln_pop w5 HK5.out n HM5.out (by omega)).mono ?_
      rintro e w4 ⟨rfl, hK4, hF4⟩
      have HK4 := hid hK4
      have HF4 := hid (HF5.out.trans hF4)
      clear hK4 hF4
      unfold dueV
      go_wp2_with fail
      go_ret
      have hx : at_ M2 n = at_ L i := by rw [HS5.out.beh n (Nat.le_refl _), HX.out]
      have ht := taken (HS5.out.perm.trans HPM.out) HM5.out hx HP5.out
      exact ⟨by rw [← hx]; rfl, _, HK4.out, ht.1, ht.2, HF4.out⟩
end
end Go.Proofs.Ytpgbhgkikpmhiaa
