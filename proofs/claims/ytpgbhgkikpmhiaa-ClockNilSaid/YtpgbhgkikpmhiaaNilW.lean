/-
  ClockNil: the walk.
-/
import Derived.Test.YtpgbhgkikpmhiaaAw
import Derived.Test.YtpgbhgkikpmhiaaPl
import Derived.Deep.CutBlock
namespace Go.Proofs.Ytpgbhgkikpmhiaa
open Go.RowKit
set_option linter.unusedVariables false

/-- What a Set behind one act wants. -/
def wantE (d i m id n : Int) : Int := bif decide (id < 0) || decide (n < 1) || decide (1099511627776 < n) then 10 else bif d == 0 && i == id && decide (1 ≤ m) && decide (m ≤ 1099511627776) then 18 else 0

theorem want_is (d i m id n : Int) : setE id n (actN d m 0) (actT d i m 0 []) = wantE d i m id n := by
  unfold setE wantE
  cases hb : (decide (id < 0) || decide (n < 1) || decide (1099511627776 < n)) with
  | true => rfl
  | false =>
    simp only [cond_false]
    congr 1
    simp only [Bool.or_eq_false_iff, decide_eq_false_iff_not] at hb
    unfold actT
    cases h0 : d == 0 with
    | false =>
      have : (bif d == 1 then dropT i [] else bif d == 2 then advT m 0 [] else []) = [] := by
        unfold dropT advT
        cases d == 1
        · cases d == 2
          · rfl
          · cases advNo m 0 <;> rfl
        · rfl
      simp only [cond_false, Bool.false_and]
      rw [this]
      rfl
    | true =>
      simp only [cond_true, Bool.true_and]
      unfold setT
      by_cases h1 : i = id
      · subst h1
        by_cases h2 : 1 ≤ m ∧ m ≤ 1099511627776
        · have : (decide (i < 0) || decide (m < 1) || decide (1099511627776 < m)) = false := by simp; omega
          rw [this]
          simp [hasId, ins, h2.1, h2.2]
        · have : (decide (i < 0) || decide (m < 1) || decide (1099511627776 < m)) = true := by simp; omega
          rw [this]
          simp [hasId]
          omega
      · have : (i == id) = false := by simpa using h1
        rw [this]
        cases (decide (i < 0) || decide (m < 1) || decide (1099511627776 < m))
        · simp [hasId, ins]
          omega
        · rfl

theorem and_seven (y : Int) : 0 ≤ bits BinOp.and IntKind.i64 y 7 := by
  show 0 ≤ IntKind.i64.wrap ((BitVec.ofInt 64 y &&& BitVec.ofInt 64 7).toNat : Int)
  have h : (BitVec.ofInt 64 y &&& BitVec.ofInt 64 7).toNat ≤ 7 := by
    rw [BitVec.toNat_and]
    refine Nat.le_trans Nat.and_le_right ?_
    decide
  rw [IntKind.wrap_i64]
  omega

theorem setE_not (id n now : Int) (T : List Due) (h1 : 0 ≤ id) (h2 : 1 ≤ n) (h3 : n ≤ 1099511627776) : (setE id n now T != 10) = true := by
  unfold setE
  have : (decide (id < 0) || decide (n < 1) || decide (1099511627776 < n)) = false := by simp; omega
  rw [this]
  cases hasId id T <;> rfl

set_option maxRecDepth 100000 in
set_option maxHeartbeats 3200000 in
theorem nil_any (d i m ia n : Int) (w : World) : Calls Try.prog 7 #[.agg #[.int .i64 d, .int .i64 i, .int .i64 m], .int .i64 ia, .int .i64 n] w fun e w' => e = .returned (.bool true) ∧ Below w.heap.size w w' := by
  have hA := Fr.alloc (fun _ => False) w (.cells #[.int .i64 d, .int .i64 i, .int .i64 m] 37)
  have hB := Blk.new w #[.int .i64 d, .int .i64 i, .int .i64 m] 37
  obtain ⟨w1, hw1⟩ : ∃ w1, w.alloc (.cells #[.int .i64 d, .int .i64 i, .int .i64 m] 37) = w1 := ⟨_, rfl⟩
  rw [hw1] at hA hB
  have HA := hid hA
  have HB := hid hB
  clear hA hB
  go_enter Try.func7, Try.ntmps7
  go_wp2_with (first
    | (go_at_call 18; refine (ck_next_nil _).mono ?_; rintro e w' ⟨rfl, rfl⟩)
    | (go_at_call 20; refine (ck_adv_nil _ _).mono ?_; rintro e w' ⟨rfl, rfl⟩)
    | (go_at_call 21; refine (ck_now_nil _).mono ?_; rintro e w' ⟨rfl, rfl⟩)
    | (go_at_call 23; refine (ck_set_nil _ _ _).mono ?_; rintro e w' ⟨rfl, rfl⟩)
    | (go_at_call 19; refine (ck_drop_nil _ _).mono ?_; rintro e w' ⟨rfl, rfl⟩)
    | (go_at_call 22; refine (ck_len_nil _).mono ?_; rintro e w' ⟨rfl, rfl⟩)
    | (go_at_call 17; refine (ck_clone_nil _).mono ?_; rintro e w' ⟨rfl, rfl⟩))
  refine (ck_new w1).mono ?_
  rintro e w2 hp
  obtain ⟨O2, c, rfl, h⟩ := OwnC.made hp
  have H2 := hid (h.older HA.out)
  have HB2 := hid (HB.out.keep h.fr (fun h => h))
  have HL2 := hid (show ∀ k, O2 k → w.heap.size < k from fun k hk => by have := h.lo k hk; have := HB.out.lt; omega)
  clear hp h
  have q0 : w2.cell? ⟨w.heap.size, 0, none⟩ = some (.int .i64 d) := HB2.out.cell rfl
  have q1 : w2.cell? ⟨w.heap.size, 1, none⟩ = some (.int .i64 i) := HB2.out.cell rfl
  have q2 : w2.cell? ⟨w.heap.size, 2, none⟩ = some (.int .i64 m) := HB2.out.cell rfl
  go_wp2_with fail
  refine (do_ok w2 d i m H2.out.ck (by omega) (by omega) (by decide)).mono ?_
  rintro e w3 hp
  obtain ⟨A3, cap3, O3, rfl, -, h, hF3, -⟩ := H2.out.act hp
  have H3 := hid h
  have HB3 := hid (HB2.out.keep hF3 (fun hh => by have := HL2.out _ hh; omega))
  clear hp hF3 h q0 q1 q2
  obtain ⟨now, hnow⟩ : ∃ x, actN d m 0 = x := ⟨_, rfl⟩
  obtain ⟨T, hT⟩ : ∃ x, actT d i m 0 [] = x := ⟨_, rfl⟩
  have HW := hid (want_is d i m ia n)
  have hN := actN_in d m 0 (by omega) (by omega)
  have HTL := hid (show T.length ≤ 1 from by rw [← hT]; exact actT_len d i m 0 [])
  rw [hnow] at H3 HW hN
  rw [hT] at H3 HW
  obtain ⟨hn0, hn1, -⟩ := hN
  clear hnow hT
  have q0 : w3.cell? ⟨w.heap.size, 0, none⟩ = some (.int .i64 d) := HB3.out.cell rfl
  have q1 : w3.cell? ⟨w.heap.size, 1, none⟩ = some (.int .i64 i) := HB3.out.cell rfl
  have q2 : w3.cell? ⟨w.heap.size, 2, none⟩ = some (.int .i64 m) := HB3.out.cell rfl
  go_wp2_with fail
  refine (ck_now w3 H3.out.ck).mono ?_
  rintro e w4 ⟨rfl, rfl⟩
  go_upto_region 12 with fail
  obtain ⟨bad, hbad⟩ : ∃ b, (decide (ia < 0) || decide (n < 1) || decide (1099511627776 < n)) = b := ⟨_, rfl⟩
  have HBAD := hid hbad
  clear hbad
  go_cut [96] from 87 to 96 (fun u wx => u = .bool bad ∧ w3 = wx)
  case first =>
    rcases v1 : decide (ia < 0) with _ | _
    · rcases v2 : decide (n < 1) with _ | _
      · rcases v3 : decide (1099511627776 < n) with _ | _
        · go_wp2_with fail
          go_meet
          exact ⟨by rw [← HBAD.out, v1, v2, v3]; rfl, rfl⟩
        · go_wp2_with fail
          go_meet
          exact ⟨by rw [← HBAD.out, v1, v2, v3]; rfl, rfl⟩
      · go_wp2_with fail
        go_meet
        exact ⟨by rw [← HBAD.out, v1, v2]; rfl, rfl⟩
    · go_wp2_with fail
      go_meet
      exact ⟨by rw [← HBAD.out, v1]; rfl, rfl⟩
  case rest =>
  obtain ⟨rfl, hwc⟩ := hcut
  subst hwc
  go_upto_if 96 with fail
  go_cut [15] from 97 to 115 (fun u wx => u = .int .i64 (wantE d i m ia n) ∧ w3 = wx)
  case first =>
    cases bad with
    | true =>
      go_wp2_with fail
      go_meet
      exact ⟨by unfold wantE; rw [HBAD.out]; rfl, rfl⟩
    | false =>
      rcases v4 : (d == 0) with _ | _
      · go_wp2_with fail
        go_meet
        exact ⟨by unfold wantE; rw [HBAD.out, v4]; rfl, rfl⟩
      · rcases v5 : (i == ia) with _ | _
        · go_wp2_with fail
          go_meet
          exact ⟨by unfold wantE; rw [HBAD.out, v4, v5]; rfl, rfl⟩
        · rcases v6 : decide (1 ≤ m) with _ | _
          · go_wp2_with fail
            go_meet
            exact ⟨by unfold wantE; rw [HBAD.out, v4, v5, v6]; rfl, rfl⟩
          · rcases v7 : decide (m ≤ 1099511627776) with _ | _
            · go_wp2_with fail
              go_meet
              exact ⟨by unfold wantE; rw [HBAD.out, v4, v5, v6, v7]; rfl, rfl⟩
            · go_wp2_with fail
              go_meet
              exact ⟨by unfold wantE; rw [HBAD.out, v4, v5, v6, v7]; rfl, rfl⟩
  case rest =>
    obtain ⟨rfl, hwc⟩ := hcut
    subst hwc
    obtain ⟨v, hv⟩ : ∃ v, wantE d i m ia n = v := ⟨_, rfl⟩
    rw [hv] at HW ⊢
    clear hv q0 q1 q2
    have t5 : (v != v) = false := by simp
    go_wp2_with fail
    refine (aw_set w3 ia n v now T _ H3.out hn0 hn1 (by have := HTL.out; omega) HW.out rfl).mono ?_
    rintro e w4 ⟨rfl, O4, h, -⟩
    have H4 := hid h
    have HT4 := hid (show (setT ia n now T).length ≤ 2 from by have := setT_len ia n now T; have := HTL.out; omega)
    clear h
    go_wp2_with fail
    have HN4 := hid (show advNo (1099511627776 - now) now = false from advNo_no (by omega) (by omega))
    refine (aw_adv w4 (1099511627776 - now) now 1099511627776 _ _ _ 0 _ H4.out hn0 hn1 (by have := HT4.out; omega) (by unfold advN; rw [HN4.out, cond_false]; omega) rfl rfl (by unfold advE; rw [HN4.out]; rfl) rfl).mono ?_
    rintro e w5 ⟨A5, cap5, rfl, -, h⟩
    have H5 := hid h
    have HT5 := hid (Nat.le_trans (advT_len (1099511627776 - now) now (setT ia n now T)) HT4.out)
    clear h HN4
    obtain ⟨T5, hT5⟩ : ∃ T5, advT (1099511627776 - now) now (setT ia n now T) = T5 := ⟨_, rfl⟩
    rw [hT5] at H5 HT5
    clear hT5
    go_wp2_with fail
    have HN5 := hid (show advNo 1 1099511627776 = true from advNo_yes (by omega))
    refine (aw_adv w5 1 1099511627776 1099511627776 T5 T5 [] 10 0 H5.out (by omega) (by omega) (by have := HT5.out; omega) (by unfold advN; rw [HN5.out]; rfl) (by unfold advT; rw [HN5.out]; rfl) (by unfold advL; rw [HN5.out]; rfl) (by unfold advE; rw [HN5.out]; rfl) rfl).mono ?_
    rintro e w6 ⟨A6, cap6, rfl, -, h⟩
    have H6 := hid h
    clear h HN5
    go_wp2_with fail
    have HN6 := hid (show advNo (-1) 1099511627776 = true from advNo_yes (by omega))
    refine (aw_adv w6 (-1) 1099511627776 1099511627776 T5 T5 [] 10 0 H6.out (by omega) (by omega) (by have := HT5.out; omega) (by unfold advN; rw [HN6.out]; rfl) (by unfold advT; rw [HN6.out]; rfl) (by unfold advL; rw [HN6.out]; rfl) (by unfold advE; rw [HN6.out]; rfl) rfl).mono ?_
    rintro e w7 ⟨A7, cap7, rfl, -, h⟩
    have H7 := hid h
    clear h HN6
    go_wp2_with fail
    have HN7 := hid (show advNo 0 1099511627776 = false from advNo_no (by omega) (by omega))
    refine (aw_adv w7 0 1099511627776 1099511627776 T5 _ _ 0 _ H7.out (by omega) (by omega) (by have := HT5.out; omega) (by unfold advN; rw [HN7.out]; rfl) rfl rfl (by unfold advE; rw [HN7.out]; rfl) rfl).mono ?_
    rintro e w8 ⟨A8, cap8, rfl, -, h⟩
    have H8 := hid h
    have HT8 := hid (Nat.le_trans (advT_len 0 1099511627776 T5) HT5.out)
    clear h HN7
    go_wp2_with fail
    refine (ck_now w8 H8.out.ck).mono ?_
    rintro e w9 ⟨rfl, rfl⟩
    go_wp2_with fail
    refine (aw_set w8 (bits BinOp.and IntKind.i64 ia 7) 1 _ 1099511627776 _ _ H8.out (by omega) (by omega) (by have := HT8.out; omega) rfl rfl).mono ?_
    rintro e w10 ⟨rfl, O10, h, -⟩
    have H10 := hid h
    have t8 := setE_not (bits BinOp.and IntKind.i64 ia 7) 1 1099511627776 (advT 0 1099511627776 T5) (and_seven ia) (by omega) (by omega)
    obtain ⟨se, hse⟩ : ∃ x, setE (bits BinOp.and IntKind.i64 ia 7) 1 1099511627776 (advT 0 1099511627776 T5) = x := ⟨_, rfl⟩
    rw [hse] at t8 ⊢
    clear h hse
    go_wp2_with fail
    refine (awake_ok w10).mono ?_
    rintro e w11 ⟨rfl, hF⟩
    have HF := hid (H10.out.fr.trans hF)
    clear hF
    go_wp2_with fail
    go_ret
    exact ⟨rfl, HF.out.below (Nat.le_refl _) (fun _ h => h.elim)⟩
end Go.Proofs.Ytpgbhgkikpmhiaa
