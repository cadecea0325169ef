/-
  The reference's Print.
-/
import Derived.Test.YtepbnneggpcbcaaGreatDoorPrint
import Derived.Test.YtepbnneggpcbcaaGreatDoorRefPack
import Derived.Test.YtepbnneggpcbcaaGreatDoorRefLine
namespace Go.Proofs.YtepbnneggpcbcaaGreatDoor
open Go.RowKit

set_option maxRecDepth 100000 in
set_option maxHeartbeats 2000000 in
theorem rprint_bad (A : Option Addr) (c : Nat) (P : List Fn) (w : World) (hp : Prg w w.heap.size A P) (h : packErr P ≠ 0) :
    Calls Tryz.prog 7 #[.agg #[.slice A P.length c]] w (PrPost w (prV P)) := by
  have hA := Fr.alloc (fun _ => False) w (.cells #[.slice A P.length c] 24)
  have HP := hid (rpack_any A c P _ ((hp.same hA (Nat.le_refl _)).more hA.size))
  have HQ := hid (show prV P = ([], packErr P) by unfold prV; rw [if_neg h])
  obtain ⟨x, hx⟩ : ∃ x, packErr P = x := ⟨_, rfl⟩
  rw [hx] at HQ h
  have HX := hid hx
  have t1 : (x != 0) = true := by simpa using h
  clear hx h hp
  go_enter Tryz.func7, Tryz.ntmps7
  go_wp2_with fail
  refine HP.out.mono ?_
  intro e w1 hpk
  obtain ⟨A1, n1, c1, rfl, _, _, hF1⟩ := hpk.own
  rw [HX.out]
  clear hpk
  go_wp2_with fail
  go_ret2
  rw [HQ.out]
  exact ⟨rfl, hA.trans hF1⟩

def RpRel (W : World) (P : List Fn) (d : Nat) (s6 s7 : Value) (wr : World) : Prop :=
  ∃ k : Nat, k ≤ P.length ∧ d = P.length - k ∧ s7 = .int .i64 k ∧ s6 = .string (bs (prTxt (P.take k))) ∧ Fr (fun _ => False) W wr

def RpRel2 (W : World) (T : Bs) (l : List Ins) (d : Nat) (s6 s9 : Value) (wr : World) : Prop :=
  ∃ j : Nat, j ≤ l.length ∧ d = l.length - j ∧ s9 = .int .i64 j ∧ s6 = .string (bs (T ++ ln10 ((l.take j).map txt))) ∧ Fr (fun _ => False) W wr

theorem head_sum (T : Bs) (k nd : Nat) : T ++ [102, 117, 110, 99, 32] ++ Lib.decDigits k ++ [32, 110, 101, 101, 100, 115, 32] ++ Lib.decDigits nd ++ [10] = T ++ (header k nd ++ [10]) := by
  unfold header wFunc wNeeds
  rw [itoa_nat, itoa_nat]
  simp [glue]

theorem add_bs (a b : Bs) (ha : a.length ≤ 200000) (hb : b.length ≤ 200000) : ∀ W, (Op.stringOp .add (bs a) (bs b)).run Tryz.prog W = .ok (.string (bs (a ++ b))) W := by
  rw [← bs_add]
  exact add_ok _ _ (by rw [bs_size]; exact ha) (by rw [bs_size]; exact hb)

set_option maxRecDepth 100000 in
set_option maxHeartbeats 8000000 in
theorem rprint_ok (A : Option Addr) (c n : Nat) (P : List Fn) (w : World) (hp : Prg w w.heap.size A P) (hn : P.length = n) (h : packErr P = 0) :
    Calls Tryz.prog 7 #[.agg #[.slice A n c]] w (PrPost w (prTxt P, 0)) := by
  have hA := Fr.alloc (fun _ => False) w (.cells #[.slice A n c] 24)
  have hb0 := Blk.new w #[.slice A n c] 24
  have hpk := rpack_any A c P _ ((hp.same hA (Nat.le_refl _)).more hA.size)
  rw [hn] at hpk
  have HP := hid hpk
  have HZ := hid h
  have HN := hid hn
  have HPR := hid hp
  have hn32 : n ≤ 32 := by have := (pack_zero h).2.1; omega
  clear h hp hpk hn
  go_enter Tryz.func7, Tryz.ntmps7
  go_wp2_with fail
  refine HP.out.mono ?_
  intro e w1 hpk
  obtain ⟨A1, n1, c1, rfl, _, _, hF1⟩ := hpk.own
  rw [HZ.out]
  have hb1 := hb0.keep hF1 (fun h => h)
  have HB1 := hid hb1
  have HF1 := hid (hA.trans hF1)
  clear hpk hb0 hb1 hF1 HP
  go_wp2_with fail
  go_loopg [6, 7] n (fun d s6 s7 wr => RpRel w1 P d s6 s7 wr)
  case atStart => exact ⟨0, by omega, by rw [HN.out, Nat.sub_zero], rfl, rfl, Fr.refl _ _⟩
  case round =>
    obtain ⟨k, hk, hd, rfl, rfl, hF⟩ := hrel
    rw [HN.out] at hk hd
    have HD := hid hd
    clear hd
    have hbr := HB1.out.keep hF (fun h => h)
    have c0 : wr.cell? ⟨w.heap.size, 0, none⟩ = some (.slice A n c) := hbr.cell rfl
    have l0 := hbr.lt
    clear hbr
    by_cases hlt : k < n
    · obtain ⟨⟨needs, code⟩, hi⟩ : ∃ f, P[k]? = some f := ⟨_, List.getElem?_eq_getElem (by rw [HN.out]; exact hlt)⟩
      obtain ⟨g, o, rfl, hg, hcell⟩ := HPR.out (by rw [HN.out]; omega)
      obtain ⟨A2, c2, p0w, p1w, hcod⟩ := hcell k _ hi
      have hFw := HF1.out.trans hF
      have p0 := (cell_keep hFw (p := ⟨g, o + k * 2, none⟩) hg (fun h => h)).trans p0w
      have p1 := (cell_keep hFw (p := ⟨g, o + k * 2 + 1, none⟩) hg (fun h => h)).trans p1w
      clear p0w p1w
      simp only at p0 p1 hcod
      obtain ⟨hn0, hn1, hm0, hm1, hce⟩ := fnErr_zero' (pack_at HZ.out hi)
      simp only at hn0 hn1 hm0 hm1 hce
      obtain ⟨nd, rfl⟩ : ∃ nd : Nat, needs = (nd : Int) := ⟨needs.toNat, by omega⟩
      have HS := hid (prTxt_snoc P k _ hi)
      have hLL := prTxt_part P k _ hi (prTxt_len P HZ.out)
      simp only at hLL
      have hgl : g < wr.heap.size := Nat.lt_of_lt_of_le hg hFw.size
      obtain ⟨m, hm⟩ : ∃ m, code.length = m := ⟨_, rfl⟩
      rw [hm] at p1 hm0 hm1
      have HM := hid hm
      have HC := hid hcod
      have HI := hid hi
      have HCE := hid hce
      obtain ⟨T, hT⟩ : ∃ T, prTxt (P.take k) = T := ⟨_, rfl⟩
      rw [hT] at hLL ⊢
      have HTT := hid hT
      have hsum := head_sum T k nd
      have hd1 : (Lib.decDigits k).length ≤ 11 := dec_short 10 k (by have : (10 : Nat) ^ (10 + 1) = 100000000000 := by decide
                                                                     omega)
      have hd2 : (Lib.decDigits nd).length ≤ 11 := dec_short 10 nd (by have : (10 : Nat) ^ (10 + 1) = 100000000000 := by decide
                                                                       omega)
      have q1 := add_bs T [102, 117, 110, 99, 32] (by omega) (by decide)
      have q2 := add_bs (T ++ [102, 117, 110, 99, 32]) (Lib.decDigits k) (by simp only [List.length_append, List.length_cons, List.length_nil]; omega) (by omega)
      have q3 := add_bs (T ++ [102, 117, 110, 99, 32] ++ Lib.decDigits k) [32, 110, 101, 101, 100, 115, 32] (by simp only [List.length_append, List.length_cons, List.length_nil]; omega) (by decide)
      have q4 := add_bs (T ++ [102, 117, 110, 99, 32] ++ Lib.decDigits k ++ [32, 110, 101, 101, 100, 115, 32]) (Lib.decDigits nd) (by simp only [List.length_append, List.length_cons, List.length_nil]; omega) (by omega)
      have q5 := add_bs (T ++ [102, 117, 110, 99, 32] ++ Lib.decDigits k ++ [32, 110, 101, 101, 100, 115, 32] ++ Lib.decDigits nd) [10] (by simp only [List.length_append, List.length_cons, List.length_nil]; omega) (by decide)
      rw [hsum] at q5
      have q1 : ∀ W, (Op.stringOp .add (bs T) ⟨#[102, 117, 110, 99, 32]⟩).run Tryz.prog W = _ := q1
      have q3 : ∀ W, (Op.stringOp .add (bs (T ++ [102, 117, 110, 99, 32] ++ Lib.decDigits k)) ⟨#[32, 110, 101, 101, 100, 115, 32]⟩).run Tryz.prog W = _ := q3
      have q5 : ∀ W, (Op.stringOp .add (bs (T ++ [102, 117, 110, 99, 32] ++ Lib.decDigits k ++ [32, 110, 101, 101, 100, 115, 32] ++ Lib.decDigits nd)) ⟨#[10]⟩).run Tryz.prog W = _ := q5
      have hN1 := num_any k (by omega)
      have hN2 := num_any nd (by omega)
      unfold NumPost at hN1 hN2
      obtain ⟨y0, hy0⟩ : ∃ y0, bs T = y0 := ⟨_, rfl⟩
      obtain ⟨y1, hy1⟩ : ∃ y1, bs (T ++ [102, 117, 110, 99, 32]) = y1 := ⟨_, rfl⟩
      obtain ⟨y2, hy2⟩ : ∃ y2, bs (T ++ [102, 117, 110, 99, 32] ++ Lib.decDigits k) = y2 := ⟨_, rfl⟩
      obtain ⟨y3, hy3⟩ : ∃ y3, bs (T ++ [102, 117, 110, 99, 32] ++ Lib.decDigits k ++ [32, 110, 101, 101, 100, 115, 32]) = y3 := ⟨_, rfl⟩
      obtain ⟨y4, hy4⟩ : ∃ y4, bs (T ++ [102, 117, 110, 99, 32] ++ Lib.decDigits k ++ [32, 110, 101, 101, 100, 115, 32] ++ Lib.decDigits nd) = y4 := ⟨_, rfl⟩
      obtain ⟨y5, hy5⟩ : ∃ y5, bs (T ++ (header k nd ++ [10])) = y5 := ⟨_, rfl⟩
      obtain ⟨e1, he1⟩ : ∃ e1, bs (Lib.decDigits k) = e1 := ⟨_, rfl⟩
      obtain ⟨e2, he2⟩ : ∃ e2, bs (Lib.decDigits nd) = e2 := ⟨_, rfl⟩
      rw [he1] at hN1
      rw [he2] at hN2
      rw [hy0, hy1] at q1
      rw [hy1, he1, hy2] at q2
      rw [hy2, hy3] at q3
      rw [hy3, he2, hy4] at q4
      rw [hy4, hy5] at q5
      rw [hy0]
      have HY5 := hid hy5
      have HN1 := hid hN1
      have HN2 := hid hN2
      have hV := Fr.alloc (fun _ => False) wr (.cells #[.int .i64 (nd : Int), .slice A2 m c2] 32)
      have hbx := Blk.new wr #[.int .i64 (nd : Int), .slice A2 m c2] 32
      have HKP := hid (show ∀ W, Fr (fun _ => False) (wr.alloc (.cells #[.int .i64 (nd : Int), .slice A2 m c2] 32)) W → W.cell? ⟨wr.heap.size, 0, none⟩ = some (.int .i64 (nd : Int)) from fun W hW => (hbx.keep hW (fun h => h)).cell rfl)
      clear hi hcell hcod hm hce hsum hd1 hd2 hN1 hN2 hy0 hy1 hy2 hy3 hy4 hy5 he1 he2 hT
      go_wp2_with fail
      go_region_held3 (fun W => W.cell? ⟨wr.heap.size, 0, none⟩ = some (.int .i64 (nd : Int)))
        (first
          | exact HKP.out _ (Fr.refl _ _)
          | exact HKP.out _ (Fr.drew _ _)
          | exact HKP.out _ ((Fr.drew _ _).trans hF2)
          | exact HKP.out _ (((Fr.drew _ _).trans hF2).trans hF3))
        (first
          | (go_at_call 18; (with_reducible refine (HN1.out _).mono ?_); rintro e w2 ⟨rfl, hF2⟩)
          | (go_at_call 18; (with_reducible refine (HN2.out _).mono ?_); rintro e w3 ⟨rfl, hF3⟩))
      have hF23 := ((Fr.drew (fun _ => False) _).trans hF2).trans hF3
      have hF5 := (hF.trans hV).trans hF23
      obtain ⟨T2, hT2⟩ : ∃ T2, T ++ (header k nd ++ [10]) = T2 := ⟨_, rfl⟩
      have HST := hid hT2
      have hTl : T2.length + (ln10 (code.map txt)).length ≤ 131072 := by
        rw [← hT2]
        simp only [List.length_append, List.length_cons, List.length_nil]
        omega
      have HBX := hid (hbx.keep hF23 (fun h => h))
      have HF5 := hid hF5
      have HTL := hid hTl
      clear hT2 hTl hF5 hbx hV hF2 hF3 hF23 HN1 HN2 q1 q2 q3 q4 q5 HKP hLL p0 p1
      obtain ⟨wo, rfl⟩ : ∃ wo, wo = wr := ⟨_, rfl⟩
      go_wp2_with fail
      go_loopg [6, 9] m (fun d s6 s9 wr => RpRel2 w3 T2 code d s6 s9 wr)
      case atStart => exact ⟨0, by omega, by rw [HM.out, Nat.sub_zero], rfl, by rw [← HY5.out, HST.out]; simp [ln10], Fr.refl _ _⟩
      case round =>
        obtain ⟨j, hj, hd2, rfl, rfl, hFF⟩ := hrel
        rw [HM.out] at hj hd2
        have HD2 := hid hd2
        clear hd2
        have hbx2 := HBX.out.keep hFF (fun h => h)
        have p1 : wr.cell? ⟨wo.heap.size, 1, none⟩ = some (.slice A2 m c2) := hbx2.cell rfl
        have pl := hbx2.lt
        clear hbx2
        by_cases hjm : j < m
        · obtain ⟨⟨op, a, b, c', x⟩, hi⟩ : ∃ i, code[j]? = some i := ⟨_, List.getElem?_eq_getElem (by rw [HM.out]; exact hjm)⟩
          obtain ⟨g2, o2, rfl, hg2, hcell2⟩ := (HC.out.same (HF1.out.trans (HF5.out.trans hFF)) (Nat.le_refl _)) (by rw [HM.out]; omega)
          obtain ⟨r0, r1, r2, r3, r4⟩ := hcell2 j _ hi
          simp only at r0 r1 r2 r3 r4
          have hgl2 : g2 < wr.heap.size := Nat.lt_of_lt_of_le hg2 (HF1.out.trans (HF5.out.trans hFF)).size
          have hch := codeErr_mem HCE.out _ (List.mem_of_getElem? hi)
          have htl := txt_len _ hch
          have hln : (ln10 ((code.take j).map txt)).length ≤ (ln10 (code.map txt)).length := ln10_take code j
          have hTX := rline_any ⟨op, a, b, c', x⟩ hch
          unfold Ins.val NumPost at hTX
          simp only at hTX
          have hTLo := HTL.out
          have q6 := add_bs (T2 ++ ln10 ((code.take j).map txt)) (txt ⟨op, a, b, c', x⟩) (by rw [List.length_append]; omega) (by omega)
          have q7 := add_bs (T2 ++ ln10 ((code.take j).map txt) ++ txt ⟨op, a, b, c', x⟩) [10] (by rw [List.length_append, List.length_append]; omega) (by decide)
          have q7 : ∀ W, (Op.stringOp .add (bs (T2 ++ ln10 ((code.take j).map txt) ++ txt ⟨op, a, b, c', x⟩)) ⟨#[10]⟩).run Tryz.prog W = _ := q7
          have HSN := hid (show T2 ++ ln10 ((code.take j).map txt) ++ txt ⟨op, a, b, c', x⟩ ++ [10] = T2 ++ ln10 ((code.take (j + 1)).map txt) by rw [ln10_snoc code j _ hi]; simp)
          rw [HSN.out] at q7
          obtain ⟨z0, hz0⟩ : ∃ z0, bs (T2 ++ ln10 ((code.take j).map txt)) = z0 := ⟨_, rfl⟩
          obtain ⟨z1, hz1⟩ : ∃ z1, bs (txt ⟨op, a, b, c', x⟩) = z1 := ⟨_, rfl⟩
          obtain ⟨z2, hz2⟩ : ∃ z2, bs (T2 ++ ln10 ((code.take j).map txt) ++ txt ⟨op, a, b, c', x⟩) = z2 := ⟨_, rfl⟩
          obtain ⟨z3, hz3⟩ : ∃ z3, bs (T2 ++ ln10 ((code.take (j + 1)).map txt)) = z3 := ⟨_, rfl⟩
          rw [hz0, hz1, hz2] at q6
          rw [hz2, hz3] at q7
          rw [hz1] at hTX
          rw [hz0]
          have HTX := hid hTX
          have HZ3 := hid hz3
          clear hi hcell2 hch htl hln hTX hTLo hz0 hz1 hz2 hz3
          go_wp2_with fail
          refine (HTX.out _).mono ?_
          rintro e w6 ⟨rfl, hF6⟩
          go_wp2_with fail
          go_roundg (m - (j + 1))
          case rel => exact ⟨j + 1, by rw [HM.out]; omega, by rw [HM.out], by go_num, by rw [HZ3.out], hFF.trans hF6⟩
          case measure => have := HD2.out; omega
        · obtain rfl : j = m := by omega
          have HB8 := hid (show bs (T2 ++ ln10 ((code.take j).map txt)) = bs (prTxt (P.take (k + 1))) by
            rw [List.take_of_length_le (by rw [HM.out]; exact Nat.le_refl _), HS.out, ← HST.out, HTT.out])
          rw [HB8.out]
          go_wp2_with fail
          go_roundg (n - (k + 1))
          case rel => exact ⟨k + 1, by rw [HN.out]; omega, by rw [HN.out], by go_num, rfl, HF5.out.trans hFF⟩
          case measure => have := HD.out; omega
    · obtain rfl : k = n := by omega
      have HQ := hid (show P.take k = P from List.take_of_length_le (by rw [HN.out]; exact Nat.le_refl _))
      rw [HQ.out]
      go_wp2_with fail
      go_ret2
      exact ⟨rfl, HF1.out.trans hF⟩

theorem rprint_any (A : Option Addr) (c : Nat) (P : List Fn) (w : World) (hp : Prg w w.heap.size A P) :
    Calls Tryz.prog 7 #[.agg #[.slice A P.length c]] w (PrPost w (prV P)) := by
  by_cases h : packErr P = 0
  · have := rprint_ok A c P.length P w hp rfl h
    rwa [show prV P = (prTxt P, 0) by unfold prV; rw [if_pos h]]
  · exact rprint_bad A c P w hp h

end Go.Proofs.YtepbnneggpcbcaaGreatDoor
