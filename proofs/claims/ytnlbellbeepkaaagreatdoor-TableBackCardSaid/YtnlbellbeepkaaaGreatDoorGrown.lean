/-
  Stage 7: Grown, the program's.
-/
import Derived.Test.YtnlbellbeepkaaaGreatDoorGrowM
namespace Go.Proofs.YtnlbellbeepkaaaGreatDoor
open Go.RowKit
set_option linter.unusedVariables false

def GwPost (l m : List Tw) (w : World) (e : Ending) (w' : World) : Prop := ∃ b : Bool, e = .returned (.bool b) ∧ (b = true ↔ Grows l m) ∧ Fr (fun _ => False) w w'

/-- Where the loop stands. -/
def GwRel (l m : List Tw) (n T : Nat) (w : World) (d : Nat) (k : Value) (wr : World) : Prop :=
  ∃ (i : Nat) (t : Nat → Int), i ≤ n ∧ d = n + 1 - i ∧ k = .int .i64 i ∧ (∀ x, x < i → OkAt l m x) ∧ IntsB wr T n t ∧ ToOk l m t i 0 ∧ Fr (fun k => k = T) w wr

/-- Where the loop within it stands. -/
def GwIn (l m : List Tw) (n T i N : Nat) (w : World) (d : Nat) (k : Value) (wr : World) : Prop :=
  ∃ (j : Nat) (t : Nat → Int), j ≤ N ∧ d = N + 1 - j ∧ k = .int .i64 j ∧ IntsB wr T n t ∧ ToOk l m t i j ∧ Fr (fun k => k = T) w wr

set_option maxRecDepth 100000 in
set_option maxHeartbeats 8000000 in
theorem grown_any (A B : Option Addr) (n c m c' : Nat) (l mm : List Tw) (w : World) (hA : RdT w A l) (hB : RdT w B mm) (hl : l.length = n) (hm : mm.length = m) (hn : n ≤ 4000000) (hm4 : m ≤ 4000000) (hc : n ≤ c) (hc' : m ≤ c') (hf : FewT l) (hf' : FewT mm) :
    Calls Tryz.prog 10 #[.slice A n c, .slice B m c'] w (GwPost l mm w) := by
  have HC1 := hid (fun (W : World) (hW : Fr (fun _ => False) w W) => check_any A n c l W (hA.same hW) hl hn hc hf)
  have HC2 := hid (fun (W : World) (hW : Fr (fun _ => False) w W) => check_any B m c' mm W (hB.same hW) hm hm4 hc' hf')
  have HBR1 := hid (fun (W : World) (ht : Tabl l) (hW : Fr (fun _ => False) w W) => broods_any A n c l W (hA.same hW) hl hn ht)
  have HBR2 := hid (fun (W : World) (ht : Tabl mm) (hW : Fr (fun _ => False) w W) => broods_any B m c' mm W (hB.same hW) hm hm4 ht)
  have HL := hid hl
  have HM := hid hm
  have HRA := hid hA
  have HRB := hid hB
  clear hA hB hl hm hf hf'
  obtain ⟨x, hx⟩ : ∃ x, chk l = x := ⟨_, rfl⟩
  obtain ⟨y, hy⟩ : ∃ y, chk mm = y := ⟨_, rfl⟩
  unfold CkPost at HC1 HC2
  rw [hx] at HC1
  rw [hy] at HC2
  have HX := hid hx
  have HY := hid hy
  clear hx hy
  go_enter Tryz.func10, Tryz.ntmps10
  go_wp2_with fail
  refine (HC1.out _ (Fr.refl _ _)).mono ?_
  rintro e w1 ⟨rfl, hF1⟩
  have HF1 := hid hF1
  clear hF1
  by_cases hx0 : x = 0
  · have t1 : (x != 0) = false := by simp [hx0]
    have HX0 := hid (HX.out.trans hx0)
    clear hx0
    go_wp2_with fail
    refine (HC2.out _ HF1.out).mono ?_
    rintro e w2 ⟨rfl, hF2⟩
    have HF2 := hid (HF1.out.trans hF2)
    clear hF2
    by_cases hy0 : y = 0
    · have t2 : (y != 0) = false := by simp [hy0]
      have HY0 := hid (HY.out.trans hy0)
      clear hy0
      have HT1 := hid (tabl_of_chk HX0.out)
      have HT2 := hid (tabl_of_chk HY0.out)
      go_wp2_with fail
      refine (HBR1.out _ HT1.out HF2.out).mono ?_
      rintro e w3 ⟨G1, cs1, As1, cp1, rfl, hB1, hF3⟩
      have HF3 := hid (HF2.out.trans hF3)
      have HB1 := hid hB1
      clear hF3 hB1
      go_wp2_with fail
      refine (HBR2.out _ HT2.out HF3.out).mono ?_
      rintro e w4 ⟨G2, cs2, As2, cp2, rfl, hB2, hF4⟩
      have HF4 := hid (HF3.out.trans hF4)
      have HB14 := hid (HB1.out.same hF4)
      have HB2 := hid hB2
      clear hF4 hB2
      obtain ⟨i0, hii, hzz⟩ := Option.map_eq_some_iff.1 infoint
      simp only [Prod.mk.injEq] at hzz
      obtain ⟨hy0, hy1, hy2⟩ := hzz
      have hmk := run_make (P := Tryz.prog) w4 54 3 i0 (.int .i64 0) Tryz.underlying54 hii hy0 .i64 .i64 n n (by omega) (by omega) (by rw [hy2]; omega) (by omega)
      rw [hy1] at hmk
      simp only [Int.toNat_natCast, Nat.mul_one] at hmk
      obtain ⟨w5, hw5⟩ : ∃ w5, w5 = w4.alloc (.cells (madeCells #[.int .i64 0] n) 3) := ⟨_, rfl⟩
      have hmk2 : (Instr.makeSlice 54 (.int .i64 n) (.int .i64 n)).run Tryz.prog w4 = .ok (.slice (some ⟨w4.heap.size, 0, none⟩) n n) w5 := by rw [hw5]; exact hmk
      have HI5 := hid (show IntsB w5 w4.heap.size n (fun _ => 0) by rw [hw5]; exact intsB_new w4 n)
      have HF5 := hid (show Fr (fun _ => False) w4 w5 by rw [hw5]; exact Fr.alloc _ _ _)
      clear hmk hw5 hii hy0 hy1 hy2 HC1 HC2 HBR1 HBR2
      obtain ⟨T, hT⟩ : ∃ T, w4.heap.size = T := ⟨_, rfl⟩
      rw [hT] at hmk2 HI5
      have HTT := hid hT
      clear hT
      go_wp2_with fail
      clear hmk2
      have HRA4 := hid (fun (W : World) (hW : Fr (fun k => k = T) w4 W) (z : Nat) (r : Tw) (hr : l[z]? = some r) => (show RdT W A l from fun hp => by
        obtain ⟨g, o, e, hg, hcl⟩ := (HRA.out.same HF4.out) hp
        exact ⟨g, o, e, Nat.lt_of_lt_of_le hg hW.size, fun j v hv => (cell_keep hW (p := ⟨g, o + j, none⟩) hg (fun h => by have := HTT.out; simp only at h; omega)).trans (hcl j v hv)⟩).cell hr)
      have HRB4 := hid (fun (W : World) (hW : Fr (fun k => k = T) w4 W) (z : Nat) (r : Tw) (hr : mm[z]? = some r) => (show RdT W B mm from fun hp => by
        obtain ⟨g, o, e, hg, hcl⟩ := (HRB.out.same HF4.out) hp
        exact ⟨g, o, e, Nat.lt_of_lt_of_le hg hW.size, fun j v hv => (cell_keep hW (p := ⟨g, o + j, none⟩) hg (fun h => by have := HTT.out; simp only at h; omega)).trans (hcl j v hv)⟩).cell hr)
      have HB1W := hid (fun (W : World) (hW : Fr (fun k => k = T) w4 W) => HB14.out.keep hW (by have := (TBlk.blk HB14.out.blk).lt; have := HTT.out; omega) (fun i hi k hk e => by have := ((HB14.out.own i hi).lt k hk).2; have := HTT.out; omega))
      have HB2W := hid (fun (W : World) (hW : Fr (fun k => k = T) w4 W) => HB2.out.keep hW (by have := (TBlk.blk HB2.out.blk).lt; have := HTT.out; omega) (fun i hi k hk e => by have := ((HB2.out.own i hi).lt k hk).2; have := HTT.out; omega))
      have HEN := hid (fun (wx : World) (b : Bool) (hb : b = true ↔ Grows l mm) (hW : Fr (fun k => k = T) w4 wx) => (show GwPost l mm w (.returned (.bool b)) wx from ⟨b, rfl, hb, HF4.out.since hW (fun i hi hlt => by have h1 := HF4.out.size; have h2 := HTT.out; show False; omega)⟩))
      clear HF1 HF2 HF3 HB1 HB14 HB2 HRA HRB
      go_loopg [31] (n + 1) (fun d k wr => GwRel l mm n T w4 d k wr)
      case atStart => exact ⟨0, fun _ => 0, by omega, by omega, rfl, fun x hx => by omega, HI5.out, fun k hk hh => by
        rcases hh with rfl | hh | hh
        · exact (img_zero HT1.out).symm
        · omega
        · omega, HF5.out.mono (fun _ h => h.elim)⟩
      case round =>
        obtain ⟨wo, rfl⟩ : ∃ wo, wo = wr := ⟨_, rfl⟩
        obtain ⟨i, t, hi, hd, rfl, hall, hI, hTo, hF⟩ := hrel
        have HD := hid hd
        have HAL := hid hall
        have HI := hid hI
        have HTO := hid hTo
        have HF := hid hF
        clear hd hall hI hTo hF
        by_cases hlt : i < n
        · obtain ⟨r, hr⟩ : ∃ r, l[i]? = some r := ⟨_, List.getElem?_eq_getElem (by rw [HL.out]; omega)⟩
          obtain ⟨q, hq, hqm⟩ : ∃ q : Nat, img l mm i = q ∧ q < m := by
            by_cases h0 : i = 0
            · exact ⟨0, by rw [h0]; exact img_zero HT1.out, by have := (chk_zero.1 HY0.out).1; rw [HM.out] at this; exact this⟩
            · have hp := HT1.out.2 i (by omega) (by rw [HL.out]; omega)
              obtain ⟨q, h1, h2, _⟩ := img_next (m := mm) (p := (parAt l i).toNat) HT1.out (by rw [HL.out]; exact hlt) (by omega) (HAL.out _ (by omega))
              exact ⟨q, h1, by rw [HM.out] at h2; exact h2⟩
          obtain ⟨s, hs⟩ : ∃ s, mm[q]? = some s := ⟨_, List.getElem?_eq_getElem (by rw [HM.out]; omega)⟩
          have hti : t i = q := by
            rw [← hq]
            refine HTO.out i (by rw [HL.out]; exact hlt) ?_
            by_cases h0 : i = 0
            · exact .inl h0
            · have hp := HT1.out.2 i (by omega) (by rw [HL.out]; omega)
              exact .inr (.inl ⟨hp.1, by omega⟩)
          have HR := hid hr
          have HS := hid hs
          have HQ := hid hq
          have HTQ := hid hti
          obtain ⟨ga, oga, rfl, hga, hcc⟩ := HRA4.out wo HF.out i r hr
          have q0 : wo.cell? ⟨ga, oga + i * 7, none⟩ = some (.int .i64 r.par) := hcc 0 _ rfl
          have q1 := hcc 1 _ rfl
          have q2 := hcc 2 _ rfl
          have q3 := hcc 3 _ rfl
          have q4 := hcc 4 _ rfl
          have q5 := hcc 5 _ rfl
          have q6 := hcc 6 _ rfl
          obtain ⟨gb, ogb, rfl, hgb, hdd⟩ := HRB4.out wo HF.out q s hs
          have hi0 : (0 : Int) ≤ i ∧ (i : Int) < n := by omega
          have hq0 : (0 : Int) ≤ q ∧ (q : Int) < m := by omega
          have htc := HI.out.at_ hlt
          rw [hti] at htc
          have HTC := hid htc
          clear hr hs hcc hq hti htc
          go_upto_region 8 with fail
          have hB6 := TBlk.new wo #[.int .i64 r.par, .int .i64 r.in_, .int .i64 r.fn, .int .i64 r.kind, .int .i64 r.v, .int .i64 r.st, .string r.cl] 34
          have hF6 := Fr.alloc (fun _ => False) wo (.cells #[.int .i64 r.par, .int .i64 r.in_, .int .i64 r.fn, .int .i64 r.kind, .int .i64 r.v, .int .i64 r.st, .string r.cl] 34)
          obtain ⟨w6, hw6⟩ : ∃ w6, w6 = wo.alloc (.cells #[.int .i64 r.par, .int .i64 r.in_, .int .i64 r.fn, .int .i64 r.kind, .int .i64 r.v, .int .i64 r.st, .string r.cl] 34) := ⟨_, rfl⟩
          rw [← hw6] at hB6 hF6 ⊢
          clear hw6 q0 q1 q2 q3 q4 q5 q6
          have HF6 := hid hF6
          have HB6 := hid (TBlk.blk hB6)
          have HFW := hid (HF.out.trans (hF6.mono (fun _ h => h.elim)))
          have HI6 := hid (HI.out.keep hF6 (fun h => h))
          clear hB6 hF6
          have c1 := (HB1W.out _ HFW.out).at_ hlt
          have c2 := (HB2W.out _ HFW.out).at_ hqm
          have c3 := (HI6.out.at_ hlt).1
          rw [HTQ.out] at c3
          obtain ⟨N1, hN1⟩ : ∃ x, (kidsN l i n).length = x := ⟨_, rfl⟩
          obtain ⟨N2, hN2⟩ : ∃ x, (kidsN mm q m).length = x := ⟨_, rfl⟩
          rw [hN1] at c1
          rw [hN2] at c2
          obtain ⟨A1, hA1⟩ : ∃ x, As1 i = x := ⟨_, rfl⟩
          obtain ⟨A2, hA2⟩ : ∃ x, As2 q = x := ⟨_, rfl⟩
          rw [hA1] at c1
          rw [hA2] at c2
          have HA1 := hid hA1
          have HA2 := hid hA2
          clear hA1 hA2
          have hb1 : N1 ≤ n := by rw [← hN1]; exact kidsN_len l i n
          have hb2 : N2 ≤ m := by rw [← hN2]; exact kidsN_len mm q m
          have HN1 := hid hN1
          have HN2 := hid hN2
          have hcT := (HI6.out.at_ hlt).2.2
          have hG1 := (TBlk.blk (HB1W.out _ HFW.out).blk).lt
          have hG2 := (TBlk.blk (HB2W.out _ HFW.out).blk).lt
          clear hN1 hN2
          go_region_held3 (fun W => W.cell? ⟨G1, i, none⟩ = some (.slice A1 N1 (cp1 i)) ∧ W.cell? ⟨G2, q, none⟩ = some (.slice A2 N2 (cp2 q)) ∧ W.cell? ⟨T, i, none⟩ = some (.int .i64 q)) (exact ⟨c1, c2, c3⟩) (fail)
          clear c1 c2 c3 hcT hG1 hG2
          obtain ⟨w7, hw7⟩ : ∃ w7, w7 = w6.drew := ⟨_, rfl⟩
          rw [← hw7]
          have HF7 := hid (show Fr (fun _ => False) w6 w7 by rw [hw7]; exact Fr.drew _ _)
          clear hw7
          have HFW7 := hid (HFW.out.trans (HF7.out.mono (fun _ h => h.elim)))
          have HI7 := hid (HI6.out.keep HF7.out (fun h => h))
          have HSS := hid (show ∀ W, Fr (fun _ => False) w7 W → W.cell? ⟨wo.heap.size, 0, none⟩ = some (.int .i64 r.par) ∧ W.cell? ⟨wo.heap.size, 1, none⟩ = some (.int .i64 r.in_) ∧ W.cell? ⟨wo.heap.size, 2, none⟩ = some (.int .i64 r.fn) ∧ W.cell? ⟨wo.heap.size, 3, none⟩ = some (.int .i64 r.kind) ∧ W.cell? ⟨wo.heap.size, 4, none⟩ = some (.int .i64 r.v) ∧ W.cell? ⟨wo.heap.size, 5, none⟩ = some (.int .i64 r.st) ∧ W.cell? ⟨wo.heap.size, 6, none⟩ = some (.string r.cl) ∧ W.cell? ⟨T, i, none⟩ = some (.int .i64 q) ∧ W.cell? ⟨gb, ogb + q * 7, none⟩ = some (.int .i64 s.par) ∧ W.cell? ⟨gb, ogb + q * 7 + 1, none⟩ = some (.int .i64 s.in_) ∧ W.cell? ⟨gb, ogb + q * 7 + 2, none⟩ = some (.int .i64 s.fn) ∧ W.cell? ⟨gb, ogb + q * 7 + 3, none⟩ = some (.int .i64 s.kind) ∧ W.cell? ⟨gb, ogb + q * 7 + 4, none⟩ = some (.int .i64 s.v) ∧ W.cell? ⟨gb, ogb + q * 7 + 5, none⟩ = some (.int .i64 s.st) ∧ W.cell? ⟨gb, ogb + q * 7 + 6, none⟩ = some (.string s.cl) from fun W hW => by
            have a := HB6.out.keep (HF7.out.trans hW) (fun h => h)
            obtain ⟨gb', ob', e, _, hdd'⟩ := HRB4.out W (HFW7.out.trans (hW.mono (fun _ h => h.elim))) q s HS.out
            injection e with e
            injection e with e eo
            subst e eo
            have hti := ((HI7.out.keep hW (fun h => h)).at_ hlt).1
            rw [HTQ.out] at hti
            exact ⟨a.cell rfl, a.cell rfl, a.cell rfl, a.cell rfl, a.cell rfl, a.cell rfl, a.cell rfl, hti, hdd' 0 _ rfl, hdd' 1 _ rfl, hdd' 2 _ rfl, hdd' 3 _ rfl, hdd' 4 _ rfl, hdd' 5 _ rfl, hdd' 6 _ rfl⟩)
          have HBC := hid (fun W => became_any r s ((N2 : Int) - (N1 : Int)) W)
          unfold rowC at HBC
          have hcT := (HI7.out.at_ hlt).2.2
          have hgb7 : gb < w7.heap.size := by
            obtain ⟨gb', ob', e, h, _⟩ := HRB4.out w7 HFW7.out q s HS.out
            injection e with e
            injection e with e eo
            subst e eo
            exact h
          have hw7l : wo.heap.size < w7.heap.size := (HB6.out.keep HF7.out (fun h => h)).lt
          clear hdd
          have hwr : IntKind.i64.wrap ((N2 : Int) - (N1 : Int)) = (N2 : Int) - (N1 : Int) := by rw [IntKind.wrap_i64]; omega
          go_upto_region 9 with fail
          go_region_held3 (fun W => W.cell? ⟨wo.heap.size, 0, none⟩ = some (.int .i64 r.par) ∧ W.cell? ⟨wo.heap.size, 1, none⟩ = some (.int .i64 r.in_) ∧ W.cell? ⟨wo.heap.size, 2, none⟩ = some (.int .i64 r.fn) ∧ W.cell? ⟨wo.heap.size, 3, none⟩ = some (.int .i64 r.kind) ∧ W.cell? ⟨wo.heap.size, 4, none⟩ = some (.int .i64 r.v) ∧ W.cell? ⟨wo.heap.size, 5, none⟩ = some (.int .i64 r.st) ∧ W.cell? ⟨wo.heap.size, 6, none⟩ = some (.string r.cl) ∧ W.cell? ⟨T, i, none⟩ = some (.int .i64 q) ∧ W.cell? ⟨gb, ogb + q * 7, none⟩ = some (.int .i64 s.par) ∧ W.cell? ⟨gb, ogb + q * 7 + 1, none⟩ = some (.int .i64 s.in_) ∧ W.cell? ⟨gb, ogb + q * 7 + 2, none⟩ = some (.int .i64 s.fn) ∧ W.cell? ⟨gb, ogb + q * 7 + 3, none⟩ = some (.int .i64 s.kind) ∧ W.cell? ⟨gb, ogb + q * 7 + 4, none⟩ = some (.int .i64 s.v) ∧ W.cell? ⟨gb, ogb + q * 7 + 5, none⟩ = some (.int .i64 s.st) ∧ W.cell? ⟨gb, ogb + q * 7 + 6, none⟩ = some (.string s.cl))
            (first | exact HSS.out _ (Fr.refl _ _) | exact HSS.out _ (Fr.drew _ _) | exact HSS.out _ HF8.out)
            (first
              | (go_at_call 19; (with_reducible refine (HBC.out _).mono ?_); rintro e w8 ⟨rfl, hF8⟩; have HF8 := hid ((Fr.drew (fun _ => False) w7).trans hF8)))
          all_goals
            clear hwr hcT hgb7 hw7l
            have HF8w := hid (HFW7.out.trans (HF8.out.mono (fun _ h => h.elim)))
            have HI8 := hid (HI7.out.keep HF8.out (fun h => h))
            obtain ⟨bb, hbb⟩ : ∃ b, becB r s ((N2 : Int) - (N1 : Int)) = b := ⟨_, rfl⟩
            rw [hbb]
            have hk1 : kc l (i : Int) = N1 := by unfold kc; rw [HL.out]; exact HN1.out
            have hk2 : kc mm (q : Int) = N2 := by unfold kc; rw [HM.out]; exact HN2.out
            have hiff := becB_iff HX0.out (m := mm) (q := q) (s := s) HR.out
            rw [hk1, hk2, hbb] at hiff
            have HIF := hid hiff
            have HK1 := hid hk1
            have HK2 := hid hk2
            clear hbb hiff hk1 hk2 HSS HBC HF8
            cases bb with
            | false =>
              go_wp2_with fail
              go_ret
              exact HEN.out _ _ ⟨(fun h => by cases h), fun h => by
                obtain ⟨q', r', s', g1, g2, g3, g4, g5, g6⟩ := h.2.2 i (by rw [HL.out]; exact hlt)
                have hqq : q' = q := by have := HQ.out; omega
                subst hqq
                rw [HR.out] at g2
                rw [HS.out] at g3
                injection g2 with g2
                injection g3 with g3
                subst g2 g3
                rw [HK1.out, HK2.out] at g5 g6
                exact HIF.out.2 ⟨g4, g5, g6⟩⟩ HF8w.out
            | true =>
              have HOK := hid (show OkAt l mm i from ⟨q, r, s, HQ.out, HR.out, HS.out, (HIF.out.1 rfl).1, by rw [HK1.out, HK2.out]; exact (HIF.out.1 rfl).2.1, by rw [HK1.out, HK2.out]; exact (HIF.out.1 rfl).2.2⟩)
              have hle : N1 ≤ N2 := (HIF.out.1 rfl).2.1
              go_wp2_with fail
              go_loopg [64] (N1 + 1) (fun d k wr => GwIn l mm n T i N1 w4 d k wr)
              case atStart => exact ⟨0, t, by omega, by omega, rfl, HI8.out, HTO.out, HF8w.out⟩
              case round =>
                obtain ⟨j, t2, hj, hd2, rfl, hI2, hTo2, hF2⟩ := hrel
                have HD2 := hid hd2
                have HI2 := hid hI2
                have HTO2 := hid hTo2
                have HFF := hid hF2
                clear hd2 hI2 hTo2 hF2
                by_cases hjn : j < N1
                · obtain ⟨x1, hx1⟩ : ∃ x, (kidsN l i n)[j]? = some x := ⟨_, List.getElem?_eq_getElem (by rw [HN1.out]; exact hjn)⟩
                  obtain ⟨k0, rfl, hk0, hkp, hkn⟩ := kidsN_at n hx1
                  have hkno : kidNo l k0 = j := by unfold kidNo; rw [hkp]; exact hkn
                  obtain ⟨q2, hq2, hq2m, hq2k⟩ := img_next HT1.out (by rw [HL.out]; exact hk0) hkp HOK.out
                  rw [HQ.out, hkno, HM.out] at hq2k
                  have o1 := (HB1W.out _ HFF.out).own i hlt
                  have o2 := (HB2W.out _ HFF.out).own q hqm
                  simp only [HN1.out, HN2.out, HA1.out, HA2.out] at o1 o2
                  obtain ⟨g1, e1, _, hg1, _, hc1⟩ := o1.cell (by omega)
                  obtain ⟨g2, e2, _, hg2, _, hc2⟩ := o2.cell (by omega)
                  subst e1 e2
                  have v1 := hc1 j (.int .i64 k0) (by unfold intsV; rw [List.getElem?_map, hx1]; rfl)
                  have v2 := hc2 j (.int .i64 q2) (by unfold intsV; rw [List.getElem?_map, hq2k]; rfl)
                  obtain ⟨v3, v4, v5⟩ := HI2.out.at_ hk0
                  have HPU := hid (HTO2.out.put hkp hkno)
                  rw [hq2] at HPU
                  have hj0 : (0 : Int) ≤ j ∧ (j : Int) < N1 ∧ (j : Int) < N2 := by omega
                  have hkk0 : (0 : Int) ≤ k0 ∧ (k0 : Int) < n := by omega
                  clear hx1 hkp hkn hkno hq2 hq2k o1 o2 hc1 hc2
                  go_wp2_with fail
                  go_roundg (N1 + 1 - (j + 1))
                  case rel => exact ⟨j + 1, _, by omega, rfl, by go_num, HI2.out.set k0 q2, HPU.out, HFF.out.trans (Fr.setCell _ _ _ rfl)⟩
                  case measure => have := HD2.out; omega
                · have hjN : j = N1 := by omega
                  have HNX := hid (show ToOk l mm t2 (i + 1) 0 from ToOk.next (by rw [HK1.out, ← hjN]; exact HTO2.out))
                  clear hjN
                  go_wp2_with fail
                  go_roundg (n + 1 - (i + 1))
                  case rel => exact ⟨i + 1, t2, by omega, rfl, by go_num, fun x hx => by
                    rcases Nat.lt_or_ge x i with h | h
                    · exact HAL.out x h
                    · obtain rfl : x = i := by omega
                      exact HOK.out, HI2.out, HNX.out, HFF.out⟩
                  case measure => have := HD.out; omega
        · have hin : i = n := by omega
          go_wp2_with fail
          go_ret
          exact HEN.out _ _ ⟨fun _ => ⟨HX0.out, HY0.out, fun x hx => HAL.out x (by rw [HL.out] at hx; omega)⟩, fun _ => rfl⟩ HF.out
    · have t2 : (y != 0) = true := by simpa using hy0
      have HN := hid hy0
      clear hy0
      go_wp2_with fail
      go_ret
      exact ⟨false, rfl, ⟨(fun h => by cases h), fun h => absurd (HY.out.symm.trans h.2.1) HN.out⟩, HF2.out⟩
  · have t1 : (x != 0) = true := by simpa using hx0
    have HN := hid hx0
    clear hx0
    go_wp2_with fail
    go_ret
    exact ⟨false, rfl, ⟨(fun h => by cases h), fun h => absurd (HX.out.symm.trans h.1) HN.out⟩, HF1.out⟩

end Go.Proofs.YtnlbellbeepkaaaGreatDoor
