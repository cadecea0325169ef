/-
  SerialScopes: the walk.
-/
import Derived.Test.YtpjcdjooiaefdaaDoorVWithC
import Derived.Test.YtpjcdjooiaefdaaDoorVScM
namespace Go.Proofs.YtpjcdjooiaefdaaDoor
open Go.RowKit
set_option linter.unusedVariables false

theorem load7 {w : World} {g off : Nat} {l : List Value} (hl : l.length = 7) (h : ∀ (i : Nat) v, l[i]? = some v → w.cell? ⟨g, off + i, none⟩ = some v) {M : Nat} (hM : M = 7) : (loadCellsFrom ⟨g, off, none⟩ 0 M #[]).run Tryd.prog w = .ok l.toArray w := by
  subst hM
  have h2 := run_loadCells_list (P := Tryd.prog) w ⟨g, off, none⟩ l (fun i v hv => by rw [add_none]; exact h i v hv)
  simpa [loadCells, hl] using h2

def ScRel (rows : List Rw) (ln B : Nat) (w0 : World) (d : Nat) (lv k : Value) (wr : World) : Prop :=
  ∃ (j : Nat) (Al : Option Addr) (cl : Nat), 1 ≤ j ∧ j ≤ ln ∧ d = ln + 1 - j ∧ k = .int .i64 j ∧ lv = .slice Al (kidsR rows j).length cl ∧ OwnR wr B 33 7 Al (kidsR rows j).length cl (flatR (kidsR rows j)) ∧ Fr (fun _ => False) w0 wr

set_option maxRecDepth 100000 in
set_option maxHeartbeats 4000000 in
theorem scopes_law (A : Option Addr) (c : Nat) (P : List Fn) (fuel q0 : Int) (w : World) (ht : Tabs w) (hp : Prg w w.heap.size A P) :
    Calls Tryd.prog 6 #[.agg #[.slice A P.length c], .int .i64 fuel, .int .i64 q0] w (LawPost w) := by
  obtain ⟨n, hn⟩ : ∃ n, P.length = n := ⟨_, rfl⟩
  obtain ⟨w1, hw1⟩ : ∃ w1, w1 = w.alloc (.cells #[.slice A n c] 24) := ⟨_, rfl⟩
  have HF1 := hid (show Fr (fun _ => False) w w1 by rw [hw1]; exact Fr.alloc _ _ _)
  have HX := hid (show TBlk w1 w.heap.size #[.slice A n c] 24 by rw [hw1]; exact TBlk.new _ _ _)
  have HP := hid (fun W (hW : Fr (fun _ => False) w W) => (hp.same hW (Nat.le_refl _)).more hW.size)
  have HT := hid (fun W (hW : Fr (fun _ => False) w W) => ht.same hW)
  have HN := hid hn
  have HP0 := hid hp
  rw [hn]
  have HSM := hid (fun W (hW : Fr (fun _ => False) w W) => small_any A n c P fuel W (HP.out W hW) hn)
  have HAW := hid (fun W (hW : Fr (fun _ => False) w W) => awake_any W (HT.out W hW))
  have HXW := hid (show ∀ W, Fr (fun _ => False) w1 W → W.cell? ⟨w.heap.size, 0, none⟩ = some (.slice A n c) ∧ w.heap.size < W.heap.size from fun W hW => ⟨(TBlk.blk (HX.out.keep hW (fun h => h))).cell rfl, Nat.lt_of_lt_of_le (TBlk.blk HX.out).lt hW.size⟩)
  clear hp ht hn
  go_enter Tryd.func6, Tryd.ntmps6
  go_upto_region 1 with fail
  rw [← hw1]
  clear hw1
  obtain ⟨p1, l1⟩ := HXW.out _ (Fr.refl _ _)
  go_wp2_with fail
  refine (HSM.out _ HF1.out).mono ?_
  rintro e w2 ⟨b, rfl, hb, hF2⟩
  have HF2 := hid hF2
  have HB := hid hb
  clear hb hF2 p1 l1
  obtain ⟨p2, l2⟩ := HXW.out _ HF2.out
  cases b with
  | false =>
    go_wp2_with fail
    refine (HAW.out _ (HF1.out.trans HF2.out)).mono ?_
    rintro e w3 ⟨rfl, hF3⟩
    go_wp2_with fail
    go_ret
    exact ⟨rfl, (HF1.out.trans HF2.out).trans hF3⟩
  | true =>
    obtain ⟨b1, b2, _⟩ := HB.out rfl
    have hn40 : n ≤ 40 := by rw [← HN.out]; exact b1
    have HN40 := hid hn40
    have HFU := hid b2
    have HRU := hid (fun Q A2 c2 fu W (hW : Tabs W) (hq : Prg W W.heap.size A2 Q) (hl : Q.length = n) => run_any A2 n c2 Q fu W hW hq hl (by omega))
    have HAC := hid (accepts_any A n c P w2 (HT.out _ (HF1.out.trans HF2.out)) (HP.out _ (HF1.out.trans HF2.out)) HN.out (by omega))
    obtain ⟨ab, hab⟩ : ∃ ab, accB P = ab := ⟨_, rfl⟩
    have HAB := hid hab
    rw [hab] at HAC
    clear b1 b2 hab HB hn40
    go_wp2_with fail
    refine HAC.out.mono ?_
    rintro e w3 ⟨rfl, hF3⟩
    have HF3 := hid (HF2.out.trans hF3)
    clear hF3 p2 l2
    obtain ⟨p3, l3⟩ := HXW.out _ HF3.out
    cases ab with
    | false =>
      go_wp2_with fail
      refine (HAW.out _ (HF1.out.trans HF3.out)).mono ?_
      rintro e w4 ⟨rfl, hF4⟩
      go_wp2_with fail
      go_ret
      exact ⟨rfl, (HF1.out.trans HF3.out).trans hF4⟩
    | true =>
      have HA := hid (accB_true.1 HAB.out)
      by_cases c1 : q0 < 1
      · go_wp2_with fail
        refine (HAW.out _ (HF1.out.trans HF3.out)).mono ?_
        rintro e w4 ⟨rfl, hF4⟩
        go_wp2_with fail
        go_ret
        exact ⟨rfl, (HF1.out.trans HF3.out).trans hF4⟩
      by_cases c2 : (n : Int) ≤ q0
      · go_wp2_with fail
        refine (HAW.out _ (HF1.out.trans HF3.out)).mono ?_
        rintro e w4 ⟨rfl, hF4⟩
        go_wp2_with fail
        go_ret
        exact ⟨rfl, (HF1.out.trans HF3.out).trans hF4⟩
      obtain ⟨q, rfl⟩ : ∃ q : Nat, q0 = q := ⟨q0.toNat, by omega⟩
      have HQ := hid (show 1 ≤ q ∧ q < n from ⟨by omega, by omega⟩)
      obtain ⟨g, o, rfl, hg, hgc⟩ := HP0.out (by rw [HN.out]; have := HQ.out; omega)
      obtain ⟨f, hf⟩ : ∃ f, P[q]? = some f := ⟨_, List.getElem?_eq_getElem (by rw [HN.out]; exact HQ.out.2)⟩
      obtain ⟨A', c', k0, k1, _⟩ := hgc q f hf
      obtain ⟨nd, hnd⟩ : ∃ nd, f.needs = nd := ⟨_, rfl⟩
      have g3 : w3.cell? ⟨g, o + q * 2, none⟩ = some (.int .i64 nd) := by rw [← hnd]; exact (cell_keep (HF1.out.trans HF3.out) (p := ⟨g, o + q * 2, none⟩) hg (fun h => h)).trans k0
      have hg3 : g < w3.heap.size := Nat.lt_of_lt_of_le hg (HF1.out.trans HF3.out).size
      have HND := hid (show needsOf P q = nd by unfold needsOf; rw [Int.toNat_natCast, hf]; exact hnd)
      clear hg hgc hf k0 k1 hnd
      have hq0 : (0 : Int) ≤ q ∧ (q : Int) < n := by omega
      by_cases c3 : nd = 0
      · have tn : (nd != 0) = false := bne_eq_false_iff_eq.2 c3
        go_wp2_with fail
        obtain ⟨w4, hw4⟩ : ∃ w4, w4 = w3.alloc (.cells ((scCode q).flatMap Ins.cells).toArray 43) := ⟨_, rfl⟩
        have HF4 := hid (show Fr (fun _ => False) w3 w4 by rw [hw4]; exact Fr.alloc _ _ _)
        have HB4 := hid (show Blk w4 w3.heap.size ((scCode q).flatMap Ins.cells).toArray by rw [hw4]; exact Blk.new _ _ _)
        have HF14 := hid ((HF1.out.trans HF3.out).trans HF4.out)
        change Calls _ _ _ (w3.alloc (.cells ((scCode q).flatMap Ins.cells).toArray 43)) _
        rw [← hw4]
        clear hw4 p3 l3 g3 hg3 c1 c2 tn hq0
        refine (withP_any (some ⟨g, o, none⟩) c P n (scCode q) w3.heap.size 12 12 w4 (HP.out _ HF14.out) HN.out (by have := HQ.out; omega) HN40.out (cod_blk HB4.out rfl HB4.out.lt) rfl).mono ?_
        rintro e w5 ⟨g2, c2, rfl, hQ5, hF5⟩
        obtain ⟨w6, hw6⟩ : ∃ w6, w6 = w5.alloc (.cells #[.slice (some ⟨g2, 0, none⟩) n c2] 24) := ⟨_, rfl⟩
        have HF16 := hid (show Fr (fun _ => False) w w6 by rw [hw6]; exact (HF14.out.trans hF5).trans (Fr.alloc _ _ _))
        have HQ6 := hid (show Prg w6 w6.heap.size (some ⟨g2, 0, none⟩) (P.set 0 ⟨0, scCode q⟩) by
          have hf : Fr (fun _ => False) w5 w6 := by rw [hw6]; exact Fr.alloc _ _ _
          exact (hQ5.same hf (Nat.le_refl _)).more hf.size)
        have hb6 : Blk w6 w5.heap.size #[.slice (some ⟨g2, 0, none⟩) n c2] := by rw [hw6]; exact Blk.new _ _ _
        have b6 : w6.cell? ⟨w5.heap.size, 0, none⟩ = some (.slice (some ⟨g2, 0, none⟩) n c2) := hb6.cell rfl
        have l6 := hb6.lt
        clear hQ5 hF5 hb6
        go_upto_region 4 with fail
        rw [← hw6]
        clear hw6
        go_wp2_with fail
        refine (HRU.out (P.set 0 ⟨0, scCode q⟩) (some ⟨g2, 0, none⟩) c2 fuel w6 (HT.out _ HF16.out) HQ6.out (by rw [List.length_set]; exact HN.out)).mono ?_
        rintro e w7 ⟨rows, st, er, A7, cap7, hri, rfl, hO7, hF7⟩
        have HF7 := hid (HF16.out.trans hF7)
        have HRI := hid hri
        have HRD := hid (OwnR.rdR hO7)
        obtain ⟨ln, hln⟩ : ∃ ln, rows.length = ln := ⟨_, rfl⟩
        rw [hln]
        have HLN := hid hln
        have HFW := hid (run_few hri).1
        clear hri hO7 hF7 hln b6 l6
        by_cases he : er = 0
        · subst he
          obtain ⟨r0, L, hk0, hcl0, hp0, hB, hrows⟩ := RunIs.scopes HQ.out.1 (by rw [HN.out]; exact HQ.out.2) (HND.out.trans c3) HRI.out
          obtain ⟨ra, hin, hka, hflt, hat0⟩ := scopes_flt hB hrows
          have HIN := hid hin
          have HKA := hid hka
          have HFT := hid (show kidsR rows ln = [ra, lostR 1 q, lostR 2 q, { ra with in_ := 0 }] by rw [← HLN.out]; exact hflt)
          have HA0 := hid hat0
          have HK0 := hid hk0
          have HCL := hid hcl0
          have hln1 : 1 ≤ ln := by rw [← HLN.out]; have := (List.getElem?_eq_some_iff.1 hat0).1; omega
          have hlb : ln ≤ 1048577 := by have := HFW.out; rw [HLN.out] at this; exact this
          have HLB := hid (And.intro hln1 hlb)
          obtain ⟨M, hM, hM1⟩ := sizeRow
          have hM0 : ¬ M = 0 := by omega
          have HM := hid hM
          obtain ⟨i0, hi, hz⟩ := Option.map_eq_some_iff.1 infoWz
          simp only [Prod.mk.injEq] at hz
          obtain ⟨hy0, hy1, hy2⟩ := hz
          have HII := hid hi
          have HZ0 := hid hy0
          have HZ1 := hid hy1
          have HZ2 := hid hy2
          obtain ⟨gr, hg, hgl, _⟩ := HRD.out.cell hat0
          subst hg
          clear hin hka hflt hat0 hk0 hcl0 hB hrows hp0 hln1 hlb hM hi hy0 hy1 hy2
          go_wp2_with fail
          go_loopg [11, 12] ln (fun d lv k wr => ScRel rows ln w7.heap.size w7 d lv k wr)
          case atStart => exact ⟨1, none, 0, Nat.le_refl _, HLB.out.1, rfl, rfl, by rw [flt_one]; rfl, by rw [flt_one]; exact OwnR.nil _ _ _ _, Fr.refl _ _⟩
          case round =>
            obtain ⟨j, Al, cl, hj1, hj2, hd, rfl, rfl, hO, hF⟩ := hrel
            obtain ⟨nk, hnk⟩ : ∃ nk, (kidsR rows j).length = nk := ⟨_, rfl⟩
            rw [hnk] at hO ⊢
            have HNK := hid hnk
            have HF := hid hF
            have HD := hid hd
            have HO := hid hO
            have HJ := hid (And.intro hj1 hj2)
            clear hnk hF hd hO hj1 hj2
            by_cases hlt : j < ln
            · obtain ⟨r, hr⟩ : ∃ r, rows[j]? = some r := ⟨_, List.getElem?_eq_getElem (by rw [HLN.out]; exact hlt)⟩
              have l1 := (HRD.out.same HF.out).load hr rfl HM.out
              obtain ⟨_, hg', hgl', hc⟩ := (HRD.out.same HF.out).cell hr
              injection hg' with hg'
              injection hg' with hg'
              subst hg'
              have HR := hid hr
              have HC := hid hc
              have HLT := hid hlt
              have HW1 := hid (show wrap64 ((j : Int) + 1) = ((j + 1 : Nat) : Int) by rw [wrap_small (by omega) (by have := HLB.out; omega)]; omega)
              have HJ1 := hid (show 1 ≤ j + 1 ∧ j + 1 ≤ ln ∧ ln + 1 - (j + 1) < gk from ⟨by omega, by omega, by have := HD.out; omega⟩)
              have hnb : nk ≤ 2000000 := by
                have h1 : (kidsR rows j).length ≤ rows.length := by
                  unfold kidsR
                  refine Nat.le_trans (List.length_filter_le _ _) ?_
                  rw [List.length_drop, List.length_take]
                  omega
                have := HLB.out
                have := HNK.out
                have := HLN.out
                omega
              have hj0 : (0 : Int) ≤ j ∧ (j : Int) < ln := by omega
              have c0 : wr.cell? ⟨gr, j * M, none⟩ = some (.int .i64 r.par) := by rw [HM.out]; exact hc 0 _ rfl
              have hca : r.cells.toArray = #[.int .i64 r.par, .int .i64 r.in_, .int .i64 r.fn, .int .i64 r.kind, .int .i64 r.v, .int .i64 r.st, .string (clS r.cl)] := rfl
              rw [hca] at l1
              have hcl : r.cells = [.int .i64 r.par, .int .i64 r.in_, .int .i64 r.fn, .int .i64 r.kind, .int .i64 r.v, .int .i64 r.st, .string (clS r.cl)] := rfl
              have HCL2 := hid hcl
              obtain ⟨pa, hpa⟩ : ∃ x, r.par = x := ⟨_, rfl⟩
              have HPA := hid hpa
              obtain ⟨x1, hx1⟩ : ∃ x, r.in_ = x := ⟨_, rfl⟩
              obtain ⟨x2, hx2⟩ : ∃ x, r.fn = x := ⟨_, rfl⟩
              obtain ⟨x3, hx3⟩ : ∃ x, r.kind = x := ⟨_, rfl⟩
              obtain ⟨x4, hx4⟩ : ∃ x, r.v = x := ⟨_, rfl⟩
              obtain ⟨x5, hx5⟩ : ∃ x, r.st = x := ⟨_, rfl⟩
              obtain ⟨x6, hx6⟩ : ∃ x, clS r.cl = x := ⟨_, rfl⟩
              rw [hpa, hx1, hx2, hx3, hx4, hx5, hx6] at l1 HCL2
              rw [hpa] at c0
              have HNX := hid (flt_next hr HJ.out.1)
              rw [hpa] at HNX
              clear hr hlt hc hca hcl hpa hx1 hx2 hx3 hx4 hx5 hx6
              by_cases hp : pa = 0
              · have tp : (pa == 0) = true := beq_iff_eq.2 hp
                rw [if_pos hp] at HNX
                clear hp
                have HNW := hid (news_cells wr 33 [.int .i64 pa, .int .i64 x1, .int .i64 x2, .int .i64 x3, .int .i64 x4, .int .i64 x5, .string x6])
                obtain ⟨xs, hxs⟩ : ∃ xs, flatR (kidsR rows j) = xs := ⟨_, rfl⟩
                have HXS := hid hxs
                have HOW := hid (show (wr.alloc (.cells #[.int .i64 pa, .int .i64 x1, .int .i64 x2, .int .i64 x3, .int .i64 x4, .int .i64 x5, .string x6] 33)).ownsRow w7.heap.size 33 7 (.slice Al nk cl) nk xs from by rw [← hxs]; exact OwnR.same HO.out (Fr.alloc (fun _ => False) wr _))
                clear hxs
                have hbs : w7.heap.size ≤ wr.heap.size := HF.out.size
                go_upto_region 12 with fail
                clear l1 hM1 hM0 c0
                have hcc : ∀ (i : Nat) v, ([.int .i64 pa, .int .i64 x1, .int .i64 x2, .int .i64 x3, .int .i64 x4, .int .i64 x5, .string x6] : List Value)[i]? = some v → wr.cell? ⟨gr, j * 7 + i, none⟩ = some v := fun i v hv => HC.out i v (by rw [HCL2.out]; exact hv)
                have d0 : wr.cell? ⟨gr, j * 7, none⟩ = some (.int .i64 pa) := hcc 0 _ rfl
                have d1 := hcc 1 _ rfl
                have d2 := hcc 2 _ rfl
                have d3 := hcc 3 _ rfl
                have d4 := hcc 4 _ rfl
                have d5 := hcc 5 _ rfl
                have d6 := hcc 6 _ rfl
                clear hcc
                go_wp2_with (at_builtin; (refine wpList_append_own _ rfl _ _ 27 rfl w7.heap.size 33 i0 _ 7 64 Tryd.underlying27 HII.out HZ0.out HZ1.out HZ2.out rfl (by decide) (.slice Al nk cl) nk xs rfl HOW.out ⟨wr.heap.size, 0, none⟩ 1 1 [.int .i64 pa, .int .i64 x1, .int .i64 x2, .int .i64 x3, .int .i64 x4, .int .i64 x5, .string x6] rfl rfl HNW.out (by intro u hu; simp at hu; rcases hu with rfl | rfl | rfl | rfl | rfl | rfl | rfl <;> rfl) (by unfold maxLen; omega) (by omega) (by simp; omega) ?_; intro v2 w9 hown2 hgrow2 hnil2; clear hnil2; obtain ⟨A3, c3, rfl, ho2⟩ := OwnR.form hown2; have HO2 := hid ho2; have HG2 := hid (Fr.of_grown hgrow2); clear hown2 hgrow2 ho2))
                go_roundg (ln + 1 - (j + 1))
                case rel =>
                  have hlen : (kidsR rows (j + 1)).length = nk + 1 := by rw [HNX.out, List.length_append, HNK.out]; rfl
                  have hfl : flatR (kidsR rows (j + 1)) = xs ++ [.int .i64 pa, .int .i64 x1, .int .i64 x2, .int .i64 x3, .int .i64 x4, .int .i64 x5, .string x6] := by
                    rw [HNX.out, ← HXS.out]
                    unfold flatR
                    rw [List.flatMap_append, List.flatMap_cons, List.flatMap_nil, List.append_nil, HCL2.out]
                  refine ⟨j + 1, A3, c3, HJ1.out.1, HJ1.out.2.1, rfl, congrArg (Value.int .i64) HW1.out, by rw [hlen], by rw [hlen, hfl]; exact HO2.out, ?_⟩
                  refine (HF.out.trans (Fr.alloc _ _ _)).since HG2.out (fun i hi hl => ?_)
                  have := (OwnR.lt HO.out i hi).1
                  omega
                case measure => exact HJ1.out.2.2
              · have tp : (pa == 0) = false := beq_eq_false_iff_ne.2 hp
                rw [if_neg hp, List.append_nil] at HNX
                clear hp
                go_wp2_with fail
                go_roundg (ln + 1 - (j + 1))
                case rel => exact ⟨j + 1, Al, cl, HJ1.out.1, HJ1.out.2.1, rfl, congrArg (Value.int .i64) HW1.out, by rw [HNX.out, HNK.out], by rw [HNX.out, HNK.out]; exact HO.out, HF.out⟩
                case measure => exact HJ1.out.2.2
            · have hjl : j = ln := by have := HJ.out; omega
              subst hjl
              have hn4 : nk = 4 := by rw [← HNK.out, HFT.out]; rfl
              subst hn4
              have ho := HO.out
              rw [HFT.out] at ho
              obtain ⟨gl, hgl1, hglB, hgll, _, hcl⟩ := OwnR.cell ho (by omega)
              subst hgl1
              obtain ⟨_, hg', hgl', hc0⟩ := (HRD.out.same HF.out).cell HA0.out
              injection hg' with hg'
              injection hg' with hg'
              subst hg'
              obtain ⟨kd, hkd⟩ : ∃ x, ra.kind = x := ⟨_, rfl⟩
              have hkd2 := HKA.out
              rw [hkd] at hkd2
              have tk : (kd != 4) = true := bne_iff_ne.2 (by omega)
              have z3 : wr.cell? ⟨gr, 3, none⟩ = some (.int .i64 2) := by have := hc0 3 (.int .i64 r0.kind) rfl; rw [HK0.out] at this; exact this
              have z6 : wr.cell? ⟨gr, 6, none⟩ = some (.string ⟨#[48, 49]⟩) := by have := hc0 6 (.string (clS r0.cl)) rfl; rw [HCL.out] at this; exact this
              obtain ⟨x0, hx0⟩ : ∃ x, ra.par = x := ⟨_, rfl⟩
              obtain ⟨x2, hx2⟩ : ∃ x, ra.fn = x := ⟨_, rfl⟩
              obtain ⟨x4, hx4⟩ : ∃ x, ra.v = x := ⟨_, rfl⟩
              obtain ⟨x5, hx5⟩ : ∃ x, ra.st = x := ⟨_, rfl⟩
              obtain ⟨x6, hx6⟩ : ∃ x, clS ra.cl = x := ⟨_, rfl⟩
              have hfl : flatR [ra, lostR 1 q, lostR 2 q, { ra with in_ := 0 }] = [.int .i64 x0, .int .i64 1, .int .i64 x2, .int .i64 kd, .int .i64 x4, .int .i64 x5, .string x6, .int .i64 0, .int .i64 1, .int .i64 q, .int .i64 4, .int .i64 0, .int .i64 0, .string ⟨#[]⟩, .int .i64 0, .int .i64 2, .int .i64 q, .int .i64 4, .int .i64 0, .int .i64 0, .string ⟨#[]⟩, .int .i64 x0, .int .i64 0, .int .i64 x2, .int .i64 kd, .int .i64 x4, .int .i64 x5, .string x6] := by
                rw [← hx0, ← hx2, ← hkd, ← hx4, ← hx5, ← hx6, ← HIN.out]
                rfl
              have HCC := hid (show ∀ W, Fr (fun _ => False) wr W → ∀ (i : Nat) v, ([.int .i64 x0, .int .i64 1, .int .i64 x2, .int .i64 kd, .int .i64 x4, .int .i64 x5, .string x6, .int .i64 0, .int .i64 1, .int .i64 q, .int .i64 4, .int .i64 0, .int .i64 0, .string ⟨#[]⟩, .int .i64 0, .int .i64 2, .int .i64 q, .int .i64 4, .int .i64 0, .int .i64 0, .string ⟨#[]⟩, .int .i64 x0, .int .i64 0, .int .i64 x2, .int .i64 kd, .int .i64 x4, .int .i64 x5, .string x6] : List Value)[i]? = some v → W.cell? ⟨gl, i, none⟩ = some v from fun W hW i v hv => (cell_keep hW (p := ⟨gl, i, none⟩) hgll (fun h => h)).trans (hcl i v (by rw [hfl]; exact hv)))
              have HRA := hid (show ra.cells = [.int .i64 x0, .int .i64 1, .int .i64 x2, .int .i64 kd, .int .i64 x4, .int .i64 x5, .string x6] by rw [← hx0, ← hx2, ← hkd, ← hx4, ← hx5, ← hx6, ← HIN.out]; rfl)
              have hln : (0 : Int) < j := by have := HLB.out; omega
              clear ho hcl hc0 hkd hkd2 hx0 hx2 hx4 hx5 hx6 hfl hM1 hM0
              go_upto_region 19 with fail
              obtain ⟨w9, hw9⟩ : ∃ w9, w9 = (wr.alloc (.cells (lostR 1 q).cells.toArray 33)).alloc (.cells (lostR 2 q).cells.toArray 33) := ⟨_, rfl⟩
              have HF9 := hid (show Fr (fun _ => False) wr w9 by rw [hw9]; exact (Fr.alloc _ _ _).trans (Fr.alloc _ _ _))
              have HB13 := hid (show Blk w9 wr.heap.size (lostR 1 q).cells.toArray by rw [hw9]; exact (Blk.new _ _ _).alloc _)
              have HB14 := hid (show Blk w9 (wr.heap.size + 1) (lostR 2 q).cells.toArray by rw [hw9]; exact (Blk.new _ _ _).at (by simp))
              change Code.wp _ _ _ _ ((wr.alloc (.cells (lostR 1 q).cells.toArray 33)).alloc (.cells (lostR 2 q).cells.toArray 33))
              rw [← hw9]
              clear hw9
              have d0 := HCC.out w9 HF9.out 21 _ rfl
              have d1 := HCC.out w9 HF9.out 22 _ rfl
              have d2 := HCC.out w9 HF9.out 23 _ rfl
              have d3 := HCC.out w9 HF9.out 24 _ rfl
              have d4 := HCC.out w9 HF9.out 25 _ rfl
              have d5 := HCC.out w9 HF9.out 26 _ rfl
              have d6 := HCC.out w9 HF9.out 27 _ rfl
              have hgl9 : gl < w9.heap.size := Nat.lt_of_lt_of_le hgll HF9.out.size
              go_upto_region 21 with fail
              obtain ⟨b13, hb13⟩ : ∃ b, wr.heap.size = b := ⟨_, rfl⟩
              obtain ⟨b15, hb15⟩ : ∃ b, w9.heap.size = b := ⟨_, rfl⟩
              obtain ⟨w10, hw10⟩ : ∃ w10, w10 = w9.alloc (.cells #[.int .i64 x0, .int .i64 1, .int .i64 x2, .int .i64 kd, .int .i64 x4, .int .i64 x5, .string x6] 33) := ⟨_, rfl⟩
              have HF10 := hid (show Fr (fun _ => False) w9 w10 by rw [hw10]; exact Fr.alloc _ _ _)
              have HB15 := hid (show Blk w10 w9.heap.size #[.int .i64 x0, .int .i64 1, .int .i64 x2, .int .i64 kd, .int .i64 x4, .int .i64 x5, .string x6] by rw [hw10]; exact Blk.new _ _ _)
              rw [← hw10]
              clear hw10 d0 d1 d2 d3 d4 d5 d6
              obtain ⟨M, hM, hM1⟩ := sizeRow
              have hM0 : ¬ M = 0 := by omega
              obtain ⟨c1, hc1⟩ : ∃ c, (lostR 1 q).cells.toArray = c := ⟨_, rfl⟩
              obtain ⟨c2, hc2⟩ : ∃ c, (lostR 2 q).cells.toArray = c := ⟨_, rfl⟩
              obtain ⟨c3, hc3⟩ : ∃ c, ra.cells.toArray = c := ⟨_, rfl⟩
              have q1 : ∀ W, (binOp .eql 33 (.agg c1) (.agg c1)).run Tryd.prog W = .ok (.bool true) W := fun W => by
                have := eqlRw (lostR 1 q) (lostR 1 q) W
                rw [Rw.same_iff.2 rfl, hc1] at this
                exact this
              have q2 : ∀ W, (binOp .eql 33 (.agg c2) (.agg c2)).run Tryd.prog W = .ok (.bool true) W := fun W => by
                have := eqlRw (lostR 2 q) (lostR 2 q) W
                rw [Rw.same_iff.2 rfl, hc2] at this
                exact this
              have q3 : ∀ W, (binOp .eql 33 (.agg c3) (.agg c3)).run Tryd.prog W = .ok (.bool true) W := fun W => by
                have := eqlRw ra ra W
                rw [Rw.same_iff.2 rfl, hc3] at this
                exact this
              have h15 : Blk w10 b15 c3 := by rw [← hc3, HRA.out, ← hb15]; exact HB15.out
              have h13 : Blk w10 b13 c1 := by rw [← hc1, ← hb13]; exact HB13.out.keep HF10.out (fun h => h)
              have h14 : Blk w10 (b13 + 1) c2 := by rw [← hc2, ← hb13]; exact HB14.out.keep HF10.out (fun h => h)
              have HS := hid (show ∀ W, Fr (fun _ => False) w10 W → W.cell? ⟨gl, 3, none⟩ = some (.int .i64 kd) ∧ (loadCellsFrom ⟨gl, M, none⟩ 0 M #[]).run Tryd.prog W = .ok c1 W ∧ (loadCellsFrom ⟨b13, 0, none⟩ 0 M #[]).run Tryd.prog W = .ok c1 W ∧ (loadCellsFrom ⟨gl, 2 * M, none⟩ 0 M #[]).run Tryd.prog W = .ok c2 W ∧ (loadCellsFrom ⟨b13 + 1, 0, none⟩ 0 M #[]).run Tryd.prog W = .ok c2 W ∧ (loadCellsFrom ⟨gl, 0, none⟩ 0 M #[]).run Tryd.prog W = .ok c3 W ∧ (loadCellsFrom ⟨b15, 0, none⟩ 0 M #[]).run Tryd.prog W = .ok c3 W from fun W hW => by
                have hWW := (HF9.out.trans HF10.out).trans hW
                refine ⟨HCC.out W hWW 3 _ rfl, ?_, load_eq (h13.keep hW (fun h => h)) (by rw [← hc1, hM]; rfl), ?_, load_eq (h14.keep hW (fun h => h)) (by rw [← hc2, hM]; rfl), ?_, load_eq (h15.keep hW (fun h => h)) (by rw [← hc3, hM]; rfl)⟩
                · rw [← hc1]
                  refine load7 (l := (lostR 1 q).cells) rfl (fun i v hv => ?_) hM
                  rw [hM]
                  match i, hv with
                  | 0, hv => exact HCC.out W hWW 7 v hv
                  | 1, hv => exact HCC.out W hWW 8 v hv
                  | 2, hv => exact HCC.out W hWW 9 v hv
                  | 3, hv => exact HCC.out W hWW 10 v hv
                  | 4, hv => exact HCC.out W hWW 11 v hv
                  | 5, hv => exact HCC.out W hWW 12 v hv
                  | 6, hv => exact HCC.out W hWW 13 v hv
                  | i + 7, hv => cases hv
                · rw [← hc2]
                  refine load7 (l := (lostR 2 q).cells) rfl (fun i v hv => ?_) hM
                  rw [hM]
                  match i, hv with
                  | 0, hv => exact HCC.out W hWW 14 v hv
                  | 1, hv => exact HCC.out W hWW 15 v hv
                  | 2, hv => exact HCC.out W hWW 16 v hv
                  | 3, hv => exact HCC.out W hWW 17 v hv
                  | 4, hv => exact HCC.out W hWW 18 v hv
                  | 5, hv => exact HCC.out W hWW 19 v hv
                  | 6, hv => exact HCC.out W hWW 20 v hv
                  | i + 7, hv => cases hv
                · rw [← hc3, HRA.out]
                  refine load7 rfl (fun i v hv => ?_) hM
                  rw [Nat.zero_add]
                  match i, hv with
                  | 0, hv => exact HCC.out W hWW 0 v hv
                  | 1, hv => exact HCC.out W hWW 1 v hv
                  | 2, hv => exact HCC.out W hWW 2 v hv
                  | 3, hv => exact HCC.out W hWW 3 v hv
                  | 4, hv => exact HCC.out W hWW 4 v hv
                  | 5, hv => exact HCC.out W hWW 5 v hv
                  | 6, hv => exact HCC.out W hWW 6 v hv
                  | i + 7, hv => cases hv)
              have HFT10 := hid (((HF7.out.trans HF.out).trans HF9.out).trans HF10.out)
              have lg10 : gl < w10.heap.size := Nat.lt_of_lt_of_le hgl9 HF10.out.size
              have lb13 := h13.lt
              have lb14 := h14.lt
              have lb15 := h15.lt
              rw [hb13, hb15]
              clear hM hc1 hc2 hc3 h13 h14 h15 hb13 hb15
              go_region_held3 (fun W => W.cell? ⟨gl, 3, none⟩ = some (.int .i64 kd) ∧ (loadCellsFrom ⟨gl, M, none⟩ 0 M #[]).run Tryd.prog W = .ok c1 W ∧ (loadCellsFrom ⟨b13, 0, none⟩ 0 M #[]).run Tryd.prog W = .ok c1 W ∧ (loadCellsFrom ⟨gl, 2 * M, none⟩ 0 M #[]).run Tryd.prog W = .ok c2 W ∧ (loadCellsFrom ⟨b13 + 1, 0, none⟩ 0 M #[]).run Tryd.prog W = .ok c2 W ∧ (loadCellsFrom ⟨gl, 0, none⟩ 0 M #[]).run Tryd.prog W = .ok c3 W ∧ (loadCellsFrom ⟨b15, 0, none⟩ 0 M #[]).run Tryd.prog W = .ok c3 W)
                (first | exact HS.out _ (Fr.refl _ _) | exact HS.out _ (Fr.drew _ _) | exact HS.out _ HFA.out)
                (first
                  | (go_at_call 8; (with_reducible refine (HAW.out _ (HFT10.out.trans (by first | exact Fr.drew _ _ | exact Fr.refl _ _))).mono ?_); rintro e w12 ⟨rfl, hFA⟩; have HFA := hid (show Fr (fun _ => False) w10 w12 from Fr.trans (by first | exact Fr.drew _ _ | exact Fr.refl _ _) hFA); clear hFA))
              all_goals
                go_wp2_with fail
                go_ret
                exact ⟨rfl, HFT10.out.trans HFA.out⟩
        · have hz : ln = 0 := by rw [← HLN.out, HRI.out.nilled he]; rfl
          have t0 : (er != 0) = true := bne_iff_ne.2 he
          clear he
          subst hz
          go_wp2_with fail
          refine (HAW.out _ HF7.out).mono ?_
          rintro e w8 ⟨rfl, hF8⟩
          go_wp2_with fail
          go_ret
          exact ⟨rfl, HF7.out.trans hF8⟩
      · have tn : (nd != 0) = true := bne_iff_ne.2 c3
        go_wp2_with fail
        refine (HAW.out _ (HF1.out.trans HF3.out)).mono ?_
        rintro e w4 ⟨rfl, hF4⟩
        go_wp2_with fail
        go_ret
        exact ⟨rfl, (HF1.out.trans HF3.out).trans hF4⟩

end Go.Proofs.YtpjcdjooiaefdaaDoor
