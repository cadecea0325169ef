/-
  SerialTwice: the walk.
-/
import Derived.Test.YtpjcdjooiaefdaaDoorVWithC
import Derived.Test.YtpjcdjooiaefdaaDoorVTwM
namespace Go.Proofs.YtpjcdjooiaefdaaDoor
open Go.RowKit
set_option linter.unusedVariables false

def TwRel (m : Nat) (w0 : World) (d : Nat) (k : Value) (wr : World) : Prop := ∃ j : Nat, 1 ≤ j ∧ j ≤ m + 1 ∧ d = m + 2 - j ∧ k = .int .i64 j ∧ Fr (fun _ => False) w0 wr

set_option maxRecDepth 100000 in
set_option maxHeartbeats 4000000 in
theorem twice_law (A : Option Addr) (c : Nat) (P : List Fn) (fuel q0 V : Int) (w : World) (ht : Tabs w) (hp : Prg w w.heap.size A P) :
    Calls Tryd.prog 5 #[.agg #[.slice A P.length c], .int .i64 fuel, .agg #[.int .i64 q0, .int .i64 V]] w (LawPost w) := by
  obtain ⟨n, hn⟩ : ∃ n, P.length = n := ⟨_, rfl⟩
  obtain ⟨w1, hw1⟩ : ∃ w1, w1 = (w.alloc (.cells #[.slice A n c] 24)).alloc (.cells #[.int .i64 q0, .int .i64 V] 37) := ⟨_, rfl⟩
  have HF1 := hid (show Fr (fun _ => False) w w1 by rw [hw1]; exact (Fr.alloc _ _ _).trans (Fr.alloc _ _ _))
  have HX := hid (show TBlk w1 w.heap.size #[.slice A n c] 24 by rw [hw1]; exact (TBlk.new _ _ _).alloc _)
  have HY := hid (show TBlk w1 (w.heap.size + 1) #[.int .i64 q0, .int .i64 V] 37 by rw [hw1]; exact (TBlk.new _ _ _).at (by simp))
  have HP := hid (fun W (hW : Fr (fun _ => False) w W) => (hp.same hW (Nat.le_refl _)).more hW.size)
  have HT := hid (fun W (hW : Fr (fun _ => False) w W) => ht.same hW)
  have HN := hid hn
  have HP0 := hid hp
  rw [hn]
  have HSM := hid (fun W (hW : Fr (fun _ => False) w W) => small_any A n c P fuel W (HP.out W hW) hn)
  have HAW := hid (fun W (hW : Fr (fun _ => False) w W) => awake_any W (HT.out W hW))
  have HXW := hid (show ∀ W, Fr (fun _ => False) w1 W → W.cell? ⟨w.heap.size, 0, none⟩ = some (.slice A n c) ∧ w.heap.size < W.heap.size ∧ W.cell? ⟨w.heap.size + 1, 0, none⟩ = some (.int .i64 q0) ∧ W.cell? ⟨w.heap.size + 1, 1, none⟩ = some (.int .i64 V) ∧ w.heap.size + 1 < W.heap.size from fun W hW => ⟨(TBlk.blk (HX.out.keep hW (fun h => h))).cell rfl, Nat.lt_of_lt_of_le (TBlk.blk HX.out).lt hW.size, (TBlk.blk (HY.out.keep hW (fun h => h))).cell rfl, (TBlk.blk (HY.out.keep hW (fun h => h))).cell rfl, Nat.lt_of_lt_of_le (TBlk.blk HY.out).lt hW.size⟩)
  clear hp ht hn
  go_enter Tryd.func5, Tryd.ntmps5
  go_upto_region 1 with fail
  rw [← hw1]
  clear hw1
  obtain ⟨p1, l1, u1, v1, m1⟩ := HXW.out _ (Fr.refl _ _)
  go_wp2_with fail
  refine (HSM.out _ HF1.out).mono ?_
  rintro e w2 ⟨b, rfl, hb, hF2⟩
  have HF2 := hid hF2
  have HB := hid hb
  clear hb hF2 p1 l1 u1 v1 m1
  obtain ⟨p2, l2, u2, v2, m2⟩ := HXW.out _ HF2.out
  cases b with
  | false =>
    go_wp2_with fail
    refine (HAW.out _ (HF1.out.trans HF2.out)).mono ?_
    rintro e w3 ⟨rfl, hF3⟩
    go_wp2_with fail
    go_ret
    exact ⟨rfl, (HF1.out.trans HF2.out).trans hF3⟩
  | true =>
    obtain ⟨b1, b2, _⟩ := HB.out rfl
    have hn40 : n ≤ 40 := by rw [← HN.out]; exact b1
    have HN40 := hid hn40
    have HFU := hid b2
    have HRU := hid (fun Q A2 c2 fu W (hW : Tabs W) (hq : Prg W W.heap.size A2 Q) (hl : Q.length = n) => run_any A2 n c2 Q fu W hW hq hl (by omega))
    have HAC := hid (accepts_any A n c P w2 (HT.out _ (HF1.out.trans HF2.out)) (HP.out _ (HF1.out.trans HF2.out)) HN.out (by omega))
    obtain ⟨ab, hab⟩ : ∃ ab, accB P = ab := ⟨_, rfl⟩
    have HAB := hid hab
    rw [hab] at HAC
    clear b1 b2 hab HB hn40
    go_wp2_with fail
    refine HAC.out.mono ?_
    rintro e w3 ⟨rfl, hF3⟩
    have HF3 := hid (HF2.out.trans hF3)
    clear hF3 p2 l2 u2 v2 m2
    obtain ⟨p3, l3, u3, v3, m3⟩ := HXW.out _ HF3.out
    cases ab with
    | false =>
      go_wp2_with fail
      refine (HAW.out _ (HF1.out.trans HF3.out)).mono ?_
      rintro e w4 ⟨rfl, hF4⟩
      go_wp2_with fail
      go_ret
      exact ⟨rfl, (HF1.out.trans HF3.out).trans hF4⟩
    | true =>
      have HA := hid (accB_true.1 HAB.out)
      by_cases c1 : q0 < 1
      · go_wp2_with fail
        refine (HAW.out _ (HF1.out.trans HF3.out)).mono ?_
        rintro e w4 ⟨rfl, hF4⟩
        go_wp2_with fail
        go_ret
        exact ⟨rfl, (HF1.out.trans HF3.out).trans hF4⟩
      by_cases c2 : (n : Int) ≤ q0
      · go_wp2_with fail
        refine (HAW.out _ (HF1.out.trans HF3.out)).mono ?_
        rintro e w4 ⟨rfl, hF4⟩
        go_wp2_with fail
        go_ret
        exact ⟨rfl, (HF1.out.trans HF3.out).trans hF4⟩
      obtain ⟨q, rfl⟩ : ∃ q : Nat, q0 = q := ⟨q0.toNat, by omega⟩
      have HQ := hid (show 1 ≤ q ∧ q < n from ⟨by omega, by omega⟩)
      obtain ⟨g, o, rfl, hg, hgc⟩ := HP0.out (by rw [HN.out]; have := HQ.out; omega)
      obtain ⟨f, hf⟩ : ∃ f, P[q]? = some f := ⟨_, List.getElem?_eq_getElem (by rw [HN.out]; exact HQ.out.2)⟩
      obtain ⟨A', c', k0, k1, _⟩ := hgc q f hf
      obtain ⟨nd, hnd⟩ : ∃ nd, f.needs = nd := ⟨_, rfl⟩
      have g3 : w3.cell? ⟨g, o + q * 2, none⟩ = some (.int .i64 nd) := by rw [← hnd]; exact (cell_keep (HF1.out.trans HF3.out) (p := ⟨g, o + q * 2, none⟩) hg (fun h => h)).trans k0
      have hg3 : g < w3.heap.size := Nat.lt_of_lt_of_le hg (HF1.out.trans HF3.out).size
      have HND := hid (show needsOf P q = nd by unfold needsOf; rw [Int.toNat_natCast, hf]; exact hnd)
      clear hg hgc hf k0 k1 hnd
      have hq0 : (0 : Int) ≤ q ∧ (q : Int) < n := by omega
      by_cases c3 : nd = 0
      · have tn : (nd != 0) = false := bne_eq_false_iff_eq.2 c3
        by_cases c4 : V < -2147483648
        · go_wp2_with fail
          refine (HAW.out _ (HF1.out.trans HF3.out)).mono ?_
          rintro e w4 ⟨rfl, hF4⟩
          go_wp2_with fail
          go_ret
          exact ⟨rfl, (HF1.out.trans HF3.out).trans hF4⟩
        by_cases c5 : 2147483647 < V
        · go_wp2_with fail
          refine (HAW.out _ (HF1.out.trans HF3.out)).mono ?_
          rintro e w4 ⟨rfl, hF4⟩
          go_wp2_with fail
          go_ret
          exact ⟨rfl, (HF1.out.trans HF3.out).trans hF4⟩
        have HV := hid (show -2147483648 ≤ V ∧ V ≤ 2147483647 from ⟨by omega, by omega⟩)
        go_wp2_with fail
        obtain ⟨w4, hw4⟩ : ∃ w4, w4 = w3.alloc (.cells ((twCode V q).flatMap Ins.cells).toArray 43) := ⟨_, rfl⟩
        have HF4 := hid (show Fr (fun _ => False) w3 w4 by rw [hw4]; exact Fr.alloc _ _ _)
        have HB4 := hid (show Blk w4 w3.heap.size ((twCode V q).flatMap Ins.cells).toArray by rw [hw4]; exact Blk.new _ _ _)
        have HF14 := hid ((HF1.out.trans HF3.out).trans HF4.out)
        change Calls _ _ _ (w3.alloc (.cells ((twCode V q).flatMap Ins.cells).toArray 43)) _
        rw [← hw4]
        clear hw4 p3 l3 u3 v3 m3 g3 hg3 c1 c2 c4 c5 tn hq0
        refine (withP_any (some ⟨g, o, none⟩) c P n (twCode V q) w3.heap.size 4 4 w4 (HP.out _ HF14.out) HN.out (by have := HQ.out; omega) HN40.out (cod_blk HB4.out rfl HB4.out.lt) rfl).mono ?_
        rintro e w5 ⟨g2, c2, rfl, hQ5, hF5⟩
        obtain ⟨w6, hw6⟩ : ∃ w6, w6 = w5.alloc (.cells #[.slice (some ⟨g2, 0, none⟩) n c2] 24) := ⟨_, rfl⟩
        have HF16 := hid (show Fr (fun _ => False) w w6 by rw [hw6]; exact (HF14.out.trans hF5).trans (Fr.alloc _ _ _))
        have HQ6 := hid (show Prg w6 w6.heap.size (some ⟨g2, 0, none⟩) (P.set 0 ⟨0, twCode V q⟩) by
          have hf : Fr (fun _ => False) w5 w6 := by rw [hw6]; exact Fr.alloc _ _ _
          exact (hQ5.same hf (Nat.le_refl _)).more hf.size)
        have hb6 : Blk w6 w5.heap.size #[.slice (some ⟨g2, 0, none⟩) n c2] := by rw [hw6]; exact Blk.new _ _ _
        have b6 : w6.cell? ⟨w5.heap.size, 0, none⟩ = some (.slice (some ⟨g2, 0, none⟩) n c2) := hb6.cell rfl
        have l6 := hb6.lt
        clear hQ5 hF5 hb6
        go_upto_region 4 with fail
        rw [← hw6]
        clear hw6
        go_wp2_with fail
        refine (HRU.out (P.set 0 ⟨0, twCode V q⟩) (some ⟨g2, 0, none⟩) c2 fuel w6 (HT.out _ HF16.out) HQ6.out (by rw [List.length_set]; exact HN.out)).mono ?_
        rintro e w7 ⟨rows, st, er, A7, cap7, hri, rfl, hO7, hF7⟩
        have HF7 := hid (HF16.out.trans hF7)
        have HRI := hid hri
        have HRD := hid (OwnR.rdR hO7)
        obtain ⟨ln, hln⟩ : ∃ ln, rows.length = ln := ⟨_, rfl⟩
        rw [hln]
        have HLN := hid hln
        have HFW := hid (run_few hri).1
        clear hri hO7 hF7 hln b6 l6
        by_cases he : er = 0
        · subst he
          obtain ⟨r0, L, hB, hrows⟩ := RunIs.twice HA.out HQ.out.1 (by rw [HN.out]; exact HQ.out.2) (HND.out.trans c3) HRI.out
          obtain ⟨m, hm⟩ : ∃ m, L.length = m := ⟨_, rfl⟩
          rw [hm] at hrows
          have hlm : ln = 2 * m + 1 := by rw [← HLN.out, hrows]; simp [shL_len, hm]; omega
          have hm1 : 1 ≤ m := by
            obtain ⟨r, hr, _⟩ := hB.first
            have := (List.getElem?_eq_some_iff.1 hr).1
            omega
          have HROW := hid hrows
          have HBR := hid hB
          have HML := hid hm
          have hlb : ln ≤ 1048577 := by have := HFW.out; rw [HLN.out] at this; exact this
          have HLB := hid (And.intro hlm (And.intro hm1 hlb))
          clear hB hrows hm hlm hm1 hlb
          obtain ⟨M, hM, hM1⟩ := sizeRow
          have hM0 : ¬ M = 0 := by omega
          obtain ⟨gr, hg, hgl, a1, a2⟩ := twice_cells HRD.out HBR.out HROW.out HML.out hM
          subst hg
          obtain ⟨dm, m1, hm1, e1, e2, e3, e4, e5, ht⟩ := twice_nums HLB.out.1 HLB.out.2.2
          obtain ⟨t1, t2, t3, t4⟩ := ht HLB.out.2.1
          rw [← hm1] at a2
          have HM := hid hM
          have HM1 := hid hm1
          clear hm1 hM ht
          go_wp2_with fail
          clear e1 e2 e3 e4 e5 t1 t2 t3 t4 a1 a2
          go_loopg [12] (m + 1) (fun d k wr => TwRel m w7 d k wr)
          case atStart => exact ⟨1, Nat.le_refl _, by omega, by omega, rfl, Fr.refl _ _⟩
          case round =>
            obtain ⟨j, hj1, hj2, hd, rfl, hF⟩ := hrel
            have HF := hid hF
            have HD := hid hd
            clear hF hd
            by_cases hlt : j ≤ m
            · obtain ⟨r, s, hr, hs, hs1, hs2⟩ := twice_rows HBR.out HROW.out HML.out hj1 hlt
              have HS1 := hid hs1
              have HS2 := hid hs2
              have l1 := (HRD.out.same HF.out).load hr rfl HM.out
              have hgl1 : gr < wr.heap.size := Nat.lt_of_lt_of_le hgl HF.out.size
              have HR := hid hr
              have HS := hid hs
              obtain ⟨rc, hrc⟩ : ∃ rc, r.cells.toArray = rc := ⟨_, rfl⟩
              obtain ⟨sc, hsc⟩ : ∃ sc, s.cells.toArray = sc := ⟨_, rfl⟩
              rw [hrc] at l1
              have HRC := hid hrc
              have HSC := hid hsc
              have hir : rc.size = M := by rw [← hrc, HM.out]; rfl
              have his : sc.size = M := by rw [← hsc, HM.out]; rfl
              have hor : rc.all (·.oneCell') = true := by rw [← hrc]; simp [Rw.cells, Value.oneCell']
              have hos : sc.all (·.oneCell') = true := by rw [← hsc]; simp [Rw.cells, Value.oneCell']
              have hst13 : ∀ (V : World), (storeCells ⟨V.heap.size, 0, none⟩ rc.toList 0).run Tryd.prog (V.alloc (.cells zero7 33)) = .ok () ((V.alloc (.cells zero7 33)).setRow V.heap.size rc) := fun V => store_at (n := 7) (Blk.new V zero7 _) rfl (hir.trans HM.out) hor
              have hst14 : ∀ (V : World), (storeCells ⟨V.heap.size, 0, none⟩ sc.toList 0).run Tryd.prog (V.alloc (.cells zero7 33)) = .ok () ((V.alloc (.cells zero7 33)).setRow V.heap.size sc) := fun V => store_at (n := 7) (Blk.new V zero7 _) rfl (his.trans HM.out) hos
              obtain ⟨b13, hb13⟩ : ∃ b, wr.heap.size = b := ⟨_, rfl⟩
              obtain ⟨w8, hw8⟩ : ∃ w8, w8 = (wr.alloc (.cells zero7 33)).setRow wr.heap.size rc := ⟨_, rfl⟩
              have HF8 := hid (show Fr (fun _ => False) w7 w8 by rw [hw8]; exact (HF.out.trans (Fr.alloc _ _ _)).over (setRow_fr _ _ _ rfl) HF.out.size)
              have HB8 := hid (show TBlk w8 b13 rc 33 by rw [hw8, ← hb13]; exact setRow_tblk (TBlk.new _ _ _) rc)
              unfold zero7 at hst13 hst14 hw8
              obtain ⟨mj, hmj, e6, t6, t7, t8, t9, t10⟩ := twice_sum HLB.out.1 hlt HLB.out.2.2
              have HMJ := hid hmj
              have HB13 := hid hb13
              clear hr hs hs1 hs2 hrc hsc hor hos hlt hj1 hj2 hmj hb13
              go_upto_region 14 with fail
              rw [← hw8, HB13.out]
              clear hw8 l1 hst13
              have l2 := (HRD.out.same HF8.out).load HS.out rfl HM.out
              rw [HSC.out, ← HMJ.out] at l2
              have hgl2 : gr < w8.heap.size := Nat.lt_of_lt_of_le hgl HF8.out.size
              obtain ⟨b14, hb14⟩ : ∃ b, w8.heap.size = b := ⟨_, rfl⟩
              obtain ⟨w9, hw9⟩ : ∃ w9, w9 = (w8.alloc (.cells zero7 33)).setRow w8.heap.size sc := ⟨_, rfl⟩
              have HF9 := hid (show Fr (fun _ => False) w8 w9 by rw [hw9]; exact (Fr.alloc _ _ _).over (setRow_fr _ _ _ rfl) (Nat.le_refl _))
              have HB9 := hid (show TBlk w9 b14 sc 33 by rw [hw9, ← hb14]; exact setRow_tblk (TBlk.new _ _ _) sc)
              have HB89 := hid (HB8.out.keep HF9.out (fun h => h))
              have h1314 : ¬ b13 = b14 := by have := (TBlk.blk HB8.out).lt; omega
              unfold zero7 at hw9
              have HB14 := hid hb14
              clear hb14
              go_upto_region 15 with fail
              rw [← hw9, HB14.out]
              clear hw9 l2 hst14 e6 t6 t7 t8 t9 hgl1 hgl2
              have hne : ∀ W, (binOp .neq 33 (.agg rc) (.agg rc)).run Tryd.prog W = .ok (.bool false) W := fun W => by
                have := neqRw r r W
                rw [Rw.same_iff.2 rfl, HRC.out] at this
                exact this
              have lb13 : b13 < w9.heap.size := (TBlk.blk HB89.out).lt
              have lb14 : b14 < w9.heap.size := (TBlk.blk HB9.out).lt
              have HT10 := hid t10
              clear t10
              by_cases hjj : 1 < j
              · obtain ⟨hs, hle, hge⟩ := HS1.out hjj
                obtain ⟨pa, hpa⟩ : ∃ pa, r.par = pa := ⟨_, rfl⟩
                obtain ⟨pb, hpb⟩ : ∃ pb, pa + m = pb := ⟨_, rfl⟩
                have hsc0 : sc[0]? = some (.int .i64 pb) := by
                  rw [← HSC.out, hs, ← hpb, ← hpa]
                  rfl
                have b0 := (TBlk.blk HB9.out).cell hsc0
                have z0 := (TBlk.blk HB9.out).frozen 0
                have hset : sc.setIfInBounds 0 (.int .i64 pa) = rc := by
                  rw [← HSC.out, hs, ← HRC.out, ← hpa]
                  rfl
                obtain ⟨w10, hw10⟩ : ∃ w10, w10 = w9.setCell ⟨b14, 0, none⟩ (.int .i64 pa) := ⟨_, rfl⟩
                have hF10 : Fr (fun k => k = b14) w9 w10 := by rw [hw10]; exact Fr.setCell _ _ _ rfl
                have hB10 : TBlk w10 b14 rc 33 := by
                  have := TBlk.set HB9.out 0 (.int .i64 pa)
                  rw [hset, ← hw10] at this
                  exact this
                have k14 := load_eq (P := Tryd.prog) (TBlk.blk hB10) hir
                have k13 := load_eq (P := Tryd.prog) (TBlk.blk (HB89.out.keep hF10 h1314)) hir
                have HF10 := hid (show Fr (fun _ => False) w7 w10 from (HF8.out.trans HF9.out).since hF10 (fun i hi hl => by have := HB14.out; have := HF8.out.size; omega))
                have lc13 : b13 < w10.heap.size := Nat.lt_of_lt_of_le lb13 hF10.size
                have lc14 : b14 < w10.heap.size := Nat.lt_of_lt_of_le lb14 hF10.size
                have t11 : (1 : Int) < j := by omega
                have e7 : wrap64 (pb - m) = pa := by rw [← hpb]; exact twice_sub (by omega) (by omega) (j := j) (by have := HT10.out; omega) (by have := HLB.out; omega)
                clear hjj hs hle hge hpa hpb hsc0 hset hF10 hB10
                go_upto_region 17 with fail
                rw [← hw10]
                clear hw10 b0 z0 e7 lb13 lb14
                go_wp2_with fail
                go_roundg (m + 2 - (j + 1))
                case rel => exact ⟨j + 1, by omega, by have := HT10.out; omega, by omega, congrArg (Value.int .i64) (by rw [wrap_small (by omega) (by have := HT10.out; have := HLB.out; omega)]; omega), HF10.out⟩
                case measure => have := HD.out; have := HT10.out; omega
              · have hs := HS2.out hjj
                have hscr : sc = rc := by rw [← HSC.out, hs, HRC.out]
                have t11 : ¬ (1 : Int) < j := by omega
                subst hscr
                have k14 := load_eq (P := Tryd.prog) (TBlk.blk HB9.out) hir
                have k13 := load_eq (P := Tryd.prog) (TBlk.blk HB89.out) hir
                clear hjj hs
                go_wp2_with fail
                go_roundg (m + 2 - (j + 1))
                case rel => exact ⟨j + 1, by omega, by have := HT10.out; omega, by omega, (by have := HT10.out; have := HLB.out; go_num), HF8.out.trans HF9.out⟩
                case measure => have := HD.out; have := HT10.out; omega
            · have hlt2 : ¬ (j : Int) ≤ m := by omega
              go_wp2_with fail
              refine (HAW.out _ (HF7.out.trans HF.out)).mono ?_
              rintro e w8 ⟨rfl, hF8⟩
              go_wp2_with fail
              go_ret
              exact ⟨rfl, (HF7.out.trans HF.out).trans hF8⟩
        · have hw := RunIs.whys (tw_acc HA.out (by rw [HN.out]; exact HQ.out.2) (HND.out.trans c3) HV.out.1 HV.out.2) (by have := HFU.out; omega) HRI.out he
          clear he
          rcases hw with rfl | rfl | ⟨rfl, hneg⟩
          all_goals
            go_wp2_with fail
            refine (HAW.out _ HF7.out).mono ?_
            rintro e w8 ⟨rfl, hF8⟩
            go_wp2_with fail
            go_ret
            exact ⟨rfl, HF7.out.trans hF8⟩
      · have tn : (nd != 0) = true := bne_iff_ne.2 c3
        go_wp2_with fail
        refine (HAW.out _ (HF1.out.trans HF3.out)).mono ?_
        rintro e w4 ⟨rfl, hF4⟩
        go_wp2_with fail
        go_ret
        exact ⟨rfl, (HF1.out.trans HF3.out).trans hF4⟩

end Go.Proofs.YtpjcdjooiaefdaaDoor
