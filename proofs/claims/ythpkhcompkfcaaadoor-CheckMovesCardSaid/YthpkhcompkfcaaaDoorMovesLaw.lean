/-
  CheckMoves.
-/
import Derived.Test.YthpkhcompkfcaaaDoorMoved
import Derived.Test.YthpkhcompkfcaaaDoorNeedsLaw
import Derived.Test.YthpkhcompkfcaaaDoorPlainF
namespace Go.Proofs.YthpkhcompkfcaaaDoor
open Go.RowKit
set_option linter.unusedVariables false

def MnRel (l : List Ins) (n : Nat) (w : World) (d : Nat) (k : Value) (wr : World) : Prop := ∃ j : Nat, j ≤ n ∧ d = n - j ∧ k = .int .i64 j ∧ (∀ (i : Nat) x, i < j → l[i]? = some x → isJ x = true → 0 ≤ x.n ∧ x.n ≤ 126) ∧ Fr (fun _ => False) w wr

/-- The copy, one function of which is moved. -/
def MoCome (W : World) (W1 : World) (B : Nat) (g2 n c2 : Nat) (Q : List Fn) (wx : World) : Prop := Prg wx wx.heap.size (some ⟨g2, 0, none⟩) Q ∧ Blk wx B #[.slice (some ⟨g2, 0, none⟩) n c2] ∧ Fr (fun k => k = g2) W1 wx

theorem mo_come {W w5 w6 : World} {B Bq B6 g2 n c2 kk ln c3 : Nat} {L : List Fo} {P : List Fn} {needs : Int} {l : List Ins} {A3 : Option Addr} (ho : OwnR w5 B 29 2 (some ⟨g2, 0, none⟩) n c2 (L.flatMap Fo.cells)) (hL : L.map Fo.f = P) (hln : l.length = ln) (hkn : kk < n) (hlc : ∀ x ∈ L, Cod W W.heap.size x.A x.f.code) (hW : Fr (fun _ => False) W w5) (hWg : W.heap.size ≤ g2)
    (hq : Blk w5 Bq #[.slice (some ⟨g2, 0, none⟩) n c2]) (hqg : ¬ g2 = Bq) (F : Fr (fun _ => False) w5 w6) (hcod : OwnR w6 B6 44 5 A3 (ln + 1) c3 ((movF ⟨needs, l⟩).code.flatMap Ins.cells)) (hB6 : g2 < B6) :
    MoCome W w5 Bq g2 n c2 (P.set kk (movF ⟨needs, l⟩)) ((w6.setCell ⟨g2, kk * 2, none⟩ (.int .i64 needs)).setCell ⟨g2, kk * 2 + 1, none⟩ (.slice A3 (ln + 1) c3)) := by
  obtain ⟨wf, hwf⟩ : ∃ wf, wf = (w6.setCell ⟨g2, kk * 2, none⟩ (.int .i64 needs)).setCell ⟨g2, kk * 2 + 1, none⟩ (.slice A3 (ln + 1) c3) := ⟨_, rfl⟩
  rw [← hwf]
  have hFf : Fr (fun k => k = g2) w6 wf := by rw [hwf]; exact (Fr.setCell (S := fun k => k = g2) _ _ _ rfl).trans (Fr.setCell (S := fun k => k = g2) _ _ _ rfl)
  have hF5 : Fr (fun k => k = g2) w5 wf := (F.mono (fun _ h => h.elim)).trans hFf
  have hWf : Fr (fun _ => False) W wf := Fr.since hW hF5 (fun i hi hl => by omega)
  have hlen : (movF ⟨needs, l⟩).code.length = ln + 1 := by rw [movF_len, hln]
  refine ⟨?_, hq.keep hF5 (fun e => hqg e.symm), hF5⟩
  have h := prg_put (x := ⟨movF ⟨needs, l⟩, A3, c3⟩) (w' := wf) (k := kk) (OwnR.same ho F) hkn (by rw [hwf]; show _ = (w6.setCell _ (.int .i64 needs)).setCell _ (.slice A3 (movF ⟨needs, l⟩).code.length c3); rw [hlen]) (fun y hy => ((hlc y hy).same hWf (Nat.le_refl _)).more hWf.size) (by
    refine OwnI.cod (B := B6) (cap := c3) ?_
    unfold OwnI
    show OwnR wf B6 _ 5 A3 (movF ⟨needs, l⟩).code.length c3 _
    rw [hlen]
    exact OwnR.keep hcod hFf (fun i hi e => by have := (OwnR.lt hcod i hi).1; omega))
  rw [hL] at h
  exact h

theorem acc_eq {P : List Fn} {kk : Nat} {f : Fn} (hf : P[kk]? = some f) (hN : Near f.code) (h1 : 1 ≤ f.code.length) (h2 : f.code.length ≤ 126) : accB (P.set kk (movF f)) = accB P := by
  rw [Bool.eq_iff_iff, accB_true, accB_true]
  exact acc_moved hf hN h1 h2

set_option maxRecDepth 100000 in
set_option maxHeartbeats 4000000 in
theorem movesLaw (A : Option Addr) (c : Nat) (P : List Fn) (k0 : Int) (W : World) (ht : Tabs W) (hp : Prg W W.heap.size A P) :
    Calls Tryd.prog 8 #[.agg #[.slice A P.length c], .int .i64 k0] W (LawPost W) := by
  have HP := hid hp
  clear hp
  obtain ⟨n, hn⟩ : ∃ n, P.length = n := ⟨_, rfl⟩
  rw [hn]
  have HN := hid hn
  clear hn
  obtain ⟨w1, hw1⟩ : ∃ w1, w1 = W.alloc (.cells #[.slice A n c] 34) := ⟨_, rfl⟩
  have HA := hid (show Fr (fun _ => False) W w1 by rw [hw1]; exact Fr.alloc _ _ _)
  have hBx : Blk w1 W.heap.size #[.slice A n c] := by rw [hw1]; exact Blk.new _ _ _
  have HBX := hid hBx
  have q0 : w1.cell? ⟨W.heap.size, 0, none⟩ = some (.slice A n c) := hBx.cell rfl
  have ql := hBx.lt
  clear hBx
  go_enter Tryd.func8, Tryd.ntmps8
  go_upto_region 1 with fail
  rw [← hw1]
  clear hw1
  go_wp2_with fail
  refine (few_any A n c P w1 ((HP.out.same HA.out (Nat.le_refl _)).more HA.out.size) HN.out).mono ?_
  rintro e w2 ⟨fb, rfl, hfb, hF2⟩
  have HFB := hid hfb
  have HF2 := hid (HA.out.trans hF2)
  have HB2 := hid (HBX.out.keep hF2 (fun h => h))
  have q0 : w2.cell? ⟨W.heap.size, 0, none⟩ = some (.slice A n c) := HB2.out.cell rfl
  have ql := HB2.out.lt
  clear hfb hF2
  have hm : fb = false ∨ (fb = true ∧ k0 < 0) ∨ (fb = true ∧ ¬ k0 < 0 ∧ (n : Int) ≤ k0) ∨ (fb = true ∧ ¬ k0 < 0 ∧ ¬ (n : Int) ≤ k0) := by
    cases fb <;> simp <;> omega
  rcases hm with rfl | ⟨rfl, h0⟩ | ⟨rfl, h0, h1⟩ | ⟨rfl, h0, h1⟩
  · go_wp2_with fail
    refine (awake_any w2 (ht.same HF2.out)).mono ?_
    rintro e w4 ⟨rfl, hF4⟩
    have HF4 := hid (HF2.out.trans hF4)
    clear hF4
    go_wp2_with fail
    go_ret
    exact ⟨rfl, HF4.out⟩
  · go_wp2_with fail
    refine (awake_any w2 (ht.same HF2.out)).mono ?_
    rintro e w4 ⟨rfl, hF4⟩
    have HF4 := hid (HF2.out.trans hF4)
    clear hF4
    go_wp2_with fail
    go_ret
    exact ⟨rfl, HF4.out⟩
  · go_wp2_with fail
    refine (awake_any w2 (ht.same HF2.out)).mono ?_
    rintro e w4 ⟨rfl, hF4⟩
    have HF4 := hid (HF2.out.trans hF4)
    clear hF4
    go_wp2_with fail
    go_ret
    exact ⟨rfl, HF4.out⟩
  · have hFEW := HFB.out rfl
    have hn40 : n ≤ 40 := by rw [← HN.out]; exact hFEW.1
    have HFL := hid hFEW.2
    obtain ⟨kk, rfl⟩ : ∃ kk : Nat, k0 = kk := ⟨k0.toNat, by omega⟩
    have hkn : kk < n := by omega
    have hq2 : ¬ n ≤ kk := by omega
    obtain ⟨⟨needs, l⟩, hf⟩ : ∃ f, P[kk]? = some f := ⟨_, List.getElem?_eq_getElem (by rw [HN.out]; exact hkn)⟩
    have HFK := hid hf
    have hle := HFL.out kk _ hf
    simp only at hle
    obtain ⟨ln, hln⟩ : ∃ ln, l.length = ln := ⟨_, rfl⟩
    rw [hln] at hle
    have HLN := hid hln
    obtain ⟨g, o, L, rfl, hg, hLm, hLc, hLd⟩ := prg_fos HP.out (by rw [HN.out]; omega)
    have HLM := hid hLm
    have HLC := hid hLc
    have HLL := hid (show L.length = n by have := congrArg List.length hLm; rw [List.length_map, HN.out] at this; exact this)
    obtain ⟨x, hx⟩ : ∃ x, L[kk]? = some x := ⟨_, List.getElem?_eq_getElem (by rw [HLL.out]; exact hkn)⟩
    have hxf : x.f = ⟨needs, l⟩ := by
      have h := congrArg (fun z => z[kk]?) HLM.out
      simp only [List.getElem?_map, hx, HFK.out, Option.map_some, Option.some.injEq] at h
      exact h
    obtain ⟨xf, A', c'⟩ := x
    simp only at hxf
    subst hxf
    have HXL := hid hx
    have HCX := hid (show Cod W W.heap.size A' l from HLC.out _ (List.mem_of_getElem? hx))
    have HP0 := hid (show W.cell? ⟨g, o + kk * 2, none⟩ = some (.int .i64 needs) from hLd (kk * 2) _ (by rw [← Nat.add_zero (kk * 2), flat_at Fo.cells 2 Fo.cells_len hx (by omega)]; rfl))
    have HP1 := hid (show W.cell? ⟨g, o + kk * 2 + 1, none⟩ = some (.slice A' ln c') from hLd (kk * 2 + 1) _ (by rw [flat_at Fo.cells 2 Fo.cells_len hx (by omega)]; rw [← HLN.out]; rfl))
    have HLD := hid hLd
    have p1 := (cell_keep HF2.out (p := ⟨g, o + kk * 2 + 1, none⟩) hg (fun h => h)).trans HP1.out
    have hgl : g < w2.heap.size := Nat.lt_of_lt_of_le hg HF2.out.size
    clear hf hln hLm hLc hLd hFEW h0 h1 hx
    by_cases hl1 : ln < 1
    · go_wp2_with fail
      refine (awake_any w2 (ht.same HF2.out)).mono ?_
      rintro e w4 ⟨rfl, hF4⟩
      have HF4 := hid (HF2.out.trans hF4)
      clear hF4
      go_wp2_with fail
      go_ret
      exact ⟨rfl, HF4.out⟩
    by_cases hl2 : 126 < ln
    · go_wp2_with fail
      refine (awake_any w2 (ht.same HF2.out)).mono ?_
      rintro e w4 ⟨rfl, hF4⟩
      have HF4 := hid (HF2.out.trans hF4)
      clear hF4
      go_wp2_with fail
      go_ret
      exact ⟨rfl, HF4.out⟩
    · have hl1' : 1 ≤ ln := by omega
      have hl2' : ln ≤ 126 := by omega
      go_upto_region 3 with fail
      go_cut [5] from 8 to 41 (fun u wx => u = .int .i64 0 ∧ wx = w2)
      case first =>
        go_wp2_with fail
        go_meet
        exact ⟨rfl, rfl⟩
      case rest =>
      obtain ⟨rfl, rfl⟩ := hcut
      clear hl1 hl2 hq2 hkn
      go_wp2_with fail
      go_loopg [5] ln (fun d k wr => MnRel l ln wc d k wr)
      case atStart => exact ⟨0, by omega, by omega, rfl, fun i x h => by omega, Fr.refl _ _⟩
      case round =>
        obtain ⟨wo, rfl⟩ : ∃ wo, wo = wr := ⟨_, rfl⟩
        obtain ⟨j, hj, hd, rfl, hall, hF⟩ := hrel
        have HD := hid hd
        have HALL := hid hall
        have HF := hid hF
        have hFW := HF2.out.trans hF
        have HFW := hid hFW
        have hkn : kk < n := by have := (List.getElem?_eq_some_iff.1 HFK.out).1; rw [HN.out] at this; exact this
        have hb2 := HB2.out.keep hF (fun h => h)
        have q0 : wo.cell? ⟨W.heap.size, 0, none⟩ = some (.slice (some ⟨g, o, none⟩) n c) := hb2.cell rfl
        have ql := hb2.lt
        have p1 := (cell_keep hFW (p := ⟨g, o + kk * 2 + 1, none⟩) hg (fun h => h)).trans HP1.out
        have hgl : g < wo.heap.size := Nat.lt_of_lt_of_le hg hFW.size
        clear hd hall hb2
        by_cases hlt : j < ln
        · obtain ⟨⟨op, a, b, ci, m⟩, hik⟩ : ∃ i, l[j]? = some i := ⟨_, List.getElem?_eq_getElem (by rw [HLN.out]; exact hlt)⟩
          obtain ⟨g2, o2, rfl, hg2, hcell2⟩ := (HCX.out.same hFW (Nat.le_refl _)) (by rw [HLN.out]; omega)
          obtain ⟨s0, s1, s2, s3, s4⟩ := hcell2 j _ hik
          simp only at s0 s1 s2 s3 s4
          have hgl2 : g2 < wo.heap.size := Nat.lt_of_lt_of_le hg2 hFW.size
          have HX := hid hik
          have hnext : (isJ ⟨op, a, b, ci, m⟩ = true → 0 ≤ m ∧ m ≤ 126) → ∀ (i : Nat) x, i < j + 1 → l[i]? = some x → isJ x = true → 0 ≤ x.n ∧ x.n ≤ 126 := fun h i x hi hx hJ => by
            rcases Nat.lt_or_ge i j with h2 | h2
            · exact HALL.out i x h2 hx hJ
            · obtain rfl : i = j := by omega
              have := HX.out
              rw [hx] at this
              cases this
              exact h hJ
          have HNX := hid hnext
          clear hcell2 hik hF hFW hnext
          by_cases hJ : op = 6 ∨ op = 7
          · by_cases hm : m < 0 ∨ 126 < m
            · rcases hJ with rfl | rfl
              all_goals
                rcases hm with hm | hm
                · go_wp2_with fail
                  refine (awake_any _ (ht.same (HFW.out.trans (Fr.alloc _ _ _)))).mono ?_
                  rintro e w4 ⟨rfl, hF4⟩
                  have HF4 := hid ((HFW.out.trans (Fr.alloc _ _ _)).trans hF4)
                  clear hF4
                  go_wp2_with fail
                  go_ret
                  exact ⟨rfl, HF4.out⟩
                · have hm0 : ¬ m < 0 := by omega
                  go_wp2_with fail
                  refine (awake_any _ (ht.same (HFW.out.trans (Fr.alloc _ _ _)))).mono ?_
                  rintro e w4 ⟨rfl, hF4⟩
                  have HF4 := hid ((HFW.out.trans (Fr.alloc _ _ _)).trans hF4)
                  clear hF4
                  go_wp2_with fail
                  go_ret
                  exact ⟨rfl, HF4.out⟩
            · have hm0 : ¬ m < 0 := fun h => hm (.inl h)
              have hm1 : ¬ 126 < m := fun h => hm (.inr h)
              have HNN := hid (HNX.out (fun _ => by omega))
              clear hm
              rcases hJ with rfl | rfl
              all_goals
                go_wp2_with fail
                go_roundg (ln - (j + 1))
                case rel => exact ⟨j + 1, by omega, rfl, by go_num, HNN.out, HF.out.trans (Fr.alloc _ _ _)⟩
                case measure => have := HD.out; omega
          · have t6 : (op == 6) = false := beq_eq_false_iff_ne.2 (fun h => hJ (.inl h))
            have t7 : (op == 7) = false := beq_eq_false_iff_ne.2 (fun h => hJ (.inr h))
            have HNN := hid (HNX.out (fun h => absurd (isJ_op h) hJ))
            clear hJ
            go_wp2_with fail
            go_roundg (ln - (j + 1))
            case rel => exact ⟨j + 1, by omega, rfl, by go_num, HNN.out, HF.out.trans (Fr.alloc _ _ _)⟩
            case measure => have := HD.out; omega
        · have HNEAR := hid (show Near l from fun i x hx hJ => HALL.out i x (by have := (List.getElem?_eq_some_iff.1 hx).1; rw [HLN.out] at this; omega) hx hJ)
          clear hF hFW
          obtain ⟨i0, hi, hz⟩ := Option.map_eq_some_iff.1 Tryd.infof
          simp only [Prod.mk.injEq] at hz
          obtain ⟨hz0, hz1, hz2⟩ := hz
          have HI := hid hi
          have HZ0 := hid hz0
          have HZ1 := hid hz1
          have HZ2 := hid hz2
          obtain ⟨w3, hw3⟩ : ∃ w3, w3 = wo.alloc (.cells #[.slice none 0 0] 34) := ⟨_, rfl⟩
          have HF3 := hid (show Fr (fun _ => False) wo w3 by rw [hw3]; exact Fr.alloc _ _ _)
          have HTQ := hid (show TBlk w3 wo.heap.size #[.slice none 0 0] 34 by rw [hw3]; exact TBlk.new _ _ _)
          have HW3 := hid (HFW.out.trans HF3.out)
          have HB3 := hid ((HB2.out.keep HF.out (fun h => h)).keep HF3.out (fun h => h))
          have HLD3 := hid (show ∀ (j : Nat) (u : Value), (L.flatMap Fo.cells)[j]? = some u → w3.cell? ((⟨g, o, none⟩ : Addr).add j) = some u from fun j u hu => by
            rw [add_none]
            exact (cell_keep HW3.out (p := ⟨g, o + j, none⟩) hg (fun h => h)).trans (HLD.out j u hu))
          clear hi hz0 hz1 hz2
          go_upto_region 10 with fail
          rw [← hw3]
          clear hw3 q0 p1
          have q0 : w3.cell? ⟨W.heap.size, 0, none⟩ = some (.slice (some ⟨g, o, none⟩) n c) := HB3.out.cell rfl
          have ql3 := HB3.out.lt
          have b0 : w3.cell? ⟨wo.heap.size, 0, none⟩ = some (.slice none 0 0) := HTQ.out.blk.cell rfl
          have bl := HTQ.out.blk.lt
          go_wp2_with (at_builtin; (refine wpList_append_own _ rfl _ _ 32 rfl wo.heap.size 29 i0 _ 2 32 Tryd.underlying32 HI.out HZ0.out HZ1.out HZ2.out rfl (by decide) (.slice none 0 0) 0 [] rfl (OwnR.nil _ _ _ _) ⟨g, o, none⟩ n c (L.flatMap Fo.cells) rfl (by rw [flat_len Fo.cells 2 Fo.cells_len, HLL.out]) HLD3.out (Fo.ones L) (by unfold maxLen; omega) (by omega) HF3.out.size ?_; intro v2 w4 hown2 hgrow2 hnil2; clear hnil2; rw [Nat.zero_add] at hown2; obtain ⟨A2, c2, rfl, ho2⟩ := OwnR.form hown2; rw [List.nil_append] at ho2; have HO2 := hid ho2; have HF4 := hid (own_nil_fr hgrow2); clear hown2 hgrow2 ho2; have hb4 := HTQ.out.blk.keep HF4.out (fun h => h); have b0 := hb4.cell (i := 0) rfl; have z0 := hb4.frozen 0; have bl := hb4.lt; clear hb4))
          obtain ⟨w5, hw5⟩ : ∃ w5, w5 = w4.setCell ⟨wo.heap.size, 0, none⟩ (.slice A2 n c2) := ⟨_, rfl⟩
          have hF5 : Fr (fun k => k = wo.heap.size) w4 w5 := by rw [hw5]; exact Fr.setCell _ _ _ rfl
          have hbq5 : Blk w5 wo.heap.size #[.slice A2 n c2] := by rw [hw5]; exact (HTQ.out.blk.keep HF4.out (fun h => h)).set 0 _
          have hne := OwnR.ne HO2.out (HTQ.out.keep HF4.out (fun h => h)) (by decide)
          have ho5 := OwnR.keep HO2.out hF5 (fun j hj e => hne (e ▸ hj))
          have hW5 : Fr (fun _ => False) W w5 := Fr.since (HW3.out.trans HF4.out) hF5 (fun i hi hl => by have := HFW.out.size; omega)
          have hb5 := (HB3.out.keep HF4.out (fun h => h)).keep hF5 (by omega)
          rw [← hw5]
          clear hw5 b0 z0 bl q0 ql ql3
          obtain ⟨g2, rfl, hg2, hg2l, hfz, hcl⟩ := OwnR.cell ho5 (by omega)
          have HO5 := hid ho5
          have HQ5 := hid hbq5
          have HW5 := hid hW5
          have HB5 := hid hb5
          have HFZ := hid hfz
          have HCL := hid hcl
          have hwl := HB2.out.lt
          have hw2o := HF.out.size
          have hng : ¬ g = g2 := by omega
          have hqg : ¬ g2 = wo.heap.size := fun e => hne ⟨_, rfl, e⟩
          have hWg : ¬ W.heap.size = g2 := by omega
          have v1 : (kk : Int) < (n : Int) := by omega
          have hgl5 : g < w5.heap.size := Nat.lt_of_lt_of_le hg hW5.size
          have bl := hbq5.lt
          have ql := hb5.lt
          clear hF5 hbq5 hne ho5 hW5 hb5 hfz hcl hgl
          have HS := hid (show ∀ w', Fr (fun k => k = g2) w5 w' → w'.cell? ⟨W.heap.size, 0, none⟩ = some (.slice (some ⟨g, o, none⟩) n c) ∧ w'.cell? ⟨wo.heap.size, 0, none⟩ = some (.slice (some ⟨g2, 0, none⟩) n c2) ∧ w'.cell? ⟨g, o + kk * 2, none⟩ = some (.int .i64 needs) ∧ w'.cell? ⟨g, o + kk * 2 + 1, none⟩ = some (.slice A' ln c') from fun w' F =>
            ⟨(HB5.out.keep F hWg).cell rfl, (HQ5.out.keep F (fun e => hqg e.symm)).cell rfl, (cell_keep F (p := ⟨g, o + kk * 2, none⟩) hgl5 hng).trans ((cell_keep HW5.out (p := ⟨g, o + kk * 2, none⟩) hg (fun h => h)).trans HP0.out), (cell_keep F (p := ⟨g, o + kk * 2 + 1, none⟩) hgl5 hng).trans ((cell_keep HW5.out (p := ⟨g, o + kk * 2 + 1, none⟩) hg (fun h => h)).trans HP1.out)⟩)
          have HMV := hid (fun (w' : World) (F : Fr (fun _ => False) w5 w') => moved_any ⟨needs, l⟩ A' ln c' w' HLN.out (by omega) ((HCX.out.same (HW5.out.trans F) (Nat.le_refl _)).more (HW5.out.trans F).size) HNEAR.out)
          have HFc := hid (Fr.refl (fun _ => False) w5)
          go_cut [88] from 89 to 97 (fun u wx => MoCome W w5 wo.heap.size g2 n c2 (P.set kk (movF ⟨needs, l⟩)) wx)
          case first =>
            go_region_held3 (fun w' => w'.cell? ⟨W.heap.size, 0, none⟩ = some (.slice (some ⟨g, o, none⟩) n c) ∧ w'.cell? ⟨wo.heap.size, 0, none⟩ = some (.slice (some ⟨g2, 0, none⟩) n c2) ∧ w'.cell? ⟨g, o + kk * 2, none⟩ = some (.int .i64 needs) ∧ w'.cell? ⟨g, o + kk * 2 + 1, none⟩ = some (.slice A' ln c'))
              (first | exact HS.out _ (HFc.out.mono (fun _ h => h.elim)) | exact HS.out _ ((HFc.out.trans (Fr.drew _ _)).mono (fun _ h => h.elim)) | exact HS.out _ ((HFc.out.mono (fun _ h => h.elim)).trans ((Fr.setCell (S := fun k => k = g2) _ _ _ rfl).trans (Fr.setCell (S := fun k => k = g2) _ _ _ rfl))))
              (first
                | (go_at_call 22; refine (HMV.out _ (by first | exact HFc.out | exact HFc.out.trans (Fr.drew _ _))).mono ?_; rintro e w6 ⟨A3, c3, rfl, hcod, hF6⟩; have HCM := hid hcod; have HB6 := hid (show g2 < w5.heap.size from hg2l); have HFc := hid (HFc.out.trans (Fr.trans (by first | exact Fr.refl _ _ | exact Fr.drew _ _) hF6)); have hown6 := OwnR.cell (OwnR.same HO5.out HFc.out) (by omega); obtain ⟨gg, eg, _, _, hfz6, hcl6⟩ := hown6; cases eg; have z0 := hfz6 (kk * 2); have z1 := hfz6 (kk * 2 + 1); have r0 := hcl6 (kk * 2) (.int .i64 needs) (by rw [← Nat.add_zero (kk * 2), flat_at Fo.cells 2 Fo.cells_len HXL.out (by omega)]; rfl); have r1 := hcl6 (kk * 2 + 1) (.slice A' ln c') (by rw [flat_at Fo.cells 2 Fo.cells_len HXL.out (by omega)]; rw [← HLN.out]; rfl); have bl6 := Nat.lt_of_lt_of_le hg2l HFc.out.size; clear hcod hF6 hfz6 hcl6))
            all_goals
              go_wp2_with fail
              go_meet
              exact mo_come HO5.out HLM.out HLN.out (by omega) HLC.out HW5.out (by omega) HQ5.out hqg HFc.out HCM.out HB6.out
          case rest =>
            obtain ⟨hQ, hbq, hFx⟩ := hcut
            obtain ⟨Q, hQQ⟩ : ∃ Q, Q = P.set kk (movF ⟨needs, l⟩) := ⟨_, rfl⟩
            rw [← hQQ] at hQ
            have hQn : Q.length = n := by rw [hQQ, List.length_set, HN.out]
            have hacc : accB Q = accB P := by rw [hQQ]; exact acc_eq HFK.out HNEAR.out (by show 1 ≤ l.length; rw [HLN.out]; exact hl1') (by show l.length ≤ 126; rw [HLN.out]; exact hl2')
            have hpln : plainP Q = plainP P := by rw [hQQ]; exact plain_moved HFK.out
            have hQl : ∀ (k : Nat) f, Q[k]? = some f → f.code.length ≤ 1000 := fun k f hf => by
              rw [hQQ] at hf
              rcases set_at HFK.out hf with ⟨_, rfl⟩ | ⟨_, hf⟩
              · rw [movF_len]; show l.length + 1 ≤ 1000; rw [HLN.out]; omega
              · have := HFL.out k f hf; omega
            have hWx : Fr (fun _ => False) W wc := Fr.since HW5.out hFx (fun i hi hl => by omega)
            have hbx := HB5.out.keep hFx hWg
            have HT := hid (fun (w' : World) (F : Fr (fun _ => False) wc w') => ht.same (hWx.trans F))
            have HAP := hid (fun (w' : World) (F : Fr (fun _ => False) wc w') => accepts_any (some ⟨g, o, none⟩) n c P w' (HT.out w' F) ((HP.out.same (hWx.trans F) (Nat.le_refl _)).more (hWx.trans F).size) HN.out (by omega))
            have HAQ := hid (fun (w' : World) (F : Fr (fun _ => False) wc w') => accepts_any (some ⟨g2, 0, none⟩) n c2 Q w' (HT.out w' F) ((hQ.same F (Nat.le_refl _)).more F.size) hQn (by omega))
            have HPP := hid (fun (w' : World) (F : Fr (fun _ => False) wc w') => plain_any (some ⟨g, o, none⟩) n c P w' ((HP.out.same (hWx.trans F) (Nat.le_refl _)).more (hWx.trans F).size) HN.out (by omega) (fun k f hf => by have := HFL.out k f hf; omega))
            have HPQ := hid (fun (w' : World) (F : Fr (fun _ => False) wc w') => plain_any (some ⟨g2, 0, none⟩) n c2 Q w' ((hQ.same F (Nat.le_refl _)).more F.size) hQn (by omega) hQl)
            have HAW := hid (fun (w' : World) (F : Fr (fun _ => False) wc w') => awake_any w' (HT.out w' F))
            rw [hacc] at HAQ
            rw [hpln] at HPQ
            obtain ⟨ab, hab⟩ : ∃ ab, accB P = ab := ⟨_, rfl⟩
            obtain ⟨pb, hpb⟩ : ∃ pb, plainP P = pb := ⟨_, rfl⟩
            rw [hab] at HAP HAQ
            rw [hpb] at HPP HPQ
            have HWX := hid hWx
            have HS2 := hid (show ∀ w', Fr (fun _ => False) wc w' → w'.cell? ⟨W.heap.size, 0, none⟩ = some (.slice (some ⟨g, o, none⟩) n c) ∧ w'.cell? ⟨wo.heap.size, 0, none⟩ = some (.slice (some ⟨g2, 0, none⟩) n c2) from fun w' F => ⟨(hbx.keep F (fun h => h)).cell rfl, (hbq.keep F (fun h => h)).cell rfl⟩)
            have HFd := hid (Fr.refl (fun _ => False) wc)
            have bl := hbq.lt
            have ql := hbx.lt
            have ta : (ab == ab) = true := by cases ab <;> rfl
            have tp : (pb == pb) = true := by cases pb <;> rfl
            clear hQ hbq hFx hQQ hQn hacc hpln hQl hWx hbx hab hpb
            go_upto_region 12 with fail
            go_region_held3 (fun w' => w'.cell? ⟨W.heap.size, 0, none⟩ = some (.slice (some ⟨g, o, none⟩) n c) ∧ w'.cell? ⟨wo.heap.size, 0, none⟩ = some (.slice (some ⟨g2, 0, none⟩) n c2))
              (first | exact HS2.out _ HFd.out | exact HS2.out _ (HFd.out.trans (Fr.drew _ _)))
              (first
                | (go_at_call 19; first
                    | (with_reducible refine (HAP.out _ (by first | exact HFd.out | exact HFd.out.trans (Fr.drew _ _))).mono ?_; rintro e w6 ⟨rfl, hF6⟩; have HFd := hid (HFd.out.trans (Fr.trans (by first | exact Fr.refl _ _ | exact Fr.drew _ _) hF6)); clear hF6)
                    | (with_reducible refine (HAQ.out _ (by first | exact HFd.out | exact HFd.out.trans (Fr.drew _ _))).mono ?_; rintro e w6 ⟨rfl, hF6⟩; have HFd := hid (HFd.out.trans (Fr.trans (by first | exact Fr.refl _ _ | exact Fr.drew _ _) hF6)); clear hF6))
                | (go_at_call 20; first
                    | (with_reducible refine (HPP.out _ (by first | exact HFd.out | exact HFd.out.trans (Fr.drew _ _))).mono ?_; rintro e w6 ⟨rfl, hF6⟩; have HFd := hid (HFd.out.trans (Fr.trans (by first | exact Fr.refl _ _ | exact Fr.drew _ _) hF6)); clear hF6)
                    | (with_reducible refine (HPQ.out _ (by first | exact HFd.out | exact HFd.out.trans (Fr.drew _ _))).mono ?_; rintro e w6 ⟨rfl, hF6⟩; have HFd := hid (HFd.out.trans (Fr.trans (by first | exact Fr.refl _ _ | exact Fr.drew _ _) hF6)); clear hF6))
                | (go_at_call 10; with_reducible refine (HAW.out _ (by first | exact HFd.out | exact HFd.out.trans (Fr.drew _ _))).mono ?_; rintro e w6 ⟨rfl, hF6⟩; have HFd := hid (HFd.out.trans (Fr.trans (by first | exact Fr.refl _ _ | exact Fr.drew _ _) hF6)); clear hF6))
            all_goals
              go_wp2_with fail
              go_ret
              exact ⟨rfl, HWX.out.trans HFd.out⟩

end Go.Proofs.YthpkhcompkfcaaaDoor
