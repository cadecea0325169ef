/-
  CheckNeeds.
-/
import Derived.Test.YthpkhcompkfcaaaDoorCopy
import Derived.Test.YthpkhcompkfcaaaDoorAwake
import Derived.Test.YthpkhcompkfcaaaDoorRefDepths
import Derived.BigRegion
import Derived.BigQuiet
import Derived.Deep.QuietTactic
namespace Go.Proofs.YthpkhcompkfcaaaDoor
open Go.RowKit
set_option linter.unusedVariables false

theorem own_nil_fr {w w' : World} (h : w.grownBy w' (Value.slice none 0 0).ownBlock) : Fr (fun _ => False) w w' :=
  (Fr.of_grown h).mono (fun k hk => by obtain ⟨a, ha, _⟩ := hk; cases ha)

theorem low_all : low 255 = 255 := by decide

theorem fst_lt {w : World} {g n cap B : Nat} {xs : List Value} (h : OwnR w B 29 2 (some ⟨g, 0, none⟩) n cap xs) : B ≤ g ∧ g < w.heap.size := OwnR.lt h g ⟨_, rfl, rfl⟩

def NdRel (n : Nat) (w : World) (d : Nat) (k : Value) (wr : World) : Prop := ∃ j : Nat, j ≤ n ∧ d = n - j ∧ k = .int .i64 j ∧ Fr (fun _ => False) w wr

set_option maxRecDepth 100000 in
set_option maxHeartbeats 4000000 in
theorem needsLaw (A : Option Addr) (c : Nat) (P : List Fn) (k0 : Int) (W : World) (ht : Tabs W) (hp : Prg W W.heap.size A P) :
    Calls Tryd.prog 7 #[.agg #[.slice A P.length c], .int .i64 k0] W (LawPost W) := by
  have HP := hid hp
  clear hp
  obtain ⟨n, hn⟩ : ∃ n, P.length = n := ⟨_, rfl⟩
  rw [hn]
  have HN := hid hn
  clear hn
  obtain ⟨w1, hw1⟩ : ∃ w1, w1 = W.alloc (.cells #[.slice A n c] 34) := ⟨_, rfl⟩
  have HA := hid (show Fr (fun _ => False) W w1 by rw [hw1]; exact Fr.alloc _ _ _)
  have hBx : Blk w1 W.heap.size #[.slice A n c] := by rw [hw1]; exact Blk.new _ _ _
  have HBX := hid hBx
  have q0 : w1.cell? ⟨W.heap.size, 0, none⟩ = some (.slice A n c) := hBx.cell rfl
  have ql := hBx.lt
  clear hBx
  go_enter Tryd.func7, Tryd.ntmps7
  go_upto_region 1 with fail
  rw [← hw1]
  clear hw1
  go_wp2_with fail
  refine (few_any A n c P w1 ((HP.out.same HA.out (Nat.le_refl _)).more HA.out.size) HN.out).mono ?_
  rintro e w2 ⟨fb, rfl, hfb, hF2⟩
  have HFB := hid hfb
  have HF2 := hid (HA.out.trans hF2)
  have HB2 := hid (HBX.out.keep hF2 (fun h => h))
  have q0 : w2.cell? ⟨W.heap.size, 0, none⟩ = some (.slice A n c) := HB2.out.cell rfl
  have ql := HB2.out.lt
  clear hfb hF2
  have hm : fb = false ∨ (fb = true ∧ k0 < 1) ∨ (fb = true ∧ ¬ k0 < 1 ∧ (n : Int) ≤ k0) ∨ (fb = true ∧ ¬ k0 < 1 ∧ ¬ (n : Int) ≤ k0) := by
    cases fb <;> simp <;> omega
  rcases hm with rfl | ⟨rfl, h0⟩ | ⟨rfl, h0, h1⟩ | ⟨rfl, h0, h1⟩
  · go_wp2_with fail
    refine (awake_any w2 (ht.same HF2.out)).mono ?_
    rintro e w4 ⟨rfl, hF4⟩
    have HF4 := hid (HF2.out.trans hF4)
    clear hF4
    go_wp2_with fail
    go_ret
    exact ⟨rfl, HF4.out⟩
  · go_wp2_with fail
    refine (awake_any w2 (ht.same HF2.out)).mono ?_
    rintro e w4 ⟨rfl, hF4⟩
    have HF4 := hid (HF2.out.trans hF4)
    clear hF4
    go_wp2_with fail
    go_ret
    exact ⟨rfl, HF4.out⟩
  · go_wp2_with fail
    refine (awake_any w2 (ht.same HF2.out)).mono ?_
    rintro e w4 ⟨rfl, hF4⟩
    have HF4 := hid (HF2.out.trans hF4)
    clear hF4
    go_wp2_with fail
    go_ret
    exact ⟨rfl, HF4.out⟩
  · have hFEW := HFB.out rfl
    have hn40 : n ≤ 40 := by rw [← HN.out]; exact hFEW.1
    have HFL := hid hFEW.2
    obtain ⟨kk, rfl⟩ : ∃ kk : Nat, k0 = kk := ⟨k0.toNat, by omega⟩
    have hkn : kk < n := by omega
    have hk1 : 1 ≤ kk := by omega
    have hq1 : ¬ kk < 1 := by omega
    have hq2 : ¬ n ≤ kk := by omega
    obtain ⟨⟨needs, l⟩, hf⟩ : ∃ f, P[kk]? = some f := ⟨_, List.getElem?_eq_getElem (by rw [HN.out]; exact hkn)⟩
    have HFK := hid hf
    have hle := HFL.out kk _ hf
    simp only at hle
    obtain ⟨ln, hln⟩ : ∃ ln, l.length = ln := ⟨_, rfl⟩
    rw [hln] at hle
    have HLN := hid hln
    obtain ⟨g, o, L, rfl, hg, hLm, hLc, hLd⟩ := prg_fos HP.out (by rw [HN.out]; omega)
    have HLM := hid hLm
    have HLC := hid hLc
    have HLL := hid (show L.length = n by have := congrArg List.length hLm; rw [List.length_map, HN.out] at this; exact this)
    obtain ⟨i0, hi, hz⟩ := Option.map_eq_some_iff.1 Tryd.infof
    simp only [Prod.mk.injEq] at hz
    obtain ⟨hz0, hz1, hz2⟩ := hz
    have HI := hid hi
    have HZ0 := hid hz0
    have HZ1 := hid hz1
    have HZ2 := hid hz2
    obtain ⟨w3, hw3⟩ : ∃ w3, w3 = w2.alloc (.cells #[.slice none 0 0] 34) := ⟨_, rfl⟩
    have HF3 := hid (show Fr (fun _ => False) w2 w3 by rw [hw3]; exact Fr.alloc _ _ _)
    have hbq : Blk w3 w2.heap.size #[.slice none 0 0] := by rw [hw3]; exact Blk.new _ _ _
    have HBQ := hid hbq
    have HTQ := hid (show TBlk w3 w2.heap.size #[.slice none 0 0] 34 by rw [hw3]; exact TBlk.new _ _ _)
    have b0 : w3.cell? ⟨w2.heap.size, 0, none⟩ = some (.slice none 0 0) := hbq.cell rfl
    have bl := hbq.lt
    have hb3 := HB2.out.keep HF3.out (fun h => h)
    have HB3 := hid hb3
    have HLD := hid (show ∀ (j : Nat) (u : Value), (L.flatMap Fo.cells)[j]? = some u → w3.cell? ((⟨g, o, none⟩ : Addr).add j) = some u from fun j u hu => by
      rw [add_none]
      exact (cell_keep (HF2.out.trans HF3.out) (p := ⟨g, o + j, none⟩) hg (fun h => h)).trans (hLd j u hu))
    clear hf hln hLm hLc hLd hi hz0 hz1 hz2 hFEW h0 h1 hbq
    go_upto_region 4 with fail
    rw [← hw3]
    clear hw3 q0
    have q0 : w3.cell? ⟨W.heap.size, 0, none⟩ = some (.slice (some ⟨g, o, none⟩) n c) := HB3.out.cell rfl
    have ql := hb3.lt
    clear hb3
    go_wp2_with (at_builtin; (refine wpList_append_own _ rfl _ _ 32 rfl w2.heap.size 29 i0 _ 2 32 Tryd.underlying32 HI.out HZ0.out HZ1.out HZ2.out rfl (by decide) (.slice none 0 0) 0 [] rfl (OwnR.nil _ _ _ _) ⟨g, o, none⟩ n c (L.flatMap Fo.cells) rfl (by rw [flat_len Fo.cells 2 Fo.cells_len, HLL.out]) HLD.out (Fo.ones L) (by unfold maxLen; omega) (by omega) HF3.out.size ?_; intro v2 w4 hown2 hgrow2 hnil2; clear hnil2; rw [Nat.zero_add] at hown2; obtain ⟨A2, c2, rfl, ho2⟩ := OwnR.form hown2; rw [List.nil_append] at ho2; have HO2 := hid ho2; have HF4 := hid (own_nil_fr hgrow2); clear hown2 hgrow2 ho2; have hb4 := HBQ.out.keep HF4.out (fun h => h); have b0 := hb4.cell (i := 0) rfl; have z0 := hb4.frozen 0; have bl := hb4.lt; clear hb4))
    obtain ⟨w5, hw5⟩ : ∃ w5, w5 = w4.setCell ⟨w2.heap.size, 0, none⟩ (.slice A2 n c2) := ⟨_, rfl⟩
    have hF5 : Fr (fun k => k = w2.heap.size) w4 w5 := by rw [hw5]; exact Fr.setCell _ _ _ rfl
    have hbq5 : Blk w5 w2.heap.size #[.slice A2 n c2] := by rw [hw5]; exact (HBQ.out.keep HF4.out (fun h => h)).set 0 _
    have hne := OwnR.ne HO2.out (HTQ.out.keep HF4.out (fun h => h)) (by decide)
    have ho5 := OwnR.keep HO2.out hF5 (fun j hj e => hne (e ▸ hj))
    have hW5 : Fr (fun _ => False) W w5 := Fr.since (HF2.out.trans (HF3.out.trans HF4.out)) hF5 (fun i hi hl => by have := HF2.out.size; omega)
    have hb5 := (HB3.out.keep HF4.out (fun h => h)).keep hF5 (by omega)
    rw [← hw5]
    clear hw5 b0 z0 bl q0 ql
    obtain ⟨g2, rfl, hg2, hg2l, hfz, hcl⟩ := OwnR.cell ho5 (by omega)
    have HO5 := hid ho5
    have HQ5 := hid hbq5
    have HW5 := hid hW5
    have HB5 := hid hb5
    obtain ⟨x, hx⟩ : ∃ x, L[kk]? = some x := ⟨_, List.getElem?_eq_getElem (by rw [HLL.out]; exact hkn)⟩
    have hxf : x.f = ⟨needs, l⟩ := by
      have h := congrArg (fun z => z[kk]?) HLM.out
      simp only [List.getElem?_map, hx, HFK.out, Option.map_some, Option.some.injEq] at h
      exact h
    obtain ⟨xf, A', c'⟩ := x
    simp only at hxf
    subst hxf
    have HXL := hid hx
    have hcell := fun (j : Nat) (u : Value) (h : (L.flatMap Fo.cells)[j]? = some u) => (cell_keep (HF4.out) (p := (⟨g, o, none⟩ : Addr).add j) (by rw [block_of_add]; exact Nat.lt_of_lt_of_le hg (HF2.out.trans HF3.out).size) (fun h => h)).trans (HLD.out j u h)
    have p1 : w5.cell? ⟨g, o + kk * 2 + 1, none⟩ = some (.slice A' ln c') := by
      have h := hcell (kk * 2 + 1) (.slice A' ln c') (by rw [flat_at Fo.cells 2 Fo.cells_len hx (by omega)]; rw [← HLN.out]; rfl)
      rw [add_none] at h
      exact (cell_keep hF5 (p := ⟨g, o + (kk * 2 + 1), none⟩) (Nat.lt_of_lt_of_le hg (HF2.out.trans (HF3.out.trans HF4.out)).size) (by show ¬ g = w2.heap.size; have := HF2.out.size; omega)).trans h
    have p0 : w5.cell? ⟨g, o + kk * 2, none⟩ = some (.int .i64 needs) := by
      have h := hcell (kk * 2) (.int .i64 needs) (by rw [← Nat.add_zero (kk * 2), flat_at Fo.cells 2 Fo.cells_len hx (by omega)]; rfl)
      rw [add_none] at h
      exact (cell_keep hF5 (p := ⟨g, o + kk * 2, none⟩) (Nat.lt_of_lt_of_le hg (HF2.out.trans (HF3.out.trans HF4.out)).size) (by show ¬ g = w2.heap.size; have := HF2.out.size; omega)).trans h
    have hgl : g < w5.heap.size := Nat.lt_of_lt_of_le hg hW5.size
    have b0 := hbq5.cell (i := 0) rfl
    have bl := hbq5.lt
    have q0 := hb5.cell (i := 0) rfl
    have ql := hb5.lt
    have z0 := hfz (kk * 2)
    have z1 := hfz (kk * 2 + 1)
    have r0 := hcl (kk * 2) (.int .i64 needs) (by rw [← Nat.add_zero (kk * 2), flat_at Fo.cells 2 Fo.cells_len hx (by omega)]; rfl)
    have r1 := hcl (kk * 2 + 1) (.slice A' ln c') (by rw [flat_at Fo.cells 2 Fo.cells_len hx (by omega)]; rw [← HLN.out]; rfl)
    simp only [List.getElem_toArray, List.getElem_cons_zero] at b0 q0
    have v1 : (kk : Int) < (n : Int) := by omega
    have hw2l := HB2.out.lt
    have hng : ¬ g = g2 := by omega
    have hqg : ¬ g2 = w2.heap.size := fun e => hne ⟨_, rfl, e⟩
    clear hF5 hbq5 hne ho5 hW5 hb5 hfz hcl hx hcell
    go_region
    obtain ⟨wy, hwy⟩ : ∃ wy, wy = (w5.setCell ⟨g2, kk * 2, none⟩ (.int .i64 255)).setCell ⟨g2, kk * 2 + 1, none⟩ (.slice A' ln c') := ⟨_, rfl⟩
    rw [← hwy]
    have hFy : Fr (fun k => k = g2) w5 wy := by rw [hwy]; exact (Fr.setCell (S := fun k => k = g2) _ _ _ rfl).trans (Fr.setCell (S := fun k => k = g2) _ _ _ rfl)
    obtain ⟨w6, hw6⟩ : ∃ w6, w6 = wy.drew := ⟨_, rfl⟩
    have hF6 : Fr (fun k => k = g2) w5 w6 := by rw [hw6]; exact hFy.trans (Fr.drew _ _)
    have hWy : Fr (fun _ => False) W wy := Fr.since HW5.out hFy (fun i hi hl => by omega)
    have hW6 : Fr (fun _ => False) W w6 := by rw [hw6]; exact hWy.trans (Fr.drew _ _)
    have hcy : ∀ A f, Cod W W.heap.size A f → Cod wy wy.heap.size A f := fun A f h => (h.same hWy (Nat.le_refl _)).more hWy.size
    have hcx : Cod W W.heap.size A' l := HLC.out _ (List.mem_of_getElem? HXL.out)
    have hQ : Prg wy wy.heap.size (some ⟨g2, 0, none⟩) (P.set kk ⟨255, l⟩) := by
      have h := prg_put (x := ⟨⟨255, l⟩, A', c'⟩) HO5.out hkn (by rw [hwy]; show _ = (w5.setCell _ _).setCell _ (.slice A' l.length c'); rw [HLN.out]) (fun y hy => hcy _ _ (HLC.out y hy)) (hcy _ _ hcx)
      rw [HLM.out] at h
      exact h
    have hQ6 : Prg w6 w6.heap.size (some ⟨g2, 0, none⟩) (P.set kk ⟨255, l⟩) := by rw [hw6]; exact (hQ.same (Fr.drew _ _) (Nat.le_refl _))
    have hbq6 := HQ5.out.keep hF6 (fun e => hqg e.symm)
    have hb6 := HB5.out.keep hF6 (fun e => by have := HB5.out.lt; omega)
    have HQQ := hid hQ6
    have h26 : w5.heap.size ≤ w6.heap.size := hF6.size
    have HW6 := hid hW6
    have HBQ6 := hid hbq6
    have HB6 := hid hb6
    have HC6 := hid (show Cod w6 w6.heap.size A' l from (hcx.same hW6 (Nat.le_refl _)).more hW6.size)
    have p0 : w6.cell? ⟨g, o + kk * 2, none⟩ = some (.int .i64 needs) := (cell_keep hF6 (p := ⟨g, o + kk * 2, none⟩) hgl (by show ¬ g = g2; exact hng)).trans p0
    have p1 : w6.cell? ⟨g, o + kk * 2 + 1, none⟩ = some (.slice A' ln c') := (cell_keep hF6 (p := ⟨g, o + kk * 2 + 1, none⟩) hgl (by show ¬ g = g2; exact hng)).trans p1
    have hgl : g < w6.heap.size := Nat.lt_of_lt_of_le hgl hF6.size
    have q0 := hb6.cell (i := 0) rfl
    have ql := hb6.lt
    simp only [List.getElem_toArray, List.getElem_cons_zero] at q0
    have HP0 := hid p0
    have HP1 := hid p1
    have HGL := hid hgl
    rw [← hw6]
    clear hwy hFy hw6 hF6 hWy hW6 hcy hcx hQ hQ6 hbq6 hb6 b0 bl z0 z1 r0 r1
    go_wp2_with fail
    refine (held_any ⟨needs, l⟩ A' ln c' w6 HLN.out (by omega) HC6.out).mono ?_
    rintro e w7 ⟨A3, n3, c3, rfl, h1, h2, hF7⟩
    obtain rfl : ln = n3 := by rw [natsI_len, heldL_len] at h1; rw [← HLN.out]; exact h1
    have HN3 := hid h2
    have HF7 := hid hF7
    obtain ⟨g2', o2', eg, _, hcq⟩ := (HQQ.out.same hF7 (Nat.le_refl _)) (by rw [List.length_set, HN.out]; omega)
    cases eg
    obtain ⟨A4, c4, t0, t1, hcod4⟩ := hcq kk ⟨255, l⟩ (by rw [List.getElem?_set, if_pos rfl, if_pos (by rw [HN.out]; exact hkn)])
    simp only [Nat.zero_add] at t0 t1
    rw [HLN.out] at t1
    have HC4 := hid (hcod4.more hF7.size)
    have hb7 := HBQ6.out.keep hF7 (fun h => h)
    have b0 := hb7.cell (i := 0) rfl
    have bl := hb7.lt
    simp only [List.getElem_toArray, List.getElem_cons_zero] at b0
    have hg27 : g2 < w7.heap.size := Nat.lt_of_lt_of_le hg2l (by have := hF7.size; have := HBQ6.out.lt; have h6 := HW6.out.size; exact Nat.le_trans h26 hF7.size)
    clear h1 h2 hF7 hcq hcod4 hb7 p0 p1 q0 ql
    go_wp2_with fail
    refine (held_any ⟨255, l⟩ A4 ln c4 w7 HLN.out (by omega) HC4.out).mono ?_
    rintro e w8 ⟨A5, n5, c5, rfl, h1, h2, hF8⟩
    obtain rfl : ln = n5 := by rw [natsI_len, heldL_len] at h1; rw [← HLN.out]; exact h1
    have HN5 := hid h2
    have HF8 := hid (HF7.out.trans hF8)
    have HNA := hid ((HN3.out.same hF8 (Nat.le_refl _)).more hF8.size)
    have p1 : w8.cell? ⟨g, o + kk * 2 + 1, none⟩ = some (.slice A' ln c') := (cell_keep HF8.out (p := ⟨g, o + kk * 2 + 1, none⟩) HGL.out (fun h => h)).trans HP1.out
    have hgl8 : g < w8.heap.size := Nat.lt_of_lt_of_le HGL.out HF8.out.size
    have hb8 := HB6.out.keep HF8.out (fun h => h)
    have q0 := hb8.cell (i := 0) rfl
    have ql := hb8.lt
    simp only [List.getElem_toArray, List.getElem_cons_zero] at q0
    clear h1 h2 hF8 hb8 t0 t1 b0 bl
    go_wp2_with fail
    go_loopg [8] ln (fun d k wr => NdRel ln w8 d k wr)
    case atStart => exact ⟨0, by omega, by omega, rfl, Fr.refl _ _⟩
    case round =>
      obtain ⟨wo, rfl⟩ : ∃ wo, wo = wr := ⟨_, rfl⟩
      obtain ⟨j, hj, hd, rfl, hF⟩ := hrel
      have HD := hid hd
      have HF := hid hF
      clear hd p1 q0 ql
      by_cases hlt : j < ln
      · obtain ⟨ga, oa, rfl, hga, hca⟩ := (HNA.out.same hF (Nat.le_refl _)) (by rw [natsI_len, heldL_len]; show 0 < l.length; rw [HLN.out]; omega)
        obtain ⟨gb, ob, rfl, hgb, hcb⟩ := (HN5.out.same hF (Nat.le_refl _)) (by rw [natsI_len, heldL_len]; show 0 < l.length; rw [HLN.out]; omega)
        obtain ⟨av, hav⟩ : ∃ av, heldN ⟨needs, l⟩ j = av := ⟨_, rfl⟩
        have hav2 : av < 256 := by rw [← hav]; exact heldN_lt _ _
        have c0 := hca j (av : Int) (by rw [← hav]; exact natsI_at (heldL_at _ (by show j < l.length; rw [HLN.out]; exact hlt)))
        have c1 := hcb j (255 : Nat) (by
          have h := natsI_at (heldL_at ⟨255, l⟩ (k := j) (by show j < l.length; rw [HLN.out]; exact hlt))
          rw [heldN_all low_all] at h
          exact h)
        have e1 : bits .andNot .i64 (av : Int) 255 = 0 := by
          have h := andNot_nat (b := 255) hav2
          rw [less_all hav2] at h
          exact h
        have hgal : ga < wo.heap.size := Nat.lt_of_lt_of_le hga hF.size
        have hgbl : gb < wo.heap.size := Nat.lt_of_lt_of_le hgb hF.size
        have v2 : (j : Int) < (ln : Int) := by omega
        clear hca hcb hav hF
        go_wp2_with fail
        go_quiet (fail)
        go_wp2_with fail
        go_roundg (ln - (j + 1))
        case rel => exact ⟨j + 1, by omega, rfl, by go_num, HF.out.trans (Fr.drewN _ _ _)⟩
        case measure => have := HD.out; omega
      · have HFo := hid (HF8.out.trans HF.out)
        have hb9 := HBQ6.out.keep HFo.out (fun h => h)
        have b0 := hb9.cell (i := 0) rfl
        have bl := hb9.lt
        simp only [List.getElem_toArray, List.getElem_cons_zero] at b0
        clear hF hb9
        go_wp2_with fail
        refine (program_any (some ⟨g2, 0, none⟩) n c2 (P.set kk ⟨255, l⟩) wo (ht.same (HW6.out.trans HFo.out)) ((HQQ.out.same HFo.out (Nat.le_refl _)).more HFo.out.size) (by rw [List.length_set]; exact HN.out) (by omega)).mono ?_
        rintro e wp ⟨rfl, hFp⟩
        have hnf := needs_fault (P := P.set kk ⟨255, l⟩) hk1 (by rw [List.getElem?_set, if_pos rfl, if_pos (by rw [HN.out]; exact hkn)])
        obtain ⟨y, hy⟩ : ∃ y, prgF (P.set kk ⟨255, l⟩) = y := ⟨_, rfl⟩
        rw [hy] at hnf ⊢
        obtain ⟨x0, x1, x2⟩ := y
        unfold Flt.val
        simp only at hnf ⊢
        have HFp := hid ((HW6.out.trans HFo.out).trans (hFp.trans (Fr.alloc _ wp (.cells #[.int .i64 x0, .int .i64 x1, .int .i64 x2] 38))))
        clear hFp hy b0 bl
        by_cases hx0 : x0 = (kk : Int)
        · have hx2 : ¬ x2 = 16 := by rcases hnf with h | h; exact absurd hx0 h; exact h
          subst hx0
          have t2 : (x2 != 16) = true := by simpa using hx2
          clear hnf
          go_wp2_with fail
          refine (awake_any _ (ht.same HFp.out)).mono ?_
          rintro e wz ⟨rfl, hFz⟩
          have HFz := hid (HFp.out.trans hFz)
          clear hFz
          go_wp2_with fail
          go_ret
          exact ⟨rfl, HFz.out⟩
        · have t2 : (x0 != (kk : Int)) = true := by simpa using hx0
          clear hnf
          go_wp2_with fail
          refine (awake_any _ (ht.same HFp.out)).mono ?_
          rintro e wz ⟨rfl, hFz⟩
          have HFz := hid (HFp.out.trans hFz)
          clear hFz
          go_wp2_with fail
          go_ret
          exact ⟨rfl, HFz.out⟩

end Go.Proofs.YthpkhcompkfcaaaDoor
