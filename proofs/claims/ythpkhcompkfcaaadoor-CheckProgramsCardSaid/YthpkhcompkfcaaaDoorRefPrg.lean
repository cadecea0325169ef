/-
  The document's first fault of a program.
-/
import Derived.Test.YthpkhcompkfcaaaDoorRefShape
import Derived.Test.YthpkhcompkfcaaaDoorRefWrong
import Derived.Test.YthpkhcompkfcaaaDoorRefHeld
import Derived.Test.YthpkhcompkfcaaaDoorRefDepths
namespace Go.Proofs.YthpkhcompkfcaaaDoor
open Go.RowKit
set_option linter.unusedVariables false

theorem firstW_code {α : Type} {g : Nat → α → Flt} {l : List α} {k0 : Nat} (hg : ∀ k x, (g k x).code = 0 → g k x = Flt.none) (h : (firstW g k0 l).code = 0) : firstW g k0 l = Flt.none := by
  by_cases hn : firstW g k0 l = Flt.none
  · exact hn
  · obtain ⟨k, x, _, e⟩ := firstW_is hn
    rw [e] at h ⊢
    exact hg _ _ h

theorem flt_code {k a e : Int} (h : (flt k a e).code = 0) : flt k a e = Flt.none := by
  unfold flt at h ⊢
  split
  · rfl
  · rename_i hh; rw [if_neg hh] at h; exact absurd h hh

theorem flt_fn {k a e : Int} (h : flt k a e ≠ Flt.none) : (flt k a e).fn = k := by
  unfold flt at h ⊢
  split
  · rename_i hh; rw [if_pos hh] at h; exact absurd rfl h
  · rfl

theorem shapeF_code {k : Nat} {f : Fn} (h : (shapeF k f).code = 0) : shapeF k f = Flt.none := by
  unfold shapeF at h ⊢
  split
  · rename_i h3; rw [if_pos h3] at h; exact absurd h (by simp)
  · rename_i h3
    rw [if_neg h3] at h
    split
    · rename_i h4; rw [if_pos h4] at h; exact absurd h (by simp)
    · rename_i h4
      rw [if_neg h4] at h
      exact firstW_code (fun j i hj => flt_code hj) h

theorem shapeF_fn {k : Nat} {f : Fn} (h : shapeF k f ≠ Flt.none) : (shapeF k f).fn = k := by
  unfold shapeF at h ⊢
  split
  · rfl
  · rename_i h3
    rw [if_neg h3] at h
    split
    · rfl
    · rename_i h4
      rw [if_neg h4] at h
      obtain ⟨j, i, _, e⟩ := firstW_is h
      rw [e] at h ⊢
      exact flt_fn h

section
variable {P : List Fn}
theorem prg1 (h : sizeF P ≠ Flt.none) : prgF P = sizeF P := by unfold prgF; rw [if_pos h]
theorem prg2 (h1 : sizeF P = Flt.none) (h : partsF P ≠ Flt.none) : prgF P = partsF P := by unfold prgF; rw [if_neg (fun e => e h1), if_pos h]
theorem prg3 (h1 : sizeF P = Flt.none) (h2 : partsF P = Flt.none) (h : rootF P ≠ Flt.none) : prgF P = rootF P := by unfold prgF; rw [if_neg (fun e => e h1), if_neg (fun e => e h2), if_pos h]
theorem prg4 (h1 : sizeF P = Flt.none) (h2 : partsF P = Flt.none) (h3 : rootF P = Flt.none) : prgF P = flowsF P := by unfold prgF; rw [if_neg (fun e => e h1), if_neg (fun e => e h2), if_neg (fun e => e h3)]
end

def R1Rel (g : Nat → Fn → Flt) (P : List Fn) (W0 : World) (d : Nat) (k : Value) (wr : World) : Prop :=
  ∃ j : Nat, j ≤ P.length ∧ d = P.length - j ∧ k = .int .i64 j ∧ firstW g 0 (P.take j) = Flt.none ∧ Fr (fun _ => False) W0 wr

def R3Rel (P : List Fn) (f : Fn) (k : Nat) (W0 : World) (d : Nat) (kv : Value) (wr : World) : Prop :=
  ∃ j : Nat, j ≤ f.code.length ∧ d = f.code.length - j ∧ kv = .int .i64 j ∧ firstW (fun j i => flt k j (wrongAt P f j i)) 0 (f.code.take j) = Flt.none ∧ Fr (fun _ => False) W0 wr

set_option maxRecDepth 100000 in
set_option maxHeartbeats 4000000 in
theorem rprogram_any (A : Option Addr) (n c : Nat) (P : List Fn) (w : World) (hp : Prg w w.heap.size A P) (hn : P.length = n) (hnl : n ≤ 1000) (hfl : ∀ (k : Nat) f, P[k]? = some f → f.code.length ≤ 1000) :
    Calls Tryd.prog 18 #[.agg #[.slice A n c]] w (FltPost w (prgF P)) := by
  have HN := hid hn
  have HFL := hid hfl
  have HP := hid hp
  clear hn hfl hp
  obtain ⟨W0, hW0⟩ : ∃ W0, W0 = (w.alloc (.cells #[.slice A n c] 34)).alloc (.cells #[.int .i64 0, .int .i64 0, .int .i64 0] 40) := ⟨_, rfl⟩
  have HA := hid (show Fr (fun _ => False) w W0 by rw [hW0]; exact (Fr.alloc _ _ _).trans (Fr.alloc _ _ _))
  have hr0 : Blk W0 (w.heap.size + 1) #[.int .i64 0, .int .i64 0, .int .i64 0] := by rw [hW0]; exact (Blk.new _ _ _).at (by simp)
  have hp0 : Blk W0 w.heap.size #[.slice A n c] := by rw [hW0]; exact (Blk.new _ _ _).alloc _
  have HR0 := hid hr0
  have HP0 := hid hp0
  have q0 := hp0.cell (i := 0) rfl
  have ql := hp0.lt
  have z0 := hr0.frozen 0
  have z1 := hr0.frozen 1
  have z2 := hr0.frozen 2
  have r0 := hr0.cell (i := 0) rfl
  have r1 := hr0.cell (i := 1) rfl
  have r2 := hr0.cell (i := 2) rfl
  have rl := hr0.lt
  simp only [List.getElem_toArray, List.getElem_cons_zero, List.getElem_cons_succ] at q0 r0 r1 r2
  clear hr0 hp0
  go_enter Tryd.func18, Tryd.ntmps18
  go_upto_region 1 with fail
  rw [← hW0]
  clear hW0
  by_cases hsz : n < 1 ∨ 32 < n
  · have hs : sizeF P = ⟨-1, -1, 12⟩ := by unfold sizeF; rw [HN.out, if_pos hsz]
    have HQ := hid (show prgF P = ⟨-1, -1, 12⟩ by rw [prg1 (by rw [hs]; intro h; injection h with h; exact absurd h (by decide)), hs])
    clear hs
    rcases hsz with h | h
    · go_wp2_with fail
      refine bodyPost_ret (v := .agg #[.int .i64 (-1), .int .i64 (-1), .int .i64 12]) (by simp [results, Tryd.results18, go_sem, r0, r1, r2]; try rfl) rfl (FltPost.eq (x := ⟨-1, -1, 12⟩) ⟨rfl, Fr.put3 HA.out _ _ _ (by omega)⟩ HQ.out.symm)
    · have h0 : ¬ n < 1 := by omega
      go_wp2_with fail
      refine bodyPost_ret (v := .agg #[.int .i64 (-1), .int .i64 (-1), .int .i64 12]) (by simp [results, Tryd.results18, go_sem, r0, r1, r2]; try rfl) rfl (FltPost.eq (x := ⟨-1, -1, 12⟩) ⟨rfl, Fr.put3 HA.out _ _ _ (by omega)⟩ HQ.out.symm)
  · have HSZ := hid (show sizeF P = Flt.none by unfold sizeF; rw [HN.out, if_neg hsz])
    have l0 : ¬ n < 1 := by omega
    have l1 : ¬ 32 < n := by omega
    go_upto_region 3 with fail
    go_cut [3] from 12 to 22 (fun u wx => u = .int .i64 0 ∧ wx = W0)
    case first =>
      go_wp2_with fail
      go_meet
      exact ⟨rfl, rfl⟩
    case rest =>
    obtain ⟨rfl, rfl⟩ := hcut
    have hn1 : 1 ≤ n := by omega
    clear hsz l0 l1
    go_wp2_with fail
    go_loopg [3] n (fun d k wr => R1Rel shapeF P wc d k wr)
    case atStart => exact ⟨0, by omega, by rw [HN.out, Nat.sub_zero], rfl, rfl, Fr.refl _ _⟩
    case round =>
      obtain ⟨wo, rfl⟩ : ∃ wo, wo = wr := ⟨_, rfl⟩
      obtain ⟨k, hk, hd, rfl, he, hF⟩ := hrel
      rw [HN.out] at hk hd
      have HD := hid hd
      have HE := hid he
      have HF := hid hF
      have HFw := hid (HA.out.trans hF)
      have hb := HP0.out.keep hF (fun h => h)
      have q0 := hb.cell (i := 0) rfl
      have ql := hb.lt
      simp only [List.getElem_toArray, List.getElem_cons_zero] at q0
      clear hd he hb z0 z1 z2 r0 r1 r2 rl
      by_cases hlt : k < n
      · obtain ⟨⟨needs, l⟩, hfk⟩ : ∃ f, P[k]? = some f := ⟨_, List.getElem?_eq_getElem (by rw [HN.out]; exact hlt)⟩
        obtain ⟨g, o, rfl, hg, hcell⟩ := (HP.out.same HFw.out (Nat.le_refl _)) (by rw [HN.out]; omega)
        obtain ⟨A', c', p0, p1, hcod⟩ := hcell k _ hfk
        simp only at p0 p1 hcod
        have HFK := hid hfk
        obtain ⟨ln, hln⟩ : ∃ ln, l.length = ln := ⟨_, rfl⟩
        rw [hln] at p1
        have hgl : g < wo.heap.size := Nat.lt_of_lt_of_le hg HFw.out.size
        have HSH := hid (rshape_any k ⟨needs, l⟩ A' ln c' wo hln (hcod.more HFw.out.size))
        clear hfk hcell hln hcod hF
        go_wp2_with fail
        refine HSH.out.mono ?_
        rintro e w4 ⟨rfl, hF4⟩
        have HF4 := hid (HF.out.trans hF4)
        clear hF4
        obtain ⟨y, hy⟩ : ∃ y, shapeF k ⟨needs, l⟩ = y := ⟨_, rfl⟩
        rw [hy]
        obtain ⟨y0, y1, y2⟩ := y
        simp only
        by_cases hz : y2 = 0
        · subst hz
          have HNO := hid (shapeF_code (k := k) (f := ⟨needs, l⟩) (by rw [hy]))
          clear hy
          go_wp2_with fail
          go_roundg (n - (k + 1))
          case rel => exact ⟨k + 1, by rw [HN.out]; omega, by rw [HN.out], by go_num, firstW_snoc HE.out HFK.out (by rw [Nat.zero_add]; exact HNO.out), HF4.out⟩
          case measure => have := HD.out; omega
        · have t1 : (y2 != 0) = true := by simpa using hz
          have hnn : shapeF k ⟨needs, l⟩ ≠ Flt.none := by rw [hy]; intro h; injection h with _ _ h; exact hz h
          have hfn := shapeF_fn hnn
          rw [hy] at hfn
          simp only at hfn
          subst hfn
          have HQ := hid (show prgF P = ⟨k, y1, y2⟩ by
            have hpt : partsF P = ⟨k, y1, y2⟩ := by
              unfold partsF
              exact (firstW_stop HE.out HFK.out (by rw [Nat.zero_add]; exact hnn)).trans (by rw [Nat.zero_add]; exact hy)
            rw [prg2 HSZ.out (by rw [hpt]; intro h; injection h with _ _ h; exact hz h), hpt])
          have hR := HR0.out.keep HF4.out (fun h => h)
          have z0 := hR.frozen 0
          have z1 := hR.frozen 1
          have z2 := hR.frozen 2
          have r0 := hR.cell (i := 0) rfl
          have r1 := hR.cell (i := 1) rfl
          have r2 := hR.cell (i := 2) rfl
          clear hR hy hnn
          go_wp2_with fail
          refine bodyPost_ret (v := .agg #[.int .i64 k, .int .i64 y1, .int .i64 y2]) (by simp [results, Tryd.results18, go_sem, r0, r1, r2]; try rfl) rfl (FltPost.eq (x := ⟨k, y1, y2⟩) ⟨rfl, Fr.put3 (HA.out.trans HF4.out) _ _ _ (by omega)⟩ HQ.out.symm)
      · have HPT := hid (show partsF P = Flt.none by
          have h := HE.out
          rw [List.take_of_length_le (by rw [HN.out]; omega)] at h
          exact h)
        obtain ⟨⟨nd0, l0⟩, hf0⟩ : ∃ f, P[0]? = some f := ⟨_, List.getElem?_eq_getElem (by rw [HN.out]; omega)⟩
        obtain ⟨g, o, rfl, hg, hcell⟩ := (HP.out.same HFw.out (Nat.le_refl _)) (by rw [HN.out]; omega)
        obtain ⟨A0, c0, p0, _, _⟩ := hcell 0 _ hf0
        simp only [Nat.zero_mul, Nat.add_zero] at p0
        have hgl : g < wo.heap.size := Nat.lt_of_lt_of_le hg HFw.out.size
        have hroot : rootF P = if nd0 = 0 then Flt.none else ⟨0, -1, 16⟩ := by unfold rootF; rw [hf0]
        clear hf0 hcell hF
        have hR := HR0.out.keep HF.out (fun h => h)
        have z0 := hR.frozen 0
        have z1 := hR.frozen 1
        have z2 := hR.frozen 2
        have r0 := hR.cell (i := 0) rfl
        have r1 := hR.cell (i := 1) rfl
        have r2 := hR.cell (i := 2) rfl
        have rl := hR.lt
        simp only [List.getElem_toArray, List.getElem_cons_zero, List.getElem_cons_succ] at r0 r1 r2
        clear hR
        by_cases hnd : nd0 = 0
        · subst hnd
          have HRT := hid (hroot.trans (if_pos rfl))
          clear hroot
          go_wp2_with fail
          go_loopg [6] n (fun d k wr => R1Rel (flowF P) P wo d k wr)
          case atStart => exact ⟨0, by omega, by rw [HN.out, Nat.sub_zero], rfl, rfl, Fr.refl _ _⟩
          case round =>
            obtain ⟨wp, rfl⟩ : ∃ wp, wp = wr := ⟨_, rfl⟩
            obtain ⟨k2, hk2, hd2, rfl, he2, hF2⟩ := hrel
            rw [HN.out] at hk2 hd2
            have HD2 := hid hd2
            have HE2 := hid he2
            have HF2 := hid hF2
            have HFw2 := hid (HFw.out.trans hF2)
            have HF02 := hid (HF.out.trans hF2)
            have hb := HP0.out.keep HF02.out (fun h => h)
            have HB2 := hid hb
            have q0 := hb.cell (i := 0) rfl
            have ql := hb.lt
            simp only [List.getElem_toArray, List.getElem_cons_zero] at q0
            have hR := HR0.out.keep HF02.out (fun h => h)
            have z0 := hR.frozen 0
            have z1 := hR.frozen 1
            have z2 := hR.frozen 2
            have r0 := hR.cell (i := 0) rfl
            have r1 := hR.cell (i := 1) rfl
            have r2 := hR.cell (i := 2) rfl
            have rl := hR.lt
            simp only [List.getElem_toArray, List.getElem_cons_zero, List.getElem_cons_succ] at r0 r1 r2
            clear hd2 he2 hb hR p0 hgl hF2
            by_cases hlt2 : k2 < n
            · obtain ⟨⟨needs, l⟩, hfk⟩ : ∃ f, P[k2]? = some f := ⟨_, List.getElem?_eq_getElem (by rw [HN.out]; exact hlt2)⟩
              obtain ⟨g', o', eg, hg', hcell⟩ := (HP.out.same HFw2.out (Nat.le_refl _)) (by rw [HN.out]; omega)
              cases eg
              obtain ⟨A', c', p0, p1, hcod⟩ := hcell k2 _ hfk
              simp only at p0 p1 hcod
              have HFK := hid hfk
              have hsh := shapeF_none.1 (firstW_none.1 HPT.out k2 _ hfk)
              simp only at hsh
              have HCHK := hid hsh.2.2.2.2
              obtain ⟨ln, hln⟩ : ∃ ln, l.length = ln := ⟨_, rfl⟩
              have hle : ln ≤ 1000 := by rw [← hln]; omega
              rw [hln] at p1
              have HLN := hid hln
              have hgl : g < wp.heap.size := Nat.lt_of_lt_of_le hg HFw2.out.size
              obtain ⟨W1, hW1⟩ : ∃ W1, W1 = wp.alloc (.cells #[.int .i64 needs, .slice A' ln c'] 29) := ⟨_, rfl⟩
              have hF1 : Fr (fun _ => False) wp W1 := by rw [hW1]; exact Fr.alloc _ _ _
              have hbf : Blk W1 wp.heap.size #[.int .i64 needs, .slice A' ln c'] := by rw [hW1]; exact Blk.new _ _ _
              have HF1 := hid hF1
              have HBF := hid hbf
              have HCO := hid (show ∀ w', Fr (fun _ => False) W1 w' → Cod w' w'.heap.size A' l from fun w' F => ((hcod.same (hF1.trans F) HFw2.out.size).more (Nat.le_trans HFw2.out.size (hF1.trans F).size)))
              have b0 := hbf.cell (i := 0) rfl
              have b1 := hbf.cell (i := 1) rfl
              have bl := hbf.lt
              simp only [List.getElem_toArray, List.getElem_cons_zero, List.getElem_cons_succ] at b0 b1
              clear hfk hcell hsh hln hcod hF1 hbf
              go_upto_region 15 with fail
              rw [← hW1]
              clear hW1 p0 p1 q0 r0 r1 r2 z0 z1 z2
              go_wp2_with fail
              refine (rdepths_any A' ln c' l W1 HLN.out hle (HCO.out W1 (Fr.refl _ _))).mono ?_
              rintro e w5 ⟨D, nD, cD, rfl, hd1, hd2, hF5⟩
              obtain rfl : ln = nD := by rw [dep_len, HLN.out] at hd1; exact hd1
              have HDN := hid hd2
              have HF5 := hid hF5
              have hb5 := HBF.out.keep hF5 (fun h => h)
              have b0 := hb5.cell (i := 0) rfl
              have b1 := hb5.cell (i := 1) rfl
              have bl := hb5.lt
              simp only [List.getElem_toArray, List.getElem_cons_zero, List.getElem_cons_succ] at b0 b1
              clear hd1 hd2 hF5 hb5
              go_wp2_with fail
              refine (rheld_any ⟨needs, l⟩ A' ln c' w5 HLN.out hle (HCO.out w5 HF5.out)).mono ?_
              rintro e w6 ⟨H, nH, cH, rfl, hd1, hd2, hF6⟩
              obtain rfl : ln = nH := by rw [natsI_len, heldL_len] at hd1; rw [← HLN.out]; exact hd1
              have HHN := hid hd2
              have HF6 := hid (HF5.out.trans hF6)
              have HDN6 := hid (show Nums w6 w6.heap.size D (dep 0 l) from (HDN.out.same hF6 (Nat.le_refl _)).more hF6.size)
              have hb6 := HBF.out.keep HF6.out (fun h => h)
              have HB6 := hid hb6
              have b1 := hb6.cell (i := 1) rfl
              have bl := hb6.lt
              simp only [List.getElem_toArray, List.getElem_cons_zero, List.getElem_cons_succ] at b1
              clear hd1 hd2 hF6 hb6 b0
              go_wp2_with fail
              go_loopg [10] ln (fun d kv wq => R3Rel P ⟨needs, l⟩ k2 w6 d kv wq)
              case atStart => exact ⟨0, by omega, by show ln = l.length - 0; rw [HLN.out, Nat.sub_zero], rfl, rfl, Fr.refl _ _⟩
              case round =>
                obtain ⟨wq, rfl⟩ : ∃ wq, wq = wr := ⟨_, rfl⟩
                obtain ⟨j, hj, hd3, rfl, he3, hF3⟩ := hrel
                simp only at hj hd3
                rw [HLN.out] at hj hd3
                have HD3 := hid hd3
                have HE3 := hid he3
                have HF3 := hid hF3
                have HFq := hid (HFw2.out.trans (HF1.out.trans (HF6.out.trans hF3)))
                have HF0q := hid (HF02.out.trans (HF1.out.trans (HF6.out.trans hF3)))
                have hbq := HB6.out.keep hF3 (fun h => h)
                have b0 := hbq.cell (i := 0) rfl
                have b1 := hbq.cell (i := 1) rfl
                have bl := hbq.lt
                have hbp := HP0.out.keep HF0q.out (fun h => h)
                have q0 := hbp.cell (i := 0) rfl
                have ql := hbp.lt
                simp only [List.getElem_toArray, List.getElem_cons_zero, List.getElem_cons_succ] at b0 b1 q0
                clear hd3 he3 hbq hbp
                by_cases hlj : j < ln
                · obtain ⟨x, hx⟩ : ∃ x, l[j]? = some x := ⟨_, List.getElem?_eq_getElem (by rw [HLN.out]; exact hlj)⟩
                  have HX := hid hx
                  have HWR := hid (rwrong_any (some ⟨g, o, none⟩) n c P ⟨needs, l⟩ A' ln c' j D cD H cH x wq HN.out HLN.out hle hx (HCHK.out j x hx) ((HP.out.same HFq.out (Nat.le_refl _)).more HFq.out.size) (HCO.out wq (HF6.out.trans hF3)) ((HDN6.out.same hF3 (Nat.le_refl _)).more hF3.size) ((HHN.out.same hF3 (Nat.le_refl _)).more hF3.size)
                    (fun k g hk => by have h := shapeF_none.1 (firstW_none.1 HPT.out k g hk); exact ⟨h.1, h.2.1⟩))
                  obtain ⟨y, hy⟩ : ∃ y, wrongAt P ⟨needs, l⟩ j x = y := ⟨_, rfl⟩
                  rw [hy] at HWR
                  have HY := hid hy
                  clear hx hy hF3
                  go_wp2_with fail
                  refine HWR.out.mono ?_
                  rintro e w7 ⟨rfl, hF7⟩
                  have HF7 := hid (HF3.out.trans hF7)
                  have HF07 := hid (HF0q.out.trans hF7)
                  clear hF7
                  by_cases hz : y = 0
                  · subst hz
                    go_wp2_with fail
                    go_roundg (ln - (j + 1))
                    case rel => exact ⟨j + 1, by show j + 1 ≤ l.length; rw [HLN.out]; omega, by show ln - (j + 1) = l.length - (j + 1); rw [HLN.out], by go_num, firstW_snoc HE3.out HX.out (by rw [Nat.zero_add]; exact flt_none.2 HY.out), HF7.out⟩
                    case measure => have := HD3.out; omega
                  · have t1 : (y != 0) = true := by simpa using hz
                    have e1 : flt (k2 : Nat) (j : Nat) (wrongAt P ⟨needs, l⟩ j x) = ⟨k2, j, y⟩ := by
                      rw [HY.out]
                      unfold flt
                      rw [if_neg hz]
                    have hnn : (⟨k2, j, y⟩ : Flt) ≠ Flt.none := fun h => by injection h with _ _ h; exact hz h
                    have hin : flowF P k2 ⟨needs, l⟩ = ⟨k2, j, y⟩ := by
                      unfold flowF
                      exact (firstW_stop HE3.out HX.out (by rw [Nat.zero_add, e1]; exact hnn)).trans (by rw [Nat.zero_add]; exact e1)
                    have HQ := hid (show prgF P = ⟨k2, j, y⟩ by
                      rw [prg4 HSZ.out HPT.out HRT.out]
                      unfold flowsF
                      exact (firstW_stop HE2.out HFK.out (by rw [Nat.zero_add, hin]; exact hnn)).trans (by rw [Nat.zero_add]; exact hin))
                    have hR := HR0.out.keep HF07.out (fun h => h)
                    have z0 := hR.frozen 0
                    have z1 := hR.frozen 1
                    have z2 := hR.frozen 2
                    have r0 := hR.cell (i := 0) rfl
                    have r1 := hR.cell (i := 1) rfl
                    have r2 := hR.cell (i := 2) rfl
                    clear hR e1 hnn hin
                    go_wp2_with fail
                    refine bodyPost_ret (v := .agg #[.int .i64 k2, .int .i64 j, .int .i64 y]) (by simp [results, Tryd.results18, go_sem, r0, r1, r2]; try rfl) rfl (FltPost.eq (x := ⟨k2, j, y⟩) ⟨rfl, Fr.put3 (HA.out.trans HF07.out) _ _ _ (by omega)⟩ HQ.out.symm)
                · have HZ := hid (show flowF P k2 ⟨needs, l⟩ = Flt.none by
                    have h := HE3.out
                    rw [List.take_of_length_le (show l.length ≤ j by rw [HLN.out]; omega)] at h
                    exact h)
                  clear hF3
                  go_wp2_with fail
                  go_roundg (n - (k2 + 1))
                  case rel => exact ⟨k2 + 1, by rw [HN.out]; omega, by rw [HN.out], by go_num, firstW_snoc HE2.out HFK.out (by rw [Nat.zero_add]; exact HZ.out), HF2.out.trans (HF1.out.trans (HF6.out.trans HF3.out))⟩
                  case measure => have := HD2.out; omega
            · have HQ := hid (show prgF P = Flt.none by
                rw [prg4 HSZ.out HPT.out HRT.out]
                have h := HE2.out
                rw [List.take_of_length_le (by rw [HN.out]; omega)] at h
                exact h)
              go_wp2_with fail
              refine bodyPost_ret (v := .agg #[.int .i64 0, .int .i64 0, .int .i64 0]) (by simp [results, Tryd.results18, go_sem, r0, r1, r2]; try rfl) rfl (FltPost.eq (x := Flt.none) ⟨rfl, Fr.put3 HFw2.out _ _ _ (by omega)⟩ HQ.out.symm)
        · have t1 : (nd0 != 0) = true := by simpa using hnd
          have HQ := hid (show prgF P = ⟨0, -1, 16⟩ by
            have h := hroot.trans (if_neg hnd)
            rw [prg3 HSZ.out HPT.out (by rw [h]; intro h; injection h with _ _ h; exact absurd h (by decide)), h])
          clear hroot
          go_wp2_with fail
          refine bodyPost_ret (v := .agg #[.int .i64 0, .int .i64 (-1), .int .i64 16]) (by simp [results, Tryd.results18, go_sem, r0, r1, r2]; try rfl) rfl (FltPost.eq (x := ⟨0, -1, 16⟩) ⟨rfl, Fr.put3 HFw.out _ _ _ (by omega)⟩ HQ.out.symm)

end Go.Proofs.YthpkhcompkfcaaaDoor
