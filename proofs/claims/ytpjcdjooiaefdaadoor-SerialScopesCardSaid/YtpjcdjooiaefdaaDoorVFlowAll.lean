/-
  flow: every instruction of every function, by the four tells.
-/
import Derived.Test.YtpjcdjooiaefdaaDoorVTells
import Derived.Test.YtpjcdjooiaefdaaDoorVHeldAll
import Derived.BigRegion
namespace Go.Proofs.YtpjcdjooiaefdaaDoor
open Go.RowKit
set_option linter.unusedVariables false

theorem told_none {s : Sit} {b : Bool} {x : Int} (h : toldF s b x = Flt.none) (hx : x ≠ 0) : b = false := by
  unfold toldF at h
  cases b with
  | false => rfl
  | true =>
    rw [if_pos rfl] at h
    injection h with _ _ h
    exact absurd h hx

/-- The four tells of one instruction. -/
theorem site_first {P : List Fn} {f : Fn} {x : Ins} (F : Option Addr) (nf cf k j : Nat) (D : Option Addr) (nd cd b o c : Nat) (w : World) (hn : P.length = nf) (hl : f.code.length = nd) (hnd : nd ≤ 1000) (hp : Prg w w.heap.size F P) (hD : Nums w w.heap.size D (dep 0 f.code))
    (hx : f.code[j]? = some x) (hc : chk x = 0) (hne : ∀ (k : Nat) g, P[k]? = some g → 0 ≤ g.needs ∧ g.needs ≤ 255) (hb : b < w.heap.size)
    (h0 : w.cell? ⟨b, o + 0, none⟩ = some (.func (.func 44) #[Sit.val ⟨F, nf, cf, (k : Nat), (j : Nat), x, D, nd, cd, (heldN f j : Nat)⟩] #[]))
    (h1 : w.cell? ⟨b, o + 1, none⟩ = some (.func (.func 45) #[Sit.val ⟨F, nf, cf, (k : Nat), (j : Nat), x, D, nd, cd, (heldN f j : Nat)⟩] #[]))
    (h2 : w.cell? ⟨b, o + 2, none⟩ = some (.func (.func 46) #[Sit.val ⟨F, nf, cf, (k : Nat), (j : Nat), x, D, nd, cd, (heldN f j : Nat)⟩] #[]))
    (h3 : w.cell? ⟨b, o + 3, none⟩ = some (.func (.func 47) #[Sit.val ⟨F, nf, cf, (k : Nat), (j : Nat), x, D, nd, cd, (heldN f j : Nat)⟩] #[])) :
    Calls Tryd.prog 24 #[.slice (some ⟨b, o, none⟩) 4 c] w (FltPost w (flt k j (wrongAt P f j x))) := by
  rw [← tells_eq P f k j x ⟨F, nf, cf, (k : Nat), (j : Nat), x, D, nd, cd, (heldN f j : Nat)⟩ rfl rfl (Sit.val ⟨F, nf, cf, (k : Nat), (j : Nat), x, D, nd, cd, (heldN f j : Nat)⟩) 44 45 46 47]
  refine first_any b o c _ 4 w rfl (Nat.le_refl _) hb ?_ ?_ ?_
  · intro i t ht
    match i, ht with
    | 0, ht => cases ht; exact h0
    | 1, ht => cases ht; exact h1
    | 2, ht => cases ht; exact h2
    | 3, ht => cases ht; exact h3
    | i + 4, ht => cases ht
  · intro i t ht
    match i, ht with
    | 0, ht => cases ht; exact enters_of Tryd.func44 (by kernel_rfl) rfl
    | 1, ht => cases ht; exact enters_of Tryd.func45 (by kernel_rfl) rfl
    | 2, ht => cases ht; exact enters_of Tryd.func46 (by kernel_rfl) rfl
    | 3, ht => cases ht; exact enters_of Tryd.func47 (by kernel_rfl) rfl
    | i + 4, ht => cases ht
  · intro i t W ht hbe hF
    match i, ht with
    | 0, ht =>
      cases ht
      have h := goal_any ⟨F, nf, cf, (k : Nat), (j : Nat), x, D, nd, cd, (heldN f j : Nat)⟩ W
      rw [goalS_eq F cf k j D cd _ hn hl] at h
      exact h
    | 1, ht =>
      cases ht
      have h := end_any ⟨F, nf, cf, (k : Nat), (j : Nat), x, D, nd, cd, (heldN f j : Nat)⟩ W hnd
      rw [endS_eq F nf cf k j D cd _ hl] at h
      exact h
    | 2, ht =>
      cases ht
      have hg := told_none (hbe 0 _ (by omega) rfl) (by decide)
      exact scope_all x F nf cf k j D nd cd _ W ((hD.same hF (Nat.le_refl _)).more hF.size) hl hx hg
    | 3, ht =>
      cases ht
      have hg := told_none (hbe 0 _ (by omega) rfl) (by decide)
      exact handle_all x F nf cf k j D nd cd W ((hp.same hF (Nat.le_refl _)).more hF.size) hn hc hg hne
    | i + 4, ht => cases ht

/-- Depths and what is held. -/
def FlCome (W1 : World) (f : Fn) (n : Nat) (u v : Value) (wx : World) : Prop :=
  ∃ D cd H ch, u = .slice D n cd ∧ v = .slice H n ch ∧ Nums wx wx.heap.size D (dep 0 f.code) ∧ Nums wx wx.heap.size H (natsI (heldL f)) ∧ Fr (fun _ => False) W1 wx

/-- A site in its box. -/
def SiCome (W1 : World) (s : Sit) (u : Value) (wx : World) : Prop := ∃ bs, u = .pointer (some ⟨bs, 0, none⟩) ∧ Blk wx bs s.cells ∧ Fr (fun _ => False) W1 wx

def FlRel (P : List Fn) (W0 : World) (d : Nat) (k : Value) (wr : World) : Prop :=
  ∃ j : Nat, j ≤ P.length ∧ d = P.length - j ∧ k = .int .i64 j ∧ firstW (flowF P) 0 (P.take j) = Flt.none ∧ Fr (fun _ => False) W0 wr

def FiRel' (P : List Fn) (f : Fn) (k : Nat) (W0 : World) (d : Nat) (kv : Value) (wr : World) : Prop :=
  ∃ j : Nat, j ≤ f.code.length ∧ d = f.code.length - j ∧ kv = .int .i64 j ∧ firstW (fun j i => flt k j (wrongAt P f j i)) 0 (f.code.take j) = Flt.none ∧ Fr (fun _ => False) W0 wr

set_option maxRecDepth 100000 in
set_option maxHeartbeats 4000000 in
theorem flow_any (A : Option Addr) (n c : Nat) (P : List Fn) (w : World) (hp : Prg w w.heap.size A P) (hn : P.length = n) (hb : n ≤ 1000)
    (hfs : ∀ (k : Nat) f, P[k]? = some f → 0 ≤ f.needs ∧ f.needs ≤ 255 ∧ f.code.length ≤ 1000 ∧ ∀ (j : Nat) i, f.code[j]? = some i → chk i = 0) :
    Calls Tryd.prog 28 #[.agg #[.slice A n c]] w (FltPost w (flowsF P)) := by
  have HN := hid hn
  have HFS := hid hfs
  have HNE := hid (show ∀ (k : Nat) g, P[k]? = some g → 0 ≤ g.needs ∧ g.needs ≤ 255 from fun k g h => ⟨(hfs k g h).1, (hfs k g h).2.1⟩)
  clear hn hfs
  obtain ⟨W0, hW0⟩ : ∃ W0, W0 = (w.alloc (.cells #[.slice A n c] 71)).alloc (.cells #[.int .i64 0, .int .i64 0, .int .i64 0] 49) := ⟨_, rfl⟩
  have HA := hid (show Fr (fun _ => False) w W0 by rw [hW0]; exact (Fr.alloc _ _ _).trans (Fr.alloc _ _ _))
  have HR0 := hid (show Blk W0 (w.heap.size + 1) #[.int .i64 0, .int .i64 0, .int .i64 0] by rw [hW0]; exact (Blk.new _ _ _).at (by simp))
  have HP0 := hid (show Blk W0 w.heap.size #[.slice A n c] by rw [hW0]; exact (Blk.new _ _ _).alloc _)
  go_enter Tryd.func28, Tryd.ntmps28
  go_wp2_with fail
  rw [← hW0]
  clear hW0
  go_loopg [14] n (fun d k wr => FlRel P W0 d k wr)
  case atStart => exact ⟨0, by omega, by rw [HN.out, Nat.sub_zero], rfl, rfl, Fr.refl _ _⟩
  case round =>
    obtain ⟨wo, rfl⟩ : ∃ wo, wo = wr := ⟨_, rfl⟩
    obtain ⟨k, hk, hd, rfl, he, hF⟩ := hrel
    rw [HN.out] at hk hd
    have HE := hid he
    have HD := hid hd
    clear he hd
    have hFw := HA.out.trans hF
    have hR := HR0.out.keep hF (fun h => h)
    have HF := hid hF
    have HFw := hid hFw
    have HR := hid hR
    by_cases hlt : k < n
    · obtain ⟨⟨needs, l⟩, hfk⟩ : ∃ f, P[k]? = some f := ⟨_, List.getElem?_eq_getElem (by rw [HN.out]; exact hlt)⟩
      obtain ⟨g, o, rfl, hg, hcell⟩ := (hp.same hFw (Nat.le_refl _)) (by rw [HN.out]; omega)
      obtain ⟨A', c', p0, p1, hcod⟩ := hcell k _ hfk
      simp only at p0 p1 hcod
      have HFK := hid hfk
      have hgl : g < wo.heap.size := Nat.lt_of_lt_of_le hg hFw.size
      have hle := (HFS.out k _ hfk).2.2.1
      simp only at hle
      clear hfk hcell hF hFw hR
      obtain ⟨ln, hln⟩ : ∃ ln, l.length = ln := ⟨_, rfl⟩
      rw [hln] at p1 hle
      have HLN := hid hln
      have HCOD := hid hcod
      clear hln hcod
      go_upto_region 4 with fail
      obtain ⟨W1, hW1⟩ : ∃ W1, W1 = wo.alloc (.cells #[.int .i64 needs, .slice A' ln c'] 40) := ⟨_, rfl⟩
      have HF1 := hid (show Fr (fun _ => False) wo W1 by rw [hW1]; exact Fr.alloc _ _ _)
      have hbf : Blk W1 wo.heap.size #[.int .i64 needs, .slice A' ln c'] := by rw [hW1]; exact Blk.new _ _ _
      have HBF := hid hbf
      rw [← hW1]
      clear hW1 p0 p1
      have HS := hid (show ∀ w', Fr (fun _ => False) W1 w' → w'.cell? ⟨wo.heap.size, 0, none⟩ = some (.int .i64 needs) ∧ w'.cell? ⟨wo.heap.size, 1, none⟩ = some (.slice A' ln c') from fun w' F => ⟨(hbf.keep F (fun h => h)).cell rfl, (hbf.keep F (fun h => h)).cell rfl⟩)
      have HDP := hid (fun (W : World) (h : Fr (fun _ => False) W1 W) => depths_any A' ln c' l W HLN.out hle (((HCOD.out.same (HF1.out.trans h) (HFw.out).size).more (Nat.le_trans HFw.out.size (HF1.out.trans h).size))))
      have HHP := hid (fun (W : World) (h : Fr (fun _ => False) W1 W) => held_any ⟨needs, l⟩ A' ln c' W HLN.out hle (((HCOD.out.same (HF1.out.trans h) (HFw.out).size).more (Nat.le_trans HFw.out.size (HF1.out.trans h).size))))
      clear hbf
      go_cut [5, 6] from 19 to 23 (fun u v wx => FlCome W1 ⟨needs, l⟩ ln u v wx)
      case first =>
        go_region_held3 (fun w' => w'.cell? ⟨wo.heap.size, 0, none⟩ = some (.int .i64 needs) ∧ w'.cell? ⟨wo.heap.size, 1, none⟩ = some (.slice A' ln c'))
          (first | exact HS.out _ (Fr.refl _ _) | exact HS.out _ (Fr.drew _ _) | exact HS.out _ HFD.out | exact HS.out _ HFH.out | exact HS.out _ (HFD.out.trans (Fr.drew _ _)) | exact HS.out _ (HFH.out.trans (Fr.drew _ _)))
          (first
            | (go_at_call 42; refine (HDP.out _ (by first | exact HFH.out | exact HFH.out.trans (Fr.drew _ _) | exact Fr.refl _ _ | exact Fr.drew _ _)).mono ?_; rintro e w3 ⟨D, n1, cd, rfl, hd1, hd2, hd3⟩; (obtain rfl : ln = n1 := by rw [dep_len, HLN.out] at hd1; exact hd1); have HDN := hid hd2; have HDF := hid hd3; have HFD := hid (Fr.trans (S := fun _ => False) (a := W1) (by first | exact HFH.out | exact HFH.out.trans (Fr.drew _ _) | exact Fr.refl _ _ | exact Fr.drew _ _) hd3); clear hd1 hd2 hd3)
            | (go_at_call 43; refine (HHP.out _ (by first | exact HFD.out | exact HFD.out.trans (Fr.drew _ _) | exact Fr.refl _ _ | exact Fr.drew _ _)).mono ?_; rintro e w4 ⟨H, n2, ch, rfl, hd1, hd2, hd3⟩; (obtain rfl : ln = n2 := by rw [natsI_len, heldL_len, HLN.out] at hd1; exact hd1); have HHN := hid hd2; have HHF := hid hd3; have HFH := hid (Fr.trans (S := fun _ => False) (a := W1) (by first | exact HFD.out | exact HFD.out.trans (Fr.drew _ _) | exact Fr.refl _ _ | exact Fr.drew _ _) hd3); clear hd1 hd2 hd3))
        all_goals
          go_wp2_with fail
          go_meet
          exact ⟨D, cd, H, ch, rfl, rfl,
            (by first | exact HDN.out | exact (HDN.out.same HHF.out (Nat.le_refl _)).more HHF.out.size | exact (HDN.out.same ((Fr.drew _ _).trans HHF.out) (Nat.le_refl _)).more HHF.out.size),
            (by first | exact HHN.out | exact (HHN.out.same HDF.out (Nat.le_refl _)).more HDF.out.size | exact (HHN.out.same ((Fr.drew _ _).trans HDF.out) (Nat.le_refl _)).more HDF.out.size),
            (by first | exact HFH.out | exact HFD.out)⟩
      case rest =>
        obtain ⟨D, cd, H, ch, rfl, rfl, hDN, hHN, hFc⟩ := hcut
        obtain ⟨wd, rfl⟩ : ∃ wd, wd = wc := ⟨_, rfl⟩
        have hbf := HBF.out.keep hFc (fun h => h)
        have e1 := hbf.cell (i := 1) rfl
        have e0 := hbf.cell (i := 0) rfl
        simp only [List.getElem_toArray, List.getElem_cons_zero, List.getElem_cons_succ] at e0 e1
        have HDN := hid hDN
        have HHN := hid hHN
        have HFE := hid (HF1.out.trans hFc)
        have HFc := hid (HFw.out.trans (HF1.out.trans hFc))
        have HF0 := hid (HF.out.trans (HF1.out.trans hFc))
        clear hDN hHN hFc hbf
        go_wp2_with fail
        go_loopg [27] ln (fun d k' wq => FiRel' P ⟨needs, l⟩ k wd d k' wq)
        case atStart => exact ⟨0, by omega, by show ln = l.length - 0; rw [HLN.out, Nat.sub_zero], rfl, rfl, Fr.refl _ _⟩
        case round =>
          obtain ⟨wq, rfl⟩ : ∃ wq, wq = wr := ⟨_, rfl⟩
          obtain ⟨k', hk', hd', rfl, he', hF'⟩ := hrel
          simp only at hk' hd'
          rw [HLN.out] at hk' hd'
          have HE' := hid he'
          have HD' := hid hd'
          have HFw' := hid (HFc.out.trans hF')
          have HF0' := hid (HF0.out.trans hF')
          clear he' hd' e0 e1
          by_cases hlt' : k' < ln
          · obtain ⟨⟨op, a, b, ci, m⟩, hik⟩ : ∃ i, l[k']? = some i := ⟨_, List.getElem?_eq_getElem (by rw [HLN.out]; exact hlt')⟩
            have hwq := HFw'.out.size
            have hcodq : Cod wq w.heap.size A' l := by
              exact (HCOD.out.same HFE.out HFw.out.size).same hF' HFc.out.size
            obtain ⟨g2, o2, rfl, hg2, hcell2⟩ := hcodq (by rw [HLN.out]; omega)
            obtain ⟨s0, s1, s2, s3, s4⟩ := hcell2 k' _ hik
            simp only at s0 s1 s2 s3 s4
            have hgl2 : g2 < wq.heap.size := Nat.lt_of_lt_of_le hg2 hwq
            obtain ⟨hv, hhv⟩ : ∃ hv, heldN ⟨needs, l⟩ k' = hv := ⟨_, rfl⟩
            obtain ⟨gh, oh, rfl, hgh, hch⟩ := (HHN.out.same hF' (Nat.le_refl _)) (by rw [natsI_len, heldL_len]; show 0 < l.length; rw [HLN.out]; omega)
            have c0 := hch k' (hv : Int) (by rw [← hhv]; exact natsI_at (heldL_at _ (by show k' < l.length; rw [HLN.out]; exact hlt')))
            have hgh2 : gh < wq.heap.size := Nat.lt_of_lt_of_le hgh hF'.size
            have HIK := hid hik
            have HHV := hid hhv
            have HF' := hid hF'
            clear hik hcell2 hcodq hch hhv hF'
            go_upto_region 8 with fail
            obtain ⟨W2, hW2⟩ : ∃ W2, W2 = wq.alloc (.cells #[.int .i64 op, .int .i64 a, .int .i64 b, .int .i64 ci, .int .i64 m] 43) := ⟨_, rfl⟩
            have HF2 := hid (show Fr (fun _ => False) wq W2 by rw [hW2]; exact Fr.alloc _ _ _)
            have hbi : Blk W2 wq.heap.size #[.int .i64 op, .int .i64 a, .int .i64 b, .int .i64 ci, .int .i64 m] := by rw [hW2]; exact Blk.new _ _ _
            have hbp : Blk W2 w.heap.size #[.slice (some ⟨g, o, none⟩) n c] := (HP0.out.keep HF0'.out (fun h => h)).keep HF2.out (fun h => h)
            rw [← hW2]
            clear hW2 s0 s1 s2 s3 s4
            have i0 := hbi.cell (i := 0) rfl
            have i1 := hbi.cell (i := 1) rfl
            have i2 := hbi.cell (i := 2) rfl
            have i3 := hbi.cell (i := 3) rfl
            have i4 := hbi.cell (i := 4) rfl
            have p0 := hbp.cell (i := 0) rfl
            have c0 := (cell_keep HF2.out (p := ⟨gh, oh + k', none⟩) hgh2 (fun h => h)).trans c0
            simp only [List.getElem_toArray, List.getElem_cons_zero, List.getElem_cons_succ] at i0 i1 i2 i3 i4 p0
            have hbil := hbi.lt
            have hbpl := hbp.lt
            have hghl : gh < W2.heap.size := Nat.lt_of_lt_of_le hgh2 HF2.out.size
            clear hbi hbp
            go_cut [9] from 32 to 42 (fun u wx => SiCome W2 ⟨some ⟨g, o, none⟩, n, c, (k : Nat), (k' : Nat), ⟨op, a, b, ci, m⟩, D, ln, cd, (hv : Nat)⟩ u wx)
            case first =>
              go_region
              go_wp2_with fail
              go_meet
              exact ⟨_, rfl, Blk.drew (Blk.new _ _ _), (Fr.alloc _ _ _).trans (Fr.drew _ _)⟩
            case rest =>
              obtain ⟨bs, rfl, hbs, hFs⟩ := hcut
              have g0 := hbs.cell (i := 0) rfl
              have g1 := hbs.cell (i := 1) rfl
              have g2' := hbs.cell (i := 2) rfl
              have g3 := hbs.cell (i := 3) rfl
              have g4 := hbs.cell (i := 4) rfl
              have g5 := hbs.cell (i := 5) rfl
              have g6 := hbs.cell (i := 6) rfl
              have g7 := hbs.cell (i := 7) rfl
              have g8 := hbs.cell (i := 8) rfl
              have g9 := hbs.cell (i := 9) rfl
              have HFs := hid (HFw'.out.trans (HF2.out.trans hFs))
              have HF0s := hid (HF0'.out.trans (HF2.out.trans hFs))
              have HFds := hid (HF'.out.trans (HF2.out.trans hFs))
              simp only [Sit.cells, List.getElem_toArray, List.getElem_cons_zero, List.getElem_cons_succ] at g0 g1 g2' g3 g4 g5 g6 g7 g8 g9
              clear hbs hFs i0 i1 i2 i3 i4 p0 c0
              go_wp2_with fail
              refine (site_first (P := P) (f := ⟨needs, l⟩) (x := ⟨op, a, b, ci, m⟩) (some ⟨g, o, none⟩) n c k k' D ln cd wc.heap.size 0 4 _ HN.out HLN.out hle ((hp.same (HFs.out.trans (Fr.alloc _ _ _)) (Nat.le_refl _)).more (HFs.out.trans (Fr.alloc _ _ _)).size) ((HDN.out.same (HFds.out.trans (Fr.alloc _ _ _)) (Nat.le_refl _)).more (HFds.out.trans (Fr.alloc _ _ _)).size)
                HIK.out ((HFS.out k _ HFK.out).2.2.2 k' _ HIK.out) HNE.out (by simp) (by rw [HHV.out]; exact (Blk.new _ _ _).cell rfl) (by rw [HHV.out]; exact (Blk.new _ _ _).cell rfl) (by rw [HHV.out]; exact (Blk.new _ _ _).cell rfl) (by rw [HHV.out]; exact (Blk.new _ _ _).cell rfl)).mono ?_
              rintro e w5 ⟨rfl, hF5⟩
              obtain ⟨y, hy⟩ : ∃ y, flt k k' (wrongAt P ⟨needs, l⟩ k' ⟨op, a, b, ci, m⟩) = y := ⟨_, rfl⟩
              rw [hy]
              obtain ⟨x0, x1, x2⟩ := y
              have HY := hid hy
              unfold Flt.val
              simp only
              have hF6 := (Fr.alloc (fun _ => False) wc _).trans (hF5.trans (Fr.alloc _ w5 (.cells #[.int .i64 x0, .int .i64 x1, .int .i64 x2] 49)))
              have hR2 := HR0.out.keep (HF0s.out.trans hF6) (fun h => h)
              have HF7 := hid (HFw'.out.trans (HF2.out.trans (Fr.refl _ _)))
              have HFw6 := hid (HFs.out.trans hF6)
              have HFd6 := hid (HFds.out.trans hF6)
              have HF06 := hid (HF0s.out.trans hF6)
              clear hF5 hF6 hy g0 g1 g2' g3 g4 g5 g6 g7 g8 g9
              by_cases hx : x0 = 0 ∧ x1 = 0 ∧ x2 = 0
              · obtain ⟨rfl, rfl, rfl⟩ := hx
                go_wp2_with fail
                go_roundg (ln - (k' + 1))
                case rel => exact ⟨k' + 1, by show k' + 1 ≤ l.length; rw [HLN.out]; omega, by show ln - (k' + 1) = l.length - (k' + 1); rw [HLN.out], by go_num, firstW_snoc HE'.out HIK.out (by rw [Nat.zero_add]; exact HY.out), HFd6.out⟩
                case measure => have := HD'.out; omega
              · have hnn : (⟨x0, x1, x2⟩ : Flt) ≠ Flt.none := fun h => by injection h with h1 h2 h3; exact hx ⟨h1, h2, h3⟩
                have hin : flowF P k ⟨needs, l⟩ = ⟨x0, x1, x2⟩ := by
                  unfold flowF
                  exact (firstW_stop HE'.out HIK.out (by rw [Nat.zero_add, HY.out]; exact hnn)).trans (by rw [Nat.zero_add]; exact HY.out)
                have HQ := hid (show flowsF P = ⟨x0, x1, x2⟩ by
                  unfold flowsF
                  exact (firstW_stop HE.out HFK.out (by rw [Nat.zero_add, hin]; exact hnn)).trans (by rw [Nat.zero_add]; exact hin))
                have hm : ¬ x0 = 0 ∨ (x0 = 0 ∧ ¬ x1 = 0) ∨ (x0 = 0 ∧ x1 = 0 ∧ ¬ x2 = 0) := by
                  by_cases h0 : x0 = 0
                  · by_cases h1 : x1 = 0
                    · exact .inr (.inr ⟨h0, h1, fun h2 => hx ⟨h0, h1, h2⟩⟩)
                    · exact .inr (.inl ⟨h0, h1⟩)
                  · exact .inl h0
                clear hx hnn hin
                rcases hm with hm | ⟨rfl, hm⟩ | ⟨rfl, rfl, hm⟩
                all_goals
                  have z0 := hR2.frozen 0
                  have z1 := hR2.frozen 1
                  have z2 := hR2.frozen 2
                  have r0 := hR2.cell (i := 0) rfl
                  have r1 := hR2.cell (i := 1) rfl
                  have r2 := hR2.cell (i := 2) rfl
                  go_wp2_with fail
                  refine bodyPost_ret (by simp [results, Tryd.results28, go_sem, r0, r1, r2]; try rfl) rfl (FltPost.eq (x := flowsF P) ⟨by rw [HQ.out]; rfl, Fr.put3 HFw6.out _ _ _ (by omega)⟩ rfl)
          · have HZ := hid (show flowF P k ⟨needs, l⟩ = Flt.none by
              have h := HE'.out
              rw [List.take_of_length_le (show l.length ≤ k' by rw [HLN.out]; omega)] at h
              exact h)
            have HF0'' := hid HF0'.out
            clear hF'
            go_wp2_with fail
            go_roundg (n - (k + 1))
            case rel => exact ⟨k + 1, by rw [HN.out]; omega, by rw [HN.out], by go_num, firstW_snoc HE.out HFK.out (by rw [Nat.zero_add]; exact HZ.out), HF0'.out⟩
            case measure => have := HD.out; omega
    · have HQ := hid (show flowsF P = Flt.none by
        have h := HE.out
        rw [List.take_of_length_le (by rw [HN.out]; omega)] at h
        exact h)
      have z0 := hR.frozen 0
      have z1 := hR.frozen 1
      have z2 := hR.frozen 2
      have r0 := hR.cell (i := 0) rfl
      have r1 := hR.cell (i := 1) rfl
      have r2 := hR.cell (i := 2) rfl
      clear hR hF hFw
      go_wp2_with fail
      refine bodyPost_ret (v := .agg #[.int .i64 0, .int .i64 0, .int .i64 0]) (by simp [results, Tryd.results28, go_sem, r0, r1, r2]; try rfl) rfl (FltPost.eq (x := Flt.none) ⟨rfl, Fr.put3 HFw.out _ _ _ (by omega)⟩ HQ.out.symm)

end Go.Proofs.YtpjcdjooiaefdaaDoor
