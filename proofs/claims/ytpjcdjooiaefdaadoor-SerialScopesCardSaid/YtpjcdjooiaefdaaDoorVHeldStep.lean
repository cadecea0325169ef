/-
  check.Held, from the label on.
-/
import Derived.Test.YtpjcdjooiaefdaaDoorVHeldA
import Derived.Deep.RegionHeld3
import Derived.Deep.DeepCutAuto
namespace Go.Proofs.YtpjcdjooiaefdaaDoor
open Go.RowKit Go.Shelf
attribute [local go_sem] Oper.semAt_some
set_option linter.unusedVariables false

set_option maxRecDepth 100000 in
set_option maxHeartbeats 8000000 in
theorem held_step (w : World) (f : Fn) (A : Option Addr) (n c g bh : Nat) (hn : f.code.length = n) (h1 : 1 ≤ n) (h2 : n ≤ 1000) (hg : w.heap.size < g) (hgb : g < bh) (hcod : Cod w w.heap.size A f.code) (d : Nat) (a : Act) (W : World) (hJ : HJ w f A n c g bh d a W) (hz : ∀ m A' c', W.cell? ⟨bh + 2, 0, none⟩ = some (.slice A' m c') → m ≠ 0) :
    heldRest.wp Tryd.prog (Exit.jump 0 (fun a' w' => ∃ d', d' < d ∧ HJ w f A n c g bh d' a' w') (bodyPostM Fence.wide 8 Tryd.prog Tryd.f43 (HeldPost w f))) a W := by
  obtain ⟨H, T, AT, cap, ds, u5, u6, u7, u8, u9, u10, u11, u12, u13, u14, u15, u16, u17, u18, u19, u20, u21, u22, u23, u24, u25, u26, u27, u28, u29, u30, u31, u32, u33, u34, u35, u36, u37, u38, u39, u40, u41, u42, u43, u44, u45, u46, u47, u48, u49, u50, u51, u52, u53, u54, u55, u56, u57, u58, u59, u60, u61, u62, u63, u64, u65, u66, u67, u68, u69, u70, u71, u72, u73, rfl, hnd, hds, hm, hi, hlt, hd, hd6⟩ := hJ
  have HN := hid hn
  have HND := hid hnd
  have HDS := hid hds
  have HM_ := hid hm
  have HI := hid hi
  have HLT := hid hlt
  have HD := hid hd
  obtain ⟨tn, htn⟩ : ∃ tn, T.length = tn := ⟨_, rfl⟩
  have q1 : tn ≤ 600000 := by omega
  have ct := hm.tb.blk.cell (i := 0) rfl
  have ch := hm.hb.blk.cell (i := 0) rfl
  simp only [List.getElem_toArray, List.getElem_cons_zero] at ct ch
  rw [htn] at ct
  have HTN := hid htn
  clear hn hnd hds hm hi hlt hd htn
  generalize hQ : Exit.jump 0 (fun a' w' => ∃ d', d' < d ∧ HJ w f A n c g bh d' a' w') (bodyPostM Fence.wide 8 Tryd.prog Tryd.f43 (HeldPost w f)) = Q
  have HQ := hid hQ
  clear hQ
  unfold heldRest
  simp only [Tryd.f43, findLabel]
  obtain ⟨q, rfl⟩ : ∃ q, tn = q + 1 := ⟨tn - 1, by have := hz _ _ _ ct; omega⟩
  obtain ⟨T0, x0, hT⟩ : ∃ T0 x0, T = T0 ++ [x0] := ⟨_, _, (List.dropLast_concat_getLast (l := T) (by intro h; have := HTN.out; rw [h] at this; simp at this)).symm⟩
  subst hT
  have hT0 : T0.length = q := by have := HTN.out; simp at this; exact this
  have hx0 : x0 < n := HLT.out x0 (by simp)
  have hm := HM_.out
  obtain ⟨gT, rfl, hgT1, hgT2, _, hcT⟩ := OwnR.cell hm.own (by simp)
  have hcap : q + 1 ≤ cap := by have := OwnR.cap_le hm.own (by simp); simp [hT0] at this; exact this
  have c0 : W.cell? ⟨gT, q, none⟩ = some (.int .i64 (x0 : Int)) := hcT q _ (by simp [ints, natsI, hT0])
  obtain ⟨⟨op, ia, ib, ic, im⟩, hx⟩ : ∃ x, f.code[x0]? = some x := ⟨_, List.getElem?_eq_getElem (by rw [HN.out]; exact hx0)⟩
  obtain ⟨a0, ha0⟩ : ∃ a0, H[x0]? = some a0 := ⟨_, List.getElem?_eq_getElem (by rw [HI.out.len, HN.out]; exact hx0)⟩
  have ha256 := HI.out.lt _ _ ha0
  obtain ⟨b, o, rfl, hb, hcell⟩ := hcod (by rw [HN.out]; omega)
  obtain ⟨s0, s1, s2, s3, s4⟩ := hcell x0 _ hx
  simp only at s0 s1 s2 s3 s4
  have z2 := hm.tb.blk.frozen 0
  have l2 := hm.tb.blk.lt
  obtain ⟨W1, hW1⟩ : ∃ W1, W1 = W.setCell ⟨bh + 2, 0, none⟩ (.slice (some ⟨gT, 0, none⟩) q cap) := ⟨_, rfl⟩
  have hF1 : Fr (fun k => k = bh + 2) W W1 := by rw [hW1]; exact Fr.setCell _ _ _ rfl
  have hgne : gT ≠ bh + 2 := by
    rintro rfl
    exact OwnR.ne hm.own hm.tb (by decide) ⟨_, rfl, rfl⟩
  have hm1 : HM w f (some ⟨b, o, none⟩) n c g bh H T0 (some ⟨gT, 0, none⟩) cap W1 := by
    refine ⟨hm.box.keep hF1 (by omega), hm.hb.keep hF1 (by omega), ?_, hm.row.keep hF1 (by omega), ?_, hm.fr.trans (hF1.mono (fun k hk => by omega))⟩
    · rw [hW1, hT0]; exact hm.tb.set 0 _
    · have h := OwnR.short (m := q) hm.own (by simp [hT0]) (by simp)
      unfold OwnN
      rw [hT0]
      refine OwnR.eq (OwnR.keep h hF1 ?_) (by simp [ints, natsI, hT0])
      rintro j ⟨a, ha, rfl⟩
      cases ha
      exact hgne
  have HM1 := hid hm1
  have HF1 := hid hF1
  have HFW := hid hm1.fr
  have HS := hid (show ∀ w', Fr (fun _ => False) W1 w' → w'.cell? ⟨bh, 0, none⟩ = some (.slice (some ⟨g, 0, none⟩) n n) ∧ w'.cell? ⟨g, x0, none⟩ = some (.int .i64 (a0 : Int)) ∧ w'.cell? ⟨w.heap.size, 0, none⟩ = some (.int .i64 f.needs) ∧ w'.cell? ⟨w.heap.size, 1, none⟩ = some (.slice (some ⟨b, o, none⟩) n c) ∧
      w'.cell? ⟨b, o + x0 * 5, none⟩ = some (.int .i64 op) ∧ w'.cell? ⟨b, o + x0 * 5 + 1, none⟩ = some (.int .i64 ia) ∧ w'.cell? ⟨b, o + x0 * 5 + 2, none⟩ = some (.int .i64 ib) ∧ w'.cell? ⟨b, o + x0 * 5 + 3, none⟩ = some (.int .i64 ic) ∧ w'.cell? ⟨b, o + x0 * 5 + 4, none⟩ = some (.int .i64 im) from fun w' F => by
    have hh := hm1.still F
    have hk : ∀ (j : Nat) (v : Value), w.cell? ⟨b, j, none⟩ = some v → w'.cell? ⟨b, j, none⟩ = some v := fun j v hv => (cell_keep hh.fr (p := ⟨b, j, none⟩) hb (by show ¬ w.heap.size ≤ b; omega)).trans hv
    exact ⟨hh.hb.blk.cell rfl, hh.row.blk.cell (rowOf_at ha0), hh.box.blk.cell rfl, hh.box.blk.cell rfl, hk _ _ s0, hk _ _ s1, hk _ _ s2, hk _ _ s3, hk _ _ s4⟩)
  have HX := hid hx
  have HA0 := hid ha0
  have HHT := hid hT0
  have HG := hid (gives_any ⟨op, ia, ib, ic, im⟩)
  unfold Ins.val at HG
  simp only at HG
  obtain ⟨gvn, hgv⟩ : ∃ gvn, gv ⟨op, ia, ib, ic, im⟩ = gvn := ⟨_, rfl⟩
  rw [hgv] at HG
  have hgvl : gvn < 256 := by rw [← hgv]; exact gv_lt _
  have HGV := hid hgv
  have HOR := hid (or_nat ha256 hgvl)
  have q2 : b < w.heap.size := hb
  have HC := hid hcod
  have HGN := hid hgne
  clear hT0 hm hcT hx ha0 hcell s0 s1 s2 s3 s4 hF1 hgne hm1 hgv hcod
  have w1 : W1.cell? ⟨bh, 0, none⟩ = some (.slice (some ⟨g, 0, none⟩) n n) := (HS.out _ (Fr.refl _ _)).1
  have hq1 : ((q : Int) + 1 - 1) = q := by omega
  clear hz
  obtain ⟨i0, hi0, hzz⟩ := Option.map_eq_some_iff.1 Tryd.infon
  simp only [Prod.mk.injEq] at hzz
  obtain ⟨hz0, hz1, hz2⟩ := hzz
  have HI0 := hid hi0
  have HZ0 := hid hz0
  have HZ1 := hid hz1
  have HZ2 := hid hz2
  clear hi0 hz0 hz1 hz2
  have G3' := hid (show gT < W1.heap.size ∧ g < W1.heap.size ∧ bh + 2 < W1.heap.size from ⟨Nat.lt_of_lt_of_le hgT2 HF1.out.size, HM1.out.row.blk.lt, HM1.out.tb.blk.lt⟩)
  go_upto_region 11 with fail
  rw [← hW1]
  clear hW1 ct c0 z2 ch
  go_cut [7] from 38 to 48 (fun u wx => ComeR W1 (a0 ||| gvn) u wx)
  case first =>
    go_region_held3 (fun w' => w'.cell? ⟨bh, 0, none⟩ = some (.slice (some ⟨g, 0, none⟩) n n) ∧ w'.cell? ⟨g, x0, none⟩ = some (.int .i64 (a0 : Int)) ∧ w'.cell? ⟨w.heap.size, 0, none⟩ = some (.int .i64 f.needs) ∧ w'.cell? ⟨w.heap.size, 1, none⟩ = some (.slice (some ⟨b, o, none⟩) n c) ∧
        w'.cell? ⟨b, o + x0 * 5, none⟩ = some (.int .i64 op) ∧ w'.cell? ⟨b, o + x0 * 5 + 1, none⟩ = some (.int .i64 ia) ∧ w'.cell? ⟨b, o + x0 * 5 + 2, none⟩ = some (.int .i64 ib) ∧ w'.cell? ⟨b, o + x0 * 5 + 3, none⟩ = some (.int .i64 ic) ∧ w'.cell? ⟨b, o + x0 * 5 + 4, none⟩ = some (.int .i64 im))
      (first | exact HS.out _ (Fr.refl _ _) | exact HS.out _ (Fr.drew _ _) | exact HS.out _ HF2.out | exact HS.out _ (HF2.out.trans (Fr.alloc _ _ _)) | exact HS.out _ ((Fr.alloc _ _ _).trans (Fr.drew _ _)) | exact HS.out _ (HF2.out.since (Fr.setCell (S := fun j => j = W1.heap.size) _ _ _ rfl) (fun i hi hl => by omega)))
      (first
        | (go_at_call 57; refine (HG.out _).mono ?_; rintro e w2 ⟨rfl, hF2⟩; have HF2 := hid ((Fr.drew (fun _ => False) W1).trans hF2))
        | (go_at_call 57; refine (HG.out _).mono ?_; rintro e w2 ⟨rfl, hF2⟩; have HF2 := hid (((Fr.alloc (fun _ => False) W1 (.cells #[.int .i64 0] 3)).trans (Fr.drew _ _)).trans hF2); have hbz := TBlk.keep (S := fun _ => False) (TBlk.new W1 #[.int .i64 0] 3) ((Fr.drew (fun _ => False) _).trans hF2) (fun h => h); have bz0 := hbz.blk.cell (i := 0) rfl; have bz1 := hbz.blk.frozen 0; have bz2 := hbz.blk.lt))
    all_goals
      rw [HOR.out]
      go_wp2_with fail
      go_meet
      first
        | exact ⟨_, rfl, HF2.out.size, TBlk.new _ _ _, HF2.out.trans (Fr.alloc _ _ _)⟩
        | exact ⟨_, rfl, Nat.le_refl _, hbz.set 0 _, HF2.out.since (Fr.setCell (S := fun j => j = W1.heap.size) _ _ _ rfl) (fun i hi hl => by omega)⟩
  case rest =>
    obtain ⟨bc, rfl, hbc1, hbc2, hFc⟩ := hcut
    have e1 := (HS.out _ hFc).2.2.2.1
    have hmc := HM1.out.still hFc
    go_wp2_with fail
    refine (behind_mk _ _ _ _ _).mono ?_
    rintro e W2 ⟨rfl, hW2⟩
    obtain ⟨lo, hlo⟩ : ∃ lo, lo = wc.heap.size := ⟨_, rfl⟩
    rw [← hlo]
    have hsz2 : W2.heap.size = lo + 2 := by rw [hW2, hlo]; simp
    have hbl : Blk W2 lo #[.slice (some ⟨b, o, none⟩) n c] := by rw [hW2, hlo]; exact (Blk.new _ _ _).alloc _
    have hba : Blk W2 (lo + 1) #[.int .i64 (x0 : Nat)] := by rw [hW2, hlo]; exact (Blk.new _ _ _).at (by simp)
    have hF2 : Fr (fun _ => False) wc W2 := by rw [hW2]; exact (Fr.alloc _ _ _).trans (Fr.alloc _ _ _)
    have hcod2 : Cod W2 W2.heap.size (some ⟨b, o, none⟩) f.code := ((HC.out.keep (hmc.fr.trans (hF2.mono (fun _ h => h.elim))) (Nat.le_refl _) (fun k h1 h2 => by omega)).more (hmc.fr.trans (hF2.mono (fun _ h => h.elim))).size)
    have HSZ := hid hsz2
    have HBL := hid hbl
    have HBA := hid hba
    have HC2 := hid hcod2
    have HM2 := hid (hmc.still hF2)
    have HBC := hid (hbc2.keep hF2 (fun h => h))
    have HLO := hid hlo
    have L1 : w.heap.size < lo := by rw [hlo]; exact hmc.box.blk.lt
    have L2 : bh + 2 < lo := by rw [hlo]; exact hmc.tb.blk.lt
    have L3 : g < lo := by rw [hlo]; exact hmc.row.blk.lt
    have L4 : bc < lo := by rw [hlo]; exact hbc2.blk.lt
    have hmk : ∀ d ∈ ds, wc.heap[d]? = some (.deferred (some [])) := fun d hd => by
      have h1 := (HDS.out d hd).1
      have e1 : W1.heap[d]? = W.heap[d]? := HF1.out.block d (mark_lt h1) (HM_.out.marks h1).1
      have e2 : wc.heap[d]? = W1.heap[d]? := hFc.block d (Nat.lt_of_lt_of_le (mark_lt h1) HF1.out.size) (fun h => h)
      rw [e2, e1]
      exact h1
    have L5 := hid (show ∀ d ∈ ds, d < lo from fun d hd => by rw [hlo]; exact mark_lt (hmk d hd))
    have L6 := hid (show ∀ d ∈ ds, W2.heap[d]? = some (.deferred (some [])) from fun d hd => by rw [hF2.block d (mark_lt (hmk d hd)) (fun h => h)]; exact hmk d hd)
    have L7 : gT < lo := by rw [hlo]; exact (OwnR.lt hmc.own gT ⟨_, rfl, rfl⟩).2
    have G1 : g < bc := by have := G3'.out; omega
    have G2 : bh + 2 < bc := by have := G3'.out; omega
    have G3 : gT < bc := by have := G3'.out; omega
    clear hmk
    clear hW2 hsz2 hbl hba hF2 hcod2 hmc hlo e1
    go_wp2_with fail
    refine wpIn_wide.1 (range_behind (n := 8) (lo := lo) (by omega) rfl f.code x0 ⟨op, ia, ib, ic, im⟩ HX.out (by rw [HN.out]; omega) (some ⟨b, o, none⟩) n c HN.out HSZ.out HBL.out HBA.out HC2.out
      (fun pre W => HIte w f (some ⟨b, o, none⟩) n c g bh x0 ⟨op, ia, ib, ic, im⟩ a0 bc (a0 ||| gvn) ds lo (2 * H.sum + q) pre W) ?hI ?h0 ?a1 ?assign ?body ?done)
    case assign =>
      intro lp j W K hK
      gi_wp2
      exact hK
    case hI =>
      rintro pre W W' S ⟨H', T', AT', cap', h⟩ F hS
      exact ⟨H', T', AT', cap', h.keep F hS L1 L2 L3 L4 L5.out⟩
    case h0 =>
      refine ⟨H, T0, some ⟨gT, 0, none⟩, cap, HM2.out, HIn.begin_ (HI.out.mono (fun i hi => by rcases List.mem_append.1 hi with h | h; exact .inl h; exact .inr (by simpa using h))) HX.out HA0.out, fun t ht => HLT.out t (List.mem_append.2 (.inl ht)), by rw [HHT.out]; exact Nat.le_refl _, HBC.out, L6.out, ?_⟩
      rintro j ⟨a, ha, rfl⟩
      cases ha
      exact ⟨by show gT ≠ bc; omega, .inl L7⟩
    case body =>
      intro lp pre j W hpr hWs hI
      obtain ⟨H', T', AT', cap', h⟩ := hI
      have hjm : j ∈ bhd f.code x0 := hpr.subset (by simp)
      have hjn : j < n := by have := bhd_lt hjm; rw [HN.out] at this; exact this
      obtain ⟨b', hb'⟩ : ∃ b', H'[j]? = some b' := ⟨_, List.getElem?_eq_getElem (by rw [h.inn.inv.len, HN.out]; exact hjn)⟩
      have hb256 := h.inn.inv.lt _ _ hb'
      have hc256 : a0 ||| gvn < 256 := or_lt ha256 hgvl
      obtain ⟨come, hcome⟩ : ∃ come, a0 ||| gvn = come := ⟨_, rfl⟩
      rw [hcome] at h hc256
      have HCO := hid hcome
      obtain ⟨ls, hls⟩ : ∃ ls, b' &&& come = ls := ⟨_, rfl⟩
      have HAN := hid (show bits .and .i64 (b' : Int) (come : Int) = (ls : Int) by rw [and_nat hb256 hc256, hls])
      have HLS := hid hls
      obtain ⟨tn', htn'⟩ : ∃ tn', T'.length = tn' := ⟨_, rfl⟩
      have hnum := h.num
      rw [htn'] at hnum
      have hHD : d = 2 * H.sum + (q + 1) := by rw [HD.out]; simp [HHT.out]
      have y1 : tn' ≤ 600000 := by omega
      have r0 : W.cell? ⟨bh, 0, none⟩ = some (.slice (some ⟨g, 0, none⟩) n n) := h.mem.hb.blk.cell rfl
      have r1 : W.cell? ⟨g, j, none⟩ = some (.int .i64 (b' : Int)) := h.mem.row.blk.cell (rowOf_at hb')
      have r2 : W.cell? ⟨bc, 0, none⟩ = some (.int .i64 (come : Int)) := h.come.blk.cell rfl
      have r3 : W.cell? ⟨bh + 2, 0, none⟩ = some (.slice AT' tn' cap') := by rw [← htn']; exact h.mem.tb.blk.cell rfl
      have z1 := h.mem.row.blk.frozen j
      have z3 := h.mem.tb.blk.frozen 0
      have l1 := h.mem.row.blk.lt
      have l3 := h.mem.tb.blk.lt
      have HH := hid h
      have HHB := hid hb'
      have HJM := hid hjm
      have HTN' := hid htn'
      have HNUM := hid hnum
      clear h hb' hjm htn' hcome hls hpr hnum hHD
      gi_wp2
      gi_region_with_o (fail)
      all_goals
        rw [HAN.out]
        by_cases hne : ls = b'
        · subst hne
          have t1 : ((ls : Int) != (ls : Int)) = false := by simp
          gi_wp2
          have F : Fr (fun _ => False) W W.drew := Fr.drew _ _
          exact ⟨StillR.of F (fun _ _ _ h => h), H', T', AT', cap', { (HH.out.keep F (fun _ h => h.elim) L1 L2 L3 L4 L5.out) with inn := HH.out.inn.same HHB.out (by rw [HGV.out, HCO.out]; exact HLS.out), come := by rw [HCO.out]; exact HH.out.come }⟩
        · have t1 : ((ls : Int) != (b' : Int)) = true := by simp; omega
          have hh := HH.out.keep (Fr.drew (fun _ => False) W) (fun _ h => h.elim) L1 L2 L3 L4 L5.out
          obtain ⟨Wd, hWd⟩ : ∃ Wd, Wd = W.drew := ⟨_, rfl⟩
          rw [← hWd] at hh ⊢
          have hFd : Fr (fun _ => False) W Wd := by rw [hWd]; exact Fr.drew _ _
          have hWsd : lo + 5 ≤ Wd.heap.size := Nat.le_trans hWs hFd.size
          have HFD := hid hFd
          have HHH := hid hh
          have r0 : Wd.cell? ⟨bh, 0, none⟩ = some (.slice (some ⟨g, 0, none⟩) n n) := hh.mem.hb.blk.cell rfl
          have r1 : Wd.cell? ⟨g, j, none⟩ = some (.int .i64 (b' : Int)) := hh.mem.row.blk.cell (rowOf_at HHB.out)
          have z1 := hh.mem.row.blk.frozen j
          have l1 := hh.mem.row.blk.lt
          have hFs : Fr (fun k => k = g) Wd (Wd.setCell ⟨g, j, none⟩ (.int .i64 (ls : Int))) := Fr.setCell _ _ _ rfl
          have hnt : ∀ k, ownB AT' k → ¬ k = g := fun k hk e => by have := (OwnR.lt hh.mem.own k hk).1; omega
          have r3 : (Wd.setCell ⟨g, j, none⟩ (.int .i64 (ls : Int))).cell? ⟨bh + 2, 0, none⟩ = some (.slice AT' tn' cap') := by
            rw [← HTN'.out]
            exact (hh.mem.tb.keep hFs (fun e => by omega)).blk.cell rfl
          have ho := (OwnR.keep hh.mem.own hFs hnt).same (Fr.alloc _ _ (.cells #[.int .i64 (j : Int)] 3))
          rw [HTN'.out] at ho
          have HO := hid ho
          have HNW := hid (news_int (Wd.setCell ⟨g, j, none⟩ (.int .i64 (ls : Int))) (j : Int) (b := Wd.heap.size) (by simp [World.setCell]))
          have HSB := hid (show bh + 1 ≤ ((Wd.setCell ⟨g, j, none⟩ (.int .i64 (ls : Int))).alloc (.cells #[.int .i64 (j : Int)] 3)).heap.size by
            have := hh.mem.tb.blk.lt
            simp [World.setCell]
            omega)
          have HS1 := hid (show ((Wd.setCell ⟨g, j, none⟩ (.int .i64 (ls : Int))).alloc (.cells #[.int .i64 (j : Int)] 3)).heap.size = Wd.heap.size + 1 by simp [World.setCell])
          have htb0 := (hh.mem.tb.keep hFs (fun e => by omega)).keep (Fr.alloc (fun _ => False) _ (.cells #[.int .i64 (j : Int)] 3)) (fun h => h)
          have HTB0 := hid htb0
          have HNE := hid (OwnR.ne hh.mem.own hh.mem.tb (by decide))
          clear hWd hFd hh hFs hnt ho htb0 hWs l3 z3
          gi_wp2_with (gi_at_builtin; refine wpListIn_append_lies _ rfl _ _ 80 rfl (bh + 1) 3 i0 (.int .i64 0) 1 8 Tryd.underlying80 HI0.out HZ0.out HZ1.out HZ2.out rfl (by decide) (.slice AT' tn' cap') tn' _ rfl HO.out ⟨Wd.heap.size, 0, none⟩ 1 1 (ints [(j : Int)]) rfl rfl HNW.out (ints_one _) (by omega) (by unfold maxLen; omega) (by omega) HSB.out (Wd.heap.size + 1) HS1.out ?_; intro g2 c2 w7 hown7 hgrow7 hat7 hlt7; have HO7 := hid hown7; have HG7 := hid (Fr.of_grown hgrow7); have HAT7 := hid hat7; have htb7 := HTB0.out.keep HG7.out HNE.out; have z3 := htb7.blk.frozen 0; have l3 := htb7.blk.lt; have r3 := htb7.blk.cell (i := 0) rfl; clear hown7 hgrow7 hat7 hlt7 htb7)
          obtain ⟨F8, h8⟩ := HHH.out.grow HJM.out hjn HHB.out HLS.out hne (by rw [HGV.out]; exact HCO.out) HTN'.out hg hgb G1 G2 L4 hWsd HO7.out HG7.out (HAT7.out.elim (fun e => .inl (own_of e)) .inr)
          rw [← HCO.out] at h8
          refine ⟨StillR.of ((HFD.out.mono (fun _ h => h.elim)).trans F8) ?_, _, _, _, _, h8⟩
          rintro k h1 h2 (e | e | e)
          · omega
          · have := (HHH.out.away _ e).2; omega
          · omega
    case done =>
      rintro W ⟨H', T', AT', cap', h⟩ hK
      go_wp2_with fail
      go_step3
      rw [← HQ.out]

      refine ⟨rfl, 2 * H'.sum + T'.length, ?_, H', T', AT', cap', (lo + 2) :: ds, _, _, _, _, _, _, _, _, _, _, _, _, _, _, _, _, _, _, _, _, _, _, _, _, _, _, _, _, _, _, _, _, _, _, _, _, _, _, _, _, _, _, _, _, _, _, _, _, _, _, _, _, _, _, _, _, _, _, _, _, _, _, _, _, _, _, _, _, _, rfl, ?_, ?_, h.mem, h.inn.done, h.lt, rfl, ?_⟩
      · have := h.num; have := HD.out; have := HHT.out; simp at *; omega
      · exact List.nodup_cons.2 ⟨fun hh => by have := L5.out _ hh; omega, HND.out⟩
      · rintro d' hd'
        rcases List.mem_cons.1 hd' with rfl | hd'
        · exact ⟨hK, by omega⟩
        · exact ⟨h.marks d' hd', (HDS.out d' hd').2⟩
      · have := h.num; have := HD.out; have := HHT.out; simp at *; omega

end Go.Proofs.YtpjcdjooiaefdaaDoor
