/-
  A Join, a Try.
-/
import Derived.Test.YtpjcdjooiaefdaaDoorVBegun
namespace Go.Proofs.YtpjcdjooiaefdaaDoor
open Go.RowKit
set_option linter.unusedVariables false

/-- A task in a new block, a number, a truth. -/
def CameJ (cel : Frm → Array Value) (G : Frm) (x : Int) (p : Bool) (w : World) (u v z : Value) (wx : World) : Prop := ∃ g, u = .pointer (some ⟨g, 0, none⟩) ∧ v = .int .i64 x ∧ z = .bool p ∧ Blk wx g (cel G) ∧ w.heap.size ≤ g ∧ Fr (fun _ => False) w wx

theorem flatR_at {l : List Rw} {j : Nat} {r : Rw} (hj : l[j]? = some r) {i : Nat} (hi : i < 7) : (flatR (runsL l))[j * 7 + i]? = r.runs.cells[i]? :=
  flat_at Rw.cells 7 (fun _ => rfl) (by unfold runsL; rw [List.getElem?_map, hj]; rfl) hi

theorem Rws.cell {w : World} {B : Nat} {A : Option Addr} {cap : Nat} {l : List Rw} (h : Rws w B A cap l) {j : Nat} {r : Rw} (hj : l[j]? = some r) : ∃ g, A = some ⟨g, 0, none⟩ ∧ B ≤ g ∧ g < w.heap.size ∧ ∀ i, i < 7 → ∀ u, r.runs.cells[i]? = some u → w.cell? ⟨g, j * 7 + i, none⟩ = some u := by
  have hjl := (List.getElem?_eq_some_iff.1 hj).1
  obtain ⟨g, hA, hB, hg, _, hc⟩ := OwnR.cell h (by omega)
  exact ⟨g, hA, hB, hg, fun i hi u hu => hc _ u ((flatR_at hj hi).trans hu)⟩

theorem done_runs {r : Rw} (h : isDone r) : r.runs = r := by
  unfold Rw.runs
  rw [if_neg (by have := h.1; omega)]

/-- A row is loaded. -/
theorem Rws.load {w : World} {B : Nat} {A : Option Addr} {cap : Nat} {l : List Rw} (h : Rws w B A cap l) {j : Nat} {r : Rw} (hj : l[j]? = some r) (hd : isDone r) {g : Nat} (hA : A = some ⟨g, 0, none⟩) {M : Nat} (hM : M = 7) :
    (loadCellsFrom ⟨g, j * M, none⟩ 0 M #[]).run Tryd.prog w = .ok r.cells.toArray w := by
  subst hM
  obtain ⟨g', hA', _, _, hc⟩ := h.cell hj
  rw [hA] at hA'
  injection hA' with hA'
  injection hA' with hA'
  subst hA'
  rw [done_runs hd] at hc
  have h2 := run_loadCells_list (P := Tryd.prog) w ⟨g, j * 7, none⟩ r.cells (fun i v hv => by
    rw [add_none]
    have hi := (List.getElem?_eq_some_iff.1 hv).1
    rw [Rw.cells_len] at hi
    exact hc i hi v hv)
  simpa [loadCells, Rw.cells_len] using h2

section
variable {cel : Frm → Array Value} (tb rb a : Nat) (r : Rw) (F : Frm) (I : Value) (op : Int) (C K : Value) (w : World)

set_option maxRecDepth 100000 in
set_option maxHeartbeats 4000000 in
theorem join_do (i : Ins) (hC : Cel cel) (ht : Tabs w) (hlow : 2 ≤ tb) (hk : chk i = 0) (hop : i.op = 9 ∨ i.op = 10) (pa : Option Addr) (pn pc : Nat) (N0 st : Int) (cap B : Nat) (A : Option Addr) (l : List Rw) (hl : l.length < 2000000)
    (hR : IsR w rb pa pn pc N0 st A l.length cap) (hO : Rws w B A cap l) (j : Nat) (rw_ : Rw) (hj : F.h (handOf i) = j) (hr : l[j]? = some rw_) (hd : isDone rw_) (h : IsT w cel tb rb a r F I op C K) :
    Calls Tryd.prog 30 #[.pointer (some ⟨tb, 0, none⟩), i.val] w fun e w' => e = .returned (.tuple #[]) ∧ IsT w' cel tb rb a (if panics i rw_.kind then { r with kind := 3, v := codeOf i rw_.kind rw_.v } else r) (F.joined i rw_.kind rw_.v) I op C K ∧ Fr (fun j => j = tb) w w' := by
  have HJ := hid (fun W (hW : Tabs W) => join_any hC F i rw_.kind rw_.v W hW)
  obtain ⟨G, hG⟩ : ∃ G, F.joined i rw_.kind rw_.v = G := ⟨_, rfl⟩
  obtain ⟨pb, hpb⟩ : ∃ pb, panics i rw_.kind = pb := ⟨_, rfl⟩
  obtain ⟨cd, hcd⟩ : ∃ cd, codeOf i rw_.kind rw_.v = cd := ⟨_, rfl⟩
  rw [hG, hpb, hcd] at HJ
  rw [hG, hpb, hcd]
  clear hG hpb hcd
  obtain ⟨o, x, y, z, n, ho, hx, hy, hz, rfl⟩ := chk_letters hk
  simp only at hop
  obtain ⟨q, hq⟩ : ∃ q, handOf ⟨o, x, y, z, n⟩ = q := ⟨_, rfl⟩
  have hqz : (if (o : Int) = 10 then z else y) = q := by rw [← hq]; unfold handOf; simp
  have hq8 : q < 8 := by split at hqz <;> omega
  rw [hq] at hj
  clear hq hk
  unfold Ins.val at *
  simp only at *
  obtain ⟨N, hN, hN1, hN2⟩ := nineteen
  obtain ⟨M, hM, hM1⟩ := sizeRow
  have hM0 : ¬ M = 0 := by omega
  have hN0 : ¬ N = 0 := by omega
  have hsz : ∀ F, (cel F).size = N := fun F => by rw [hC.size, hN]
  have hA := Fr.alloc (fun _ => False) w (.cells #[.int .i64 o, .int .i64 x, .int .i64 y, .int .i64 z, .int .i64 n] 43)
  have hB := Blk.new w #[.int .i64 o, .int .i64 x, .int .i64 y, .int .i64 z, .int .i64 n] 43
  obtain ⟨w1, hw1⟩ : ∃ w1, w1 = w.alloc (.cells #[.int .i64 o, .int .i64 x, .int .i64 y, .int .i64 z, .int .i64 n] 43) := ⟨_, rfl⟩
  rw [← hw1] at hA hB
  have HA := hid hA
  have HB := hid hB
  have HT := hid (h.keep hA (fun h => h))
  have HR := hid (TBlk.keep hR hA (fun h => h))
  obtain ⟨gr, hgr, hgB, hgl, _⟩ := Rws.cell hO hr
  subst hgr
  obtain ⟨rc, hrc⟩ : ∃ rc : Array Value, rw_.cells.toArray = rc := ⟨_, rfl⟩
  have hjl := (List.getElem?_eq_some_iff.1 hr).1
  have HS := hid (show ∀ W, Fr (fun _ => False) w1 W → W.cell? ⟨tb, 0, none⟩ = some (.pointer (some ⟨rb, 0, none⟩)) ∧ W.cell? ⟨rb, 3, none⟩ = some (.slice (some ⟨gr, 0, none⟩) l.length cap) ∧ W.cell? ⟨tb, 19 + q, none⟩ = some (.int .i64 j) ∧ (loadCellsFrom ⟨gr, j * M, none⟩ 0 M #[]).run Tryd.prog W = .ok rc W from fun W hW => by
    have hT := h.keep (hA.trans hW) (fun h => h)
    refine ⟨hT.lo.1, (TBlk.blk (TBlk.keep hR (hA.trans hW) (fun h => h))).cell rfl, ?_, ?_⟩
    · have h2 := hT.mid hC (j := 10 + q) (by omega) (hC.h F q hq8)
      rw [hj] at h2
      rw [show 19 + q = 9 + (10 + q) by omega]
      exact h2
    · rw [← hrc]
      exact Rws.load (OwnR.same hO (hA.trans hW)) hr hd rfl hM)
  have HO := hid hop
  have HQ := hid hqz
  have hq0 : (0 : Int) ≤ q ∧ (q : Int) < 8 := by omega
  obtain ⟨ln, hln⟩ : ∃ ln, l.length = ln := ⟨_, rfl⟩
  rw [hln] at HS hjl
  have hj0 : (0 : Int) ≤ j ∧ (j : Int) < ln := by omega
  have HD := hid (Fr.refl (fun _ => False) w1)
  have HN := hid hN
  have HM := hid hM
  have HRC := hid hrc
  have HH := hid h
  have HTB := hid (show ∀ W, Fr (fun _ => False) w W → Tabs W from fun W hW => ht.same hW)
  have htl : tb < w.heap.size := h.lt
  have hlt := HT.out.lt
  have s0 := hB.cell (i := 0) rfl
  have s2 := hB.cell (i := 2) rfl
  have s3 := hB.cell (i := 3) rfl
  simp only [List.getElem_toArray, List.getElem_cons_zero, List.getElem_cons_succ] at s0 s2 s3
  clear hA hB hN hM hrc h hR hO hj hr hd hjl hop hqz ht hlow hl hgl hln
  go_enter Tryd.func30, Tryd.ntmps30
  go_upto_region 1 with fail
  rw [← hw1]
  clear hw1
  go_upto_if 13 with fail
  go_cut [4] from 9 to 16 (fun u wx => u = .int .i64 q ∧ wx = w1)
  case first =>
    by_cases h10 : (o : Int) = 10
    · have t10 : ((o : Int) == 10) = true := beq_iff_eq.2 h10
      have hqq := HQ.out
      rw [if_pos h10] at hqq
      clear h10
      go_wp2_with fail
      go_meet
      case rel => exact ⟨by first | rfl | rw [hqq], rfl⟩
    · have t10 : ((o : Int) == 10) = false := beq_eq_false_iff_ne.2 h10
      have hqq := HQ.out
      rw [if_neg h10] at hqq
      clear h10
      go_wp2_with fail
      go_meet
      case rel => exact ⟨by first | rfl | rw [hqq], rfl⟩
  case rest =>
  obtain ⟨rfl, hwc⟩ := hcut
  rw [hwc]
  clear hwc s0 s2 s3
  go_upto_region 4 with fail
  go_cut [5] from 16 to 32 (fun u wx => CameC rc w1 u wx)
  case first =>
    have his : rc.size = M := by rw [← HRC.out, HM.out]; rfl
    have hi1 : rc.all (·.oneCell') = true := by rw [← HRC.out]; simp [Rw.cells, Value.oneCell']
    have hstC : ∀ (V : World), (storeCells ⟨V.heap.size, 0, none⟩ rc.toList 0).run Tryd.prog (V.alloc (.cells zero7 33)) = .ok () ((V.alloc (.cells zero7 33)).setRow V.heap.size rc) := fun V => store_at (n := 7) (Blk.new V zero7 _) rfl (his.trans HM.out) hi1
    have hstD : ∀ (V : World), (storeCells ⟨V.heap.size, 0, none⟩ rc.toList 0).run Tryd.prog (V.alloc (.cells zero7 33)).drew = .ok () ((V.alloc (.cells zero7 33)).drew.setRow V.heap.size rc) := fun V => store_at (n := 7) (Blk.new V zero7 _).drew rfl (his.trans HM.out) hi1
    unfold zero7 at hstC hstD
    clear hi1
    go_region_held3 (fun W => W.cell? ⟨tb, 0, none⟩ = some (.pointer (some ⟨rb, 0, none⟩)) ∧ W.cell? ⟨rb, 3, none⟩ = some (.slice (some ⟨gr, 0, none⟩) ln cap) ∧ W.cell? ⟨tb, 19 + q, none⟩ = some (.int .i64 j) ∧ (loadCellsFrom ⟨gr, j * M, none⟩ 0 M #[]).run Tryd.prog W = .ok rc W)
      (first | exact HS.out _ HD.out | exact HS.out _ (HD.out.trans (Fr.drew _ _)) | exact HS.out _ (HD.out.trans (Fr.alloc _ _ _)) | exact HS.out _ (HD.out.trans ((Fr.alloc _ _ _).trans (Fr.drew _ _))) | exact HS.out _ ((HD.out.trans (Fr.alloc _ _ _)).over (setRow_fr _ _ _ rfl) HD.out.size) | exact HS.out _ ((HD.out.trans ((Fr.alloc _ _ _).trans (Fr.drew _ _))).over (setRow_fr _ _ _ rfl) HD.out.size))
      (fail)
    all_goals
      go_wp2_with fail
      go_meet
      case rel => first
        | exact ⟨_, rfl, setRow_blk (Blk.new _ _ _) _, HD.out.size, (HD.out.trans (Fr.alloc _ _ _)).over (setRow_fr _ _ _ rfl) HD.out.size⟩
        | exact ⟨_, rfl, setRow_blk (Blk.new _ _ _).drew _, HD.out.size, (HD.out.trans ((Fr.alloc _ _ _).trans (Fr.drew _ _))).over (setRow_fr _ _ _ rfl) HD.out.size⟩
  case rest =>
  obtain ⟨g, rfl, hG, hg, hFc⟩ := hcut
  obtain ⟨w2, hw2⟩ : ∃ w2, w2 = wc := ⟨_, rfl⟩
  rw [← hw2] at hG hFc ⊢
  clear hw2
  have HF2 := hid (HA.out.trans hFc)
  have HG := hid hG
  have HB2 := hid (HB.out.keep hFc (fun h => h))
  have HT2 := hid (HT.out.keep hFc (fun h => h))
  have hgl2 := HG.out.lt
  have hgb : g ≠ w.heap.size := by have := hg; have := HB.out.lt; omega
  obtain ⟨kd, hkd⟩ : ∃ kd, rw_.kind = kd := ⟨_, rfl⟩
  obtain ⟨vv, hvv⟩ : ∃ vv, rw_.v = vv := ⟨_, rfl⟩
  have g3 : w2.cell? ⟨g, 3, none⟩ = some (.int .i64 kd) := HG.out.cell (by rw [← HRC.out, ← hkd]; rfl)
  have g4 : w2.cell? ⟨g, 4, none⟩ = some (.int .i64 vv) := HG.out.cell (by rw [← HRC.out, ← hvv]; rfl)
  have HG3 := hid (show ∀ W, Fr (fun _ => False) w2 W → W.cell? ⟨g, 3, none⟩ = some (.int .i64 kd) ∧ W.cell? ⟨g, 4, none⟩ = some (.int .i64 vv) from fun W hW => ⟨(cell_keep hW (p := ⟨g, 3, none⟩) hgl2 (fun h => h)).trans g3, (cell_keep hW (p := ⟨g, 4, none⟩) hgl2 (fun h => h)).trans g4⟩)
  obtain ⟨ic, hic⟩ : ∃ ic : Array Value, #[.int .i64 o, .int .i64 x, .int .i64 y, .int .i64 z, .int .i64 n] = ic := ⟨_, rfl⟩
  rw [hic, hkd, hvv] at HJ
  rw [hic] at HB2
  obtain ⟨M5, hM5, hM51⟩ := sizeIns
  have hM50 : ¬ M5 = 0 := by omega
  have HS2 := hid (show ∀ W, Fr (fun _ => False) w2 W → (loadCellsFrom ⟨tb, 9, none⟩ 0 N #[]).run Tryd.prog W = .ok (cel F) W ∧ (loadCellsFrom ⟨w.heap.size, 0, none⟩ 0 M5 #[]).run Tryd.prog W = .ok ic W ∧ W.cell? ⟨g, 3, none⟩ = some (.int .i64 kd) ∧ W.cell? ⟨g, 4, none⟩ = some (.int .i64 vv) from fun W hW =>
    ⟨(HT2.out.keep hW (fun h => h)).load hC HN.out, load_eq (HB2.out.keep hW (fun h => h)) (by rw [← hic, hM5]; rfl), (HG3.out W hW).1, (HG3.out W hW).2⟩)
  have HD2 := hid (Fr.refl (fun _ => False) w2)
  have HIC := hid hic
  have htl2 := HT2.out.lt
  clear hG hFc g3 g4 hic hg hM1 hM0 hM5 hkd hvv
  go_upto_region 5 with fail
  go_cut [6, 7, 8] from 32 to 46 (fun u v t wx => CameJ cel G cd pb w2 u v t wx)
  case first =>
    have hstC : ∀ (V : World), (storeCells ⟨V.heap.size, 0, none⟩ (cel G).toList 0).run Tryd.prog (V.alloc (.cells zeros 59)) = .ok () ((V.alloc (.cells zeros 59)).setRow V.heap.size (cel G)) := fun V => store_eq (Blk.new V zeros _) (hC.size _) (hC.one _)
    have hstD : ∀ (V : World), (storeCells ⟨V.heap.size, 0, none⟩ (cel G).toList 0).run Tryd.prog (V.alloc (.cells zeros 59)).drew = .ok () ((V.alloc (.cells zeros 59)).drew.setRow V.heap.size (cel G)) := fun V => store_eq (Blk.new V zeros _).drew (hC.size _) (hC.one _)
    have HST := hid (show ∀ (V : World) (b : Nat), Blk V b zeros → (storeCells ⟨b, 0, none⟩ (cel G).toList 0).run Tryd.prog V = .ok () (V.setRow b (cel G)) from fun V b hb => store_eq hb (hC.size _) (hC.one _))
    unfold zeros at hstC hstD HST
    go_region_held3 (fun W => (loadCellsFrom ⟨tb, 9, none⟩ 0 N #[]).run Tryd.prog W = .ok (cel F) W ∧ (loadCellsFrom ⟨w.heap.size, 0, none⟩ 0 M5 #[]).run Tryd.prog W = .ok ic W ∧ W.cell? ⟨g, 3, none⟩ = some (.int .i64 kd) ∧ W.cell? ⟨g, 4, none⟩ = some (.int .i64 vv))
      (first | exact HS2.out _ HD2.out | exact HS2.out _ (HD2.out.trans (Fr.drew _ _)) | exact HS2.out _ (HD2.out.trans (Fr.alloc _ _ _)) | exact HS2.out _ (HD2.out.trans ((Fr.alloc _ _ _).trans (Fr.drew _ _))) | exact HS2.out _ (HD2.out.over (setRow_fr _ _ _ rfl) (Nat.le_refl _)) | exact HS2.out _ ((HD2.out.trans (Fr.alloc _ _ _)).over (setRow_fr _ _ _ rfl) HD2.out.size) | exact HS2.out _ ((HD2.out.trans ((Fr.alloc _ _ _).trans (Fr.drew _ _))).over (setRow_fr _ _ _ rfl) HD2.out.size))
      (first
        | (go_at_call 49; (with_reducible refine (HJ.out _ (HTB.out _ ((HF2.out.trans HD2.out).trans (by first | exact Fr.drew _ _ | exact Fr.refl _ _ | exact Fr.alloc _ _ _ | exact (Fr.alloc _ _ _).trans (Fr.drew _ _))))).mono ?_); rintro e w7 ⟨rfl, hF7⟩; (try (have HBB := hid (blk_of' hF7); have hst := HST.out _ _ HBB.out)); (try (have HBB := hid (blk_of hF7); have hst := HST.out _ _ HBB.out)); have HD2 := hid (HD2.out.trans (Fr.trans (by first | exact Fr.refl _ _ | exact Fr.drew _ _ | exact Fr.alloc _ _ _ | exact (Fr.alloc _ _ _).trans (Fr.drew _ _)) hF7)); clear hF7))
    all_goals
      go_wp2_with fail
      go_meet
      case rel => first
        | exact ⟨_, rfl, rfl, rfl, setRow_blk HBB.out _, Nat.le_refl _, HD2.out.over (setRow_fr _ _ _ rfl) (Nat.le_refl _)⟩
        | exact ⟨_, rfl, rfl, rfl, setRow_blk (Blk.new _ _ _) _, HD2.out.size, (HD2.out.trans (Fr.alloc _ _ _)).over (setRow_fr _ _ _ rfl) HD2.out.size⟩
        | exact ⟨_, rfl, rfl, rfl, setRow_blk (Blk.new _ _ _).drew _, HD2.out.size, (HD2.out.trans ((Fr.alloc _ _ _).trans (Fr.drew _ _))).over (setRow_fr _ _ _ rfl) HD2.out.size⟩
  case rest =>
  obtain ⟨g6, rfl, rfl, rfl, hG6, hg6, hFc6⟩ := hcut
  obtain ⟨w3, hw3⟩ : ∃ w3, w3 = wc := ⟨_, rfl⟩
  rw [← hw3] at hG6 hFc6 ⊢
  clear hw3
  have HF3 := hid (HF2.out.trans hFc6)
  have HT3 := hid (HT2.out.keep hFc6 (fun h => h))
  have hl6 := load_eq (P := Tryd.prog) hG6 (hsz G)
  have hst := HT3.out.store hC G
  have HT4 := hid (HT3.out.put hC G)
  have hF34 := setRow_fr (S := fun j => j = tb) w3 tb (tcel cel rb a r G I op C K) rfl
  have HF4 := hid ((HF3.out.mono (fun _ h => h.elim)).trans hF34)
  clear hG6 hFc6 hg6 hF34
  obtain ⟨w4, hw4⟩ : ∃ w4, w4 = w3.setRow tb (tcel cel rb a r G I op C K) := ⟨_, rfl⟩
  rw [← hw4] at hst HT4 HF4
  clear hw4
  obtain ⟨_, _, _, _, _, c5, c6, _, _⟩ := HT4.out.lo
  have z5 := HT4.out.frozen 5
  have z6 := HT4.out.frozen 6
  have hl4 := HT4.out.lt
  obtain ⟨M, hM, hM1⟩ := sizeRow
  have hM0 : ¬ M = 0 := by omega
  clear hM
  cases pb with
  | false =>
    go_wp2_with fail
    go_end0
    exact ⟨rfl, HT4.out, HF4.out⟩
  | true =>
    have HT5 := hid (HT4.out.set_lo (j := 5) (by omega) (v := .int .i64 3) (r' := { r with kind := 3 }) (a' := a) rfl)
    have HT6 := hid (HT5.out.set_lo (j := 6) (by omega) (v := .int .i64 cd) (r' := { r with kind := 3, v := cd }) (a' := a) rfl)
    go_wp2_with fail
    go_end0
    exact ⟨rfl, HT6.out, (HF4.out.trans (Fr.setCell (S := fun j => j = tb) _ _ _ rfl)).trans (Fr.setCell (S := fun j => j = tb) _ _ _ rfl)⟩
end

end Go.Proofs.YtpjcdjooiaefdaaDoor
