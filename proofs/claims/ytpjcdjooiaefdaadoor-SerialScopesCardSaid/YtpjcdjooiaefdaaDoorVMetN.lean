/-
  The instruction that is next.
-/
import Derived.Test.YtpjcdjooiaefdaaDoorVMet
import Derived.Deep.RegionHeld3
import Derived.Deep.QuietTactic
import Derived.BigQuiet
namespace Go.Proofs.YtpjcdjooiaefdaaDoor
open Go.RowKit
set_option linter.unusedVariables false

theorem hasI_any (A : Option Addr) (l c : Nat) (n : Nat) (w : World) (hn : n < l) : Calls Tryd.prog 55 #[.slice A l c, .int .i64 n] w fun e w' => e = .returned (.bool true) ∧ w = w' := by
  have h0 : (0 : Int) ≤ n := by omega
  have h1 : (n : Int) < l := by omega
  go_enter Tryd.func55, Tryd.ntmps55
  go_wp2_with fail
  go_ret
  exact ⟨rfl, rfl⟩

theorem Fr.five (W : World) (g : Nat) (v0 v1 v2 v3 v4 : Value) : Fr (fun j => j = g) W (((((W.setCell ⟨g, 0, none⟩ v0).setCell ⟨g, 1, none⟩ v1).setCell ⟨g, 2, none⟩ v2).setCell ⟨g, 3, none⟩ v3).setCell ⟨g, 4, none⟩ v4) :=
  ((((Fr.setCell (S := fun j => j = g) _ _ _ rfl).trans (Fr.setCell (S := fun j => j = g) _ _ _ rfl)).trans (Fr.setCell (S := fun j => j = g) _ _ _ rfl)).trans (Fr.setCell (S := fun j => j = g) _ _ _ rfl)).trans (Fr.setCell (S := fun j => j = g) _ _ _ rfl)

set_option maxHeartbeats 1000000 in
theorem next_frame {cel : Frm → Array Value} (hC : Cel cel) (F : Frm) (A : Option Addr) (c n q k : Nat) (P : List Fn) (f : Fn) (x : Ins) (w : World) (hp : Prg w w.heap.size A P) (hn : P.length = n) (hq : P[q]? = some f) (hf : F.f = q) (hpc : F.pc = k) (hx : f.code[k]? = some x) :
    Calls Tryd.prog 37 #[.agg (cel F), .agg #[.slice A n c]] w fun e w' => e = .returned (.tuple #[x.val, .int .i64 0]) ∧ Fr (fun _ => False) w w' := by
  obtain ⟨op, a, b, ci, m⟩ := x
  unfold Ins.val
  simp only
  have hql := (List.getElem?_eq_some_iff.1 hq).1
  have hkl := (List.getElem?_eq_some_iff.1 hx).1
  obtain ⟨g, o, rfl, hg, hcell⟩ := hp (by omega)
  obtain ⟨A', c', p0, p1, hcod⟩ := hcell q f hq
  obtain ⟨g', o', rfl, hg', hcell'⟩ := hcod (by omega)
  obtain ⟨i0, i1, i2, i3, i4⟩ := hcell' k _ hx
  simp only at i0 i1 i2 i3 i4
  obtain ⟨ln, hln⟩ : ∃ ln, f.code.length = ln := ⟨_, rfl⟩
  rw [hln] at p1 hkl
  rw [hn] at hql
  obtain ⟨w1, hw1⟩ : ∃ w1, w1 = ((w.alloc (.cells (cel F) 59)).alloc (.cells #[.slice (some ⟨g, o, none⟩) n c] 24)).alloc (.cells #[.int .i64 0, .int .i64 0, .int .i64 0, .int .i64 0, .int .i64 0] 43) := ⟨_, rfl⟩
  have hA : Fr (fun _ => False) w w1 := by rw [hw1]; exact ((Fr.alloc _ _ _).trans (Fr.alloc _ _ _)).trans (Fr.alloc _ _ _)
  have hBF : Blk w1 w.heap.size (cel F) := by rw [hw1]; exact ((Blk.new _ _ _).alloc _).alloc _
  have hBP : Blk w1 (w.heap.size + 1) #[.slice (some ⟨g, o, none⟩) n c] := by rw [hw1]; exact ((Blk.new _ _ _).at (by simp)).alloc _
  have HBI := hid (show Blk w1 (w.heap.size + 2) #[.int .i64 0, .int .i64 0, .int .i64 0, .int .i64 0, .int .i64 0] by rw [hw1]; exact (Blk.new _ _ _).at (by simp))
  have q0 : w1.cell? ⟨w.heap.size, 0, none⟩ = some (.int .i64 q) := by rw [← hf]; exact hBF.cell (hC.f F)
  have q1 : w1.cell? ⟨w.heap.size, 1, none⟩ = some (.int .i64 k) := by rw [← hpc]; exact hBF.cell (hC.pc F)
  have q2 : w1.cell? ⟨w.heap.size + 1, 0, none⟩ = some (.slice (some ⟨g, o, none⟩) n c) := hBP.cell rfl
  have kp : ∀ (bb j : Nat), bb < w.heap.size → w1.cell? ⟨bb, j, none⟩ = w.cell? ⟨bb, j, none⟩ := fun bb j hb => cell_keep hA (p := ⟨bb, j, none⟩) hb (fun h => h)
  rw [← kp _ _ hg] at p1
  rw [← kp _ _ hg'] at i0 i1 i2 i3 i4
  have z0 := HBI.out.frozen 0
  have z1 := HBI.out.frozen 1
  have z2 := HBI.out.frozen 2
  have z3 := HBI.out.frozen 3
  have z4 := HBI.out.frozen 4
  have e0 := HBI.out.cell (i := 0) rfl
  have e1 := HBI.out.cell (i := 1) rfl
  have e2 := HBI.out.cell (i := 2) rfl
  have e3 := HBI.out.cell (i := 3) rfl
  have e4 := HBI.out.cell (i := 4) rfl
  simp only [List.getElem_toArray, List.getElem_cons_zero, List.getElem_cons_succ] at e0 e1 e2 e3 e4
  have hq0 : (0 : Int) ≤ q ∧ (q : Int) < n := by omega
  have hk0 : (0 : Int) ≤ k ∧ (k : Int) < ln := by omega
  have HH1 := hid (fun W => has_any (some ⟨g, o, none⟩) n c q W)
  rw [show (decide ((0 : Int) ≤ q) && decide ((q : Int) < n)) = true by rw [decide_eq_true hq0.1, decide_eq_true hq0.2]; rfl] at HH1
  have HH2 := hid (fun W => hasI_any (some ⟨g', o', none⟩) ln c' k W hkl)
  have HA := hid hA
  clear hA hBF hBP hcell hcell' hcod p0 kp hq hx hf hpc hn hln hp
  have hlt2 : w.heap.size + 2 < w1.heap.size := HBI.out.lt
  go_enter Tryd.func37, Tryd.ntmps37
  go_upto_region 1 with fail
  rw [← hw1]
  clear hw1
  go_quiet (first
    | (go_at_call 54; refine Calls.quiet_of_same ((HH1.out _).mono (fun _ _ h => ⟨h.1, h.2.symm⟩)))
    | (go_at_call 55; refine Calls.quiet_of_same ((HH2.out _).mono (fun _ _ h => ⟨h.1, h.2.symm⟩))))
  go_upto_region 3 with fail
  go_region
  all_goals
    go_wp2_with fail
    refine bodyPost_ret (by simp [results, Tryd.results37, go_sem, e0, e1, e2, e3, e4]; try rfl) rfl ⟨rfl, ?_⟩
    exact HA.out.over (g := w.heap.size + 1 + 1) ((Fr.drewN _ _ _).trans (Fr.five _ _ _ _ _ _ _)) (by omega)

/-- An instruction in a new block. -/
def CameC (c : Array Value) (w : World) (u : Value) (wx : World) : Prop := ∃ g, u = .pointer (some ⟨g, 0, none⟩) ∧ Blk wx g c ∧ w.heap.size ≤ g ∧ Fr (fun _ => False) w wx
theorem sizeIns : ∃ M : Nat, M = 5 ∧ ∀ w, (sizeOf 43).run Tryd.prog w = .ok M w := ⟨5, rfl, fun _ => by kernel_rfl⟩
def zero5 : Array Value := #[.int .i64 0, .int .i64 0, .int .i64 0, .int .i64 0, .int .i64 0]

section
variable {cel : Frm → Array Value} (tb rb a : Nat) (r : Rw) (F : Frm) (I : Value) (op : Int) (C K : Value) (w : World)

set_option maxHeartbeats 1000000 in
theorem next_fuel (hC : Cel cel) (pa : Option Addr) (pn pc st n cap : Nat) (A : Option Addr) (hR : IsR w rb pa pn pc st st A n cap) (h : IsT w cel tb rb a r F I op C K) :
    Calls Tryd.prog 20 #[.pointer (some ⟨tb, 0, none⟩)] w fun e w' => e = boom 22 ∧ Fr (fun _ => False) w w' := by
  have hA := Fr.alloc (fun _ => False) w (.cells #[.int .i64 0, .int .i64 0, .int .i64 0, .int .i64 0, .int .i64 0] 43)
  obtain ⟨w1, hw1⟩ : ∃ w1, w1 = w.alloc (.cells #[.int .i64 0, .int .i64 0, .int .i64 0, .int .i64 0, .int .i64 0] 43) := ⟨_, rfl⟩
  rw [← hw1] at hA
  have hT := h.keep hA (fun h => h)
  have hR1 := TBlk.keep hR hA (fun h => h)
  obtain ⟨c0, _⟩ := hT.lo
  have r1 : w1.cell? ⟨rb, 1, none⟩ = some (.int .i64 st) := (TBlk.blk hR1).cell rfl
  have r2 : w1.cell? ⟨rb, 2, none⟩ = some (.int .i64 st) := (TBlk.blk hR1).cell rfl
  have HA := hid hA
  clear hA h hT hR hR1
  go_enter Tryd.func20, Tryd.ntmps20
  go_upto_region 1 with fail
  rw [← hw1]
  clear hw1
  go_quiet (fail)
  go_wp2_with fail
  exact ⟨rfl, rfl, HA.out.trans (Fr.drewN _ _ _)⟩

set_option maxRecDepth 100000 in
set_option maxHeartbeats 2000000 in
theorem next_ok (hC : Cel cel) (pa : Option Addr) (pn pc st N0 n cap : Nat) (A : Option Addr) (hst : st < N0) (hN0 : N0 ≤ 1048576) (hR : IsR w rb pa pn pc N0 st A n cap) (h : IsT w cel tb rb a r F I op C K)
    (B q k : Nat) (P : List Fn) (f : Fn) (x : Ins) (hp : Prg w B pa P) (hBr : B ≤ rb) (hpn : P.length = pn) (hq : P[q]? = some f) (hf : F.f = q) (hpc : F.pc = k) (hx : f.code[k]? = some x) :
    Calls Tryd.prog 20 #[.pointer (some ⟨tb, 0, none⟩)] w fun e w' => e = .returned x.val ∧ IsR w' rb pa pn pc N0 (st + 1 : Nat) A n cap ∧ Fr (fun j => j = rb) w w' := by
  have hrl := (TBlk.blk hR).lt
  have htr : tb ≠ rb := TBlk.ne h hR (by decide)
  have hA := Fr.alloc (fun _ => False) w (.cells #[.int .i64 0, .int .i64 0, .int .i64 0, .int .i64 0, .int .i64 0] 43)
  have hB := Blk.new w #[.int .i64 0, .int .i64 0, .int .i64 0, .int .i64 0, .int .i64 0] 43
  obtain ⟨w1, hw1⟩ : ∃ w1, w1 = w.alloc (.cells #[.int .i64 0, .int .i64 0, .int .i64 0, .int .i64 0, .int .i64 0] 43) := ⟨_, rfl⟩
  rw [← hw1] at hA hB
  have HT := hid (h.keep hA (fun h => h))
  have HR := hid (TBlk.keep hR hA (fun h => h))
  obtain ⟨c0, _⟩ := HT.out.lo
  have r1 : w1.cell? ⟨rb, 1, none⟩ = some (.int .i64 N0) := (TBlk.blk HR.out).cell rfl
  have r2 : w1.cell? ⟨rb, 2, none⟩ = some (.int .i64 st) := (TBlk.blk HR.out).cell rfl
  have z2 := (TBlk.blk HR.out).frozen 2
  have hrl1 := (TBlk.blk HR.out).lt
  have hwr : IntKind.i64.wrap ((st : Int) + 1) = (st : Int) + 1 := IntWalk.i64_in _ (by omega)
  have t1 : ((st : Int) == (N0 : Int)) = false := beq_eq_false_iff_ne.2 (by omega)
  have HA := hid hA
  have HB := hid hB
  have HP := hid hp
  have hBw : B ≤ w.heap.size := by omega
  have HX := hid (fun W (hW : Fr (fun j => j = rb) w W) => next_frame hC F pa pc pn q k P f x W ((hp.keep hW hBw (fun j hj e => by omega)).more (Nat.le_trans hBw hW.size)) hpn hq hf hpc hx)
  obtain ⟨o, y0, y1, y2, y3⟩ := x
  unfold Ins.val at HX ⊢
  simp only at HX ⊢
  obtain ⟨ic, hic⟩ : ∃ ic : Array Value, #[.int .i64 o, .int .i64 y0, .int .i64 y1, .int .i64 y2, .int .i64 y3] = ic := ⟨_, rfl⟩
  rw [hic] at HX
  have HIC := hid hic
  clear hA hB h hR hic hp hq hf hpc hx hpn
  go_enter Tryd.func20, Tryd.ntmps20
  go_upto_region 1 with fail
  rw [← hw1]
  clear hw1
  go_quiet (fail)
  go_upto_region 4 with fail
  have hR2 := TBlk.set (w := w1.drewN nq) HR.out 2 (.int .i64 ((st : Int) + 1))
  have hF2 := Fr.setCell (S := fun j => j = rb) (w1.drewN nq) ⟨rb, 2, none⟩ (.int .i64 ((st : Int) + 1)) rfl
  have HF2 := hid (((HA.out.trans (Fr.drewN _ _ _)).mono (fun _ h => h.elim)).trans hF2)
  have hT2 := IsT.keep (w := w1.drewN nq) HT.out hF2 htr
  have hB2 := Blk.keep (w := w1.drewN nq) HB.out hF2 (by omega)
  obtain ⟨w2, hw2⟩ : ∃ w2, w2 = (w1.drewN nq).setCell ⟨rb, 2, none⟩ (.int .i64 ((st : Int) + 1)) := ⟨_, rfl⟩
  rw [← hw2] at hR2 hF2 HF2 hT2 hB2
  try rw [← hw2]
  try (rw [show (w1.setCell ⟨rb, 2, none⟩ (.int .i64 ((st : Int) + 1))).drewN nq = w2 from hw2.symm])
  clear hw2 c0 r1 r2 z2 hrl1 hwr t1
  obtain ⟨N, hN, hN1, hN2⟩ := nineteen
  have hN3 : ¬ N = 0 := by omega
  have hsz : ∀ F, (cel F).size = N := fun F => by rw [hC.size, hN]
  have HN := hid hN
  have HT2 := hid hT2
  have HR2 := hid (show IsR w2 rb pa pn pc N0 (st + 1 : Nat) A n cap from hR2)
  have HB2 := hid hB2
  have HFd := hid (Fr.refl (fun _ => False) w2)
  have HS := hid (show ∀ W, Fr (fun _ => False) w2 W → W.cell? ⟨tb, 0, none⟩ = some (.pointer (some ⟨rb, 0, none⟩)) ∧ W.cell? ⟨rb, 0, none⟩ = some (.slice pa pn pc) ∧ (loadCellsFrom ⟨tb, 9, none⟩ 0 N #[]).run Tryd.prog W = .ok (cel F) W from fun W hW =>
    ⟨(HT2.out.keep hW (fun h => h)).lo.1, (TBlk.blk (TBlk.keep HR2.out hW (fun h => h))).cell rfl, (HT2.out.keep hW (fun h => h)).load hC HN.out⟩)
  have hlt2 := HT2.out.lt
  have hrl2 := (TBlk.blk HR2.out).lt
  clear hR2 hF2 hT2 hB2 hN
  go_cut [3] from 31 to 46 (fun u wx => CameC ic w2 u wx)
  case first =>
    obtain ⟨M, hM, hM1⟩ := sizeIns
    have hM0 : ¬ M = 0 := by omega
    have his : ic.size = M := by rw [← HIC.out, hM]; rfl
    have hi1 : ic.all (·.oneCell') = true := by rw [← HIC.out]; simp [Value.oneCell']
    have hstC : ∀ (V : World), (storeCells ⟨V.heap.size, 0, none⟩ ic.toList 0).run Tryd.prog (V.alloc (.cells zero5 43)) = .ok () ((V.alloc (.cells zero5 43)).setRow V.heap.size ic) := fun V => store_at (n := 5) (Blk.new V zero5 _) rfl (his.trans hM) hi1
    have hstD : ∀ (V : World), (storeCells ⟨V.heap.size, 0, none⟩ ic.toList 0).run Tryd.prog (V.alloc (.cells zero5 43)).drew = .ok () ((V.alloc (.cells zero5 43)).drew.setRow V.heap.size ic) := fun V => store_at (n := 5) (Blk.new V zero5 _).drew rfl (his.trans hM) hi1
    have HST := hid (show ∀ (V : World) (b : Nat), Blk V b zero5 → (storeCells ⟨b, 0, none⟩ ic.toList 0).run Tryd.prog V = .ok () (V.setRow b ic) from fun V b hb => store_at (n := 5) hb rfl (his.trans hM) hi1)
    unfold zero5 at hstC hstD HST
    have HM := hid hM
    clear hM hi1
    go_region_held3 (fun W => W.cell? ⟨tb, 0, none⟩ = some (.pointer (some ⟨rb, 0, none⟩)) ∧ W.cell? ⟨rb, 0, none⟩ = some (.slice pa pn pc) ∧ (loadCellsFrom ⟨tb, 9, none⟩ 0 N #[]).run Tryd.prog W = .ok (cel F) W)
      (first | exact HS.out _ HFd.out | exact HS.out _ (HFd.out.trans (Fr.drew _ _)) | exact HS.out _ (HFd.out.trans (Fr.alloc _ _ _)) | exact HS.out _ (HFd.out.trans ((Fr.alloc _ _ _).trans (Fr.drew _ _))) | exact HS.out _ (HFd.out.over (setRow_fr _ _ _ rfl) (Nat.le_refl _)) | exact HS.out _ ((HFd.out.trans (Fr.alloc _ _ _)).over (setRow_fr _ _ _ rfl) HFd.out.size) | exact HS.out _ ((HFd.out.trans ((Fr.alloc _ _ _).trans (Fr.drew _ _))).over (setRow_fr _ _ _ rfl) HFd.out.size))
      (first
        | (go_at_call 37; (with_reducible refine (HX.out _ ((HF2.out.trans (HFd.out.mono (fun _ h => h.elim))).trans (by first | exact Fr.drew _ _ | exact Fr.refl _ _ | exact Fr.alloc _ _ _ | exact (Fr.alloc _ _ _).trans (Fr.drew _ _)))).mono ?_); rintro e w7 ⟨rfl, hF7⟩; (try (have HBB := hid (blk_of' hF7); have hst := HST.out _ _ HBB.out)); (try (have HBB := hid (blk_of hF7); have hst := HST.out _ _ HBB.out)); have HFd := hid (HFd.out.trans (Fr.trans (by first | exact Fr.refl _ _ | exact Fr.drew _ _ | exact Fr.alloc _ _ _ | exact (Fr.alloc _ _ _).trans (Fr.drew _ _)) hF7)); clear hF7))
    all_goals
      go_wp2_with fail
      go_meet
      case rel => first
        | exact ⟨_, rfl, setRow_blk HBB.out _, Nat.le_refl _, HFd.out.over (setRow_fr _ _ _ rfl) (Nat.le_refl _)⟩
        | exact ⟨_, rfl, setRow_blk (Blk.new _ _ _) _, HFd.out.size, (HFd.out.trans (Fr.alloc _ _ _)).over (setRow_fr _ _ _ rfl) HFd.out.size⟩
        | exact ⟨_, rfl, setRow_blk (Blk.new _ _ _).drew _, HFd.out.size, (HFd.out.trans ((Fr.alloc _ _ _).trans (Fr.drew _ _))).over (setRow_fr _ _ _ rfl) HFd.out.size⟩
  case rest =>
    obtain ⟨g, rfl, hG, hg, hFc⟩ := hcut
    rw [← HIC.out] at hG
    have e0 := hG.cell (i := 0) rfl
    have e1 := hG.cell (i := 1) rfl
    have e2 := hG.cell (i := 2) rfl
    have e3 := hG.cell (i := 3) rfl
    have e4 := hG.cell (i := 4) rfl
    have hBc := HB2.out.keep hFc (fun h => h)
    have c0 := hBc.cell (i := 0) rfl
    have c1 := hBc.cell (i := 1) rfl
    have c2 := hBc.cell (i := 2) rfl
    have c3 := hBc.cell (i := 3) rfl
    have c4 := hBc.cell (i := 4) rfl
    have f0 := hBc.frozen 0
    have f1 := hBc.frozen 1
    have f2 := hBc.frozen 2
    have f3 := hBc.frozen 3
    have f4 := hBc.frozen 4
    simp only [List.getElem_toArray, List.getElem_cons_zero, List.getElem_cons_succ] at e0 e1 e2 e3 e4 c0 c1 c2 c3 c4
    have hgl := hG.lt
    have hcl := hBc.lt
    have HRc := hid (TBlk.keep HR2.out hFc (fun h => h))
    have HFc := hid (HF2.out.trans (hFc.mono (fun _ h => h.elim)))
    clear hG hFc hBc
    go_wp2_with fail
    refine bodyPost_ret (by simp [results, Tryd.results20, go_sem, c0, c1, c2, c3, c4]; try rfl) rfl ⟨rfl, TBlk.keep HRc.out (Fr.five _ _ _ _ _ _ _) (by omega), ?_⟩
    exact HFc.out.since (Fr.five _ _ _ _ _ _ _) (fun i hi hl => by omega)
end

end Go.Proofs.YtpjcdjooiaefdaaDoor
