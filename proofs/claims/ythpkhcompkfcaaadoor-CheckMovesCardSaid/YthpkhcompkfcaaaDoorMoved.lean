/-
  moved.
-/
import Derived.Test.YthpkhcompkfcaaaDoorCopy
import Derived.Test.YthpkhcompkfcaaaDoorDepths
import Derived.Test.YthpkhcompkfcaaaDoorMoves
import Derived.Deep.RegionHeld3
import Derived.Deep.DeepCutAuto
namespace Go.Proofs.YthpkhcompkfcaaaDoor
open Go.RowKit
set_option linter.unusedVariables false

def MvPost (f : Fn) (n : Nat) (w : World) (e : Ending) (w' : World) : Prop := ∃ A2 c2, e = .returned (.agg #[.int .i64 f.needs, .slice A2 (n + 1) c2]) ∧ OwnR w' w.heap.size 44 5 A2 (n + 1) c2 ((movF f).code.flatMap Ins.cells) ∧ Fr (fun _ => False) w w'

/-- The code so far. -/
def mvL (l : List Ins) (j : Nat) : List Ins := chkI :: (l.take j).map movI

theorem mvL_snoc {l : List Ins} {j : Nat} {x : Ins} (h : l[j]? = some x) : mvL l (j + 1) = mvL l j ++ [movI x] := by
  unfold mvL
  rw [take_snoc' h, List.map_append]
  rfl

theorem mvL_len {l : List Ins} {j : Nat} (h : j ≤ l.length) : (mvL l j).length = j + 1 := by
  unfold mvL
  simp
  omega

/-- What lies in memory while moved goes on. -/
structure MvM (w : World) (needs : Int) (l : List Ins) (A : Option Addr) (n c : Nat) (j : Nat) (A2 : Option Addr) (c2 : Nat) (W : World) : Prop where
  fbox : Blk W w.heap.size #[.int .i64 needs, .slice A n c]
  rbox : Blk W (w.heap.size + 1) #[.int .i64 0, .slice none 0 0]
  obox : TBlk W (w.heap.size + 3) #[.int .i64 needs, .slice A2 (j + 1) c2] 29
  own : OwnR W (w.heap.size + 2) 44 5 A2 (j + 1) c2 ((mvL l j).flatMap Ins.cells)
  fr : Fr (fun k => w.heap.size ≤ k) w W

def MvRel (w : World) (needs : Int) (l : List Ins) (A : Option Addr) (n c : Nat) (d : Nat) (k : Value) (W : World) : Prop := ∃ j A2 c2, j ≤ n ∧ d = n - j ∧ k = .int .i64 j ∧ MvM w needs l A n c j A2 c2 W

theorem MvM.keep {w : World} {needs : Int} {l : List Ins} {A : Option Addr} {n c j : Nat} {A2 : Option Addr} {c2 : Nat} {W W' : World} (h : MvM w needs l A n c j A2 c2 W) {S : Nat → Prop} (F : Fr S W W') (hS : ∀ k, S k → W.heap.size ≤ k) : MvM w needs l A n c j A2 c2 W' :=
  ⟨h.fbox.keep F (fun k => by have := hS _ k; have := h.fbox.lt; omega), h.rbox.keep F (fun k => by have := hS _ k; have := h.rbox.lt; omega), h.obox.keep F (fun k => by have := hS _ k; have := h.obox.blk.lt; omega), OwnR.keep h.own F (fun i hi k => by have := hS _ k; have := (OwnR.lt h.own i hi).2; omega),
    h.fr.trans (F.mono fun k hk => by have := hS _ hk; have := h.fr.size; omega)⟩

/-- Behind an append and a store. -/
theorem MvM.next {w : World} {needs : Int} {l : List Ins} {A : Option Addr} {n c j : Nat} {A2 : Option Addr} {c2 : Nat} {W W' : World} (h : MvM w needs l A n c j A2 c2 W) {x : Ins} (hx : l[j]? = some x) {A3 : Option Addr} {c3 : Nat} (ho : OwnR W' (w.heap.size + 2) 44 5 A3 (j + 1 + 1) c3 ((mvL l j).flatMap Ins.cells ++ [movI x].flatMap Ins.cells)) (hF : Fr (ownB A2) W W') :
    MvM w needs l A n c (j + 1) A3 c3 (W'.setCell ⟨w.heap.size + 3, 1, none⟩ (.slice A3 (j + 1 + 1) c3)) := by
  have hlow : ∀ k, ownB A2 k → w.heap.size + 2 ≤ k := fun k hk => (OwnR.lt h.own k hk).1
  have hno := OwnR.ne h.own h.obox (by decide)
  have ho' := h.obox.keep hF hno
  have hF2 : Fr (fun k => k = w.heap.size + 3) W' (W'.setCell ⟨w.heap.size + 3, 1, none⟩ (.slice A3 (j + 1 + 1) c3)) := Fr.setCell _ _ _ rfl
  have hno2 := OwnR.ne ho ho' (by decide)
  refine ⟨(h.fbox.keep hF (fun k => by have := hlow _ k; omega)).keep hF2 (by omega), (h.rbox.keep hF (fun k => by have := hlow _ k; omega)).keep hF2 (by omega), ho'.set 1 _, OwnR.eq (OwnR.keep ho hF2 (fun i hi e => hno2 (e ▸ hi))) ?_, (h.fr.trans (hF.mono fun k hk => by have := hlow _ hk; omega)).trans (hF2.mono fun k hk => by omega)⟩
  rw [mvL_snoc hx, List.flatMap_append]

theorem Ins.ones' (l : List Ins) : ∀ u ∈ l.flatMap Ins.cells, u.oneCell' = true := fun u hu => by
  obtain ⟨i, _, hi⟩ := List.mem_flatMap.1 hu
  exact i.one u hi

def mvW (w : World) (needs : Int) (A : Option Addr) (n c : Nat) : World :=
  (((w.alloc (.cells #[.int .i64 needs, .slice A n c] 29)).alloc (.cells #[.int .i64 0, .slice none 0 0] 29)).alloc (.cells #[.int .i64 14, .int .i64 0, .int .i64 0, .int .i64 0, .int .i64 0] 44)).alloc (.cells #[.int .i64 needs, .slice (some ⟨w.heap.size + 1 + 1, 0, none⟩) 1 1] 29)

theorem mv_start (w : World) (needs : Int) (l : List Ins) (A : Option Addr) (n c : Nat) : MvM w needs l A n c 0 (some ⟨w.heap.size + 1 + 1, 0, none⟩) 1 (mvW w needs A n c) := by
  unfold mvW
  obtain ⟨w1, hw1⟩ : ∃ w1, w1 = w.alloc (.cells #[.int .i64 needs, .slice A n c] 29) := ⟨_, rfl⟩
  have z1 : w1.heap.size = w.heap.size + 1 := by rw [hw1]; simp
  have b1 : Blk w1 w.heap.size #[.int .i64 needs, .slice A n c] := by rw [hw1]; exact Blk.new _ _ _
  have f1 : Fr (fun _ => False) w w1 := by rw [hw1]; exact Fr.alloc _ _ _
  rw [← hw1]
  obtain ⟨w2, hw2⟩ : ∃ w2, w2 = w1.alloc (.cells #[.int .i64 0, .slice none 0 0] 29) := ⟨_, rfl⟩
  have z2 : w2.heap.size = w.heap.size + 1 + 1 := by rw [hw2]; simp [z1]
  have b2 : Blk w2 (w.heap.size + 1) #[.int .i64 0, .slice none 0 0] := by rw [hw2]; exact (Blk.new _ _ _).at z1
  have f2 : Fr (fun _ => False) w1 w2 := by rw [hw2]; exact Fr.alloc _ _ _
  rw [← hw2]
  obtain ⟨w3, hw3⟩ : ∃ w3, w3 = w2.alloc (.cells #[.int .i64 14, .int .i64 0, .int .i64 0, .int .i64 0, .int .i64 0] 44) := ⟨_, rfl⟩
  have z3 : w3.heap.size = w.heap.size + 1 + 1 + 1 := by rw [hw3]; simp [z2]
  have b3 : TBlk w3 (w.heap.size + 1 + 1) #[.int .i64 14, .int .i64 0, .int .i64 0, .int .i64 0, .int .i64 0] 44 := by rw [hw3]; exact (TBlk.new _ _ _).at z2
  have f3 : Fr (fun _ => False) w2 w3 := by rw [hw3]; exact Fr.alloc _ _ _
  rw [← hw3]
  obtain ⟨w4, hw4⟩ : ∃ w4, w4 = w3.alloc (.cells #[.int .i64 needs, .slice (some ⟨w.heap.size + 1 + 1, 0, none⟩) 1 1] 29) := ⟨_, rfl⟩
  have b4 : TBlk w4 (w.heap.size + 3) #[.int .i64 needs, .slice (some ⟨w.heap.size + 1 + 1, 0, none⟩) 1 1] 29 := by rw [hw4]; exact (TBlk.new _ _ _).at z3
  have f4 : Fr (fun _ => False) w3 w4 := by rw [hw4]; exact Fr.alloc _ _ _
  rw [← hw4]
  refine ⟨b1.keep (f2.trans (f3.trans f4)) (fun h => h), b2.keep (f3.trans f4) (fun h => h), b4, ?_, (f1.trans (f2.trans (f3.trans f4))).mono (fun _ h => h.elim)⟩
  exact ⟨rfl, .inr ⟨w.heap.size + 1 + 1, 1, #[.int .i64 14, .int .i64 0, .int .i64 0, .int .i64 0, .int .i64 0], rfl, Nat.le_refl _, b3.keep f4 (fun h => h), Nat.le_refl _, by unfold maxLen; omega, rfl, rfl⟩⟩

set_option maxRecDepth 100000 in
set_option maxHeartbeats 2000000 in
theorem moved_any (f : Fn) (A : Option Addr) (n c : Nat) (w : World) (hn : f.code.length = n) (hnl : n ≤ 1000) (hp : Cod w w.heap.size A f.code) (hN : Near f.code) : Calls Tryd.prog 22 #[.agg #[.int .i64 f.needs, .slice A n c]] w (MvPost f n w) := by
  obtain ⟨needs, l⟩ := f
  simp only at hn hp hN ⊢
  have HN := hid hn
  have HP := hid hp
  have HNR := hid hN
  clear hn hp hN
  obtain ⟨i0, hi, hz⟩ := Option.map_eq_some_iff.1 Tryd.infoi
  simp only [Prod.mk.injEq] at hz
  obtain ⟨hz0, hz1, hz2⟩ := hz
  have HI := hid hi
  have HZ0 := hid hz0
  have HZ1 := hid hz1
  have HZ2 := hid hz2
  clear hi hz0 hz1 hz2
  go_enter Tryd.func22, Tryd.ntmps22
  go_wp2_with fail
  go_loopg [4] n (fun d k wr => MvRel w needs l A n c d k wr)
  case atStart => exact ⟨0, _, _, by omega, by omega, rfl, mv_start w needs l A n c⟩
  case round =>
    obtain ⟨wo, rfl⟩ : ∃ wo, wo = wr := ⟨_, rfl⟩
    obtain ⟨j, A2, c2, hj, hd, rfl, hm⟩ := hrel
    have HD := hid hd
    have HM := hid hm
    have f1 := hm.fbox.cell (i := 1) rfl
    have fl := hm.fbox.lt
    simp only [List.getElem_toArray, List.getElem_cons_zero, List.getElem_cons_succ] at f1
    clear hd
    by_cases hlt : j < n
    · obtain ⟨⟨op, a, b, ci, m⟩, hik⟩ : ∃ i, l[j]? = some i := ⟨_, List.getElem?_eq_getElem (by rw [HN.out]; exact hlt)⟩
      obtain ⟨g2, o2, rfl, hg2, hcell2⟩ := (HP.out.keep hm.fr (Nat.le_refl _) (fun _ h1 h2 => by omega)) (by rw [HN.out]; omega)
      obtain ⟨s0, s1, s2, s3, s4⟩ := hcell2 j _ hik
      simp only at s0 s1 s2 s3 s4
      have hgl2 : g2 < wo.heap.size := Nat.lt_of_lt_of_le hg2 hm.fr.size
      have HX := hid hik
      have hnear := HNR.out j _ hik
      clear hcell2 hik hm
      by_cases hJ : isJ ⟨op, a, b, ci, m⟩ = true
      · have hmm := hnear hJ
        simp only at hmm
        have ho := isJ_op hJ
        simp only at ho
        clear hnear hJ
        rcases ho with rfl | rfl
        · have hskip := trivial
          go_upto_region 8 with fail
          obtain ⟨W1, hW1⟩ : ∃ W1, W1 = wo.alloc (.cells #[.int .i64 6, .int .i64 a, .int .i64 b, .int .i64 ci, .int .i64 (m + 1)] 44) := ⟨_, rfl⟩
          have hF1 : Fr (fun k => k = wo.heap.size) wo W1 := by rw [hW1]; exact Fr.alloc _ _ _
          have hbx : Blk W1 wo.heap.size #[.int .i64 6, .int .i64 a, .int .i64 b, .int .i64 ci, .int .i64 (m + 1)] := by rw [hW1]; exact Blk.new _ _ _
          rw [← hW1]
          clear hW1 s0 s1 s2 s3 s4 f1
          have hm1 := HM.out.keep hF1 (fun k hk => by omega)
          have HM1 := hid (hm1.keep (Fr.alloc (fun _ => False) W1 (.cells #[.int .i64 6, .int .i64 a, .int .i64 b, .int .i64 ci, .int .i64 (m + 1)] 44)) (fun _ h => h.elim))
          have HNW := hid (news_cells W1 44 ([(⟨6, a, b, ci, (m + 1)⟩ : Ins)].flatMap Ins.cells))
          have o1 := hm1.obox.blk.cell (i := 1) rfl
          have ol := hm1.obox.blk.lt
          have g0 := hbx.cell (i := 0) rfl
          have g1 := hbx.cell (i := 1) rfl
          have g2' := hbx.cell (i := 2) rfl
          have g3 := hbx.cell (i := 3) rfl
          have g4 := hbx.cell (i := 4) rfl
          have gl := hbx.lt
          have hsz := hm1.fr.size
          simp only [List.getElem_toArray, List.getElem_cons_zero, List.getElem_cons_succ] at o1 g0 g1 g2' g3 g4
          clear hm1 hbx hF1
          go_wp2_with (at_builtin; (refine wpList_append_own _ rfl _ _ 22 rfl (w.heap.size + 2) 44 i0 _ 5 40 Tryd.underlying22 HI.out HZ0.out HZ1.out HZ2.out rfl (by decide) (.slice A2 (j + 1) c2) (j + 1) _ rfl HM1.out.own ⟨W1.heap.size, 0, none⟩ 1 1 ([(⟨6, a, b, ci, (m + 1)⟩ : Ins)].flatMap Ins.cells) rfl rfl HNW.out (Ins.ones' _) (by unfold maxLen; omega) (by omega) (by simp; omega) ?_; intro v2 w2 hown2 hgrow2 hnil2; clear hnil2; obtain ⟨A3, c3, rfl, ho2⟩ := OwnR.form hown2; have HO2 := hid ho2; have HG2 := hid (Fr.of_grown hgrow2); have hob := HM1.out.obox.keep HG2.out (OwnR.ne HM1.out.own HM1.out.obox (by decide)); have o1 := hob.blk.cell (i := 1) rfl; have z1 := hob.blk.frozen 1; have ol := hob.blk.lt; clear hown2 hgrow2 ho2 hob))
          go_roundg (n - (j + 1))
          case rel => exact ⟨j + 1, A3, c3, by omega, rfl, by go_num, MvM.next HM1.out HX.out (by rw [show movI ⟨6, a, b, ci, m⟩ = ⟨6, a, b, ci, m + 1⟩ from rfl]; exact HO2.out) HG2.out⟩
          case measure => have := HD.out; omega
        · have hskip := trivial
          go_upto_region 8 with fail
          obtain ⟨W1, hW1⟩ : ∃ W1, W1 = wo.alloc (.cells #[.int .i64 7, .int .i64 a, .int .i64 b, .int .i64 ci, .int .i64 (m + 1)] 44) := ⟨_, rfl⟩
          have hF1 : Fr (fun k => k = wo.heap.size) wo W1 := by rw [hW1]; exact Fr.alloc _ _ _
          have hbx : Blk W1 wo.heap.size #[.int .i64 7, .int .i64 a, .int .i64 b, .int .i64 ci, .int .i64 (m + 1)] := by rw [hW1]; exact Blk.new _ _ _
          rw [← hW1]
          clear hW1 s0 s1 s2 s3 s4 f1
          have hm1 := HM.out.keep hF1 (fun k hk => by omega)
          have HM1 := hid (hm1.keep (Fr.alloc (fun _ => False) W1 (.cells #[.int .i64 7, .int .i64 a, .int .i64 b, .int .i64 ci, .int .i64 (m + 1)] 44)) (fun _ h => h.elim))
          have HNW := hid (news_cells W1 44 ([(⟨7, a, b, ci, (m + 1)⟩ : Ins)].flatMap Ins.cells))
          have o1 := hm1.obox.blk.cell (i := 1) rfl
          have ol := hm1.obox.blk.lt
          have g0 := hbx.cell (i := 0) rfl
          have g1 := hbx.cell (i := 1) rfl
          have g2' := hbx.cell (i := 2) rfl
          have g3 := hbx.cell (i := 3) rfl
          have g4 := hbx.cell (i := 4) rfl
          have gl := hbx.lt
          have hsz := hm1.fr.size
          simp only [List.getElem_toArray, List.getElem_cons_zero, List.getElem_cons_succ] at o1 g0 g1 g2' g3 g4
          clear hm1 hbx hF1
          go_wp2_with (at_builtin; (refine wpList_append_own _ rfl _ _ 22 rfl (w.heap.size + 2) 44 i0 _ 5 40 Tryd.underlying22 HI.out HZ0.out HZ1.out HZ2.out rfl (by decide) (.slice A2 (j + 1) c2) (j + 1) _ rfl HM1.out.own ⟨W1.heap.size, 0, none⟩ 1 1 ([(⟨7, a, b, ci, (m + 1)⟩ : Ins)].flatMap Ins.cells) rfl rfl HNW.out (Ins.ones' _) (by unfold maxLen; omega) (by omega) (by simp; omega) ?_; intro v2 w2 hown2 hgrow2 hnil2; clear hnil2; obtain ⟨A3, c3, rfl, ho2⟩ := OwnR.form hown2; have HO2 := hid ho2; have HG2 := hid (Fr.of_grown hgrow2); have hob := HM1.out.obox.keep HG2.out (OwnR.ne HM1.out.own HM1.out.obox (by decide)); have o1 := hob.blk.cell (i := 1) rfl; have z1 := hob.blk.frozen 1; have ol := hob.blk.lt; clear hown2 hgrow2 ho2 hob))
          go_roundg (n - (j + 1))
          case rel => exact ⟨j + 1, A3, c3, by omega, rfl, by go_num, MvM.next HM1.out HX.out (by rw [show movI ⟨7, a, b, ci, m⟩ = ⟨7, a, b, ci, m + 1⟩ from rfl]; exact HO2.out) HG2.out⟩
          case measure => have := HD.out; omega
      · have h6 : ¬ op = 6 := fun h => hJ (by unfold isJ; simp [h])
        have h7 : ¬ op = 7 := fun h => hJ (by unfold isJ; simp [h])
        have t6 : (op == 6) = false := beq_eq_false_iff_ne.2 h6
        have t7 : (op == 7) = false := beq_eq_false_iff_ne.2 h7
        have HMV := hid (movI_n hJ)
        clear hnear hJ
        go_upto_region 8 with fail
        obtain ⟨W1, hW1⟩ : ∃ W1, W1 = wo.alloc (.cells #[.int .i64 op, .int .i64 a, .int .i64 b, .int .i64 ci, .int .i64 m] 44) := ⟨_, rfl⟩
        have hF1 : Fr (fun k => k = wo.heap.size) wo W1 := by rw [hW1]; exact Fr.alloc _ _ _
        have hbx : Blk W1 wo.heap.size #[.int .i64 op, .int .i64 a, .int .i64 b, .int .i64 ci, .int .i64 m] := by rw [hW1]; exact Blk.new _ _ _
        rw [← hW1]
        clear hW1 s0 s1 s2 s3 s4 f1
        have hm1 := HM.out.keep hF1 (fun k hk => by omega)
        have HM1 := hid (hm1.keep (Fr.alloc (fun _ => False) W1 (.cells #[.int .i64 op, .int .i64 a, .int .i64 b, .int .i64 ci, .int .i64 m] 44)) (fun _ h => h.elim))
        have HNW := hid (news_cells W1 44 ([(⟨op, a, b, ci, m⟩ : Ins)].flatMap Ins.cells))
        have o1 := hm1.obox.blk.cell (i := 1) rfl
        have ol := hm1.obox.blk.lt
        have g0 := hbx.cell (i := 0) rfl
        have g1 := hbx.cell (i := 1) rfl
        have g2' := hbx.cell (i := 2) rfl
        have g3 := hbx.cell (i := 3) rfl
        have g4 := hbx.cell (i := 4) rfl
        have gl := hbx.lt
        have hsz := hm1.fr.size
        simp only [List.getElem_toArray, List.getElem_cons_zero, List.getElem_cons_succ] at o1 g0 g1 g2' g3 g4
        clear hm1 hbx hF1
        go_wp2_with (at_builtin; (refine wpList_append_own _ rfl _ _ 22 rfl (w.heap.size + 2) 44 i0 _ 5 40 Tryd.underlying22 HI.out HZ0.out HZ1.out HZ2.out rfl (by decide) (.slice A2 (j + 1) c2) (j + 1) _ rfl HM1.out.own ⟨W1.heap.size, 0, none⟩ 1 1 ([(⟨op, a, b, ci, m⟩ : Ins)].flatMap Ins.cells) rfl rfl HNW.out (Ins.ones' _) (by unfold maxLen; omega) (by omega) (by simp; omega) ?_; intro v2 w2 hown2 hgrow2 hnil2; clear hnil2; obtain ⟨A3, c3, rfl, ho2⟩ := OwnR.form hown2; have HO2 := hid ho2; have HG2 := hid (Fr.of_grown hgrow2); have hob := HM1.out.obox.keep HG2.out (OwnR.ne HM1.out.own HM1.out.obox (by decide)); have o1 := hob.blk.cell (i := 1) rfl; have z1 := hob.blk.frozen 1; have ol := hob.blk.lt; clear hown2 hgrow2 ho2 hob))
        go_roundg (n - (j + 1))
        case rel => exact ⟨j + 1, A3, c3, by omega, rfl, by go_num, MvM.next HM1.out HX.out (by rw [HMV.out]; exact HO2.out) HG2.out⟩
        case measure => have := HD.out; omega
    · have ro := hm.obox.blk
      have rr := hm.rbox
      have u0 := ro.cell (i := 0) rfl
      have u1 := ro.cell (i := 1) rfl
      have ul := ro.lt
      have z0 := rr.frozen 0
      have z1 := rr.frozen 1
      have v0 := rr.cell (i := 0) rfl
      have v1 := rr.cell (i := 1) rfl
      have vl := rr.lt
      simp only [List.getElem_toArray, List.getElem_cons_zero, List.getElem_cons_succ] at u0 u1 v0 v1
      obtain rfl : j = n := by omega
      have HFR := hid hm.fr
      have HOW := hid hm.own
      clear hm ro rr
      go_wp2_with fail
      have hFe : Fr (fun k => k = w.heap.size + 1) wo ((wo.setCell ⟨w.heap.size + 1, 0, none⟩ (.int .i64 needs)).setCell ⟨w.heap.size + 1, 1, none⟩ (.slice A2 (j + 1) c2)) := (Fr.setCell (S := fun k => k = w.heap.size + 1) _ _ _ rfl).trans (Fr.setCell (S := fun k => k = w.heap.size + 1) _ _ _ rfl)
      have hcode : (movF ⟨needs, l⟩).code = mvL l j := by
        unfold mvL movF
        rw [List.take_of_length_le (by rw [HN.out]; omega)]
      refine bodyPost_ret (v := .agg #[.int .i64 needs, .slice A2 (j + 1) c2]) (by simp [results, Tryd.results22, go_sem, v0, v1]; try rfl) rfl ⟨A2, c2, rfl, ?_, Fr.to_none (HFR.out.trans (hFe.mono fun k hk => by omega))⟩
      rw [hcode]
      refine OwnR.less (B := w.heap.size + 2) ?_ (by omega)
      exact OwnR.keep HOW.out hFe (fun i hi e => by have := (OwnR.lt HOW.out i hi).1; omega)

end Go.Proofs.YthpkhcompkfcaaaDoor
