/-
  What a fork makes: Child, the program's.
-/
import Derived.Test.YtedpgfldkjimpaaDoorLawBits
import Derived.Test.YtedpgfldkjimpaaDoorPrg
import Derived.Deep.LoopGhost
namespace Go.Proofs.YtedpgfldkjimpaaDoor
open Go.RowKit
set_option linter.unusedVariables false

theorem has_any (A : Option Addr) (l c : Nat) (n : Int) (w : World) : Calls Tryd.prog 49 #[.slice A l c, .int .i64 n] w fun e w' => e = .returned (.bool (decide (0 ≤ n) && decide (n < l))) ∧ w = w' := by
  by_cases h0 : 0 ≤ n
  · by_cases h1 : n < l
    · rw [decide_eq_true h0, decide_eq_true h1]
      go_enter Tryd.func49, Tryd.ntmps49
      go_wp2_with fail
      go_ret
      exact ⟨rfl, rfl⟩
    · rw [decide_eq_true h0, decide_eq_false h1]
      go_enter Tryd.func49, Tryd.ntmps49
      go_wp2_with fail
      go_ret
      exact ⟨rfl, rfl⟩
  · rw [decide_eq_false h0]
    go_enter Tryd.func49, Tryd.ntmps49
    go_wp2_with fail
    go_ret
    exact ⟨rfl, rfl⟩

/-- No task. -/
def Frm.zero : Frm := ⟨0, 0, fun _ => 0, fun _ => 0, 0⟩

/-- Whether a function needs a handle. -/
def nbit (nd : Int) (k : Nat) : Bool := bits BinOp.and IntKind.i64 (nd / 2 ^ k) 1 == 1

/-- The task that a fork makes, its handles up to k. -/
def Frm.kid (F : Frm) (q : Nat) (nd : Int) (k : Nat) : Frm := ⟨q, 0, F.r, fun j => if j < k ∧ nbit nd j = true then F.h j else -1, 0⟩

theorem four (w : World) (c0 c1 c2 c3 : Array Value) (t0 t1 t2 t3 : TypeId) : Fr (fun _ => False) w ((((w.alloc (.cells c0 t0)).alloc (.cells c1 t1)).alloc (.cells c2 t2)).alloc (.cells c3 t3)) ∧
    Blk ((((w.alloc (.cells c0 t0)).alloc (.cells c1 t1)).alloc (.cells c2 t2)).alloc (.cells c3 t3)) w.heap.size c0 ∧ Blk ((((w.alloc (.cells c0 t0)).alloc (.cells c1 t1)).alloc (.cells c2 t2)).alloc (.cells c3 t3)) (w.heap.size + 1) c1 ∧
    Blk ((((w.alloc (.cells c0 t0)).alloc (.cells c1 t1)).alloc (.cells c2 t2)).alloc (.cells c3 t3)) (w.heap.size + 2) c2 ∧ Blk ((((w.alloc (.cells c0 t0)).alloc (.cells c1 t1)).alloc (.cells c2 t2)).alloc (.cells c3 t3)) (w.heap.size + 3) c3 :=
  ⟨(((Fr.alloc _ _ _).trans (Fr.alloc _ _ _)).trans (Fr.alloc _ _ _)).trans (Fr.alloc _ _ _), (((Blk.new _ _ _).alloc _).alloc _).alloc _, (((Blk.new _ _ _).at (by simp)).alloc _).alloc _, ((Blk.new _ _ _).at (by simp)).alloc _, (Blk.new _ _ _).at (by simp)⟩

set_option maxRecDepth 100000 in
set_option maxHeartbeats 1000000 in
theorem child_no {cel : Frm → Array Value} (hC : Cel cel) (F : Frm) (A : Option Addr) (l cp : Nat) (i : Ins) (w : World) (ht : Tabs w) (hk : isOp i 8 = false) :
    Calls Tryd.prog 20 #[.agg (cel F), .agg #[.slice A l cp], i.val] w fun e w' => e = .returned (.tuple #[.agg (cel Frm.zero), .int .i64 1]) ∧ Fr (fun _ => False) w w' := by
  have HM := hid (is_any i 8)
  unfold isOp at hk
  rw [hk] at HM
  unfold Ins.val at *
  obtain ⟨w1, hw1⟩ : ∃ w1, w1 = (((w.alloc (.cells (cel F) 25)).alloc (.cells #[.slice A l cp] 42)).alloc (.cells #[.int .i64 i.op, .int .i64 i.a, .int .i64 i.b, .int .i64 i.c, .int .i64 i.n] 27)).alloc (.cells zeros 25) := ⟨_, rfl⟩
  obtain ⟨hA, hB, hQ, hI, hZ⟩ := four w (cel F) #[.slice A l cp] #[.int .i64 i.op, .int .i64 i.a, .int .i64 i.b, .int .i64 i.c, .int .i64 i.n] zeros 25 42 27 25
  rw [← hw1] at hA hB hQ hI hZ
  unfold zeros at hw1
  have HA := hid hA
  have HB := hid hB
  have HQ := hid hQ
  have HI := hid hI
  have HZ := hid hZ
  have i0 := hI.cell (i := 0) rfl
  have i1 := hI.cell (i := 1) rfl
  have i2 := hI.cell (i := 2) rfl
  have i3 := hI.cell (i := 3) rfl
  have i4 := hI.cell (i := 4) rfl
  simp only [List.getElem_toArray, List.getElem_cons_zero, List.getElem_cons_succ] at i0 i1 i2 i3 i4
  clear hA hB hQ hI hZ
  have hlit0 : #[.int .i64 0, .int .i64 0, .int .i64 0, .int .i64 0, .int .i64 0, .int .i64 0, .int .i64 0, .int .i64 0, .int .i64 0, .int .i64 0, .int .i64 0, .int .i64 0, .int .i64 0, .int .i64 0, .int .i64 0, .int .i64 0, .int .i64 0, .int .i64 0, .int .i64 0] = cel Frm.zero := by rw [hC.eq]; rfl
  have HL0 := hid hlit0
  clear hlit0
  go_enter Tryd.func20, Tryd.ntmps20
  go_upto_region 1 with fail
  rw [← hw1]
  clear hw1
  go_wp2_with fail
  refine (HM.out _ (ht.same HA.out)).mono ?_
  rintro e w2 ⟨rfl, hF2⟩
  have HA2 := hid (HA.out.trans hF2)
  have HB2 := hid (HB.out.keep hF2 (fun h => h))
  have HQ2 := hid (HQ.out.keep hF2 (fun h => h))
  have HI2 := hid (HI.out.keep hF2 (fun h => h))
  have HZ2 := hid (HZ.out.keep hF2 (fun h => h))
  clear HA HB HQ HI HZ i0 i1 i2 i3 i4 hF2 HM
  have hlit := HL0.out
  go_wp2_with (refine row_store rfl 25 _ _ rfl _ _ rfl rfl HZ2.out infoF rfl (hC.size _) (hC.one _) ?_)
  intro w9 hB9 hF9
  go_wp2_with fail
  exact bodyPost_ret (res_two rfl rfl hB9 Tryd.underlying25 rfl infoF (hC.size _) rfl) rfl ⟨rfl, (HA2.out).over hF9 (by omega)⟩

set_option maxRecDepth 100000 in
set_option maxHeartbeats 1000000 in
theorem child_none {cel : Frm → Array Value} (hC : Cel cel) (F : Frm) (A : Option Addr) (l cp : Nat) (i : Ins) (w : World) (ht : Tabs w) (hk : isOp i 8 = true) (hn : ¬ (0 ≤ i.n ∧ i.n < l)) :
    Calls Tryd.prog 20 #[.agg (cel F), .agg #[.slice A l cp], i.val] w fun e w' => e = .returned (.tuple #[.agg (cel Frm.zero), .int .i64 17]) ∧ Fr (fun _ => False) w w' := by
  have HM := hid (is_any i 8)
  unfold isOp at hk
  rw [hk] at HM
  unfold Ins.val at *
  have HH := hid (has_any A l cp i.n)
  rw [show (decide (0 ≤ i.n) && decide (i.n < (l : Int))) = false by
    by_cases h0 : 0 ≤ i.n
    · rw [decide_eq_false (show ¬ i.n < (l : Int) from fun h => hn ⟨h0, h⟩), Bool.and_false]
    · rw [decide_eq_false h0, Bool.false_and]] at HH
  clear hn
  obtain ⟨w1, hw1⟩ : ∃ w1, w1 = (((w.alloc (.cells (cel F) 25)).alloc (.cells #[.slice A l cp] 42)).alloc (.cells #[.int .i64 i.op, .int .i64 i.a, .int .i64 i.b, .int .i64 i.c, .int .i64 i.n] 27)).alloc (.cells zeros 25) := ⟨_, rfl⟩
  obtain ⟨hA, hB, hQ, hI, hZ⟩ := four w (cel F) #[.slice A l cp] #[.int .i64 i.op, .int .i64 i.a, .int .i64 i.b, .int .i64 i.c, .int .i64 i.n] zeros 25 42 27 25
  rw [← hw1] at hA hB hQ hI hZ
  unfold zeros at hw1
  have HA := hid hA
  have HB := hid hB
  have HQ := hid hQ
  have HI := hid hI
  have HZ := hid hZ
  have i0 := hI.cell (i := 0) rfl
  have i1 := hI.cell (i := 1) rfl
  have i2 := hI.cell (i := 2) rfl
  have i3 := hI.cell (i := 3) rfl
  have i4 := hI.cell (i := 4) rfl
  simp only [List.getElem_toArray, List.getElem_cons_zero, List.getElem_cons_succ] at i0 i1 i2 i3 i4
  clear hA hB hQ hI hZ
  have hlit0 : #[.int .i64 0, .int .i64 0, .int .i64 0, .int .i64 0, .int .i64 0, .int .i64 0, .int .i64 0, .int .i64 0, .int .i64 0, .int .i64 0, .int .i64 0, .int .i64 0, .int .i64 0, .int .i64 0, .int .i64 0, .int .i64 0, .int .i64 0, .int .i64 0, .int .i64 0] = cel Frm.zero := by rw [hC.eq]; rfl
  have HL0 := hid hlit0
  clear hlit0
  go_enter Tryd.func20, Tryd.ntmps20
  go_upto_region 1 with fail
  rw [← hw1]
  clear hw1
  go_wp2_with fail
  refine (HM.out _ (ht.same HA.out)).mono ?_
  rintro e w2 ⟨rfl, hF2⟩
  have HA2 := hid (HA.out.trans hF2)
  have HB2 := hid (HB.out.keep hF2 (fun h => h))
  have HQ2 := hid (HQ.out.keep hF2 (fun h => h))
  have HI2 := hid (HI.out.keep hF2 (fun h => h))
  have HZ2 := hid (HZ.out.keep hF2 (fun h => h))
  clear HA HB HQ HI HZ i0 i1 i2 i3 i4 hF2 HM
  have q0 : w2.cell? ⟨w.heap.size + 1, 0, none⟩ = some (.slice A l cp) := HQ2.out.cell rfl
  have j4 : w2.cell? ⟨w.heap.size + 2, 4, none⟩ = some (.int .i64 i.n) := HI2.out.cell rfl
  go_wp2_with fail
  refine (HH.out w2).mono ?_
  rintro e w3 ⟨rfl, rfl⟩
  have hlit := HL0.out
  go_wp2_with (refine row_store rfl 25 _ _ rfl _ _ rfl rfl HZ2.out infoF rfl (hC.size _) (hC.one _) ?_)
  intro w9 hB9 hF9
  go_wp2_with fail
  exact bodyPost_ret (res_two rfl rfl hB9 Tryd.underlying25 rfl infoF (hC.size _) rfl) rfl ⟨rfl, (HA2.out).over hF9 (by omega)⟩

/-- A round's beginning: handles up to k are given. -/
def ChRel (cel : Frm → Array Value) (F : Frm) (q : Nat) (nd : Int) (g : Nat) (w0 : World) (d : Nat) (x : Value) (wr : World) : Prop := ∃ k : Nat, k ≤ 8 ∧ d = 8 - k ∧ x = .int .i64 k ∧ Blk wr g (cel (F.kid q nd k)) ∧ Fr (fun j => j = g) w0 wr

def CameG (cel : Frm → Array Value) (G : Frm) (w : World) (u : Value) (wx : World) : Prop := ∃ g, u = .pointer (some ⟨g, 0, none⟩) ∧ Blk wx g (cel G) ∧ w.heap.size ≤ g ∧ Fr (fun _ => False) w wx

theorem kid_yes (F : Frm) (q : Nat) (nd : Int) (k : Nat) (h : nbit nd k = true) : (F.kid q nd k).hold k (F.h k) = F.kid q nd (k + 1) := by
  unfold Frm.hold Frm.kid
  simp only
  congr 1
  funext j
  by_cases hj : j = k
  · subst hj
    simp [h]
  · rw [if_neg hj]
    have : (j < k ∧ nbit nd j = true) ↔ (j < k + 1 ∧ nbit nd j = true) := ⟨fun ⟨a, b⟩ => ⟨by omega, b⟩, fun ⟨a, b⟩ => ⟨by omega, b⟩⟩
    simp only [this]
theorem kid_no (F : Frm) (q : Nat) (nd : Int) (k : Nat) (h : nbit nd k = false) : F.kid q nd k = F.kid q nd (k + 1) := by
  unfold Frm.kid
  congr 1
  funext j
  have : (j < k ∧ nbit nd j = true) ↔ (j < k + 1 ∧ nbit nd j = true) := ⟨fun ⟨a, b⟩ => ⟨by omega, b⟩, fun ⟨a, b⟩ => by
    rcases Nat.lt_or_ge j k with hj | hj
    · exact ⟨hj, b⟩
    · obtain rfl : j = k := by omega
      rw [h] at b
      cases b⟩
  simp only [this]

set_option maxRecDepth 100000 in
set_option maxHeartbeats 4000000 in
theorem child_in {cel : Frm → Array Value} (hC : Cel cel) (F : Frm) (A : Option Addr) (l cp : Nat) (P : List Fn) (a b c q : Nat) (fq : Fn) (w : World) (ht : Tabs w) (hP : P.length = l) (hp : Prg w w.heap.size A P) (hq : P[q]? = some fq) (hk : isOp ⟨8, a, b, c, q⟩ 8 = true) :
    Calls Tryd.prog 20 #[.agg (cel F), .agg #[.slice A l cp], Ins.val ⟨8, a, b, c, q⟩] w fun e w' => e = .returned (.tuple #[.agg (cel (F.kid q fq.needs 8)), .int .i64 0]) ∧ Fr (fun _ => False) w w' := by
  have HM := hid (is_any ⟨8, a, b, c, q⟩ 8)
  unfold isOp at hk
  rw [hk] at HM
  unfold Ins.val at *
  simp only at *
  clear hk
  have hql : q < l := by rw [← hP]; exact (List.getElem?_eq_some_iff.1 hq).1
  have HH := hid (has_any A l cp (q : Int))
  rw [decide_eq_true (show (0 : Int) ≤ q by omega), decide_eq_true (show (q : Int) < (l : Int) by omega), Bool.true_and] at HH
  obtain ⟨pb, po, rfl, hpl, hpc⟩ := hp (by omega)
  obtain ⟨A', c', hnd, _, _⟩ := hpc q fq hq
  obtain ⟨nd, hn⟩ : ∃ nd, fq.needs = nd := ⟨_, rfl⟩
  rw [hn] at hnd ⊢
  clear hn hpc hq hP
  obtain ⟨A, hAA⟩ : ∃ A, A = some (⟨pb, po, none⟩ : Addr) := ⟨_, rfl⟩
  rw [← hAA] at HH ⊢
  have HAA := hid hAA
  clear hAA
  have HND := hid hnd
  clear hnd
  obtain ⟨w1, hw1⟩ : ∃ w1, w1 = (((w.alloc (.cells (cel F) 25)).alloc (.cells #[.slice A l cp] 42)).alloc (.cells #[.int .i64 8, .int .i64 a, .int .i64 b, .int .i64 c, .int .i64 q] 27)).alloc (.cells zeros 25) := ⟨_, rfl⟩
  obtain ⟨hA, hB, hQ, hI, hZ⟩ := four w (cel F) #[.slice A l cp] #[.int .i64 8, .int .i64 a, .int .i64 b, .int .i64 c, .int .i64 q] zeros 25 42 27 25
  rw [← hw1] at hA hB hQ hI hZ
  unfold zeros at hw1
  have HA := hid hA
  have HB := hid hB
  have HQ := hid hQ
  have HI := hid hI
  have HZ := hid hZ
  have i0 := hI.cell (i := 0) rfl
  have i1 := hI.cell (i := 1) rfl
  have i2 := hI.cell (i := 2) rfl
  have i3 := hI.cell (i := 3) rfl
  have i4 := hI.cell (i := 4) rfl
  simp only [List.getElem_toArray, List.getElem_cons_zero, List.getElem_cons_succ] at i0 i1 i2 i3 i4
  clear hA hB hQ hI hZ
  have hlit0 : #[.int .i64 0, .int .i64 0, .int .i64 0, .int .i64 0, .int .i64 0, .int .i64 0, .int .i64 0, .int .i64 0, .int .i64 0, .int .i64 0, .int .i64 0, .int .i64 0, .int .i64 0, .int .i64 0, .int .i64 0, .int .i64 0, .int .i64 0, .int .i64 0, .int .i64 0] = cel Frm.zero := by rw [hC.eq]; rfl
  have HL0 := hid hlit0
  clear hlit0
  go_enter Tryd.func20, Tryd.ntmps20
  go_upto_region 1 with fail
  rw [← hw1]
  clear hw1
  go_wp2_with fail
  refine (HM.out _ (ht.same HA.out)).mono ?_
  rintro e w2 ⟨rfl, hF2⟩
  have HA2 := hid (HA.out.trans hF2)
  have HB2 := hid (HB.out.keep hF2 (fun h => h))
  have HQ2 := hid (HQ.out.keep hF2 (fun h => h))
  have HI2 := hid (HI.out.keep hF2 (fun h => h))
  have HZ2 := hid (HZ.out.keep hF2 (fun h => h))
  clear HA HB HQ HI HZ i0 i1 i2 i3 i4 hF2 HM
  have q0 : w2.cell? ⟨w.heap.size + 1, 0, none⟩ = some (.slice A l cp) := HQ2.out.cell rfl
  have j4 : w2.cell? ⟨w.heap.size + 2, 4, none⟩ = some (.int .i64 q) := HI2.out.cell rfl
  go_wp2_with fail
  refine (HH.out w2).mono ?_
  rintro e w3 ⟨rfl, rfl⟩
  obtain ⟨C0, hC0⟩ : ∃ C0, C0 = F.kid q nd 0 := ⟨_, rfl⟩
  have hlit : #[.int .i64 q, .int .i64 0, .int .i64 (F.r 0), .int .i64 (F.r 1), .int .i64 (F.r 2), .int .i64 (F.r 3), .int .i64 (F.r 4), .int .i64 (F.r 5), .int .i64 (F.r 6), .int .i64 (F.r 7), .int .i64 (-1), .int .i64 (-1), .int .i64 (-1), .int .i64 (-1), .int .i64 (-1), .int .i64 (-1), .int .i64 (-1), .int .i64 (-1), .int .i64 0] = cel C0 := by rw [hC0, hC.eq]; rfl
  have HC0 := hid hC0
  clear hC0 HH q0
  have HS := hid (show ∀ w', Fr (fun _ => False) w2 w' → w'.cell? ⟨w.heap.size + 2, 4, none⟩ = some (.int .i64 q) ∧ w'.cell? ⟨w.heap.size, 2, none⟩ = some (.int .i64 (F.r 0)) ∧ w'.cell? ⟨w.heap.size, 3, none⟩ = some (.int .i64 (F.r 1)) ∧ w'.cell? ⟨w.heap.size, 4, none⟩ = some (.int .i64 (F.r 2)) ∧ w'.cell? ⟨w.heap.size, 5, none⟩ = some (.int .i64 (F.r 3)) ∧ w'.cell? ⟨w.heap.size, 6, none⟩ = some (.int .i64 (F.r 4)) ∧ w'.cell? ⟨w.heap.size, 7, none⟩ = some (.int .i64 (F.r 5)) ∧ w'.cell? ⟨w.heap.size, 8, none⟩ = some (.int .i64 (F.r 6)) ∧ w'.cell? ⟨w.heap.size, 9, none⟩ = some (.int .i64 (F.r 7)) from fun w' F' => ⟨(HI2.out.keep F' (fun h => h)).cell rfl, hC.regs F (HB2.out.keep F' (fun h => h))⟩)
  obtain ⟨N, hN, hN1, hN2⟩ := nineteen
  have hsz : ∀ F, (cel F).size = N := fun F => by rw [hC.size, hN]
  have HN := hid hN
  clear hN j4
  go_upto_region 5 with fail
  go_cut [8] from 21 to 26 (fun u wx => CameG cel C0 w2 u wx)
  case first =>
    have HFd := hid (Fr.refl (fun _ => False) w2)
    have hstC : ∀ (V : World), (storeCells ⟨V.heap.size, 0, none⟩ (cel C0).toList 0).run Tryd.prog (V.alloc (.cells zeros 25)) = .ok () ((V.alloc (.cells zeros 25)).setRow V.heap.size (cel C0)) := fun V => store_at (Blk.new V zeros _) rfl (hC.size _) (hC.one _)
    have hstD : ∀ (V : World), (storeCells ⟨V.heap.size, 0, none⟩ (cel C0).toList 0).run Tryd.prog (V.alloc (.cells zeros 25)).drew = .ok () ((V.alloc (.cells zeros 25)).drew.setRow V.heap.size (cel C0)) := fun V => store_at (Blk.new V zeros _).drew rfl (hC.size _) (hC.one _)
    unfold zeros at hstC hstD
    have hEM := empty_any
    unfold none8 at hEM
    have HEM := hid hEM
    clear hEM
    go_region_held3 (fun w' => w'.cell? ⟨w.heap.size + 2, 4, none⟩ = some (.int .i64 q) ∧ w'.cell? ⟨w.heap.size, 2, none⟩ = some (.int .i64 (F.r 0)) ∧ w'.cell? ⟨w.heap.size, 3, none⟩ = some (.int .i64 (F.r 1)) ∧ w'.cell? ⟨w.heap.size, 4, none⟩ = some (.int .i64 (F.r 2)) ∧ w'.cell? ⟨w.heap.size, 5, none⟩ = some (.int .i64 (F.r 3)) ∧ w'.cell? ⟨w.heap.size, 6, none⟩ = some (.int .i64 (F.r 4)) ∧ w'.cell? ⟨w.heap.size, 7, none⟩ = some (.int .i64 (F.r 5)) ∧ w'.cell? ⟨w.heap.size, 8, none⟩ = some (.int .i64 (F.r 6)) ∧ w'.cell? ⟨w.heap.size, 9, none⟩ = some (.int .i64 (F.r 7)))
      (first | exact HS.out _ HFd.out | exact HS.out _ (HFd.out.trans (Fr.drew _ _)) | exact HS.out _ (HFd.out.trans (Fr.alloc _ _ _)) | exact HS.out _ (HFd.out.trans ((Fr.alloc _ _ _).trans (Fr.drew _ _))) | exact HS.out _ (HFd.out.over (setRow_fr _ _ _ rfl) (Nat.le_refl _)) | exact HS.out _ ((HFd.out.trans (Fr.alloc _ _ _)).over (setRow_fr _ _ _ rfl) HFd.out.size) | exact HS.out _ ((HFd.out.trans ((Fr.alloc _ _ _).trans (Fr.drew _ _))).over (setRow_fr _ _ _ rfl) HFd.out.size))
      (first
        | (go_at_call 47; (with_reducible refine (HEM.out _).mono ?_); rintro e w7 ⟨rfl, hF7⟩; (try (have HBB := hid (blk_of' hF7); have hst := store_at (P := Tryd.prog) HBB.out rfl (hC.size C0) (hC.one _))); (try (have HBB := hid (blk_of hF7); have hst := store_at (P := Tryd.prog) HBB.out rfl (hC.size C0) (hC.one _))); have HFd := hid (HFd.out.trans (Fr.trans (by first | exact Fr.refl _ _ | exact Fr.drew _ _ | exact Fr.alloc _ _ _ | exact (Fr.alloc _ _ _).trans (Fr.drew _ _)) hF7)); clear hF7))
    all_goals
      go_wp2_with fail
      go_meet
      case rel => first
        | exact ⟨_, rfl, setRow_blk HBB.out _, Nat.le_refl _, HFd.out.over (setRow_fr _ _ _ rfl) (Nat.le_refl _)⟩
        | exact ⟨_, rfl, setRow_blk (Blk.new _ _ _) _, HFd.out.size, (HFd.out.trans (Fr.alloc _ _ _)).over (setRow_fr _ _ _ rfl) HFd.out.size⟩
        | exact ⟨_, rfl, setRow_blk (Blk.new _ _ _).drew _, HFd.out.size, (HFd.out.trans ((Fr.alloc _ _ _).trans (Fr.drew _ _))).over (setRow_fr _ _ _ rfl) HFd.out.size⟩
  case rest =>
    obtain ⟨g, rfl, hB5, hg5, hF5⟩ := hcut
    have HG5 := hid hg5
    have HA5 := hid (HA2.out.trans hF5)
    have HB5 := hid (HB2.out.keep hF5 (fun h => h))
    have HQ5 := hid (HQ2.out.keep hF5 (fun h => h))
    have HI5 := hid (HI2.out.keep hF5 (fun h => h))
    have HZ5 := hid (HZ2.out.keep hF5 (fun h => h))
    have HZL := hid HZ2.out.lt
    rw [HC0.out] at hB5
    have HC5 := hid hB5
    clear HA2 HB2 HQ2 HI2 HZ2 HS hlit hB5 hF5 hg5 hsz
    go_wp2_with fail
    go_loopg [27] 8 (fun d x wr => ChRel cel F q nd g wc d x wr)
    case atStart => exact ⟨0, by omega, rfl, rfl, HC5.out, Fr.refl _ _⟩
    case round =>
      obtain ⟨k, hk, hd, rfl, hB, hF⟩ := hrel
      have HD := hid hd
      have HK := hid hB
      have HF := hid hF
      have hne : ∀ j, j ≤ w.heap.size + 3 → ¬ (j = g) := fun j hj => by have := HG5.out; have := HZL.out; omega
      have q1 : wr.cell? ⟨w.heap.size + 1, 0, none⟩ = some (.slice A l cp) := (HQ5.out.keep hF (hne _ (by omega))).cell rfl
      have j4 : wr.cell? ⟨w.heap.size + 2, 4, none⟩ = some (.int .i64 q) := (HI5.out.keep hF (hne _ (by omega))).cell rfl
      have hpk : wr.cell? ⟨pb, po + q * 2, none⟩ = some (.int .i64 nd) := (cell_keep hF (p := ⟨pb, po + q * 2, none⟩) (Nat.lt_of_lt_of_le hpl HA5.out.size) (hne pb (by omega))).trans ((cell_keep HA5.out (p := ⟨pb, po + q * 2, none⟩) hpl (fun h => h)).trans HND.out)
      rw [HAA.out] at q1
      have hq0 : (0 : Int) ≤ q ∧ (q : Int) < l := by omega
      clear hd hB
      by_cases hlt : k < 8
      · have hk0 : (0 : Int) ≤ k ∧ (k : Int) < 8 := by omega
        have hk1 : (0 : Int) ≤ k := by omega
        have hk2 : (k : Int) ≤ 64 := by omega
        have r1 : wr.cell? ⟨w.heap.size, 10 + k, none⟩ = some (.int .i64 (F.h k)) := (HB5.out.keep hF (hne _ (by omega))).cell (hC.h F k hlt)
        have s1 : wr.cell? ⟨g, 10 + k, none⟩ = some (.int .i64 ((F.kid q nd k).h k)) := HK.out.cell (hC.h _ k hlt)
        have s2 := HK.out.frozen (10 + k)
        clear hF
        rcases Bool.eq_false_or_eq_true (nbit nd k) with hb | hb
        · have tb : (bits BinOp.and IntKind.i64 (nd / 2 ^ k) 1 == 1) = true := hb
          have hB6 := HK.out.set (10 + k) (.int .i64 (F.h k))
          rw [hC.hold _ k _ hlt, kid_yes F q nd k hb] at hB6
          have HB6 := hid hB6
          clear hB6 hb
          go_wp2_with fail
          go_roundg (8 - (k + 1))
          case rel => exact ⟨k + 1, by omega, by omega, by go_num, HB6.out, HF.out.trans (Fr.setCell _ _ _ rfl)⟩
          case measure => have := HD.out; omega
        · have tb : (bits BinOp.and IntKind.i64 (nd / 2 ^ k) 1 == 1) = false := hb
          have hB6 := HK.out
          rw [kid_no F q nd k hb] at hB6
          have HB6 := hid hB6
          clear hB6 hb
          go_wp2_with fail
          go_roundg (8 - (k + 1))
          case rel => exact ⟨k + 1, by omega, by omega, by go_num, HB6.out, HF.out⟩
          case measure => have := HD.out; omega
      · obtain rfl : k = 8 := by omega
        have hZ6 := HZ5.out.keep hF (hne _ (by omega))
        have hA6 := HA5.out.over HF.out (by have := HG5.out; have := HZL.out; omega)
        clear hF q1 j4 hpk hne
        go_wp2_with (first
          | (refine row_load rfl 25 _ rfl _ rfl HK.out Tryd.underlying25 rfl infoF (hC.size _) ?_)
          | (refine row_store rfl 25 _ _ rfl _ _ rfl rfl hZ6 infoF rfl (hC.size _) (hC.one _) ?_))
        intro w9 hB9 hF9
        go_wp2_with fail
        exact bodyPost_ret (res_two rfl rfl hB9 Tryd.underlying25 rfl infoF (hC.size _) rfl) rfl ⟨rfl, hA6.over hF9 (by omega)⟩

end Go.Proofs.YtedpgfldkjimpaaDoor
