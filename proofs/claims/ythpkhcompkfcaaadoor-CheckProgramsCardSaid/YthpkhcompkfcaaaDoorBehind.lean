/-
  What behind's iterator hands to a loop's rounds.
-/
import Derived.Test.YthpkhcompkfcaaaDoorSmall
import Derived.RangeFuncNested
import Derived.RangeFuncBound
import Derived.RangeFuncCalls
import Derived.RangeFuncLeaves
import Derived.Shelf.Abstract
import Derived.Shelf.RegionOpen
import Derived.OwnWalkIn
import Derived.TacticsInMore
import Derived.LoopNIn
import Derived.LoopIn
namespace Go.Proofs.YthpkhcompkfcaaaDoor
open Go.RowKit Go.Shelf
attribute [local go_sem] Oper.semAt_some

/-- What the iterator reads lies as it lay. -/
def K3 (lo : Nat) (W W' : World) : Prop := ∀ b, (b = lo ∨ b = lo + 1 ∨ b = lo + 4) → b < W.heap.size → W'.heap[b]? = W.heap[b]?

theorem K3.blk {lo : Nat} {W W' : World} (h : K3 lo W W') {b : Nat} {c : Array Value} (hb : Blk W b c) (h3 : b = lo ∨ b = lo + 1 ∨ b = lo + 4) : Blk W' b c := by
  have hl := hb.lt
  obtain ⟨t, e⟩ := hb
  exact ⟨t, by rw [h b h3 hl]; exact e⟩

def YdPost (lo : Nat) (J : List Nat → World → Prop) (pre : List Nat) (j : Nat) (W : World) (e : Ending) (W' : World) : Prop :=
  e = .returned (.bool true) ∧ J (pre ++ [j]) W' ∧ K3 lo W W'

def BhPost (l : List Ins) (k : Nat) (J : List Nat → World → Prop) (e : Ending) (W' : World) : Prop := (∃ v, e = .returned v) ∧ J (bhd l k) W'

theorem behind_mk (A : Option Addr) (n c : Nat) (k : Nat) (w : World) : Calls Tryd.prog 26 #[.slice A n c, .int .i64 k] w fun e w' => e = .returned (.func (.func 38) #[] #[.pointer (some ⟨w.heap.size, 0, none⟩), .pointer (some ⟨w.heap.size + 1, 0, none⟩)]) ∧ w' = (w.alloc (.cells #[.slice A n c] 22)).alloc (.cells #[.int .i64 k] 3) := by
  go_enter Tryd.func26, Tryd.ntmps26
  go_wp2
  go_ret
  exact ⟨rfl, rfl⟩

set_option maxRecDepth 100000 in
set_option maxHeartbeats 4000000 in
theorem behind_in (n lid lo : Nat) (hn : 3 ≤ n) (l : List Ins) (k : Nat) (x : Ins) (hx : l[k]? = some x) (hl : l.length ≤ 1000) (A : Option Addr) (ln c : Nat) (hln : l.length = ln) (J : List Nat → World → Prop) (w : World) (hsz : w.heap.size = lo + 4)
    (hJa : ∀ W W' pre, J pre W → Fr (fun _ => False) W W' → J pre W')
    (hY : ∀ pre j W1, pre ++ [j] <+: bhd l k → J pre W1 → lo + 5 ≤ W1.heap.size → YieldAt Fence.wide (n - 1) Tryd.prog lid #[.int .i64 (j : Nat)] W1 (YdPost lo J pre j W1))
    (h0 : J [] w) (hbl : Blk w lo #[.slice A ln c]) (hba : Blk w (lo + 1) #[.int .i64 (k : Nat)]) (hcod : Cod w w.heap.size A l) :
    CallsIn Fence.wide n Tryd.prog 38 #[.func (.yield lid) #[] #[], .pointer (some ⟨lo, 0, none⟩), .pointer (some ⟨lo + 1, 0, none⟩)] w (BhPost l k J) := by
  have HY := hid hY
  have HJA := hid hJa
  clear hY hJa
  have hkl := (List.getElem?_eq_some_iff.1 hx).1
  rw [hln] at hkl
  rw [hln] at hl
  have HLN := hid hln
  clear hln
  obtain ⟨b, o, rfl, hb, hcell⟩ := hcod (by rw [HLN.out]; omega)
  obtain ⟨s0, s1, s2, s3, s4⟩ := hcell k _ hx
  clear hcell
  have HBH := hid (bhd_at hx)
  obtain ⟨jj, hjj⟩ : ∃ jj, isJ x = jj := ⟨_, rfl⟩
  obtain ⟨pp, hpp⟩ : ∃ pp, isP x = pp := ⟨_, rfl⟩
  have HJU := hid (jumps_any x)
  have HPA := hid (passes_any x)
  rw [hjj] at HJU
  rw [hpp] at HPA
  have HJJ := hid hjj
  have HPP := hid hpp
  clear hjj hpp
  obtain ⟨op, a, bb, ci, m⟩ := x
  unfold Ins.val at HJU HPA
  simp only at s0 s1 s2 s3 s4 HJU HPA
  have c0 := hbl.cell (i := 0) rfl
  have c1 := hba.cell (i := 0) rfl
  simp only [List.getElem_toArray, List.getElem_cons_zero] at c0 c1
  have HBL := hid hbl
  have HBA := hid hba
  have H0 := hid h0
  have HSZ := hid hsz
  have q1 : lo < w.heap.size := by omega
  have q2 : lo + 1 < w.heap.size := by omega
  clear hx hbl hba h0
  refine callsIn_of_wp Tryd.func38 rfl trivial ?_ rfl
  simp only [Tryd.ntmps38, List.size_toArray, List.length_cons, List.length_nil, Nat.reduceAdd, Nat.reduceSub, Array.replicate_succ, Array.replicate_zero, List.push_toArray, List.append_toArray, List.nil_append, List.cons_append]
  gi_wp2
  refine ⟨trivial, fun _ => (by omega), (callsIn_wide.2 (HJU.out _)).mono ?_⟩
  rintro e w1 ⟨rfl, hF1⟩
  have hPB : Blk w1 lo #[.slice (some ⟨b, o, none⟩) ln c] := (HBL.out.alloc _).keep hF1 (fun h => h)
  have hPA : Blk w1 (lo + 1) #[.int .i64 (k : Nat)] := (HBA.out.alloc _).keep hF1 (fun h => h)
  have hPI : Blk w1 (lo + 4) #[.int .i64 op, .int .i64 a, .int .i64 bb, .int .i64 ci, .int .i64 m] := ((Blk.new w _ _).at HSZ.out).keep hF1 (fun h => h)
  have hPJ : J [] w1 := HJA.out _ _ _ (HJA.out _ _ _ H0.out (Fr.alloc _ _ _)) hF1
  have hPS : lo + 5 ≤ w1.heap.size := by have := hPI.lt; omega
  have e0 : w1.cell? ⟨lo, 0, none⟩ = some (.slice (some ⟨b, o, none⟩) ln c) := hPB.cell rfl
  have e1 : w1.cell? ⟨lo + 1, 0, none⟩ = some (.int .i64 (k : Nat)) := hPA.cell rfl
  have i0 : w1.cell? ⟨lo + 4, 0, none⟩ = some (.int .i64 op) := hPI.cell rfl
  have i1 : w1.cell? ⟨lo + 4, 1, none⟩ = some (.int .i64 a) := hPI.cell rfl
  have i2 : w1.cell? ⟨lo + 4, 2, none⟩ = some (.int .i64 bb) := hPI.cell rfl
  have i3 : w1.cell? ⟨lo + 4, 3, none⟩ = some (.int .i64 ci) := hPI.cell rfl
  have i4 : w1.cell? ⟨lo + 4, 4, none⟩ = some (.int .i64 m) := hPI.cell rfl
  clear hF1 c0 c1 s0 s1 s2 s3 s4
  have HPB := hid hPB
  have HPA2 := hid hPA
  have HPI := hid hPI
  have HPJ := hid hPJ
  clear hPB hPA hPI hPJ
  cases jj with
  | false =>
    have HBJ := hid (show bhdJ l ⟨op, a, bb, ci, m⟩ = [] by unfold bhdJ; rw [HJJ.out]; simp)
    gi_wp2
    refine ⟨trivial, ?_⟩
    gi_wp2
    refine ⟨fun _ h => (by cases h), ?_⟩
    gi_wp2
    refine ⟨trivial, fun _ => (by omega), (callsIn_wide.2 (HPA.out _)).mono ?_⟩
    rintro e w5 ⟨rfl, hF5⟩
    clear e0 e1 i0 i1 i2 i3 i4
    have hPB : Blk w5 lo #[.slice (some ⟨b, o, none⟩) ln c] := HPB.out.keep hF5 (fun h => h)
    have hPA : Blk w5 (lo + 1) #[.int .i64 (k : Nat)] := HPA2.out.keep hF5 (fun h => h)
    have hPI : Blk w5 (lo + 4) #[.int .i64 op, .int .i64 a, .int .i64 bb, .int .i64 ci, .int .i64 m] := HPI.out.keep hF5 (fun h => h)
    have hPJ : J [] w5 := HJA.out _ _ _ HPJ.out hF5
    have hPS : lo + 5 ≤ w5.heap.size := by have := hPI.lt; omega
    have e0 : w5.cell? ⟨lo, 0, none⟩ = some (.slice (some ⟨b, o, none⟩) ln c) := hPB.cell rfl
    have e1 : w5.cell? ⟨lo + 1, 0, none⟩ = some (.int .i64 (k : Nat)) := hPA.cell rfl
    have i0 : w5.cell? ⟨lo + 4, 0, none⟩ = some (.int .i64 op) := hPI.cell rfl
    have i1 : w5.cell? ⟨lo + 4, 1, none⟩ = some (.int .i64 a) := hPI.cell rfl
    have i2 : w5.cell? ⟨lo + 4, 2, none⟩ = some (.int .i64 bb) := hPI.cell rfl
    have i3 : w5.cell? ⟨lo + 4, 3, none⟩ = some (.int .i64 ci) := hPI.cell rfl
    have i4 : w5.cell? ⟨lo + 4, 4, none⟩ = some (.int .i64 m) := hPI.cell rfl
    clear HPB HPA2 HPI HPJ hF5
    have HPB := hid hPB
    have HPA2 := hid hPA
    have HPI := hid hPI
    have HPJ := hid hPJ
    clear hPB hPA hPI hPJ
    cases pp with
    | false =>
      have HBP := hid (show bhd l k = [] by rw [HBH.out, HBJ.out]; unfold bhdP; rw [HPP.out]; simp)
      gi_wp2
      refine ⟨trivial, ?_⟩
      gi_wp2
      first
        | go_end0
        | refine bodyPost_ret (results_none rfl _ _ _) rfl ?_
      exact ⟨⟨_, rfl⟩, by rw [HBP.out]; exact HPJ.out⟩
    | true =>
      by_cases hk1 : k + 1 < ln
      · have HHP := hid (show hasB ln ((k : Int) + 1) = true by unfold hasB; exact decide_eq_true ⟨by omega, by omega⟩)
        have hbp : bhd l k = [] ++ [k + 1] := by rw [HBH.out, HBJ.out]; unfold bhdP; rw [HPP.out, HLN.out, if_pos ⟨rfl, hk1⟩]
        have HBP := hid hbp
        have HYY := hid (HY.out [] (k + 1) w5 (by rw [hbp]; exact List.prefix_rfl) HPJ.out hPS)
        clear hbp
        rw [show ((k + 1 : Nat) : Int) = (k : Int) + 1 from rfl] at HYY
        gi_wp2
        refine ⟨trivial, fun _ => (by omega), (callsIn_wide.2 (has_any _ _ _)).mono ?_⟩
        rintro e w6 ⟨rfl, rfl⟩
        rw [HHP.out]
        obtain ⟨fn2, tmps2, assign2, body2, hy2, hR2⟩ := HYY.out
        gi_wp2
        refine ⟨fun _ => (by omega), hR2.mono ?_⟩
        rintro e w7 ⟨rfl, hJ7, hK7⟩
        have HJ7 := hid hJ7
        clear hJ7 hK7 hR2
        gi_wp2
        first
          | go_end0
          | refine bodyPost_ret (results_none rfl _ _ _) rfl ?_
        exact ⟨⟨_, rfl⟩, by rw [HBP.out]; exact HJ7.out⟩
      · have HHP := hid (show hasB ln ((k : Int) + 1) = false by unfold hasB; exact decide_eq_false (fun h => hk1 (by omega)))
        have HBP := hid (show bhd l k = [] by rw [HBH.out, HBJ.out]; unfold bhdP; rw [HPP.out, HLN.out, if_neg (fun h => hk1 h.2)]; simp)
        gi_wp2
        refine ⟨trivial, fun _ => (by omega), (callsIn_wide.2 (has_any _ _ _)).mono ?_⟩
        rintro e w6 ⟨rfl, rfl⟩
        rw [HHP.out]
        gi_wp2
        first
          | go_end0
          | refine bodyPost_ret (results_none rfl _ _ _) rfl ?_
        exact ⟨⟨_, rfl⟩, by rw [HBP.out]; exact HPJ.out⟩
  | true =>
    by_cases hm : 0 ≤ m ∧ m < ln
    · obtain ⟨mm, rfl⟩ := Int.eq_ofNat_of_zero_le hm.1
      have HHM := hid (show hasB ln (mm : Int) = true by unfold hasB; exact decide_eq_true hm)
      have hbj : bhdJ l ⟨op, a, bb, ci, mm⟩ = [mm] := by unfold bhdJ; rw [HJJ.out, HLN.out, if_pos ⟨rfl, hm⟩]; rfl
      have HBJ := hid hbj
      have HYJ := hid (HY.out [] mm w1 (by rw [HBH.out, hbj]; exact ⟨_, rfl⟩) HPJ.out hPS)
      clear hbj hm
      gi_wp2
      refine ⟨trivial, fun _ => (by omega), (callsIn_wide.2 (has_any _ _ _)).mono ?_⟩
      rintro e w2 ⟨rfl, rfl⟩
      rw [HHM.out]
      obtain ⟨fn, tmps, assign, body, hy, hR⟩ := HYJ.out
      gi_wp2
      refine ⟨fun _ => (by omega), hR.mono ?_⟩
      rintro e w4 ⟨rfl, hJ4, hK4⟩
      clear e0 e1 i0 i1 i2 i3 i4 hPS hR hy
      have hPB : Blk w4 lo #[.slice (some ⟨b, o, none⟩) ln c] := hK4.blk HPB.out (by omega)
      have hPA : Blk w4 (lo + 1) #[.int .i64 (k : Nat)] := hK4.blk HPA2.out (by omega)
      have hPI : Blk w4 (lo + 4) #[.int .i64 op, .int .i64 a, .int .i64 bb, .int .i64 ci, .int .i64 mm] := hK4.blk HPI.out (by omega)
      have hPJ : J [mm] w4 := hJ4
      have hPS : lo + 5 ≤ w4.heap.size := by have := hPI.lt; omega
      have e0 : w4.cell? ⟨lo, 0, none⟩ = some (.slice (some ⟨b, o, none⟩) ln c) := hPB.cell rfl
      have e1 : w4.cell? ⟨lo + 1, 0, none⟩ = some (.int .i64 (k : Nat)) := hPA.cell rfl
      have i0 : w4.cell? ⟨lo + 4, 0, none⟩ = some (.int .i64 op) := hPI.cell rfl
      have i1 : w4.cell? ⟨lo + 4, 1, none⟩ = some (.int .i64 a) := hPI.cell rfl
      have i2 : w4.cell? ⟨lo + 4, 2, none⟩ = some (.int .i64 bb) := hPI.cell rfl
      have i3 : w4.cell? ⟨lo + 4, 3, none⟩ = some (.int .i64 ci) := hPI.cell rfl
      have i4 : w4.cell? ⟨lo + 4, 4, none⟩ = some (.int .i64 mm) := hPI.cell rfl
      clear HPB HPA2 HPI HPJ hK4 hJ4
      have HPB := hid hPB
      have HPA2 := hid hPA
      have HPI := hid hPI
      have HPJ := hid hPJ
      clear hPB hPA hPI hPJ
      gi_wp2
      refine ⟨trivial, fun _ => (by omega), (callsIn_wide.2 (HPA.out _)).mono ?_⟩
      rintro e w5 ⟨rfl, hF5⟩
      clear e0 e1 i0 i1 i2 i3 i4
      have hPB : Blk w5 lo #[.slice (some ⟨b, o, none⟩) ln c] := HPB.out.keep hF5 (fun h => h)
      have hPA : Blk w5 (lo + 1) #[.int .i64 (k : Nat)] := HPA2.out.keep hF5 (fun h => h)
      have hPI : Blk w5 (lo + 4) #[.int .i64 op, .int .i64 a, .int .i64 bb, .int .i64 ci, .int .i64 mm] := HPI.out.keep hF5 (fun h => h)
      have hPJ : J [mm] w5 := HJA.out _ _ _ HPJ.out hF5
      have hPS : lo + 5 ≤ w5.heap.size := by have := hPI.lt; omega
      have e0 : w5.cell? ⟨lo, 0, none⟩ = some (.slice (some ⟨b, o, none⟩) ln c) := hPB.cell rfl
      have e1 : w5.cell? ⟨lo + 1, 0, none⟩ = some (.int .i64 (k : Nat)) := hPA.cell rfl
      have i0 : w5.cell? ⟨lo + 4, 0, none⟩ = some (.int .i64 op) := hPI.cell rfl
      have i1 : w5.cell? ⟨lo + 4, 1, none⟩ = some (.int .i64 a) := hPI.cell rfl
      have i2 : w5.cell? ⟨lo + 4, 2, none⟩ = some (.int .i64 bb) := hPI.cell rfl
      have i3 : w5.cell? ⟨lo + 4, 3, none⟩ = some (.int .i64 ci) := hPI.cell rfl
      have i4 : w5.cell? ⟨lo + 4, 4, none⟩ = some (.int .i64 mm) := hPI.cell rfl
      clear HPB HPA2 HPI HPJ hF5
      have HPB := hid hPB
      have HPA2 := hid hPA
      have HPI := hid hPI
      have HPJ := hid hPJ
      clear hPB hPA hPI hPJ
      cases pp with
      | false =>
        have HBP := hid (show bhd l k = [mm] by rw [HBH.out, HBJ.out]; unfold bhdP; rw [HPP.out]; simp)
        gi_wp2
        refine ⟨trivial, ?_⟩
        gi_wp2
        first
          | go_end0
          | refine bodyPost_ret (results_none rfl _ _ _) rfl ?_
        exact ⟨⟨_, rfl⟩, by rw [HBP.out]; exact HPJ.out⟩
      | true =>
        by_cases hk1 : k + 1 < ln
        · have HHP := hid (show hasB ln ((k : Int) + 1) = true by unfold hasB; exact decide_eq_true ⟨by omega, by omega⟩)
          have hbp : bhd l k = [mm] ++ [k + 1] := by rw [HBH.out, HBJ.out]; unfold bhdP; rw [HPP.out, HLN.out, if_pos ⟨rfl, hk1⟩]
          have HBP := hid hbp
          have HYY := hid (HY.out [mm] (k + 1) w5 (by rw [hbp]; exact List.prefix_rfl) HPJ.out hPS)
          clear hbp
          rw [show ((k + 1 : Nat) : Int) = (k : Int) + 1 from rfl] at HYY
          gi_wp2
          refine ⟨trivial, fun _ => (by omega), (callsIn_wide.2 (has_any _ _ _)).mono ?_⟩
          rintro e w6 ⟨rfl, rfl⟩
          rw [HHP.out]
          obtain ⟨fn2, tmps2, assign2, body2, hy2, hR2⟩ := HYY.out
          gi_wp2
          refine ⟨fun _ => (by omega), hR2.mono ?_⟩
          rintro e w7 ⟨rfl, hJ7, hK7⟩
          have HJ7 := hid hJ7
          clear hJ7 hK7 hR2
          gi_wp2
          first
            | go_end0
            | refine bodyPost_ret (results_none rfl _ _ _) rfl ?_
          exact ⟨⟨_, rfl⟩, by rw [HBP.out]; exact HJ7.out⟩
        · have HHP := hid (show hasB ln ((k : Int) + 1) = false by unfold hasB; exact decide_eq_false (fun h => hk1 (by omega)))
          have HBP := hid (show bhd l k = [mm] by rw [HBH.out, HBJ.out]; unfold bhdP; rw [HPP.out, HLN.out, if_neg (fun h => hk1 h.2)]; simp)
          gi_wp2
          refine ⟨trivial, fun _ => (by omega), (callsIn_wide.2 (has_any _ _ _)).mono ?_⟩
          rintro e w6 ⟨rfl, rfl⟩
          rw [HHP.out]
          gi_wp2
          first
            | go_end0
            | refine bodyPost_ret (results_none rfl _ _ _) rfl ?_
          exact ⟨⟨_, rfl⟩, by rw [HBP.out]; exact HPJ.out⟩
    · have HHM := hid (show hasB ln m = false by unfold hasB; exact decide_eq_false hm)
      have HBJ := hid (show bhdJ l ⟨op, a, bb, ci, m⟩ = [] by unfold bhdJ; rw [HJJ.out, HLN.out, if_neg (fun h => hm h.2)])
      clear hm
      gi_wp2
      refine ⟨trivial, fun _ => (by omega), (callsIn_wide.2 (has_any _ _ _)).mono ?_⟩
      rintro e w2 ⟨rfl, rfl⟩
      rw [HHM.out]
      gi_wp2
      refine ⟨fun _ h => (by cases h), ?_⟩
      gi_wp2
      refine ⟨trivial, fun _ => (by omega), (callsIn_wide.2 (HPA.out _)).mono ?_⟩
      rintro e w5 ⟨rfl, hF5⟩
      clear e0 e1 i0 i1 i2 i3 i4
      have hPB : Blk w5 lo #[.slice (some ⟨b, o, none⟩) ln c] := HPB.out.keep hF5 (fun h => h)
      have hPA : Blk w5 (lo + 1) #[.int .i64 (k : Nat)] := HPA2.out.keep hF5 (fun h => h)
      have hPI : Blk w5 (lo + 4) #[.int .i64 op, .int .i64 a, .int .i64 bb, .int .i64 ci, .int .i64 m] := HPI.out.keep hF5 (fun h => h)
      have hPJ : J [] w5 := HJA.out _ _ _ HPJ.out hF5
      have hPS : lo + 5 ≤ w5.heap.size := by have := hPI.lt; omega
      have e0 : w5.cell? ⟨lo, 0, none⟩ = some (.slice (some ⟨b, o, none⟩) ln c) := hPB.cell rfl
      have e1 : w5.cell? ⟨lo + 1, 0, none⟩ = some (.int .i64 (k : Nat)) := hPA.cell rfl
      have i0 : w5.cell? ⟨lo + 4, 0, none⟩ = some (.int .i64 op) := hPI.cell rfl
      have i1 : w5.cell? ⟨lo + 4, 1, none⟩ = some (.int .i64 a) := hPI.cell rfl
      have i2 : w5.cell? ⟨lo + 4, 2, none⟩ = some (.int .i64 bb) := hPI.cell rfl
      have i3 : w5.cell? ⟨lo + 4, 3, none⟩ = some (.int .i64 ci) := hPI.cell rfl
      have i4 : w5.cell? ⟨lo + 4, 4, none⟩ = some (.int .i64 m) := hPI.cell rfl
      clear HPB HPA2 HPI HPJ hF5
      have HPB := hid hPB
      have HPA2 := hid hPA
      have HPI := hid hPI
      have HPJ := hid hPJ
      clear hPB hPA hPI hPJ
      cases pp with
      | false =>
        have HBP := hid (show bhd l k = [] by rw [HBH.out, HBJ.out]; unfold bhdP; rw [HPP.out]; simp)
        gi_wp2
        refine ⟨trivial, ?_⟩
        gi_wp2
        first
          | go_end0
          | refine bodyPost_ret (results_none rfl _ _ _) rfl ?_
        exact ⟨⟨_, rfl⟩, by rw [HBP.out]; exact HPJ.out⟩
      | true =>
        by_cases hk1 : k + 1 < ln
        · have HHP := hid (show hasB ln ((k : Int) + 1) = true by unfold hasB; exact decide_eq_true ⟨by omega, by omega⟩)
          have hbp : bhd l k = [] ++ [k + 1] := by rw [HBH.out, HBJ.out]; unfold bhdP; rw [HPP.out, HLN.out, if_pos ⟨rfl, hk1⟩]
          have HBP := hid hbp
          have HYY := hid (HY.out [] (k + 1) w5 (by rw [hbp]; exact List.prefix_rfl) HPJ.out hPS)
          clear hbp
          rw [show ((k + 1 : Nat) : Int) = (k : Int) + 1 from rfl] at HYY
          gi_wp2
          refine ⟨trivial, fun _ => (by omega), (callsIn_wide.2 (has_any _ _ _)).mono ?_⟩
          rintro e w6 ⟨rfl, rfl⟩
          rw [HHP.out]
          obtain ⟨fn2, tmps2, assign2, body2, hy2, hR2⟩ := HYY.out
          gi_wp2
          refine ⟨fun _ => (by omega), hR2.mono ?_⟩
          rintro e w7 ⟨rfl, hJ7, hK7⟩
          have HJ7 := hid hJ7
          clear hJ7 hK7 hR2
          gi_wp2
          first
            | go_end0
            | refine bodyPost_ret (results_none rfl _ _ _) rfl ?_
          exact ⟨⟨_, rfl⟩, by rw [HBP.out]; exact HJ7.out⟩
        · have HHP := hid (show hasB ln ((k : Int) + 1) = false by unfold hasB; exact decide_eq_false (fun h => hk1 (by omega)))
          have HBP := hid (show bhd l k = [] by rw [HBH.out, HBJ.out]; unfold bhdP; rw [HPP.out, HLN.out, if_neg (fun h => hk1 h.2)]; simp)
          gi_wp2
          refine ⟨trivial, fun _ => (by omega), (callsIn_wide.2 (has_any _ _ _)).mono ?_⟩
          rintro e w6 ⟨rfl, rfl⟩
          rw [HHP.out]
          gi_wp2
          first
            | go_end0
            | refine bodyPost_ret (results_none rfl _ _ _) rfl ?_
          exact ⟨⟨_, rfl⟩, by rw [HBP.out]; exact HPJ.out⟩

end Go.Proofs.YthpkhcompkfcaaaDoor
