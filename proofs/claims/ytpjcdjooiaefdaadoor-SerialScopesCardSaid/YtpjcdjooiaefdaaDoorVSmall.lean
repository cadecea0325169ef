/-
  The small functions: has, jumps, passes, gives.
-/
import Derived.Test.YtpjcdjooiaefdaaDoorVMem
import Derived.RangeFuncNested
import Derived.RangeFuncBound
import Derived.RangeFuncCalls
import Derived.RangeFuncLeaves
import Derived.Shelf.Abstract
import Derived.Shelf.RegionOpen
import Derived.OwnWalkIn
import Derived.TacticsInMore
import Derived.LoopNIn
import Derived.LoopIn
import Derived.RangeFuncRecord
namespace Go.Proofs.YtpjcdjooiaefdaaDoor
open Go.RowKit

def hasB (s k : Int) : Bool := decide (0 ≤ k ∧ k < s)

theorem has_chk (s k : Int) (w : World) : Calls Tryd.prog 60 #[.int .i64 s, .int .i64 k] w fun e w' => e = .returned (.bool (hasB s k)) ∧ w = w' := by
  by_cases h0 : 0 ≤ k
  · by_cases h1 : k < s
    · have HQ := hid (show hasB s k = true by unfold hasB; exact decide_eq_true ⟨h0, h1⟩)
      go_enter Tryd.func60, Tryd.ntmps60
      go_wp2
      all_goals
        go_ret
        exact ⟨ret_bool HQ.out.symm, rfl⟩
    · have HQ := hid (show hasB s k = false by unfold hasB; exact decide_eq_false (fun h => h1 h.2))
      go_enter Tryd.func60, Tryd.ntmps60
      go_wp2
      all_goals
        go_ret
        exact ⟨ret_bool HQ.out.symm, rfl⟩
  · have HQ := hid (show hasB s k = false by unfold hasB; exact decide_eq_false (fun h => h0 h.1))
    go_enter Tryd.func60, Tryd.ntmps60
    go_wp2
    all_goals
      go_ret
      exact ⟨ret_bool HQ.out.symm, rfl⟩

theorem jumps_any (i : Ins) (w : World) : Calls Tryd.prog 59 #[i.val] w fun e w' => e = .returned (.bool (isJ i)) ∧ Fr (fun _ => False) w w' := by
  obtain ⟨op, a, b, c, n⟩ := i
  unfold Ins.val
  simp only
  go_enter Tryd.func59, Tryd.ntmps59
  go_wp2
  all_goals
    go_ret
    exact ⟨ret_bool (by unfold isJ; simp [*]), Fr.alloc _ _ _⟩

theorem passes_any (i : Ins) (w : World) : Calls Tryd.prog 62 #[i.val] w fun e w' => e = .returned (.bool (isP i)) ∧ Fr (fun _ => False) w w' := by
  obtain ⟨op, a, b, c, n⟩ := i
  unfold Ins.val
  simp only
  go_enter Tryd.func62, Tryd.ntmps62
  go_wp2
  all_goals
    go_ret
    exact ⟨ret_bool (by first | rfl | (unfold isP; simp [*])), Fr.alloc _ _ _⟩

theorem gives_any (i : Ins) (w : World) : Calls Tryd.prog 57 #[i.val] w fun e w' => e = .returned (.int .i64 (gv i : Nat)) ∧ Fr (fun _ => False) w w' := by
  obtain ⟨op, a, b, c, n⟩ := i
  by_cases h8 : op = 8
  · by_cases ha : 0 ≤ a ∧ a < 8
    · have hm : a = 0 ∨ a = 1 ∨ a = 2 ∨ a = 3 ∨ a = 4 ∨ a = 5 ∨ a = 6 ∨ a = 7 := by omega
      have HQ := hid (show gv ⟨op, a, b, c, n⟩ = 2 ^ a.toNat by unfold gv; rw [if_pos ⟨h8, ha⟩])
      have HB := hid (show hasB 8 a = true by unfold hasB; exact decide_eq_true ha)
      unfold Ins.val
      simp only
      subst h8
      rcases hm with rfl | rfl | rfl | rfl | rfl | rfl | rfl | rfl
      all_goals
        go_enter Tryd.func57, Tryd.ntmps57
        go_wp2_with fail
        refine (has_chk _ _ _).mono ?_
        rintro e w' ⟨rfl, rfl⟩
        rw [HB.out]
        go_wp2_with fail
        go_ret
        exact ⟨ret_num (by rw [HQ.out]; decide), Fr.alloc _ _ _⟩
    · have HQ := hid (show gv ⟨op, a, b, c, n⟩ = 0 by unfold gv; rw [if_neg (fun h => ha h.2)])
      have HB := hid (show hasB 8 a = false by unfold hasB; exact decide_eq_false ha)
      unfold Ins.val
      simp only
      subst h8
      go_enter Tryd.func57, Tryd.ntmps57
      go_wp2_with fail
      refine (has_chk _ _ _).mono ?_
      rintro e w' ⟨rfl, rfl⟩
      rw [HB.out]
      go_wp2_with fail
      go_ret
      exact ⟨ret_num (by rw [HQ.out]; rfl), Fr.alloc _ _ _⟩
  · have HQ := hid (show gv ⟨op, a, b, c, n⟩ = 0 by unfold gv; rw [if_neg (fun h => h8 h.1)])
    have t1 : (op != 8) = true := by simpa using h8
    unfold Ins.val
    simp only
    go_enter Tryd.func57, Tryd.ntmps57
    go_wp2_with fail
    go_ret
    exact ⟨ret_num (by rw [HQ.out]; rfl), Fr.alloc _ _ _⟩

end Go.Proofs.YtpjcdjooiaefdaaDoor

/-
  What behind's iterator hands to a loop's rounds.
-/
namespace Go.Proofs.YtpjcdjooiaefdaaDoor
open Go.RowKit Go.Shelf
attribute [local go_sem] Oper.semAt_some

/-- What the iterator reads lies as it lay. -/
def K3 (lo : Nat) (W W' : World) : Prop := ∀ b, (b = lo ∨ b = lo + 1 ∨ b = lo + 4) → b < W.heap.size → W'.heap[b]? = W.heap[b]?

theorem K3.blk {lo : Nat} {W W' : World} (h : K3 lo W W') {b : Nat} {c : Array Value} (hb : Blk W b c) (h3 : b = lo ∨ b = lo + 1 ∨ b = lo + 4) : Blk W' b c := by
  have hl := hb.lt
  obtain ⟨t, e⟩ := hb
  exact ⟨t, by rw [h b h3 hl]; exact e⟩

def YdPost (lo : Nat) (J : List Nat → World → Prop) (pre : List Nat) (j : Nat) (W : World) (e : Ending) (W' : World) : Prop :=
  e = .returned (.bool true) ∧ J (pre ++ [j]) W' ∧ K3 lo W W'

def BhPost (l : List Ins) (k : Nat) (J : List Nat → World → Prop) (e : Ending) (W' : World) : Prop := (∃ v, e = .returned v) ∧ J (bhd l k) W'

theorem behind_mk (A : Option Addr) (n c : Nat) (k : Nat) (w : World) : Calls Tryd.prog 58 #[.slice A n c, .int .i64 k] w fun e w' => e = .returned (.func (.func 78) #[] #[.pointer (some ⟨w.heap.size, 0, none⟩), .pointer (some ⟨w.heap.size + 1, 0, none⟩)]) ∧ w' = (w.alloc (.cells #[.slice A n c] 38)).alloc (.cells #[.int .i64 k] 3) := by
  go_enter Tryd.func58, Tryd.ntmps58
  go_wp2
  go_ret
  exact ⟨rfl, rfl⟩

set_option maxRecDepth 100000 in
set_option maxHeartbeats 4000000 in
theorem behind_in (n lid lo : Nat) (hn : 3 ≤ n) (l : List Ins) (k : Nat) (x : Ins) (hx : l[k]? = some x) (hl : l.length ≤ 1000) (A : Option Addr) (ln c : Nat) (hln : l.length = ln) (J : List Nat → World → Prop) (w : World) (hsz : w.heap.size = lo + 4)
    (hJa : ∀ W W' pre, J pre W → Fr (fun _ => False) W W' → J pre W')
    (hY : ∀ pre j W1, pre ++ [j] <+: bhd l k → J pre W1 → lo + 5 ≤ W1.heap.size → YieldAt Fence.wide (n - 1) Tryd.prog lid #[.int .i64 (j : Nat)] W1 (YdPost lo J pre j W1))
    (h0 : J [] w) (hbl : Blk w lo #[.slice A ln c]) (hba : Blk w (lo + 1) #[.int .i64 (k : Nat)]) (hcod : Cod w w.heap.size A l) :
    CallsIn Fence.wide n Tryd.prog 78 #[.func (.yield lid) #[] #[], .pointer (some ⟨lo, 0, none⟩), .pointer (some ⟨lo + 1, 0, none⟩)] w (BhPost l k J) := by
  have HY := hid hY
  have HJA := hid hJa
  clear hY hJa
  have hkl := (List.getElem?_eq_some_iff.1 hx).1
  rw [hln] at hkl
  rw [hln] at hl
  have HLN := hid hln
  clear hln
  obtain ⟨b, o, rfl, hb, hcell⟩ := hcod (by rw [HLN.out]; omega)
  obtain ⟨s0, s1, s2, s3, s4⟩ := hcell k _ hx
  clear hcell
  have HBH := hid (bhd_at hx)
  obtain ⟨jj, hjj⟩ : ∃ jj, isJ x = jj := ⟨_, rfl⟩
  obtain ⟨pp, hpp⟩ : ∃ pp, isP x = pp := ⟨_, rfl⟩
  have HJU := hid (jumps_any x)
  have HPA := hid (passes_any x)
  rw [hjj] at HJU
  rw [hpp] at HPA
  have HJJ := hid hjj
  have HPP := hid hpp
  clear hjj hpp
  obtain ⟨op, a, bb, ci, m⟩ := x
  unfold Ins.val at HJU HPA
  simp only at s0 s1 s2 s3 s4 HJU HPA
  have c0 := hbl.cell (i := 0) rfl
  have c1 := hba.cell (i := 0) rfl
  simp only [List.getElem_toArray, List.getElem_cons_zero] at c0 c1
  have HBL := hid hbl
  have HBA := hid hba
  have H0 := hid h0
  have HSZ := hid hsz
  have q1 : lo < w.heap.size := by omega
  have q2 : lo + 1 < w.heap.size := by omega
  clear hx hbl hba h0
  refine callsIn_of_wp Tryd.func78 rfl trivial ?_ rfl
  simp only [Tryd.ntmps78, List.size_toArray, List.length_cons, List.length_nil, Nat.reduceAdd, Nat.reduceSub, Array.replicate_succ, Array.replicate_zero, List.push_toArray, List.append_toArray, List.nil_append, List.cons_append]
  gi_wp2
  refine ⟨trivial, fun _ => (by omega), (callsIn_wide.2 (HJU.out _)).mono ?_⟩
  rintro e w1 ⟨rfl, hF1⟩
  have hPB : Blk w1 lo #[.slice (some ⟨b, o, none⟩) ln c] := (HBL.out.alloc _).keep hF1 (fun h => h)
  have hPA : Blk w1 (lo + 1) #[.int .i64 (k : Nat)] := (HBA.out.alloc _).keep hF1 (fun h => h)
  have hPI : Blk w1 (lo + 4) #[.int .i64 op, .int .i64 a, .int .i64 bb, .int .i64 ci, .int .i64 m] := ((Blk.new w _ _).at HSZ.out).keep hF1 (fun h => h)
  have hPJ : J [] w1 := HJA.out _ _ _ (HJA.out _ _ _ H0.out (Fr.alloc _ _ _)) hF1
  have hPS : lo + 5 ≤ w1.heap.size := by have := hPI.lt; omega
  have e0 : w1.cell? ⟨lo, 0, none⟩ = some (.slice (some ⟨b, o, none⟩) ln c) := hPB.cell rfl
  have e1 : w1.cell? ⟨lo + 1, 0, none⟩ = some (.int .i64 (k : Nat)) := hPA.cell rfl
  have i0 : w1.cell? ⟨lo + 4, 0, none⟩ = some (.int .i64 op) := hPI.cell rfl
  have i1 : w1.cell? ⟨lo + 4, 1, none⟩ = some (.int .i64 a) := hPI.cell rfl
  have i2 : w1.cell? ⟨lo + 4, 2, none⟩ = some (.int .i64 bb) := hPI.cell rfl
  have i3 : w1.cell? ⟨lo + 4, 3, none⟩ = some (.int .i64 ci) := hPI.cell rfl
  have i4 : w1.cell? ⟨lo + 4, 4, none⟩ = some (.int .i64 m) := hPI.cell rfl
  clear hF1 c0 c1 s0 s1 s2 s3 s4
  have HPB := hid hPB
  have HPA2 := hid hPA
  have HPI := hid hPI
  have HPJ := hid hPJ
  clear hPB hPA hPI hPJ
  cases jj with
  | false =>
    have HBJ := hid (show bhdJ l ⟨op, a, bb, ci, m⟩ = [] by unfold bhdJ; rw [HJJ.out]; simp)
    gi_wp2
    refine ⟨trivial, ?_⟩
    gi_wp2
    refine ⟨fun _ h => (by cases h), ?_⟩
    gi_wp2
    refine ⟨trivial, fun _ => (by omega), (callsIn_wide.2 (HPA.out _)).mono ?_⟩
    rintro e w5 ⟨rfl, hF5⟩
    clear e0 e1 i0 i1 i2 i3 i4
    have hPB : Blk w5 lo #[.slice (some ⟨b, o, none⟩) ln c] := HPB.out.keep hF5 (fun h => h)
    have hPA : Blk w5 (lo + 1) #[.int .i64 (k : Nat)] := HPA2.out.keep hF5 (fun h => h)
    have hPI : Blk w5 (lo + 4) #[.int .i64 op, .int .i64 a, .int .i64 bb, .int .i64 ci, .int .i64 m] := HPI.out.keep hF5 (fun h => h)
    have hPJ : J [] w5 := HJA.out _ _ _ HPJ.out hF5
    have hPS : lo + 5 ≤ w5.heap.size := by have := hPI.lt; omega
    have e0 : w5.cell? ⟨lo, 0, none⟩ = some (.slice (some ⟨b, o, none⟩) ln c) := hPB.cell rfl
    have e1 : w5.cell? ⟨lo + 1, 0, none⟩ = some (.int .i64 (k : Nat)) := hPA.cell rfl
    have i0 : w5.cell? ⟨lo + 4, 0, none⟩ = some (.int .i64 op) := hPI.cell rfl
    have i1 : w5.cell? ⟨lo + 4, 1, none⟩ = some (.int .i64 a) := hPI.cell rfl
    have i2 : w5.cell? ⟨lo + 4, 2, none⟩ = some (.int .i64 bb) := hPI.cell rfl
    have i3 : w5.cell? ⟨lo + 4, 3, none⟩ = some (.int .i64 ci) := hPI.cell rfl
    have i4 : w5.cell? ⟨lo + 4, 4, none⟩ = some (.int .i64 m) := hPI.cell rfl
    clear HPB HPA2 HPI HPJ hF5
    have HPB := hid hPB
    have HPA2 := hid hPA
    have HPI := hid hPI
    have HPJ := hid hPJ
    clear hPB hPA hPI hPJ
    cases pp with
    | false =>
      have HBP := hid (show bhd l k = [] by rw [HBH.out, HBJ.out]; unfold bhdP; rw [HPP.out]; simp)
      gi_wp2
      refine ⟨trivial, ?_⟩
      gi_wp2
      first
        | go_end0
        | refine bodyPost_ret (results_none rfl _ _ _) rfl ?_
      exact ⟨⟨_, rfl⟩, by rw [HBP.out]; exact HPJ.out⟩
    | true =>
      by_cases hk1 : k + 1 < ln
      · have HHP := hid (show hasB ln ((k : Int) + 1) = true by unfold hasB; exact decide_eq_true ⟨by omega, by omega⟩)
        have hbp : bhd l k = [] ++ [k + 1] := by rw [HBH.out, HBJ.out]; unfold bhdP; rw [HPP.out, HLN.out, if_pos ⟨rfl, hk1⟩]
        have HBP := hid hbp
        have HYY := hid (HY.out [] (k + 1) w5 (by rw [hbp]; exact List.prefix_rfl) HPJ.out hPS)
        clear hbp
        rw [show ((k + 1 : Nat) : Int) = (k : Int) + 1 from rfl] at HYY
        gi_wp2
        refine ⟨trivial, fun _ => (by omega), (callsIn_wide.2 (has_chk _ _ _)).mono ?_⟩
        rintro e w6 ⟨rfl, rfl⟩
        rw [HHP.out]
        obtain ⟨fn2, tmps2, assign2, body2, hy2, hR2⟩ := HYY.out
        gi_wp2
        refine ⟨fun _ => (by omega), hR2.mono ?_⟩
        rintro e w7 ⟨rfl, hJ7, hK7⟩
        have HJ7 := hid hJ7
        clear hJ7 hK7 hR2
        gi_wp2
        first
          | go_end0
          | refine bodyPost_ret (results_none rfl _ _ _) rfl ?_
        exact ⟨⟨_, rfl⟩, by rw [HBP.out]; exact HJ7.out⟩
      · have HHP := hid (show hasB ln ((k : Int) + 1) = false by unfold hasB; exact decide_eq_false (fun h => hk1 (by omega)))
        have HBP := hid (show bhd l k = [] by rw [HBH.out, HBJ.out]; unfold bhdP; rw [HPP.out, HLN.out, if_neg (fun h => hk1 h.2)]; simp)
        gi_wp2
        refine ⟨trivial, fun _ => (by omega), (callsIn_wide.2 (has_chk _ _ _)).mono ?_⟩
        rintro e w6 ⟨rfl, rfl⟩
        rw [HHP.out]
        gi_wp2
        first
          | go_end0
          | refine bodyPost_ret (results_none rfl _ _ _) rfl ?_
        exact ⟨⟨_, rfl⟩, by rw [HBP.out]; exact HPJ.out⟩
  | true =>
    by_cases hm : 0 ≤ m ∧ m < ln
    · obtain ⟨mm, rfl⟩ := Int.eq_ofNat_of_zero_le hm.1
      have HHM := hid (show hasB ln (mm : Int) = true by unfold hasB; exact decide_eq_true hm)
      have hbj : bhdJ l ⟨op, a, bb, ci, mm⟩ = [mm] := by unfold bhdJ; rw [HJJ.out, HLN.out, if_pos ⟨rfl, hm⟩]; rfl
      have HBJ := hid hbj
      have HYJ := hid (HY.out [] mm w1 (by rw [HBH.out, hbj]; exact ⟨_, rfl⟩) HPJ.out hPS)
      clear hbj hm
      gi_wp2
      refine ⟨trivial, fun _ => (by omega), (callsIn_wide.2 (has_chk _ _ _)).mono ?_⟩
      rintro e w2 ⟨rfl, rfl⟩
      rw [HHM.out]
      obtain ⟨fn, tmps, assign, body, hy, hR⟩ := HYJ.out
      gi_wp2
      refine ⟨fun _ => (by omega), hR.mono ?_⟩
      rintro e w4 ⟨rfl, hJ4, hK4⟩
      clear e0 e1 i0 i1 i2 i3 i4 hPS hR hy
      have hPB : Blk w4 lo #[.slice (some ⟨b, o, none⟩) ln c] := hK4.blk HPB.out (by omega)
      have hPA : Blk w4 (lo + 1) #[.int .i64 (k : Nat)] := hK4.blk HPA2.out (by omega)
      have hPI : Blk w4 (lo + 4) #[.int .i64 op, .int .i64 a, .int .i64 bb, .int .i64 ci, .int .i64 mm] := hK4.blk HPI.out (by omega)
      have hPJ : J [mm] w4 := hJ4
      have hPS : lo + 5 ≤ w4.heap.size := by have := hPI.lt; omega
      have e0 : w4.cell? ⟨lo, 0, none⟩ = some (.slice (some ⟨b, o, none⟩) ln c) := hPB.cell rfl
      have e1 : w4.cell? ⟨lo + 1, 0, none⟩ = some (.int .i64 (k : Nat)) := hPA.cell rfl
      have i0 : w4.cell? ⟨lo + 4, 0, none⟩ = some (.int .i64 op) := hPI.cell rfl
      have i1 : w4.cell? ⟨lo + 4, 1, none⟩ = some (.int .i64 a) := hPI.cell rfl
      have i2 : w4.cell? ⟨lo + 4, 2, none⟩ = some (.int .i64 bb) := hPI.cell rfl
      have i3 : w4.cell? ⟨lo + 4, 3, none⟩ = some (.int .i64 ci) := hPI.cell rfl
      have i4 : w4.cell? ⟨lo + 4, 4, none⟩ = some (.int .i64 mm) := hPI.cell rfl
      clear HPB HPA2 HPI HPJ hK4 hJ4
      have HPB := hid hPB
      have HPA2 := hid hPA
      have HPI := hid hPI
      have HPJ := hid hPJ
      clear hPB hPA hPI hPJ
      gi_wp2
      refine ⟨trivial, fun _ => (by omega), (callsIn_wide.2 (HPA.out _)).mono ?_⟩
      rintro e w5 ⟨rfl, hF5⟩
      clear e0 e1 i0 i1 i2 i3 i4
      have hPB : Blk w5 lo #[.slice (some ⟨b, o, none⟩) ln c] := HPB.out.keep hF5 (fun h => h)
      have hPA : Blk w5 (lo + 1) #[.int .i64 (k : Nat)] := HPA2.out.keep hF5 (fun h => h)
      have hPI : Blk w5 (lo + 4) #[.int .i64 op, .int .i64 a, .int .i64 bb, .int .i64 ci, .int .i64 mm] := HPI.out.keep hF5 (fun h => h)
      have hPJ : J [mm] w5 := HJA.out _ _ _ HPJ.out hF5
      have hPS : lo + 5 ≤ w5.heap.size := by have := hPI.lt; omega
      have e0 : w5.cell? ⟨lo, 0, none⟩ = some (.slice (some ⟨b, o, none⟩) ln c) := hPB.cell rfl
      have e1 : w5.cell? ⟨lo + 1, 0, none⟩ = some (.int .i64 (k : Nat)) := hPA.cell rfl
      have i0 : w5.cell? ⟨lo + 4, 0, none⟩ = some (.int .i64 op) := hPI.cell rfl
      have i1 : w5.cell? ⟨lo + 4, 1, none⟩ = some (.int .i64 a) := hPI.cell rfl
      have i2 : w5.cell? ⟨lo + 4, 2, none⟩ = some (.int .i64 bb) := hPI.cell rfl
      have i3 : w5.cell? ⟨lo + 4, 3, none⟩ = some (.int .i64 ci) := hPI.cell rfl
      have i4 : w5.cell? ⟨lo + 4, 4, none⟩ = some (.int .i64 mm) := hPI.cell rfl
      clear HPB HPA2 HPI HPJ hF5
      have HPB := hid hPB
      have HPA2 := hid hPA
      have HPI := hid hPI
      have HPJ := hid hPJ
      clear hPB hPA hPI hPJ
      cases pp with
      | false =>
        have HBP := hid (show bhd l k = [mm] by rw [HBH.out, HBJ.out]; unfold bhdP; rw [HPP.out]; simp)
        gi_wp2
        refine ⟨trivial, ?_⟩
        gi_wp2
        first
          | go_end0
          | refine bodyPost_ret (results_none rfl _ _ _) rfl ?_
        exact ⟨⟨_, rfl⟩, by rw [HBP.out]; exact HPJ.out⟩
      | true =>
        by_cases hk1 : k + 1 < ln
        · have HHP := hid (show hasB ln ((k : Int) + 1) = true by unfold hasB; exact decide_eq_true ⟨by omega, by omega⟩)
          have hbp : bhd l k = [mm] ++ [k + 1] := by rw [HBH.out, HBJ.out]; unfold bhdP; rw [HPP.out, HLN.out, if_pos ⟨rfl, hk1⟩]
          have HBP := hid hbp
          have HYY := hid (HY.out [mm] (k + 1) w5 (by rw [hbp]; exact List.prefix_rfl) HPJ.out hPS)
          clear hbp
          rw [show ((k + 1 : Nat) : Int) = (k : Int) + 1 from rfl] at HYY
          gi_wp2
          refine ⟨trivial, fun _ => (by omega), (callsIn_wide.2 (has_chk _ _ _)).mono ?_⟩
          rintro e w6 ⟨rfl, rfl⟩
          rw [HHP.out]
          obtain ⟨fn2, tmps2, assign2, body2, hy2, hR2⟩ := HYY.out
          gi_wp2
          refine ⟨fun _ => (by omega), hR2.mono ?_⟩
          rintro e w7 ⟨rfl, hJ7, hK7⟩
          have HJ7 := hid hJ7
          clear hJ7 hK7 hR2
          gi_wp2
          first
            | go_end0
            | refine bodyPost_ret (results_none rfl _ _ _) rfl ?_
          exact ⟨⟨_, rfl⟩, by rw [HBP.out]; exact HJ7.out⟩
        · have HHP := hid (show hasB ln ((k : Int) + 1) = false by unfold hasB; exact decide_eq_false (fun h => hk1 (by omega)))
          have HBP := hid (show bhd l k = [mm] by rw [HBH.out, HBJ.out]; unfold bhdP; rw [HPP.out, HLN.out, if_neg (fun h => hk1 h.2)]; simp)
          gi_wp2
          refine ⟨trivial, fun _ => (by omega), (callsIn_wide.2 (has_chk _ _ _)).mono ?_⟩
          rintro e w6 ⟨rfl, rfl⟩
          rw [HHP.out]
          gi_wp2
          first
            | go_end0
            | refine bodyPost_ret (results_none rfl _ _ _) rfl ?_
          exact ⟨⟨_, rfl⟩, by rw [HBP.out]; exact HPJ.out⟩
    · have HHM := hid (show hasB ln m = false by unfold hasB; exact decide_eq_false hm)
      have HBJ := hid (show bhdJ l ⟨op, a, bb, ci, m⟩ = [] by unfold bhdJ; rw [HJJ.out, HLN.out, if_neg (fun h => hm h.2)])
      clear hm
      gi_wp2
      refine ⟨trivial, fun _ => (by omega), (callsIn_wide.2 (has_chk _ _ _)).mono ?_⟩
      rintro e w2 ⟨rfl, rfl⟩
      rw [HHM.out]
      gi_wp2
      refine ⟨fun _ h => (by cases h), ?_⟩
      gi_wp2
      refine ⟨trivial, fun _ => (by omega), (callsIn_wide.2 (HPA.out _)).mono ?_⟩
      rintro e w5 ⟨rfl, hF5⟩
      clear e0 e1 i0 i1 i2 i3 i4
      have hPB : Blk w5 lo #[.slice (some ⟨b, o, none⟩) ln c] := HPB.out.keep hF5 (fun h => h)
      have hPA : Blk w5 (lo + 1) #[.int .i64 (k : Nat)] := HPA2.out.keep hF5 (fun h => h)
      have hPI : Blk w5 (lo + 4) #[.int .i64 op, .int .i64 a, .int .i64 bb, .int .i64 ci, .int .i64 m] := HPI.out.keep hF5 (fun h => h)
      have hPJ : J [] w5 := HJA.out _ _ _ HPJ.out hF5
      have hPS : lo + 5 ≤ w5.heap.size := by have := hPI.lt; omega
      have e0 : w5.cell? ⟨lo, 0, none⟩ = some (.slice (some ⟨b, o, none⟩) ln c) := hPB.cell rfl
      have e1 : w5.cell? ⟨lo + 1, 0, none⟩ = some (.int .i64 (k : Nat)) := hPA.cell rfl
      have i0 : w5.cell? ⟨lo + 4, 0, none⟩ = some (.int .i64 op) := hPI.cell rfl
      have i1 : w5.cell? ⟨lo + 4, 1, none⟩ = some (.int .i64 a) := hPI.cell rfl
      have i2 : w5.cell? ⟨lo + 4, 2, none⟩ = some (.int .i64 bb) := hPI.cell rfl
      have i3 : w5.cell? ⟨lo + 4, 3, none⟩ = some (.int .i64 ci) := hPI.cell rfl
      have i4 : w5.cell? ⟨lo + 4, 4, none⟩ = some (.int .i64 m) := hPI.cell rfl
      clear HPB HPA2 HPI HPJ hF5
      have HPB := hid hPB
      have HPA2 := hid hPA
      have HPI := hid hPI
      have HPJ := hid hPJ
      clear hPB hPA hPI hPJ
      cases pp with
      | false =>
        have HBP := hid (show bhd l k = [] by rw [HBH.out, HBJ.out]; unfold bhdP; rw [HPP.out]; simp)
        gi_wp2
        refine ⟨trivial, ?_⟩
        gi_wp2
        first
          | go_end0
          | refine bodyPost_ret (results_none rfl _ _ _) rfl ?_
        exact ⟨⟨_, rfl⟩, by rw [HBP.out]; exact HPJ.out⟩
      | true =>
        by_cases hk1 : k + 1 < ln
        · have HHP := hid (show hasB ln ((k : Int) + 1) = true by unfold hasB; exact decide_eq_true ⟨by omega, by omega⟩)
          have hbp : bhd l k = [] ++ [k + 1] := by rw [HBH.out, HBJ.out]; unfold bhdP; rw [HPP.out, HLN.out, if_pos ⟨rfl, hk1⟩]
          have HBP := hid hbp
          have HYY := hid (HY.out [] (k + 1) w5 (by rw [hbp]; exact List.prefix_rfl) HPJ.out hPS)
          clear hbp
          rw [show ((k + 1 : Nat) : Int) = (k : Int) + 1 from rfl] at HYY
          gi_wp2
          refine ⟨trivial, fun _ => (by omega), (callsIn_wide.2 (has_chk _ _ _)).mono ?_⟩
          rintro e w6 ⟨rfl, rfl⟩
          rw [HHP.out]
          obtain ⟨fn2, tmps2, assign2, body2, hy2, hR2⟩ := HYY.out
          gi_wp2
          refine ⟨fun _ => (by omega), hR2.mono ?_⟩
          rintro e w7 ⟨rfl, hJ7, hK7⟩
          have HJ7 := hid hJ7
          clear hJ7 hK7 hR2
          gi_wp2
          first
            | go_end0
            | refine bodyPost_ret (results_none rfl _ _ _) rfl ?_
          exact ⟨⟨_, rfl⟩, by rw [HBP.out]; exact HJ7.out⟩
        · have HHP := hid (show hasB ln ((k : Int) + 1) = false by unfold hasB; exact decide_eq_false (fun h => hk1 (by omega)))
          have HBP := hid (show bhd l k = [] by rw [HBH.out, HBJ.out]; unfold bhdP; rw [HPP.out, HLN.out, if_neg (fun h => hk1 h.2)]; simp)
          gi_wp2
          refine ⟨trivial, fun _ => (by omega), (callsIn_wide.2 (has_chk _ _ _)).mono ?_⟩
          rintro e w6 ⟨rfl, rfl⟩
          rw [HHP.out]
          gi_wp2
          first
            | go_end0
            | refine bodyPost_ret (results_none rfl _ _ _) rfl ?_
          exact ⟨⟨_, rfl⟩, by rw [HBP.out]; exact HPJ.out⟩

end Go.Proofs.YtpjcdjooiaefdaaDoor

/-
  A loop over what comes behind an instruction.
-/
namespace Go.Proofs.YtpjcdjooiaefdaaDoor
open Go.RowKit Go.Shelf
attribute [local go_sem] Oper.semAt_some

theorem Fr.putObj (S : Nat → Prop) (W : World) (l : Nat) (o : Obj) (hl : S l) : Fr S W (W.putObj l o) :=
  ⟨rfl, rfl, rfl, by simp, fun k _ hn => World.putObj_heap_other (fun e => hn (e ▸ hl))⟩

/-- Nothing of the loop's own has turned. -/
def StillR (lo : Nat) (W W' : World) : Prop := W.heap.size ≤ W'.heap.size ∧ ∀ b, lo ≤ b → b < lo + 5 → b < W.heap.size → W'.heap[b]? = W.heap[b]?

theorem StillR.of {lo : Nat} {W W' : World} {S : Nat → Prop} (f : Fr S W W') (h : ∀ b, lo ≤ b → b < lo + 5 → ¬ S b) : StillR lo W W' := ⟨f.size, fun b h1 h2 hb => f.block b hb (h b h1 h2)⟩

/-- How a round's body may be left. -/
def rdPost (lo : Nat) (I : List Nat → World → Prop) (xs : List Nat) (W : World) : Exit → Act → World → Prop
  | .normal, _, W' => StillR lo W W' ∧ I xs W'
  | _, _, _ => False

theorem StillR.obj {lo : Nat} {W W' : World} (h : StillR lo W W') {k : Nat} (h1 : lo ≤ k) (h2 : k < lo + 5) {o : Obj} (ho : W.heap[k]? = some o) : W'.heap[k]? = some o := by
  rw [h.2 k h1 h2 (Array.getElem?_eq_some_iff.1 ho).1]
  exact ho

theorem range_behind {g : Operand} {t : Tmp} {assign body : Code} {Q : Exit → Act → World → Prop} {a : Act} {W0 : World} {n lo : Nat} (hn : 6 ≤ n)
    (hg : a.eval g = .func (.func 78) #[] #[.pointer (some ⟨lo, 0, none⟩), .pointer (some ⟨lo + 1, 0, none⟩)]) (l : List Ins) (k : Nat) (x : Ins) (hx : l[k]? = some x) (hl : l.length ≤ 1000) (A : Option Addr) (ln c : Nat) (hln : l.length = ln)
    (hsz : W0.heap.size = lo + 2) (hbl : Blk W0 lo #[.slice A ln c]) (hba : Blk W0 (lo + 1) #[.int .i64 (k : Nat)]) (hcod : Cod W0 W0.heap.size A l)
    (I : List Nat → World → Prop) (hI : ∀ pre W W' S, I pre W → Fr S W W' → (∀ j, S j → j = lo + 3) → I pre W')
    (h0 : I [] W0) (a₁ : Nat → Act)
    (hassign : ∀ (lp : Nat) (j : Nat) (W : World) (K : Act → World → Prop), K (a₁ j) W →
      assign.wpIn (Fence.wide.inRound lp) (n - 1 - 1) Tryd.prog (Exit.then K (fun _ _ _ => False)) { tmps := ((#[t] : Array Tmp).zip #[Value.int .i64 (j : Nat)]).foldl (fun u (p, v) => u.setIfInBounds p v) a.tmps, defers := [] } W)
    (hbody : ∀ (lp : Nat) (pre : List Nat) (j : Nat) (W : World), pre ++ [j] <+: bhd l k → lo + 5 ≤ W.heap.size → I pre W → body.wpIn (Fence.wide.inRound lp) (n - 1 - 1) Tryd.prog (rdPost lo I (pre ++ [j]) W) (a₁ j) W)
    (hdone : ∀ W, I (bhd l k) W → W.heap[lo + 2]? = some (.deferred (some [])) → Q .normal { a with defers := { target := .collected (lo + 2), args := #[] } :: a.defers } W) :
    (Code.rangeFunc g #[t] assign body).wpIn Fence.wide n Tryd.prog Q a W0 := by
  refine wpIn_rangeFunc (fun fn hfn => ?_)
  let D := W0.heap.size
  let rec' : LoopState → Option Code → Loop := fun st pe => ⟨st, pe, fn, a.tmps, #[t], assign, body, D⟩
  have hD : D = lo + 2 := hsz
  let W1 := (W0.alloc (.deferred (some []))).alloc (.loop (rec' .ready none))
  have hF1 : Fr (fun _ => False) W0 W1 := (Fr.alloc _ _ _).trans (Fr.alloc _ _ _)
  have hz1 : W1.heap.size = lo + 4 := by simp [W1]; omega
  have hL1 : W1.heap[lo + 3]? = some (.loop (rec' .ready none)) := by
    have h := World.alloc_heap_new (W0.alloc (.deferred (some []))) (.loop (rec' .ready none))
    rw [World.size_alloc, hsz] at h
    exact h
  have hD1 : W1.heap[lo + 2]? = some (.deferred (some [])) := by
    have h := World.alloc_heap_new W0 (.deferred (some []))
    rw [hsz] at h
    exact (Below.heap_alloc _ _ _ (by simp; omega)).trans h
  have hI1 : I [] W1 := hI _ _ _ _ h0 hF1 (fun _ h => h.elim)
  have eg : ∀ args w, (callFunc 78 args).run Tryd.prog w = .ok (.enter 78 args) w := enters_of Tryd.func78 (by kernel_rfl) rfl
  let J : List Nat → World → Prop := fun pre W => (I pre W ∧ lo + 4 ≤ W.heap.size) ∧ W.heap[lo + 3]? = some (.loop (rec' .ready none)) ∧ W.heap[lo + 2]? = some (.deferred (some []))
  have hJa : ∀ W W' pre, J pre W → Fr (fun _ => False) W W' → J pre W' := by
    rintro W W' pre ⟨⟨h1, h2⟩, h3, h4⟩ f
    exact ⟨⟨hI _ _ _ _ h1 f (fun _ h => h.elim), Nat.le_trans h2 f.size⟩, (f.block _ (Array.getElem?_eq_some_iff.1 h3).1 (fun h => h)).trans h3, (f.block _ (Array.getElem?_eq_some_iff.1 h4).1 (fun h => h)).trans h4⟩
  have hY : ∀ pre j W, pre ++ [j] <+: bhd l k → J pre W → lo + 5 ≤ W.heap.size → YieldAt Fence.wide (n - 1 - 1) Tryd.prog (lo + 3) #[.int .i64 (j : Nat)] W (YdPost lo J pre j W) := by
    rintro pre j W hpr ⟨⟨hi, _⟩, hL, hd⟩ hsW
    refine ⟨fn, _, assign, body, run_yield hL rfl, roundIn_of_wpIn trivial ?_⟩
    refine hassign (lo + 3) j W (fun a₁ w₁ => ∃ w₂, (Instr.beginRound (lo + 3)).run Tryd.prog w₁ = .ok () w₂ ∧ body.wpIn (Fence.wide.inRound (lo + 3)) (n - 1 - 1) Tryd.prog (roundPost Tryd.prog (lo + 3) (YdPost lo J pre j W)) a₁ w₂) ⟨_, run_beginRound hL rfl, ?_⟩
    have hF2 : Fr (fun k => k = lo + 3) W (W.putObj (lo + 3) (.loop (rec' .busy none))) := Fr.putObj _ _ _ _ rfl
    have hlt : lo + 3 < W.heap.size := (Array.getElem?_eq_some_iff.1 hL).1
    have hl2 : (W.putObj (lo + 3) (.loop (rec' .busy none))).heap[lo + 3]? = some (.loop (rec' .busy none)) := World.putObj_heap_same hlt
    have hd2 : (W.putObj (lo + 3) (.loop (rec' .busy none))).heap[lo + 2]? = some (.deferred (some [])) := (World.putObj_heap_other (by omega)).trans hd
    refine wpIn_mono (hbody (lo + 3) pre j _ hpr (by rw [World.putObj_size]; exact hsW) (hI _ _ _ _ hi hF2 (fun k hk => hk))) ?_
    rintro e a3 W3 hp
    cases e with
    | normal =>
      obtain ⟨hst, hi3⟩ := hp
      have hl3 := hst.obj (by omega) (by omega) hl2
      have hd3 := hst.obj (by omega) (by omega) hd2
      have hF4 : Fr (fun k => k = lo + 3) W3 (W3.putObj (lo + 3) (.loop (rec' .ready none))) := Fr.putObj _ _ _ _ rfl
      refine ⟨_, _, run_endRound none hl3, rfl, ⟨⟨hI _ _ _ _ hi3 hF4 (fun k hk => hk), ?_⟩, World.putObj_heap_same (Array.getElem?_eq_some_iff.1 hl3).1, (World.putObj_heap_other (by omega)).trans hd3⟩, ?_⟩
      · rw [World.putObj_size]
        have := (Array.getElem?_eq_some_iff.1 hl3).1
        omega
      · intro b hb hlt'
        rw [World.putObj_heap_other (by omega), hst.2 b (by omega) (by omega) (by rw [World.putObj_size]; exact hlt'), World.putObj_heap_other (by omega)]
    | exit id => exact hp.elim
    | ret => exact hp.elim
    | goto l => exact hp.elim
    | panic c => exact hp.elim
    | outgrown => exact hp.elim
  have hcall := behind_in (n - 1) (lo + 3) lo (by omega) l k x hx hl A ln c hln J W1 hz1 hJa hY ⟨⟨hI1, by omega⟩, hL1, hD1⟩ (hbl.keep hF1 (fun h => h)) (hba.keep hF1 (fun h => h)) ((hcod.same hF1 (Nat.le_refl _)).more hF1.size)
  refine ⟨lo + 3, [{ target := .collected (lo + 2), args := #[] }], W1, ⟨.fn (.func 78) #[.pointer (some ⟨lo, 0, none⟩), .pointer (some ⟨lo + 1, 0, none⟩)], #[.func (.yield (lo + 3)) #[] #[]]⟩, W1, 78,
    #[.func (.yield (lo + 3)) #[] #[], .pointer (some ⟨lo, 0, none⟩), .pointer (some ⟨lo + 1, 0, none⟩)], W1, ?_, ?_, fun _ _ => trivial, ?_, fun _ => (by omega), hcall.mono ?_⟩
  · have e3 : lo + 3 = W0.heap.size + 1 := by omega
    have e2 : lo + 2 = W0.heap.size := by omega
    rw [e3, e2]
    exact run_enterLoop_outer _ _ _ _ _
  · simp only [resolve, hg]
    simp [go_sem]
  · simp [invoke, go_sem, eg]
  · rintro e W' ⟨⟨v, rfl⟩, ⟨hi, hsz'⟩, hL, hd⟩
    refine ⟨_, _, run_endLoop hL (by simp [rec']), ?_⟩
    exact hdone _ (hI _ _ _ _ hi (Fr.putObj (fun k => k = lo + 3) _ _ _ rfl) (fun k hk => hk)) ((World.putObj_heap_other (by omega)).trans hd)

end Go.Proofs.YtpjcdjooiaefdaaDoor
