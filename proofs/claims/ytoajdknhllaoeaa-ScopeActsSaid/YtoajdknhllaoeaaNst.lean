/-
  Scopes: Nest, Inside (walks).
-/
import Derived.Test.YtoajdknhllaoeaaOut
namespace Go.Proofs.Ytoajdknhllaoeaa
open Go.RowKit Go.Shelf
set_option linter.unusedVariables false
attribute [local go_sem] Oper.semAt_some

section
variable {O : Nat → Prop} {b : MB} {tb : Nat} {T : Sc} (w : World)

def NsI (w : World) (bn : Nat) (j : Nat) (W : World) : Prop := Blk W bn #[.int .i64 ((j : Int) - 1)] ∧ Fr (fun _ => False) w W

set_option maxRecDepth 100000 in
set_option maxHeartbeats 2000000 in
theorem nest_ok (k : Nat) (hk : k < T.n) (h : Trm w O b tb T) : Calls Try.prog 28 #[.pointer (some ⟨tb, 0, none⟩), .int .i64 k] w fun e w' => e = .returned (.int .i64 (T.nst k : Nat)) ∧ Fr (fun _ => False) w w' := by
  obtain ⟨m, hm⟩ : ∃ m, T.nst k = m := ⟨_, rfl⟩
  rw [hm]
  have HMM := hid hm
  have HKT := hid hk
  have HT := hid h
  have HOL := hid h.lt
  have HARE := hid (fun (W : World) (F : Fr (fun _ => False) w W) (g : Nat) (hg : Blk W g #[.int .i64 k]) => are_one W k g true (h.same F) hg (isB_yes hk))
  clear h hm hk
  refine (callsIn_wide (n := 8)).1 ?_
  refine callsIn_of_wp_marks Try.func28 rfl trivial ?_ rfl
  simp only [Try.ntmps28, List.size_toArray, List.length_cons, List.length_nil, Nat.reduceAdd, Nat.reduceSub, Array.replicate_succ, Array.replicate_zero, List.push_toArray, List.append_toArray, List.nil_append, List.cons_append]
  gi_wp2
  refine ⟨trivial, (callsIn_wide.2 (HARE.out _ (Fr.alloc _ _ _) _ (Blk.new _ _ _))).mono ?_⟩
  rintro e w1 ⟨rfl, rfl⟩
  gi_wp2
  refine ⟨trivial, (callsIn_wide.2 (out_mk tb k _)).mono ?_⟩
  rintro e W0 ⟨rfl, hW0⟩
  have hz0 : W0.heap.size = w.heap.size + 4 := by rw [hW0]; simp
  have hF0 : Fr (fun _ => False) w W0 := by rw [hW0]; exact (((Fr.alloc _ _ _).trans (Fr.alloc _ _ _)).trans (Fr.alloc _ _ _)).trans (Fr.alloc _ _ _)
  have hc0 : Blk W0 (w.heap.size + 1) #[.int .i64 (-1)] := by rw [hW0]; exact (((Blk.new _ _ _).at (by simp)).alloc _).alloc _
  have hp0 : Blk W0 (w.heap.size + 2) #[.pointer (some ⟨tb, 0, none⟩)] := by rw [hW0]; exact ((Blk.new _ _ _).at (by simp)).alloc _
  have hs0 : Blk W0 (w.heap.size + 3) #[.int .i64 (k : Nat)] := by rw [hW0]; exact (Blk.new _ _ _).at (by simp)
  have hns : ((w.alloc (.cells #[.int .i64 (k : Int)] 3)).alloc (.cells #[.int .i64 (-1)] 3)).heap.size = w.heap.size + 2 := by simp
  rw [hns]
  have HZ := hid hz0
  have HOR := hid (show OutR (w.heap.size + 3) (w.heap.size + 2) k O b tb T W0 from ⟨hs0, hp0, HT.out.same hF0⟩)
  have HB := hid (show T.nst k < 1000000 from by have h1 := Tre.nst_le HT.out.ok k HKT.out; have h2 := HT.out.small; have := HKT.out; omega)
  clear hW0 hns hz0 hs0 hp0
  gi_wp2
  refine range_out .ret (sb := w.heap.size + 3) (pb := w.heap.size + 2) (k := k) (O := O) (b := b) (tb := tb) (T := T) (by omega) HKT.out rfl HOR.out (fun j W => NsI w (w.heap.size + 1) j W) (fun _ _ => False)
    (fun j W W' S h f hS => ⟨h.1.keep f (fun hk => by have := hS _ hk; have := HZ.out; omega), h.2.since f (fun i hi hl => by have := hS _ hi; have := HZ.out; omega)⟩) (fun j W W' S h f hS => h)
    ⟨hc0, hF0⟩ (fun i => { tmps := #[.pointer (some ⟨tb, 0, none⟩), .int .i64 k, undef, undef, .int .i64 0, .pointer (some ⟨w.heap.size + 1, 0, none⟩), .pointer (some ⟨tb, 0, none⟩), .int .i64 k, .slice (some ⟨w.heap.size, 0, none⟩) 1 1, .bool true, .bool false, .pointer (some ⟨tb, 0, none⟩), .int .i64 k, .func (.func 54) #[] #[.pointer (some ⟨w.heap.size + 3, 0, none⟩), .pointer (some ⟨w.heap.size + 2, 0, none⟩)], .int .i64 i, undef, undef, undef], defers := [] }) ?assign ?body ?done ?stop
  case assign =>
    intro l i W K hK
    gi_wp2
    simpa using hK
  case body =>
    intro l j W hj hWs hS
    have HS := hid hS
    have hjb : j < 1000000 := by have := HB.out; omega
    obtain ⟨q, hq⟩ : ∃ q : Int, (j : Int) - 1 = q := ⟨_, rfl⟩
    have c0 : W.cell? ⟨w.heap.size + 1, 0, none⟩ = some (.int .i64 q) := by rw [← hq]; exact HS.out.1.cell rfl
    have z0 := HS.out.1.frozen 0
    have hq1 : -1 ≤ q := by omega
    have hq2 : q ≤ 1000000 := by omega
    have HQ := hid hq
    have HW := hid hWs
    clear hS hq hj hjb hWs hc0 hF0
    gi_wp2
    have hF3 : Fr (fun k => k = w.heap.size + 1) W (W.setCell ⟨w.heap.size + 1, 0, none⟩ (.int .i64 (q + 1))) := Fr.setCell _ _ _ rfl
    have hzz := HZ.out
    have hol := HOL.out
    refine ⟨⟨_, hF3, by omega, by omega, fun i hi => by have := hol i hi; omega, by omega, by omega⟩, ?_, HS.out.2.since hF3 (fun i hi hl => by have h2 : i = w.heap.size + 1 := hi; omega)⟩
    have := HS.out.1.set 0 (.int .i64 (q + 1))
    have e1 : (((j + 1 : Nat) : Int) - 1) = q + 1 := by have := HQ.out; omega
    rw [e1]
    exact this
  case done =>
    rintro W ⟨hB, hF⟩ hK
    rw [HMM.out] at hB
    have c0 : W.cell? ⟨w.heap.size + 1, 0, none⟩ = some (.int .i64 m) := by
      have := hB.cell (i := 0) rfl
      simp only [List.getElem_toArray, List.getElem_cons_zero] at this
      rw [this]
      congr 2
      omega
    have HF := hid hF
    have HK := hid hK
    clear hF hK hB hc0 hF0
    gi_wp2
    exact loop_end HK.out (fun W' _ => results_tmp rfl _ _ _) (fun W' F => ⟨rfl, HF.out.since F (fun i hi hl => by have h2 : i = W0.heap.size := hi; have := HZ.out; omega)⟩)
  case stop =>
    rintro j W _ h _
    exact h.elim
end
end Go.Proofs.Ytoajdknhllaoeaa
