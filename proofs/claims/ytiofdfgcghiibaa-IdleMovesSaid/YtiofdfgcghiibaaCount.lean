/-
  Count: how many workers are among bits.
-/
import Derived.Test.YtiofdfgcghiibaaMem
namespace Go.Proofs.Ytiofdfgcghiibaa
open Go.RowKit Go.Shelf
set_option linter.unusedVariables false
attribute [local go_sem] Oper.semAt_some

def CtI (w : World) (bn : Nat) (pre : List Nat) (W : World) : Prop := Blk W bn #[.int .i64 pre.length] ∧ Fr (fun _ => False) w W

set_option maxRecDepth 100000 in
set_option maxHeartbeats 2000000 in
theorem count_any (x : Int) (w : World) : Calls Try.prog 32 #[.int .i64 x] w fun e w' => e = .returned (.int .i64 ((memN x 64).length : Nat)) ∧ Fr (fun _ => False) w w' := by
  obtain ⟨m, hm⟩ : ∃ m, (memN x 64).length = m := ⟨_, rfl⟩
  rw [hm]
  have HMM := hid hm
  clear hm
  refine (callsIn_wide (n := 8)).1 ?_
  refine callsIn_of_wp_marks Try.func32 rfl trivial ?_ rfl
  simp only [Try.ntmps32, List.size_toArray, List.length_cons, List.length_nil, Nat.reduceAdd, Nat.reduceSub, Array.replicate_succ, Array.replicate_zero, List.push_toArray, List.append_toArray, List.nil_append, List.cons_append]
  gi_wp2
  refine ⟨trivial, (callsIn_wide.2 (mem_mk x _)).mono ?_⟩
  rintro e W0 ⟨rfl, hW0⟩
  have hz0 : W0.heap.size = w.heap.size + 2 := by rw [hW0]; simp
  have b0 : Blk W0 w.heap.size #[.int .i64 0] := by rw [hW0]; exact (Blk.new w _ _).alloc _
  have b1 : Blk W0 (w.heap.size + 1) #[.int .i64 x] := by rw [hW0]; exact (Blk.new _ _ _).at (by simp)
  have hF0 : Fr (fun _ => False) w W0 := by rw [hW0]; exact (Fr.alloc _ _ _).trans (Fr.alloc _ _ _)
  have hns : (w.alloc (.cells #[.int .i64 0] 3)).heap.size = w.heap.size + 1 := by simp
  rw [hns]
  have HZ0 := hid hz0
  clear hW0 hns hz0
  gi_wp2
  have hZ := HZ0.out
  refine range_mem (sb := w.heap.size + 1) (by omega) rfl x b1 (fun pre W => CtI w w.heap.size pre W) (fun _ _ => False)
    (fun pre W W' S h f hS => ⟨h.1.keep f (fun hk => by have := hS _ hk; omega), h.2.since f (fun i hi hl => by have := hS _ hi; omega)⟩) (fun pre W W' S h f hS => h)
    ⟨b0, hF0⟩ (fun k => { tmps := #[.int .i64 x, undef, .int .i64 0, .pointer (some ⟨w.heap.size, 0, none⟩), .int .i64 x, .func (.func 70) #[] #[.pointer (some ⟨w.heap.size + 1, 0, none⟩)], .int .i64 k, undef, undef, undef], defers := [] }) ?assign ?body ?done ?stop
  case assign =>
    intro l k W K hK
    gi_wp2
    simpa using hK
  case body =>
    intro l pre k rest W hpr hWs hS
    have HS := hid hS
    have hlen : pre.length < 64 := by
      have h1 := memN_len x 64
      rw [hpr] at h1
      simp at h1
      omega
    obtain ⟨q, hm⟩ : ∃ m, pre.length = m := ⟨_, rfl⟩
    have HM := hid hm
    rw [hm] at hlen
    have c0 : W.cell? ⟨w.heap.size, 0, none⟩ = some (.int .i64 q) := by rw [← hm]; exact HS.out.1.cell rfl
    have z0 := HS.out.1.frozen 0
    have HW := hid hWs
    clear hS hm hpr b0 b1 hF0 hWs
    gi_wp2
    have hF3 : Fr (fun k => k = w.heap.size) W (W.setCell ⟨w.heap.size, 0, none⟩ (.int .i64 ((q : Int) + 1))) := Fr.setCell _ _ _ rfl
    refine ⟨⟨_, hF3, by omega, by omega, by omega⟩, ?_, HS.out.2.since hF3 (fun i hi hl => by have h2 : i = w.heap.size := hi; omega)⟩
    have := HS.out.1.set 0 (.int .i64 ((q : Int) + 1))
    have e1 : ((pre ++ [k]).length : Int) = (q : Int) + 1 := by rw [← HM.out]; simp
    rw [e1]
    exact this
  case done =>
    rintro W ⟨hB, hF⟩ hK
    rw [HMM.out] at hB
    have c0 : W.cell? ⟨w.heap.size, 0, none⟩ = some (.int .i64 m) := hB.cell rfl
    have HF := hid hF
    have HK := hid hK
    clear hF hK hB b0 b1 hF0
    gi_wp2
    exact loop_end HK.out (fun W' => results_tmp rfl _ _ _) (fun W' F => ⟨rfl, HF.out.since F (fun i hi hl => by have h2 : i = W0.heap.size := hi; omega)⟩)
  case stop =>
    rintro pre k rest W _ h _
    exact h.elim
end Go.Proofs.Ytiofdfgcghiibaa
