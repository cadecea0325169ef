/-
  Scopes: Parent; Nest and Inside of no scope; Look (walks).
-/
import Derived.Test.YtoajdknhllaoeaaIns
namespace Go.Proofs.Ytoajdknhllaoeaa
open Go.RowKit
set_option linter.unusedVariables false

section
variable {O : Nat → Prop} {b : MB} {tb : Nat} {T : Sc} (w : World)

set_option maxRecDepth 100000 in
set_option maxHeartbeats 1000000 in
theorem parent_ok (k : Nat) (hk : k < T.n) (h : Trm w O b tb T) : Calls Try.prog 26 #[.pointer (some ⟨tb, 0, none⟩), .int .i64 k] w fun e w' => e = .returned (.int .i64 (pI T.par k)) ∧ Fr (fun _ => False) w w' := by
  have HA := hid (fun (W : World) (F : Fr (fun _ => False) w W) (g : Nat) (hg : Blk W g #[.int .i64 k]) => are_one W k g true (h.same F) hg (isB_yes hk))
  obtain ⟨A, cap, l, h1, -⟩ := h.ex
  obtain ⟨g, rfl, hgl, hcap, hc⟩ := h1.row
  have HC := hid (fun (W : World) (F : Fr (fun _ => False) w W) => (show W.cell? ⟨tb, 0, none⟩ = some (.slice (some ⟨g, 0, none⟩) T.n cap) ∧ W.cell? ⟨g, k * 2, none⟩ = some (.int .i64 (pI T.par k)) from
    ⟨(h1.t.keep F (fun h => h)).cell rfl, by rw [← (hc k hk).1]; exact World.cell?_of_block (w := w) (F.block g hgl id)⟩))
  have htl := h1.t.lt
  obtain ⟨n, hn⟩ : ∃ n, T.n = n := ⟨_, rfl⟩
  obtain ⟨x, hx⟩ : ∃ x, pI T.par k = x := ⟨_, rfl⟩
  rw [hn] at hk hcap HC
  rw [hx] at HC ⊢
  clear h h1 hc hn hx hgl
  have hk2 : (k : Int) < n := by omega
  go_enter Try.func26, Try.ntmps26
  go_wp2_with fail
  have hF1 : Fr (fun _ => False) w (w.alloc (.cells #[.int .i64 (k : Int)] 3)) := Fr.alloc _ _ _
  have hB1 : Blk (w.alloc (.cells #[.int .i64 (k : Int)] 3)) w.heap.size #[.int .i64 (k : Int)] := Blk.new _ _ _
  obtain ⟨w1, hw1⟩ : ∃ w1, w.alloc (.cells #[.int .i64 (k : Int)] 3) = w1 := ⟨_, rfl⟩
  rw [hw1] at hF1 hB1 ⊢
  clear hw1
  refine (HA.out w1 hF1 _ hB1).mono ?_
  rintro e w2 ⟨rfl, rfl⟩
  obtain ⟨c0, c1⟩ := HC.out w1 hF1
  have ht1 : tb < w1.heap.size := Nat.lt_of_lt_of_le htl hF1.size
  have HF1 := hid hF1
  clear hB1 hF1 htl
  go_wp2_with fail
  go_ret
  exact ⟨rfl, HF1.out⟩

set_option maxRecDepth 100000 in
set_option maxHeartbeats 1000000 in
theorem parent_no (x : Int) (hx : isB T.n x = false) (h : Trm w O b tb T) : Calls Try.prog 26 #[.pointer (some ⟨tb, 0, none⟩), .int .i64 x] w fun e w' => e = .returned (.int .i64 (-1)) ∧ Fr (fun _ => False) w w' := by
  have HA := hid (fun (W : World) (F : Fr (fun _ => False) w W) (g : Nat) (hg : Blk W g #[.int .i64 x]) => are_one W x g false (h.same F) hg hx)
  clear h hx
  go_enter Try.func26, Try.ntmps26
  go_wp2_with fail
  refine (HA.out _ (Fr.alloc _ _ _) _ (Blk.new _ _ _)).mono ?_
  rintro e w2 ⟨rfl, hw⟩
  subst hw
  go_wp2_with fail
  go_ret
  exact ⟨rfl, Fr.alloc _ _ _⟩

set_option maxRecDepth 100000 in
set_option maxHeartbeats 1000000 in
theorem parent_nil (x : Int) : Calls Try.prog 26 #[.pointer none, .int .i64 x] w fun e w' => e = .returned (.int .i64 (-1)) ∧ Fr (fun _ => False) w w' := by
  have HA := hid (fun (W : World) (F : Fr (fun _ => False) w W) (g : Nat) (hg : Blk W g #[.int .i64 x]) => are_nil W x [] 1 g rfl (by omega) hg)
  go_enter Try.func26, Try.ntmps26
  go_wp2_with fail
  refine (HA.out _ (Fr.alloc _ _ _) _ (Blk.new _ _ _)).mono ?_
  rintro e w2 ⟨rfl, hw⟩
  subst hw
  go_wp2_with fail
  go_ret
  exact ⟨rfl, Fr.alloc _ _ _⟩

set_option maxRecDepth 100000 in
set_option maxHeartbeats 1000000 in
theorem nest_no (x : Int) (hx : isB T.n x = false) (h : Trm w O b tb T) : Calls Try.prog 28 #[.pointer (some ⟨tb, 0, none⟩), .int .i64 x] w fun e w' => e = .returned (.int .i64 (-1)) ∧ Fr (fun _ => False) w w' := by
  have HA := hid (fun (W : World) (F : Fr (fun _ => False) w W) (g : Nat) (hg : Blk W g #[.int .i64 x]) => are_one W x g false (h.same F) hg hx)
  clear h hx
  refine (callsIn_wide (n := 8)).1 ?_
  refine callsIn_of_wp_marks Try.func28 rfl trivial ?_ rfl
  simp only [Try.ntmps28, List.size_toArray, List.length_cons, List.length_nil, Nat.reduceAdd, Nat.reduceSub, Array.replicate_succ, Array.replicate_zero, List.push_toArray, List.append_toArray, List.nil_append, List.cons_append]
  gi_wp2
  refine ⟨trivial, (callsIn_wide.2 (HA.out _ (Fr.alloc _ _ _) _ (Blk.new _ _ _))).mono ?_⟩
  rintro e w1 ⟨rfl, hw⟩
  subst hw
  gi_wp2
  exact ⟨_, results_tmp rfl _ _ _, rfl, Fr.alloc _ _ _⟩

set_option maxRecDepth 100000 in
set_option maxHeartbeats 1000000 in
theorem nest_nil (x : Int) : Calls Try.prog 28 #[.pointer none, .int .i64 x] w fun e w' => e = .returned (.int .i64 (-1)) ∧ Fr (fun _ => False) w w' := by
  have HA := hid (fun (W : World) (F : Fr (fun _ => False) w W) (g : Nat) (hg : Blk W g #[.int .i64 x]) => are_nil W x [] 1 g rfl (by omega) hg)
  refine (callsIn_wide (n := 8)).1 ?_
  refine callsIn_of_wp_marks Try.func28 rfl trivial ?_ rfl
  simp only [Try.ntmps28, List.size_toArray, List.length_cons, List.length_nil, Nat.reduceAdd, Nat.reduceSub, Array.replicate_succ, Array.replicate_zero, List.push_toArray, List.append_toArray, List.nil_append, List.cons_append]
  gi_wp2
  refine ⟨trivial, (callsIn_wide.2 (HA.out _ (Fr.alloc _ _ _) _ (Blk.new _ _ _))).mono ?_⟩
  rintro e w1 ⟨rfl, hw⟩
  subst hw
  gi_wp2
  exact ⟨_, results_tmp rfl _ _ _, rfl, Fr.alloc _ _ _⟩

set_option maxRecDepth 100000 in
set_option maxHeartbeats 1000000 in
theorem inside_no (x y : Int) (hx : (isB T.n x && isB T.n y) = false) (h : Trm w O b tb T) : Calls Try.prog 30 #[.pointer (some ⟨tb, 0, none⟩), .int .i64 x, .int .i64 y] w fun e w' => e = .returned (.bool false) ∧ Fr (fun _ => False) w w' := by
  have HA := hid (fun (W : World) (F : Fr (fun _ => False) w W) (g : Nat) (hg : Blk W g #[.int .i64 x, .int .i64 y]) => are_two W x y g false (h.same F) hg hx)
  have hb0 : Blk ((w.alloc (.cells #[.int .i64 y] 3)).alloc (.cells #[.bool false] 4)) w.heap.size #[.int .i64 y] := (Blk.new _ _ _).alloc _
  have c0 := hb0.cell (i := 0) rfl
  simp only [List.getElem_toArray, List.getElem_cons_zero] at c0
  clear hb0 h hx
  refine (callsIn_wide (n := 8)).1 ?_
  refine callsIn_of_wp_marks Try.func30 rfl trivial ?_ rfl
  simp only [Try.ntmps30, List.size_toArray, List.length_cons, List.length_nil, Nat.reduceAdd, Nat.reduceSub, Array.replicate_succ, Array.replicate_zero, List.push_toArray, List.append_toArray, List.nil_append, List.cons_append]
  gi_wp2
  have hF0 : Fr (fun _ => False) w (((w.alloc (.cells #[.int .i64 y] 3)).alloc (.cells #[.bool false] 4)).alloc (.cells #[.int .i64 x, .int .i64 y] 3)) := ((Fr.alloc _ _ _).trans (Fr.alloc _ _ _)).trans (Fr.alloc _ _ _)
  have hr0 : Blk (((w.alloc (.cells #[.int .i64 y] 3)).alloc (.cells #[.bool false] 4)).alloc (.cells #[.int .i64 x, .int .i64 y] 3)) (w.heap.size + 1) #[.bool false] := ((Blk.new _ _ _).at (by simp)).alloc _
  have ha0 : Blk (((w.alloc (.cells #[.int .i64 y] 3)).alloc (.cells #[.bool false] 4)).alloc (.cells #[.int .i64 x, .int .i64 y] 3)) (w.heap.size + 1 + 1) #[.int .i64 x, .int .i64 y] := (Blk.new _ _ _).at (by simp)
  obtain ⟨w1, hw1⟩ : ∃ w1, ((w.alloc (.cells #[.int .i64 y] 3)).alloc (.cells #[.bool false] 4)).alloc (.cells #[.int .i64 x, .int .i64 y] 3) = w1 := ⟨_, rfl⟩
  rw [hw1] at hF0 hr0 ha0 ⊢
  clear hw1 c0
  refine ⟨trivial, (callsIn_wide.2 (HA.out _ hF0 _ ha0)).mono ?_⟩
  rintro e w2 ⟨rfl, hw⟩
  subst hw
  have HR0 := hid hr0
  have HF0 := hid hF0
  have r0 : w1.cell? ⟨w.heap.size + 1, 0, none⟩ = some (.bool false) := hr0.cell rfl
  have z0 := hr0.frozen 0
  clear hr0 ha0 hF0
  gi_wp2
  have hF3 : Fr (fun k => k = w.heap.size + 1) w1 (w1.setCell ⟨w.heap.size + 1, 0, none⟩ (.bool false)) := Fr.setCell _ _ _ rfl
  have p0 : (w1.setCell ⟨w.heap.size + 1, 0, none⟩ (.bool false)).cell? ⟨w.heap.size + 1, 0, none⟩ = some (.bool false) := (HR0.out.set 0 (.bool false)).cell rfl
  exact ⟨.bool false, by simp [results, Try.results30, go_sem, p0], rfl, HF0.out.since hF3 (fun i hi hl => by omega)⟩

set_option maxRecDepth 100000 in
set_option maxHeartbeats 1000000 in
theorem inside_nil (x y : Int) : Calls Try.prog 30 #[.pointer none, .int .i64 x, .int .i64 y] w fun e w' => e = .returned (.bool false) ∧ Fr (fun _ => False) w w' := by
  have HA := hid (fun (W : World) (F : Fr (fun _ => False) w W) (g : Nat) (hg : Blk W g #[.int .i64 x, .int .i64 y]) => are_nil W x [y] 2 g rfl (by omega) hg)
  have hb0 : Blk ((w.alloc (.cells #[.int .i64 y] 3)).alloc (.cells #[.bool false] 4)) w.heap.size #[.int .i64 y] := (Blk.new _ _ _).alloc _
  have c0 := hb0.cell (i := 0) rfl
  simp only [List.getElem_toArray, List.getElem_cons_zero] at c0
  clear hb0 
  refine (callsIn_wide (n := 8)).1 ?_
  refine callsIn_of_wp_marks Try.func30 rfl trivial ?_ rfl
  simp only [Try.ntmps30, List.size_toArray, List.length_cons, List.length_nil, Nat.reduceAdd, Nat.reduceSub, Array.replicate_succ, Array.replicate_zero, List.push_toArray, List.append_toArray, List.nil_append, List.cons_append]
  gi_wp2
  have hF0 : Fr (fun _ => False) w (((w.alloc (.cells #[.int .i64 y] 3)).alloc (.cells #[.bool false] 4)).alloc (.cells #[.int .i64 x, .int .i64 y] 3)) := ((Fr.alloc _ _ _).trans (Fr.alloc _ _ _)).trans (Fr.alloc _ _ _)
  have hr0 : Blk (((w.alloc (.cells #[.int .i64 y] 3)).alloc (.cells #[.bool false] 4)).alloc (.cells #[.int .i64 x, .int .i64 y] 3)) (w.heap.size + 1) #[.bool false] := ((Blk.new _ _ _).at (by simp)).alloc _
  have ha0 : Blk (((w.alloc (.cells #[.int .i64 y] 3)).alloc (.cells #[.bool false] 4)).alloc (.cells #[.int .i64 x, .int .i64 y] 3)) (w.heap.size + 1 + 1) #[.int .i64 x, .int .i64 y] := (Blk.new _ _ _).at (by simp)
  obtain ⟨w1, hw1⟩ : ∃ w1, ((w.alloc (.cells #[.int .i64 y] 3)).alloc (.cells #[.bool false] 4)).alloc (.cells #[.int .i64 x, .int .i64 y] 3) = w1 := ⟨_, rfl⟩
  rw [hw1] at hF0 hr0 ha0 ⊢
  clear hw1 c0
  refine ⟨trivial, (callsIn_wide.2 (HA.out _ hF0 _ ha0)).mono ?_⟩
  rintro e w2 ⟨rfl, hw⟩
  subst hw
  have HR0 := hid hr0
  have HF0 := hid hF0
  have r0 : w1.cell? ⟨w.heap.size + 1, 0, none⟩ = some (.bool false) := hr0.cell rfl
  have z0 := hr0.frozen 0
  clear hr0 ha0 hF0
  gi_wp2
  have hF3 : Fr (fun k => k = w.heap.size + 1) w1 (w1.setCell ⟨w.heap.size + 1, 0, none⟩ (.bool false)) := Fr.setCell _ _ _ rfl
  have p0 : (w1.setCell ⟨w.heap.size + 1, 0, none⟩ (.bool false)).cell? ⟨w.heap.size + 1, 0, none⟩ = some (.bool false) := (HR0.out.set 0 (.bool false)).cell rfl
  exact ⟨.bool false, by simp [results, Try.results30, go_sem, p0], rfl, HF0.out.since hF3 (fun i hi hl => by omega)⟩


/-! ### Look -/

set_option maxRecDepth 100000 in
set_option maxHeartbeats 1000000 in
theorem look_ok (k : Nat) (hk : k < T.n) (h : Trm w O b tb T) : Calls Try.prog 32 #[.pointer (some ⟨tb, 0, none⟩), .int .i64 k] w fun e w' => ∃ lb, e = .returned (.tuple #[.pointer (some ⟨lb, 0, none⟩), .int .i64 0]) ∧ Blk w' lb #[.pointer (some ⟨tb, 0, none⟩), .int .i64 k, .bool false] ∧ Fr (fun _ => False) w w' ∧ w.heap.size ≤ lb := by
  have HA := hid (fun (W : World) (F : Fr (fun _ => False) w W) (g : Nat) (hg : Blk W g #[.int .i64 k]) => are_one W k g true (h.same F) hg (isB_yes hk))
  have htl := (h.ex.choose_spec.choose_spec.choose_spec.1.t).lt
  clear h hk
  go_enter Try.func32, Try.ntmps32
  go_wp2_with fail
  have hF1 : Fr (fun _ => False) w (w.alloc (.cells #[.int .i64 (k : Int)] 3)) := Fr.alloc _ _ _
  have hB1 : Blk (w.alloc (.cells #[.int .i64 (k : Int)] 3)) w.heap.size #[.int .i64 (k : Int)] := Blk.new _ _ _
  obtain ⟨w1, hw1⟩ : ∃ w1, w.alloc (.cells #[.int .i64 (k : Int)] 3) = w1 := ⟨_, rfl⟩
  rw [hw1] at hF1 hB1 ⊢
  clear hw1
  refine (HA.out w1 hF1 _ hB1).mono ?_
  rintro e w2 ⟨rfl, rfl⟩
  have HF1 := hid hF1
  clear hB1 hF1
  go_wp2_with fail
  go_ret2
  exact ⟨_, rfl, Blk.new _ _ _, HF1.out.trans (Fr.alloc _ _ _), HF1.out.size⟩

set_option maxRecDepth 100000 in
set_option maxHeartbeats 1000000 in
theorem look_no (x : Int) (hx : isB T.n x = false) (h : Trm w O b tb T) : Calls Try.prog 32 #[.pointer (some ⟨tb, 0, none⟩), .int .i64 x] w fun e w' => e = .returned (.tuple #[.pointer none, .int .i64 17]) ∧ Fr (fun _ => False) w w' := by
  have HA := hid (fun (W : World) (F : Fr (fun _ => False) w W) (g : Nat) (hg : Blk W g #[.int .i64 x]) => are_one W x g false (h.same F) hg hx)
  clear h hx
  go_enter Try.func32, Try.ntmps32
  go_wp2_with fail
  refine (HA.out _ (Fr.alloc _ _ _) _ (Blk.new _ _ _)).mono ?_
  rintro e w2 ⟨rfl, hw⟩
  subst hw
  go_wp2_with fail
  go_ret2
  exact ⟨rfl, Fr.alloc _ _ _⟩

set_option maxHeartbeats 1000000 in
theorem look_nil (x : Int) : Calls Try.prog 32 #[.pointer none, .int .i64 x] w fun e w' => e = .returned (.tuple #[.pointer none, .int .i64 2]) ∧ w = w' := by
  go_enter Try.func32, Try.ntmps32
  go_wp2_with fail
  go_ret2
  exact ⟨rfl, rfl⟩

set_option maxHeartbeats 1000000 in
theorem ldone_ok (lb : Nat) (p v : Value) (x : Int) (r : Bool) (hr : (x == -1) = r) (h : Blk w lb #[p, .int .i64 x, v]) : Calls Try.prog 49 #[.pointer (some ⟨lb, 0, none⟩)] w fun e w' => e = .returned (.bool r) ∧ w = w' := by
  have c1 : w.cell? ⟨lb, 1, none⟩ = some (.int .i64 x) := h.cell rfl
  have hl := h.lt
  have t1 : (x == -1) = r := hr
  clear hr h
  go_enter Try.func49, Try.ntmps49
  go_wp2_with fail
  go_ret
  exact ⟨rfl, rfl⟩

set_option maxHeartbeats 1000000 in
theorem lstep_nil (mv : Value) (x : Int) : Calls Try.prog 34 #[.pointer none, mv, .int .i64 x] w fun e w' => e = .returned (.tuple #[.bool false, .bool false, .int .i64 2]) ∧ w = w' := by
  go_enter Try.func34, Try.ntmps34
  go_wp2_with fail
  refine bodyPost_ret (results_tmp3 rfl _ _ _) rfl ?_
  exact ⟨rfl, rfl⟩

set_option maxHeartbeats 1000000 in
theorem lstep_nom (lb : Nat) (x : Int) : Calls Try.prog 34 #[.pointer (some ⟨lb, 0, none⟩), .pointer none, .int .i64 x] w fun e w' => e = .returned (.tuple #[.bool false, .bool false, .int .i64 2]) ∧ w = w' := by
  go_enter Try.func34, Try.ntmps34
  go_wp2_with fail
  refine bodyPost_ret (results_tmp3 rfl _ _ _) rfl ?_
  exact ⟨rfl, rfl⟩

end
end Go.Proofs.Ytoajdknhllaoeaa
