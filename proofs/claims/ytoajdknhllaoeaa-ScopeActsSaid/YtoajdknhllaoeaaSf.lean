/-
  Scopes: find, Parent, the places of a scope's cells, Peek (walks).
-/
import Derived.Test.YtoajdknhllaoeaaSo
import Derived.Test.YtoajdknhllaoeaaReads
namespace Go.Proofs.Ytoajdknhllaoeaa
open Go.RowKit
set_option linter.unusedVariables false

theorem ints_one (x : Int) : ints [x] = #[.int .i64 x] := rfl
theorem ints_two (x y : Int) : ints [x, y] = #[.int .i64 x, .int .i64 y] := rfl

section
variable {O : Nat → Prop} {b : MB} {tb : Nat} {T : Sc} (w : World)

/-- are of one number, in a row that is made for it. -/
theorem are_one (x : Int) (g : Nat) (r : Bool) (h : Trm w O b tb T) (hg : Blk w g #[.int .i64 x]) (hr : isB T.n x = r) :
    Calls Try.prog 47 #[.pointer (some ⟨tb, 0, none⟩), .slice (some ⟨g, 0, none⟩) 1 1] w fun e w' => e = .returned (.bool r) ∧ w = w' :=
  are_any w [x] 1 g r h rfl (by omega) hg (by simp [hr])

theorem are_two (x y : Int) (g : Nat) (r : Bool) (h : Trm w O b tb T) (hg : Blk w g #[.int .i64 x, .int .i64 y]) (hr : (isB T.n x && isB T.n y) = r) :
    Calls Try.prog 47 #[.pointer (some ⟨tb, 0, none⟩), .slice (some ⟨g, 0, none⟩) 2 2] w fun e w' => e = .returned (.bool r) ∧ w = w' :=
  are_any w [x, y] 2 g r h rfl (by omega) hg (by simp [← hr])

set_option maxRecDepth 100000 in
set_option maxHeartbeats 1000000 in
theorem find_ok (k : Nat) (hk : k < T.n) (h : Trm w O b tb T) : Calls Try.prog 39 #[.pointer (some ⟨tb, 0, none⟩), .pointer (some ⟨b.m, 0, none⟩), .int .i64 k] w fun e w' => e = .returned (.tuple #[.agg #[.int .i64 (pI T.par k), .int .i64 ((2 * k : Nat) : Int)], .int .i64 0]) ∧ Fr (fun _ => False) w w' := by
  have HA := hid (fun (W : World) (F : Fr (fun _ => False) w W) (g : Nat) (hg : Blk W g #[.int .i64 k]) => are_one W k g true (h.same F) hg (isB_yes hk))
  obtain ⟨A, cap, l, h1, -⟩ := h.ex
  obtain ⟨g, rfl, hgl, hcap, hc⟩ := h1.row
  have HC := hid (fun (W : World) (F : Fr (fun _ => False) w W) => (show W.cell? ⟨tb, 0, none⟩ = some (.slice (some ⟨g, 0, none⟩) T.n cap) ∧ W.cell? ⟨g, k * 2, none⟩ = some (.int .i64 (pI T.par k)) ∧ W.cell? ⟨g, k * 2 + 1, none⟩ = some (.int .i64 ((2 * k : Nat) : Int)) from
    ⟨(h1.t.keep F (fun h => h)).cell rfl, by rw [← (hc k hk).1]; exact World.cell?_of_block (w := w) (F.block g hgl id), by rw [← (hc k hk).2]; exact World.cell?_of_block (w := w) (F.block g hgl id)⟩))
  have htl := h1.t.lt
  have HTL := hid htl
  have HGL := hid hgl
  obtain ⟨n, hn⟩ : ∃ n, T.n = n := ⟨_, rfl⟩
  obtain ⟨x, hx⟩ : ∃ x, pI T.par k = x := ⟨_, rfl⟩
  obtain ⟨y, hy⟩ : ∃ y : Int, ((2 * k : Nat) : Int) = y := ⟨_, rfl⟩
  rw [hn] at hk hcap HC
  rw [hx, hy] at HC ⊢
  clear h h1 hc hn hx hy hgl
  have hk2 : (k : Int) < n := by omega
  go_enter Try.func39, Try.ntmps39
  go_wp2_with fail
  have hR0 : Blk (w.alloc (.cells #[.int .i64 0, .int .i64 0] 83)) w.heap.size #[.int .i64 0, .int .i64 0] := Blk.new _ _ _
  have hF1 : Fr (fun _ => False) w ((w.alloc (.cells #[.int .i64 0, .int .i64 0] 83)).alloc (.cells #[.int .i64 (k : Int)] 3)) := (Fr.alloc _ _ _).trans (Fr.alloc _ _ _)
  have hB1 : Blk ((w.alloc (.cells #[.int .i64 0, .int .i64 0] 83)).alloc (.cells #[.int .i64 (k : Int)] 3)) (w.heap.size + 1) #[.int .i64 (k : Int)] := (Blk.new _ _ _).at (by simp)
  have hR1 := hR0.alloc (.cells #[.int .i64 (k : Int)] 3)
  obtain ⟨w1, hw1⟩ : ∃ w1, (w.alloc (.cells #[.int .i64 0, .int .i64 0] 83)).alloc (.cells #[.int .i64 (k : Int)] 3) = w1 := ⟨_, rfl⟩
  rw [hw1] at hF1 hB1 hR1 ⊢
  clear hw1 hR0
  refine (HA.out w1 hF1 _ hB1).mono ?_
  rintro e w2 ⟨rfl, rfl⟩
  obtain ⟨c0, c1, c2⟩ := HC.out w1 hF1
  have q0 : w1.cell? ⟨w.heap.size, 0, none⟩ = some (.int .i64 0) := hR1.cell rfl
  have q1 : w1.cell? ⟨w.heap.size, 1, none⟩ = some (.int .i64 0) := hR1.cell rfl
  have f0 := hR1.frozen 0
  have f1 := hR1.frozen 1
  have ht1 : tb < w1.heap.size := Nat.lt_of_lt_of_le htl hF1.size
  have HR1 := hid hR1
  have HF1 := hid hF1
  clear hB1 hF1 hR1 htl
  go_wp2_with fail
  obtain ⟨w9, hw9⟩ : ∃ w9, w9 = (w1.setCell ⟨w.heap.size, 0, none⟩ (.int .i64 x)).setCell ⟨w.heap.size, 1, none⟩ (.int .i64 y) := ⟨_, rfl⟩
  have hR9 : Blk w9 w.heap.size #[.int .i64 x, .int .i64 y] := by rw [hw9]; exact HR1.out.set2 _ _
  have hF9 : Fr (fun k => k = w.heap.size) w1 w9 := by rw [hw9]; exact fr_set2 _ _ _ _
  rw [← hw9]
  have p0 : w9.cell? ⟨w.heap.size, 0, none⟩ = some (.int .i64 x) := hR9.cell rfl
  have p1 : w9.cell? ⟨w.heap.size, 1, none⟩ = some (.int .i64 y) := hR9.cell rfl
  clear hw9 c0 c1 c2 q0 q1 f0 f1
  refine bodyPost_ret (v := .tuple #[.agg #[.int .i64 x, .int .i64 y], .int .i64 0]) ?hv rfl ?hp
  case hv => (simp [results, Try.results39, go_sem, p0, p1]; try rfl)
  case hp => exact ⟨rfl, HF1.out.since hF9 (fun i hi hl => by omega)⟩
end
end Go.Proofs.Ytoajdknhllaoeaa
