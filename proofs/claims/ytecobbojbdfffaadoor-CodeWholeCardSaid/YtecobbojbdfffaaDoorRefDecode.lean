/-
  The document's instruction of eight bytes, from a place on.
-/
import Derived.Test.YtecobbojbdfffaaDoorDecode
namespace Go.Proofs.YtecobbojbdfffaaDoor
open Go.RowKit

set_option maxRecDepth 100000 in
set_option maxHeartbeats 4000000 in
theorem rdecode_raw (b o n k cap : Nat) (x0 x1 x2 x3 x4 x5 x6 x7 M y : Int) (w : World) (hb : b < w.heap.size) (hk : k + 8 ≤ n) (hn : n ≤ 1000000)
    (p0 : w.cell? ⟨b, o + k, none⟩ = some (.int .u8 x0)) (p1 : w.cell? ⟨b, o + (k + 1), none⟩ = some (.int .u8 x1)) (p2 : w.cell? ⟨b, o + (k + 2), none⟩ = some (.int .u8 x2)) (p3 : w.cell? ⟨b, o + (k + 3), none⟩ = some (.int .u8 x3)) (p4 : w.cell? ⟨b, o + (k + 4), none⟩ = some (.int .u8 x4)) (p5 : w.cell? ⟨b, o + (k + 5), none⟩ = some (.int .u8 x5)) (p6 : w.cell? ⟨b, o + (k + 6), none⟩ = some (.int .u8 x6)) (p7 : w.cell? ⟨b, o + (k + 7), none⟩ = some (.int .u8 x7))
    (h0 : 0 ≤ x0 ∧ x0 ≤ 255) (h1 : 0 ≤ x1 ∧ x1 ≤ 255) (h2 : 0 ≤ x2 ∧ x2 ≤ 255) (h3 : 0 ≤ x3 ∧ x3 ≤ 255) (h4 : 0 ≤ x4 ∧ x4 ≤ 255) (h5 : 0 ≤ x5 ∧ x5 ≤ 255) (h6 : 0 ≤ x6 ∧ x6 ≤ 255) (h7 : 0 ≤ x7 ∧ x7 ≤ 255)
    (hM : sgn (decN x4 x5 x6 x7) = M) (hy : chk ⟨x0, x1, x2, x3, M⟩ = y) :
    Calls Tryd.prog 20 #[.slice (some ⟨b, o, none⟩) n cap, .int .i64 k] w fun e w' => e = .returned (.tuple #[Ins.val (if y = 0 then ⟨x0, x1, x2, x3, M⟩ else Ins.zero), .int .i64 y]) ∧ Fr (fun _ => False) w w' := by
  have HC := hid (rcheck_any ⟨x0, x1, x2, x3, M⟩)
  rw [hy] at HC
  have HM := hid hM
  clear hM hy
  have hA := Fr.alloc (fun _ => False) w (.cells #[.int .i64 0, .int .i64 0, .int .i64 0, .int .i64 0, .int .i64 0] 23)
  have s1 : IntKind.i64.wrap ((k : Int) + 1) = (k : Int) + 1 := IntWalk.i64_in _ (by omega)
  have s2 : IntKind.i64.wrap ((k : Int) + 2) = (k : Int) + 2 := IntWalk.i64_in _ (by omega)
  have s3 : IntKind.i64.wrap ((k : Int) + 3) = (k : Int) + 3 := IntWalk.i64_in _ (by omega)
  have s4 : IntKind.i64.wrap ((k : Int) + 4) = (k : Int) + 4 := IntWalk.i64_in _ (by omega)
  have s5 : IntKind.i64.wrap ((k : Int) + 5) = (k : Int) + 5 := IntWalk.i64_in _ (by omega)
  have s6 : IntKind.i64.wrap ((k : Int) + 6) = (k : Int) + 6 := IntWalk.i64_in _ (by omega)
  have s7 : IntKind.i64.wrap ((k : Int) + 7) = (k : Int) + 7 := IntWalk.i64_in _ (by omega)
  have b0 : (0 : Int) ≤ (k : Int) := by omega
  have b1 : (k : Int) < (n : Int) := by omega
  have b2 : (k : Int) + 1 < (n : Int) := by omega
  have a2 : (0 : Int) ≤ (k : Int) + 1 := by omega
  have b3 : (k : Int) + 2 < (n : Int) := by omega
  have a3 : (0 : Int) ≤ (k : Int) + 2 := by omega
  have b4 : (k : Int) + 3 < (n : Int) := by omega
  have a4 : (0 : Int) ≤ (k : Int) + 3 := by omega
  have n1' : ((k : Int) + 1).toNat = k + 1 := by omega
  have n2' : ((k : Int) + 2).toNat = k + 2 := by omega
  have n3' : ((k : Int) + 3).toNat = k + 3 := by omega
  have v0 : IntKind.i64.wrap x0 = x0 := IntWalk.i64_in _ (by omega)
  have v1 : IntKind.i64.wrap x1 = x1 := IntWalk.i64_in _ (by omega)
  have v2 : IntKind.i64.wrap x2 = x2 := IntWalk.i64_in _ (by omega)
  have v3 : IntKind.i64.wrap x3 = x3 := IntWalk.i64_in _ (by omega)
  have v4 : IntKind.i64.wrap x4 = x4 := IntWalk.i64_in _ (by omega)
  have v5 : IntKind.i64.wrap x5 = x5 := IntWalk.i64_in _ (by omega)
  have v6 : IntKind.i64.wrap x6 = x6 := IntWalk.i64_in _ (by omega)
  have v7 : IntKind.i64.wrap x7 = x7 := IntWalk.i64_in _ (by omega)
  have u4 : IntKind.i64.wrap (x4 * 16777216) = x4 * 16777216 := IntWalk.i64_in _ (by omega)
  have u5 : IntKind.i64.wrap (x5 * 65536) = x5 * 65536 := IntWalk.i64_in _ (by omega)
  have u6 : IntKind.i64.wrap (x6 * 256) = x6 * 256 := IntWalk.i64_in _ (by omega)
  have u7 : IntKind.i64.wrap (x4 * 16777216 + x5 * 65536) = x4 * 16777216 + x5 * 65536 := IntWalk.i64_in _ (by omega)
  have u8 : IntKind.i64.wrap (x4 * 16777216 + x5 * 65536 + x6 * 256) = x4 * 16777216 + x5 * 65536 + x6 * 256 := IntWalk.i64_in _ (by omega)
  have u9 : IntKind.i64.wrap (x4 * 16777216 + x5 * 65536 + x6 * 256 + x7) = x4 * 16777216 + x5 * 65536 + x6 * 256 + x7 := IntWalk.i64_in _ (by omega)
  go_enter Tryd.func20, Tryd.ntmps20
  go_wp2_with fail
  go_quiet (fail)
  obtain ⟨w1, hw1⟩ : ∃ w1, w1 = (w.alloc (.cells #[.int .i64 0, .int .i64 0, .int .i64 0, .int .i64 0, .int .i64 0] 23)).drewN nq := ⟨_, rfl⟩
  have hF1 : Fr (fun _ => False) w w1 := by rw [hw1]; exact hA.trans (Fr.drewN _ _ _)
  have hB1 : Blk w1 w.heap.size #[.int .i64 0, .int .i64 0, .int .i64 0, .int .i64 0, .int .i64 0] := by rw [hw1]; exact (Blk.new _ _ _).drewN _
  rw [← hw1]
  have c0 := (cell_keep hF1 (p := ⟨b, o + k, none⟩) hb (fun h => h)).trans p0
  have c1 := (cell_keep hF1 (p := ⟨b, o + (k + 1), none⟩) hb (fun h => h)).trans p1
  have c2 := (cell_keep hF1 (p := ⟨b, o + (k + 2), none⟩) hb (fun h => h)).trans p2
  have c3 := (cell_keep hF1 (p := ⟨b, o + (k + 3), none⟩) hb (fun h => h)).trans p3
  have n0 := World.new_ne w1 _ c0
  obtain ⟨N, hN⟩ : ∃ N, x4 * 16777216 + x5 * 65536 + x6 * 256 + x7 = N := ⟨_, rfl⟩
  have hN0 : 0 ≤ N ∧ N < 4294967296 := by omega
  have hm : sgn N = M := by rw [← HM.out, ← hN]; rfl
  unfold sgn at hm
  simp only [hN]
  clear p0 p1 p2 p3 p4 p5 p6 p7 s4 s5 s6 s7 v4 v5 v6 v7 u4 u5 u6 u7 u8 u9 hN h4 h5 h6 h7 hw1 HM
  by_cases hbig : 2147483648 ≤ N
  · rw [if_pos hbig] at hm
    go_wp2_with fail
    try rw [hm]
    go_region_held3 (fun w' => w'.cell? ⟨b, o + k, none⟩ = some (.int .u8 x0) ∧ w'.cell? ⟨b, o + (k + 1), none⟩ = some (.int .u8 x1) ∧ w'.cell? ⟨b, o + (k + 2), none⟩ = some (.int .u8 x2) ∧ w'.cell? ⟨b, o + (k + 3), none⟩ = some (.int .u8 x3))
      (go_keep) (first | fail)
    go_wp2_with fail
    have hF2 : Fr (fun _ => False) w1 (w1.alloc (.cells #[.int .i64 x0, .int .i64 x1, .int .i64 x2, .int .i64 x3, .int .i64 M] 23)).drew := (Fr.alloc _ _ _).trans (Fr.drew _ _)
    have hB2 : Blk (w1.alloc (.cells #[.int .i64 x0, .int .i64 x1, .int .i64 x2, .int .i64 x3, .int .i64 M] 23)).drew w1.heap.size #[.int .i64 x0, .int .i64 x1, .int .i64 x2, .int .i64 x3, .int .i64 M] := (Blk.new _ _ _).drew
    refine (HC.out _).mono ?_
    rintro e w2 ⟨rfl, hF3⟩
    have hB3 := hB2.keep hF3 (fun h => h)
    have hB4 := hB1.keep (hF2.trans hF3) (fun h => h)
    have hFF := (hF1.trans hF2).trans hF3
    have l3 := hB3.lt
    have l4 := hB4.lt
    clear hB2 hF2 hF3 c0 c1 c2 c3 n0
    have nn : w.heap.size ≠ w1.heap.size := by have := hB1.lt; omega
    obtain ⟨d0, d1, d2, d3, d4⟩ := hB3.five (i := ⟨x0, x1, x2, x3, M⟩)
    obtain ⟨f0, f1, f2, f3, f4⟩ := hB4.five (i := Ins.zero)
    simp only [Ins.zero] at d0 d1 d2 d3 d4 f0 f1 f2 f3 f4
    have z0 := hB4.frozen 0
    have z1 := hB4.frozen 1
    have z2 := hB4.frozen 2
    have z3 := hB4.frozen 3
    have z4 := hB4.frozen 4
    by_cases hy0 : y = 0
    · subst hy0
      go_wp2_with fail
      obtain ⟨w3, hw3⟩ : ∃ w3, w3 = ((((w2.setCell ⟨w.heap.size, 0, none⟩ (.int .i64 x0)).setCell ⟨w.heap.size, 1, none⟩ (.int .i64 x1)).setCell ⟨w.heap.size, 2, none⟩ (.int .i64 x2)).setCell ⟨w.heap.size, 3, none⟩ (.int .i64 x3)).setCell ⟨w.heap.size, 4, none⟩ (.int .i64 M) := ⟨_, rfl⟩
      have hF3 : Fr (fun _ => False) w w3 := by rw [hw3]; exact hFF.since (fr_set5 _ _ _ _ _ _ _) (fun i hi hl => by omega)
      have hB5 : Blk w3 w.heap.size #[.int .i64 x0, .int .i64 x1, .int .i64 x2, .int .i64 x3, .int .i64 M] := by rw [hw3]; exact blk_set5 hB4 _ _ _ _ _
      rw [← hw3]
      clear hw3
      obtain ⟨g0, g1, g2, g3, g4⟩ := hB5.five (i := ⟨x0, x1, x2, x3, M⟩)
      simp only at g0 g1 g2 g3 g4
      refine bodyPost_ret (v := .tuple #[Ins.val ⟨x0, x1, x2, x3, M⟩, .int .i64 0]) (by simp [results, Tryd.results20, go_sem, g0, g1, g2, g3, g4]; try rfl) rfl ⟨?_, hF3⟩
      rfl
    · have t1 : (y != 0) = true := by simpa using hy0
      go_wp2_with fail
      obtain ⟨w3, hw3⟩ : ∃ w3, w3 = ((((w2.setCell ⟨w.heap.size, 0, none⟩ (.int .i64 0)).setCell ⟨w.heap.size, 1, none⟩ (.int .i64 0)).setCell ⟨w.heap.size, 2, none⟩ (.int .i64 0)).setCell ⟨w.heap.size, 3, none⟩ (.int .i64 0)).setCell ⟨w.heap.size, 4, none⟩ (.int .i64 0) := ⟨_, rfl⟩
      have hF3 : Fr (fun _ => False) w w3 := by rw [hw3]; exact hFF.since (fr_set5 _ _ _ _ _ _ _) (fun i hi hl => by omega)
      have hB5 : Blk w3 w.heap.size #[.int .i64 0, .int .i64 0, .int .i64 0, .int .i64 0, .int .i64 0] := by rw [hw3]; exact blk_set5 hB4 _ _ _ _ _
      rw [← hw3]
      clear hw3
      obtain ⟨g0, g1, g2, g3, g4⟩ := hB5.five (i := ⟨0, 0, 0, 0, 0⟩)
      simp only at g0 g1 g2 g3 g4
      refine bodyPost_ret (v := .tuple #[Ins.val ⟨0, 0, 0, 0, 0⟩, .int .i64 y]) (by simp [results, Tryd.results20, go_sem, g0, g1, g2, g3, g4]; try rfl) rfl ⟨?_, hF3⟩
      rfl
  · rw [if_neg hbig] at hm
    have hsm : N < 2147483648 := by omega
    clear hbig
    go_wp2_with fail
    try rw [hm]
    go_region_held3 (fun w' => w'.cell? ⟨b, o + k, none⟩ = some (.int .u8 x0) ∧ w'.cell? ⟨b, o + (k + 1), none⟩ = some (.int .u8 x1) ∧ w'.cell? ⟨b, o + (k + 2), none⟩ = some (.int .u8 x2) ∧ w'.cell? ⟨b, o + (k + 3), none⟩ = some (.int .u8 x3))
      (go_keep) (first | fail)
    go_wp2_with fail
    have hF2 : Fr (fun _ => False) w1 (w1.alloc (.cells #[.int .i64 x0, .int .i64 x1, .int .i64 x2, .int .i64 x3, .int .i64 M] 23)).drew := (Fr.alloc _ _ _).trans (Fr.drew _ _)
    have hB2 : Blk (w1.alloc (.cells #[.int .i64 x0, .int .i64 x1, .int .i64 x2, .int .i64 x3, .int .i64 M] 23)).drew w1.heap.size #[.int .i64 x0, .int .i64 x1, .int .i64 x2, .int .i64 x3, .int .i64 M] := (Blk.new _ _ _).drew
    refine (HC.out _).mono ?_
    rintro e w2 ⟨rfl, hF3⟩
    have hB3 := hB2.keep hF3 (fun h => h)
    have hB4 := hB1.keep (hF2.trans hF3) (fun h => h)
    have hFF := (hF1.trans hF2).trans hF3
    have l3 := hB3.lt
    have l4 := hB4.lt
    clear hB2 hF2 hF3 c0 c1 c2 c3 n0
    have nn : w.heap.size ≠ w1.heap.size := by have := hB1.lt; omega
    obtain ⟨d0, d1, d2, d3, d4⟩ := hB3.five (i := ⟨x0, x1, x2, x3, M⟩)
    obtain ⟨f0, f1, f2, f3, f4⟩ := hB4.five (i := Ins.zero)
    simp only [Ins.zero] at d0 d1 d2 d3 d4 f0 f1 f2 f3 f4
    have z0 := hB4.frozen 0
    have z1 := hB4.frozen 1
    have z2 := hB4.frozen 2
    have z3 := hB4.frozen 3
    have z4 := hB4.frozen 4
    by_cases hy0 : y = 0
    · subst hy0
      go_wp2_with fail
      obtain ⟨w3, hw3⟩ : ∃ w3, w3 = ((((w2.setCell ⟨w.heap.size, 0, none⟩ (.int .i64 x0)).setCell ⟨w.heap.size, 1, none⟩ (.int .i64 x1)).setCell ⟨w.heap.size, 2, none⟩ (.int .i64 x2)).setCell ⟨w.heap.size, 3, none⟩ (.int .i64 x3)).setCell ⟨w.heap.size, 4, none⟩ (.int .i64 M) := ⟨_, rfl⟩
      have hF3 : Fr (fun _ => False) w w3 := by rw [hw3]; exact hFF.since (fr_set5 _ _ _ _ _ _ _) (fun i hi hl => by omega)
      have hB5 : Blk w3 w.heap.size #[.int .i64 x0, .int .i64 x1, .int .i64 x2, .int .i64 x3, .int .i64 M] := by rw [hw3]; exact blk_set5 hB4 _ _ _ _ _
      rw [← hw3]
      clear hw3
      obtain ⟨g0, g1, g2, g3, g4⟩ := hB5.five (i := ⟨x0, x1, x2, x3, M⟩)
      simp only at g0 g1 g2 g3 g4
      refine bodyPost_ret (v := .tuple #[Ins.val ⟨x0, x1, x2, x3, M⟩, .int .i64 0]) (by simp [results, Tryd.results20, go_sem, g0, g1, g2, g3, g4]; try rfl) rfl ⟨?_, hF3⟩
      rfl
    · have t1 : (y != 0) = true := by simpa using hy0
      go_wp2_with fail
      obtain ⟨w3, hw3⟩ : ∃ w3, w3 = ((((w2.setCell ⟨w.heap.size, 0, none⟩ (.int .i64 0)).setCell ⟨w.heap.size, 1, none⟩ (.int .i64 0)).setCell ⟨w.heap.size, 2, none⟩ (.int .i64 0)).setCell ⟨w.heap.size, 3, none⟩ (.int .i64 0)).setCell ⟨w.heap.size, 4, none⟩ (.int .i64 0) := ⟨_, rfl⟩
      have hF3 : Fr (fun _ => False) w w3 := by rw [hw3]; exact hFF.since (fr_set5 _ _ _ _ _ _ _) (fun i hi hl => by omega)
      have hB5 : Blk w3 w.heap.size #[.int .i64 0, .int .i64 0, .int .i64 0, .int .i64 0, .int .i64 0] := by rw [hw3]; exact blk_set5 hB4 _ _ _ _ _
      rw [← hw3]
      clear hw3
      obtain ⟨g0, g1, g2, g3, g4⟩ := hB5.five (i := ⟨0, 0, 0, 0, 0⟩)
      simp only at g0 g1 g2 g3 g4
      refine bodyPost_ret (v := .tuple #[Ins.val ⟨0, 0, 0, 0, 0⟩, .int .i64 y]) (by simp [results, Tryd.results20, go_sem, g0, g1, g2, g3, g4]; try rfl) rfl ⟨?_, hF3⟩
      rfl

theorem rdecode_any (A : Option Addr) (n k cap : Nat) (l : List Int) (w : World) (hb : Bys w w.heap.size A l) (hn : l.length = n) (hl : AllB l) (hk : k + 8 ≤ n) (hs : n ≤ 1000000) :
    Calls Tryd.prog 20 #[.slice A n cap, .int .i64 k] w fun e w' => e = .returned (.tuple #[Ins.val (decIns ((l.drop k).take 8)), .int .i64 (decErr ((l.drop k).take 8))]) ∧ Fr (fun _ => False) w w' := by
  obtain ⟨b, o, rfl, hbl, hc⟩ := hb (by omega)
  have hcell : ∀ j, j < 8 → w.cell? ⟨b, o + (k + j), none⟩ = some (.int .u8 (((l.drop k).take 8).getD j 0)) := fun j hj => hc (k + j) _ (by
    rw [List.getD_eq_getElem?_getD, List.getElem?_take, if_pos hj, List.getElem?_drop, List.getElem?_eq_getElem (by omega)]
    rfl)
  have hl8 : AllB ((l.drop k).take 8) := fun x hx => hl x (List.mem_of_mem_drop (List.mem_of_mem_take hx))
  have e : decErr ((l.drop k).take 8) = chk (dec ((l.drop k).take 8)) := by unfold decErr; rw [if_pos (by simp; omega)]
  unfold decIns
  rw [e]
  exact rdecode_raw b o n k cap _ _ _ _ _ _ _ _ _ _ w hbl hk hs (hcell 0 (by omega)) (hcell 1 (by omega)) (hcell 2 (by omega)) (hcell 3 (by omega)) (hcell 4 (by omega)) (hcell 5 (by omega)) (hcell 6 (by omega)) (hcell 7 (by omega))
    (hl8.getD 0) (hl8.getD 1) (hl8.getD 2) (hl8.getD 3) (hl8.getD 4) (hl8.getD 5) (hl8.getD 6) (hl8.getD 7) rfl rfl

end Go.Proofs.YtecobbojbdfffaaDoor
