/-
  AsmReads' walk.
-/
import Derived.Test.YtepbnneggpcbcaaDoorRefRead
namespace Go.Proofs.YtepbnneggpcbcaaDoor
open Go.RowKit

set_option maxRecDepth 100000 in
set_option maxHeartbeats 1000000 in
theorem reads_long (S : ByteArray) (w : World) (ht : Tabs w) (h : 100 < S.size) (hs : S.size ≤ maxLen) :
    Calls Tryd.prog 4 #[.string S] w (LawPost w) := by
  have HA := hid awake_ok
  have HS := hid hs
  clear hs
  go_enter Tryd.func4, Tryd.ntmps4
  go_wp2_with fail
  refine (HA.out _ ht).mono ?_
  rintro e w2 ⟨rfl, hF2⟩
  go_wp2_with fail
  go_ret
  exact ⟨rfl, hF2⟩

set_option maxRecDepth 100000 in
set_option maxHeartbeats 2000000 in
theorem reads_short (l : Bs) (w : World) (ht : Tabs w) (h : l.length ≤ 100) :
    Calls Tryd.prog 4 #[.string (bs l)] w (LawPost w) := by
  have HA := hid awake_ok
  have hR := fun w ht => read_any l (by omega) w ht
  have hQ := fun w => rread_any l (by omega) w
  have h2 : (bs l).size ≤ 100 := by rw [bs_size]; exact h
  obtain ⟨⟨⟨o, a, b, c, n⟩, x⟩, hq⟩ : ∃ q, rd l = q := ⟨_, rfl⟩
  rw [hq] at hR hQ
  unfold RdPost Ins.val at hR hQ
  have HR := hid hR
  have HQ := hid hQ
  obtain ⟨S, hS⟩ : ∃ S, bs l = S := ⟨_, rfl⟩
  rw [hS] at HR HQ h2 ⊢
  clear hR hQ hq hS h
  go_enter Tryd.func4, Tryd.ntmps4
  go_wp2_with fail
  refine (HR.out _ ht).mono ?_
  rintro e w1 ⟨rfl, hF1⟩
  have hA := Fr.alloc (fun _ => False) w1 (.cells #[.int .i64 o, .int .i64 a, .int .i64 b, .int .i64 c, .int .i64 n] 23)
  have hB := Blk.new w1 #[.int .i64 o, .int .i64 a, .int .i64 b, .int .i64 c, .int .i64 n] 23
  go_wp2_with fail
  refine (HQ.out _).mono ?_
  rintro e w2 ⟨rfl, hF2⟩
  obtain ⟨p0, p1, p2, p3, p4⟩ := Blk.five (i := ⟨o, a, b, c, n⟩) (hB.keep hF2 (fun h => h))
  have pl := (hB.keep hF2 (fun h => h)).lt
  have hA2 := Fr.alloc (fun _ => False) w2 (.cells #[.int .i64 o, .int .i64 a, .int .i64 b, .int .i64 c, .int .i64 n] 23)
  have hFF := ((hF1.trans hA).trans hF2).trans hA2
  go_wp2_with fail
  refine (HA.out _ (ht.same hFF)).mono ?_
  rintro e w3 ⟨rfl, hF3⟩
  go_wp2_with fail
  go_ret
  exact ⟨rfl, hFF.trans hF3⟩

theorem reads_all (l : Bs) (hs : (bs l).size ≤ maxLen) (w : World) (ht : Tabs w) : Calls Tryd.prog 4 #[.string (bs l)] w (LawPost w) := by
  by_cases h : 100 < (bs l).size
  · exact reads_long _ w ht h hs
  · exact reads_short l w ht (by rw [bs_size] at h; omega)

end Go.Proofs.YtepbnneggpcbcaaDoor
