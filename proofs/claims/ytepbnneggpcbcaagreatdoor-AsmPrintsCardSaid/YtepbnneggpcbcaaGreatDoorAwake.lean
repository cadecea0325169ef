/-
  The chapter's examples.
-/
import Derived.Test.YtepbnneggpcbcaaGreatDoorParseM
namespace Go.Proofs.YtepbnneggpcbcaaGreatDoor
open Go.RowKit

theorem aw1 : lnV ⟨10, 1, 2, 3, 0⟩ = ([116, 114, 121, 32, 114, 49, 32, 114, 50, 32, 104, 51], 0) := by kernel_rfl
theorem aw2 : lnV ⟨0, 0, 0, 0, -5⟩ = ([99, 111, 110, 115, 116, 32, 114, 48, 32, 45, 53], 0) := by kernel_rfl
theorem aw3 : rd [102, 111, 114, 107, 32, 104, 55, 32, 102, 51, 49] = (⟨8, 7, 0, 0, 31⟩, 0) := by kernel_rfl
theorem aw4 : prs [102, 117, 110, 99, 32, 48, 32, 110, 101, 101, 100, 115, 32, 48, 10, 114, 101, 116, 117, 114, 110, 32, 114, 48, 10] = ([⟨0, [⟨16, 0, 0, 0, 0⟩]⟩], 0, 0) := by kernel_rfl

set_option maxRecDepth 100000 in
set_option maxHeartbeats 1000000 in
theorem awake_ok (w : World) (ht : Tabs w) :
    Calls Tryz.prog 5 #[] w fun e w' => e = .returned (.bool true) ∧ Fr (fun _ => False) w w' := by
  have H1 := hid (line_any ⟨10, 1, 2, 3, 0⟩)
  have H2 := hid (line_any ⟨0, 0, 0, 0, -5⟩)
  have H3 := hid (read_any [102, 111, 114, 107, 32, 104, 55, 32, 102, 51, 49] (by decide))
  have H4 := hid (parse_any [102, 117, 110, 99, 32, 48, 32, 110, 101, 101, 100, 115, 32, 48, 10, 114, 101, 116, 117, 114, 110, 32, 114, 48, 10] (by decide))
  rw [aw1] at H1
  rw [aw2] at H2
  rw [aw3] at H3
  rw [aw4] at H4
  unfold Ins.val at H1 H2
  unfold bs at H3 H4
  have HT := hid ht
  clear ht
  go_enter Tryz.func5, Tryz.ntmps5
  go_wp2_with fail
  refine (H1.out w HT.out).mono ?_
  rintro e w1 ⟨rfl, hF1⟩
  unfold bs
  go_wp2_with fail
  refine (H2.out w1 (HT.out.same hF1)).mono ?_
  rintro e w2 ⟨rfl, hF2⟩
  unfold bs
  go_wp2_with fail
  refine (H3.out w2 (HT.out.same (hF1.trans hF2))).mono ?_
  rintro e w3 ⟨rfl, hF3⟩
  unfold Ins.val
  have hF4 := Fr.alloc (fun _ => False) w3 (.cells #[.int .i64 8, .int .i64 7, .int .i64 0, .int .i64 0, .int .i64 31] 35)
  go_wp2_with fail
  refine (H4.out _ (HT.out.same (((hF1.trans hF2).trans hF3).trans hF4))).mono ?_
  rintro e w4 ⟨A, c, L, rfl, hL, ho, hF5⟩
  obtain ⟨b, off, rfl, hb, hcell⟩ := ho.prg (by rw [hL]; decide)
  obtain ⟨A2, c2, q0, q1, hcod⟩ := hcell 0 ⟨0, [⟨16, 0, 0, 0, 0⟩]⟩ (by rw [hL]; rfl)
  obtain ⟨b2, off2, rfl, hb2, hcell2⟩ := hcod (by decide)
  obtain ⟨r0, r1, r2, r3, r4⟩ := hcell2 0 ⟨16, 0, 0, 0, 0⟩ rfl
  have hl : L.length = 1 := by have := congrArg List.length hL; simpa using this
  rw [hl]
  simp only [Nat.zero_mul, Nat.add_zero, Nat.zero_add, List.length_cons, List.length_nil] at q0 q1 r0 r1 r2 r3 r4
  have hB4 := (Blk.new w3 #[.int .i64 8, .int .i64 7, .int .i64 0, .int .i64 0, .int .i64 31] 35).keep hF5 (fun h => h)
  obtain ⟨p0, p1, p2, p3, p4⟩ : _ ∧ _ ∧ _ ∧ _ ∧ _ := ⟨hB4.cell (i := 0) rfl, hB4.cell (i := 1) rfl, hB4.cell (i := 2) rfl, hB4.cell (i := 3) rfl, hB4.cell (i := 4) rfl⟩
  have l4 := hB4.lt
  have HFF := hid ((((hF1.trans hF2).trans hF3).trans hF4).trans hF5)
  clear hB4 hcell hcod hcell2 ho hL hl H1 H2 H3 H4 HT hF1 hF2 hF3 hF4 hF5
  go_wp2_with fail
  go_ret
  exact ⟨rfl, HFF.out.trans (Fr.alloc _ _ _)⟩

end Go.Proofs.YtepbnneggpcbcaaGreatDoor
