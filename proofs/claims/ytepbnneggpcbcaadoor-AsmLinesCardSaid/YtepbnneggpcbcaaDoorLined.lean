/-
  AsmLines' walk.
-/
import Derived.Test.YtepbnneggpcbcaaDoorRefLine
namespace Go.Proofs.YtepbnneggpcbcaaDoor
open Go.RowKit

set_option maxRecDepth 100000 in
set_option maxHeartbeats 1000000 in
theorem lines_no (i : Ins) (w : World) (ht : Tabs w) (h : chk i ≠ 0) : Calls Tryd.prog 3 #[i.val] w (LawPost w) := by
  have HL := hid (line_any i)
  have HK := hid (rcheck_any i)
  have HA := hid awake_ok
  have hA := Fr.alloc (fun _ => False) w (.cells #[.int .i64 i.op, .int .i64 i.a, .int .i64 i.b, .int .i64 i.c, .int .i64 i.n] 23)
  have hbx := Blk.new w #[.int .i64 i.op, .int .i64 i.a, .int .i64 i.b, .int .i64 i.c, .int .i64 i.n] 23
  rw [show lnV i = ([], chk i) by unfold lnV; rw [if_neg h]] at HL
  obtain ⟨x, hx⟩ : ∃ x, chk i = x := ⟨_, rfl⟩
  rw [hx] at HL HK h
  have t1 : (x != 0) = true := by simpa using h
  have t2 : ((bs []).toList == []) = true := by rw [bs_toList]; rfl
  clear hx h
  unfold Ins.val at *
  go_enter Tryd.func3, Tryd.ntmps3
  go_wp2_with fail
  refine (HL.out _ (ht.same hA)).mono ?_
  rintro e w1 ⟨rfl, hF1⟩
  obtain ⟨p0, p1, p2, p3, p4⟩ := (hbx.keep hF1 (fun h => h)).five
  have l1 := (hbx.keep hF1 (fun h => h)).lt
  go_wp2_with fail
  refine (HK.out _).mono ?_
  rintro e w2 ⟨rfl, hF2⟩
  have hF12 := (hA.trans hF1).trans hF2
  clear p0 p1 p2 p3 p4 l1
  go_wp2_with fail
  refine (HA.out _ (ht.same hF12)).mono ?_
  rintro e w3 ⟨rfl, hF3⟩
  go_wp2_with fail
  go_ret
  exact ⟨rfl, hF12.trans hF3⟩

set_option maxRecDepth 100000 in
set_option maxHeartbeats 1000000 in
theorem lines_ok (i : Ins) (w : World) (ht : Tabs w) (h : chk i = 0) : Calls Tryd.prog 3 #[i.val] w (LawPost w) := by
  have HL := hid (line_any i)
  have HK := hid (rcheck_any i)
  have hR := rline_any i h
  unfold NumPost at hR
  have HA := hid awake_ok
  have hA := Fr.alloc (fun _ => False) w (.cells #[.int .i64 i.op, .int .i64 i.a, .int .i64 i.b, .int .i64 i.c, .int .i64 i.n] 23)
  have hbx := Blk.new w #[.int .i64 i.op, .int .i64 i.a, .int .i64 i.b, .int .i64 i.c, .int .i64 i.n] 23
  rw [show lnV i = (txt i, 0) by unfold lnV; rw [if_pos h]] at HL
  rw [h] at HK
  obtain ⟨S, hS⟩ : ∃ S, bs (txt i) = S := ⟨_, rfl⟩
  rw [hS] at hR
  have HR := hid hR
  have HS := hid hS
  clear h hR hS
  unfold Ins.val at *
  go_enter Tryd.func3, Tryd.ntmps3
  go_wp2_with fail
  refine (HL.out _ (ht.same hA)).mono ?_
  rintro e w1 ⟨rfl, hF1⟩
  simp only [HS.out]
  obtain ⟨p0, p1, p2, p3, p4⟩ := (hbx.keep hF1 (fun h => h)).five
  have l1 := (hbx.keep hF1 (fun h => h)).lt
  go_wp2_with fail
  refine (HK.out _).mono ?_
  rintro e w2 ⟨rfl, hF2⟩
  have hF12 := (hA.trans hF1).trans hF2
  clear p0 p1 p2 p3 p4 l1
  obtain ⟨p0, p1, p2, p3, p4⟩ := (hbx.keep (hF1.trans hF2) (fun h => h)).five
  have l1 := (hbx.keep (hF1.trans hF2) (fun h => h)).lt
  go_wp2_with fail
  refine (HR.out _).mono ?_
  rintro e w3 ⟨rfl, hF3⟩
  clear p0 p1 p2 p3 p4 l1
  go_wp2_with fail
  refine (HA.out _ (ht.same (hF12.trans hF3))).mono ?_
  rintro e w4 ⟨rfl, hF4⟩
  go_wp2_with fail
  go_ret
  exact ⟨rfl, (hF12.trans hF3).trans hF4⟩

theorem lines_all (i : Ins) (w : World) (ht : Tabs w) : Calls Tryd.prog 3 #[i.val] w (LawPost w) := by
  by_cases h : chk i = 0
  · exact lines_ok i w ht h
  · exact lines_no i w ht h

end Go.Proofs.YtepbnneggpcbcaaDoor
