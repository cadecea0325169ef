/-
  AsmBack's walk.
-/
import Derived.Test.YtepbnneggpcbcaaDoorBlank
namespace Go.Proofs.YtepbnneggpcbcaaDoor
open Go.RowKit

set_option maxRecDepth 100000 in
set_option maxHeartbeats 1000000 in
theorem back_long (i : Ins) (S : ByteArray) (w : World) (ht : Tabs w) (h : 100 < S.size) (hs : S.size ≤ maxLen) :
    Calls Tryd.prog 5 #[i.val, .string S] w (LawPost w) := by
  have HA := hid awake_ok
  have hA := Fr.alloc (fun _ => False) w (.cells #[.int .i64 i.op, .int .i64 i.a, .int .i64 i.b, .int .i64 i.c, .int .i64 i.n] 23)
  have HS := hid hs
  clear hs
  unfold Ins.val at *
  go_enter Tryd.func5, Tryd.ntmps5
  go_wp2_with fail
  refine (HA.out _ (ht.same hA)).mono ?_
  rintro e w2 ⟨rfl, hF2⟩
  go_wp2_with fail
  go_ret
  exact ⟨rfl, hA.trans hF2⟩

/-- The rest of the law, at any world: what a text reads as. -/
def TailPost (S : ByteArray) : Prop :=
  (∃ y, y ≠ 0 ∧ ∀ w, Tabs w → Calls Tryd.prog 14 #[.string S] w (RdPost w (Ins.zero, y))) ∨
  (∃ j : Ins, (∀ w, Tabs w → Calls Tryd.prog 14 #[.string S] w (RdPost w (j, 0))) ∧
    ∀ w, Tabs w → Calls Tryd.prog 10 #[j.val] w fun e w' => e = .returned (.tuple #[.string S, .int .i64 0]) ∧ Fr (fun _ => False) w w')

theorem tail_of (l : Bs) (hl : l.length ≤ 100) : TailPost (bs l) := by
  have hR := fun w ht => read_any l (Nat.le_trans hl (by decide)) w ht
  obtain ⟨⟨j, y⟩, hq⟩ : ∃ q, rd l = q := ⟨_, rfl⟩
  rw [hq] at hR
  by_cases hy : y = 0
  · subst hy
    obtain ⟨h1, h2⟩ := txt_rd l j hq
    refine .inr ⟨j, hR, fun w ht => ?_⟩
    have := line_any j w ht
    rw [show lnV j = (txt j, 0) by unfold lnV; rw [if_pos h1], h2] at this
    exact this
  · obtain rfl := rd_bad hq hy
    exact .inl ⟨y, hy, hR⟩

set_option maxRecDepth 100000 in
set_option maxHeartbeats 4000000 in
theorem back_no (i : Ins) (S : ByteArray) (w : World) (ht : Tabs w) (h : S.size ≤ 100) (ht2 : TailPost S) (hc : chk i ≠ 0) :
    Calls Tryd.prog 5 #[i.val, .string S] w (LawPost w) := by
  have HA := hid awake_ok
  have hA := Fr.alloc (fun _ => False) w (.cells #[.int .i64 i.op, .int .i64 i.a, .int .i64 i.b, .int .i64 i.c, .int .i64 i.n] 23)
  have HL := hid (line_any i)
  rw [show lnV i = ([], chk i) by unfold lnV; rw [if_neg hc]] at HL
  obtain ⟨x, hx⟩ : ∃ x, chk i = x := ⟨_, rfl⟩
  rw [hx] at HL hc
  have t1 : (x == 0) = false := by simpa using hc
  clear hx hc
  rcases ht2 with ⟨y, hy, hR⟩ | ⟨⟨o2, a2, b2, c2, n2⟩, hR, hL2⟩
  · have HR := hid hR
    have t2 : (y != 0) = true := by simpa using hy
    clear hR hy
    unfold Ins.val at *
    go_enter Tryd.func5, Tryd.ntmps5
    go_wp2_with fail
    refine (HL.out _ (ht.same hA)).mono ?_
    rintro e w1 ⟨rfl, hF1⟩
    go_wp2_with fail
    refine (HR.out _ (ht.same (hA.trans hF1))).mono ?_
    rintro e w2 ⟨rfl, hF2⟩
    unfold Ins.val Ins.zero
    have hF3 := (((hA.trans hF1).trans hF2).trans (Fr.alloc (fun _ => False) w2 (.cells #[.int .i64 0, .int .i64 0, .int .i64 0, .int .i64 0, .int .i64 0] 23)))
    go_wp2_with fail
    refine (HA.out _ (ht.same hF3)).mono ?_
    rintro e w3 ⟨rfl, hF4⟩
    go_wp2_with fail
    go_ret
    exact ⟨rfl, hF3.trans hF4⟩
  · have HR := hid hR
    have HL2 := hid hL2
    clear hR hL2
    unfold Ins.val at *
    go_enter Tryd.func5, Tryd.ntmps5
    go_wp2_with fail
    refine (HL.out _ (ht.same hA)).mono ?_
    rintro e w1 ⟨rfl, hF1⟩
    go_wp2_with fail
    refine (HR.out _ (ht.same (hA.trans hF1))).mono ?_
    rintro e w2 ⟨rfl, hF2⟩
    unfold Ins.val
    have hF3 := (((hA.trans hF1).trans hF2).trans (Fr.alloc (fun _ => False) w2 (.cells #[.int .i64 o2, .int .i64 a2, .int .i64 b2, .int .i64 c2, .int .i64 n2] 23)))
    go_wp2_with fail
    refine (HL2.out _ (ht.same hF3)).mono ?_
    rintro e w3 ⟨rfl, hF4⟩
    go_wp2_with fail
    refine (HA.out _ (ht.same (hF3.trans hF4))).mono ?_
    rintro e w4 ⟨rfl, hF5⟩
    go_wp2_with fail
    go_ret
    exact ⟨rfl, (hF3.trans hF4).trans hF5⟩

set_option maxRecDepth 100000 in
set_option maxHeartbeats 4000000 in
theorem back_ok (i : Ins) (S : ByteArray) (w : World) (ht : Tabs w) (h : S.size ≤ 100) (ht2 : TailPost S) (hc : chk i = 0) :
    Calls Tryd.prog 5 #[i.val, .string S] w (LawPost w) := by
  have HA := hid awake_ok
  have hA := Fr.alloc (fun _ => False) w (.cells #[.int .i64 i.op, .int .i64 i.a, .int .i64 i.b, .int .i64 i.c, .int .i64 i.n] 23)
  have hB := Blk.new w #[.int .i64 i.op, .int .i64 i.a, .int .i64 i.b, .int .i64 i.c, .int .i64 i.n] 23
  have HL := hid (line_any i)
  rw [show lnV i = (txt i, 0) by unfold lnV; rw [if_pos hc]] at HL
  have hR1 := fun w ht => read_any (txt i) (Nat.le_trans (txt_len i hc) (by decide)) w ht
  rw [rd_txt i hc] at hR1
  have HR1 := hid hR1
  clear hR1 hc
  rcases ht2 with ⟨y, hy, hR⟩ | ⟨⟨o2, a2, b2, c2, n2⟩, hR, hL2⟩
  · have HR := hid hR
    have t2 : (y != 0) = true := by simpa using hy
    clear hR hy
    unfold Ins.val at *
    go_enter Tryd.func5, Tryd.ntmps5
    go_wp2_with fail
    refine (HL.out _ (ht.same hA)).mono ?_
    rintro e w1 ⟨rfl, hF1⟩
    go_wp2_with fail
    refine (HR1.out _ (ht.same (hA.trans hF1))).mono ?_
    rintro e u1 ⟨rfl, hG1⟩
    unfold Ins.val
    have hB1 := hB.keep (hF1.trans hG1) (fun h => h)
    obtain ⟨p0, p1, p2, p3, p4⟩ := hB1.five
    have l1 := hB1.lt
    have hF2 := ((hA.trans hF1).trans hG1).trans (Fr.alloc (fun _ => False) u1 (.cells #[.int .i64 i.op, .int .i64 i.a, .int .i64 i.b, .int .i64 i.c, .int .i64 i.n] 23))
    go_wp2_with fail
    refine (HR.out _ (ht.same hF2)).mono ?_
    rintro e w2 ⟨rfl, hG2⟩
    clear p0 p1 p2 p3 p4 l1
    unfold Ins.val Ins.zero
    have hF3 := ((hF2.trans hG2).trans (Fr.alloc (fun _ => False) w2 (.cells #[.int .i64 0, .int .i64 0, .int .i64 0, .int .i64 0, .int .i64 0] 23)))
    go_wp2_with fail
    refine (HA.out _ (ht.same hF3)).mono ?_
    rintro e w3 ⟨rfl, hF4⟩
    go_wp2_with fail
    go_ret
    exact ⟨rfl, hF3.trans hF4⟩
  · have HR := hid hR
    have HL2 := hid hL2
    clear hR hL2
    unfold Ins.val at *
    go_enter Tryd.func5, Tryd.ntmps5
    go_wp2_with fail
    refine (HL.out _ (ht.same hA)).mono ?_
    rintro e w1 ⟨rfl, hF1⟩
    go_wp2_with fail
    refine (HR1.out _ (ht.same (hA.trans hF1))).mono ?_
    rintro e u1 ⟨rfl, hG1⟩
    unfold Ins.val
    have hB1 := hB.keep (hF1.trans hG1) (fun h => h)
    obtain ⟨p0, p1, p2, p3, p4⟩ := hB1.five
    have l1 := hB1.lt
    have hF2 := ((hA.trans hF1).trans hG1).trans (Fr.alloc (fun _ => False) u1 (.cells #[.int .i64 i.op, .int .i64 i.a, .int .i64 i.b, .int .i64 i.c, .int .i64 i.n] 23))
    go_wp2_with fail
    refine (HR.out _ (ht.same hF2)).mono ?_
    rintro e w2 ⟨rfl, hG2⟩
    clear p0 p1 p2 p3 p4 l1
    unfold Ins.val
    have hF3 := ((hF2.trans hG2).trans (Fr.alloc (fun _ => False) w2 (.cells #[.int .i64 o2, .int .i64 a2, .int .i64 b2, .int .i64 c2, .int .i64 n2] 23)))
    go_wp2_with fail
    refine (HL2.out _ (ht.same hF3)).mono ?_
    rintro e w3 ⟨rfl, hF4⟩
    go_wp2_with fail
    refine (HA.out _ (ht.same (hF3.trans hF4))).mono ?_
    rintro e w4 ⟨rfl, hF5⟩
    go_wp2_with fail
    go_ret
    exact ⟨rfl, (hF3.trans hF4).trans hF5⟩

theorem back_any (i : Ins) (l : Bs) (hs : (bs l).size ≤ maxLen) (w : World) (ht : Tabs w) : Calls Tryd.prog 5 #[i.val, .string (bs l)] w (LawPost w) := by
  by_cases h : 100 < (bs l).size
  · exact back_long i _ w ht h hs
  · have hl : l.length ≤ 100 := by rw [bs_size] at h; omega
    by_cases hc : chk i = 0
    · exact back_ok i _ w ht (by omega) (tail_of l hl) hc
    · exact back_no i _ w ht (by omega) (tail_of l hl) hc

end Go.Proofs.YtepbnneggpcbcaaDoor
