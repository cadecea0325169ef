/-
  CodeBytes' walk.
-/
import Derived.Test.YtecobbojbdfffaaDoorMay
namespace Go.Proofs.YtecobbojbdfffaaDoor
open Go.RowKit

theorem chk_n {i : Ins} (h : chk i = 0) : -2147483648 ≤ i.n ∧ i.n ≤ 2147483647 := by
  by_cases ho : i.op < 0 ∨ 16 < i.op
  · unfold chk at h
    rw [if_pos ho] at h
    cases h
  · unfold chk at h
    rw [if_neg ho] at h
    have hw : i.wrong = false := by
      cases hh : i.wrong
      · rfl
      · rw [hh] at h
        cases h
    unfold Ins.wrong at hw
    simp only [Bool.or_eq_false_iff] at hw
    have hb := not_bad hw.2
    have hh : ∀ o, o ≤ 16 → -2147483648 ≤ lo o 3 ∧ hi o 3 ≤ 2147483647 := by decide
    have := hh i.op.toNat (by omega)
    omega

set_option maxRecDepth 100000 in
set_option maxHeartbeats 1000000 in
theorem bytesWalk_no (i : Ins) (w : World) (ht : Tabs w) (h : chk i ≠ 0) :
    Calls Tryd.prog 4 #[i.val] w fun e w' => e = .returned (.bool true) ∧ Fr (fun _ => False) w w' := by
  have HC := hid (fun W hW => encode_no i W hW h)
  have HR := hid (rcheck_any i)
  have hA := Fr.alloc (fun _ => False) w (.cells #[.int .i64 i.op, .int .i64 i.a, .int .i64 i.b, .int .i64 i.c, .int .i64 i.n] 23)
  have hT := ht.same hA
  obtain ⟨x, hx⟩ : ∃ x, chk i = x := ⟨_, rfl⟩
  rw [hx] at HC HR h
  have t1 : (x != 0) = true := by simpa using h
  clear hx ht h
  unfold Ins.val at *
  go_enter Tryd.func4, Tryd.ntmps4
  have hB := Blk.new w #[.int .i64 i.op, .int .i64 i.a, .int .i64 i.b, .int .i64 i.c, .int .i64 i.n] 23
  go_wp2_with fail
  refine (HC.out _ hT).mono ?_
  rintro e w1 ⟨rfl, hF1⟩
  have hB1 := hB.keep hF1 (fun h => h)
  obtain ⟨p0, p1, p2, p3, p4⟩ := hB1.five
  have hl := hB1.lt
  go_wp2_with fail
  refine (HR.out w1).mono ?_
  rintro e w2 ⟨rfl, hF2⟩
  clear p0 p1 p2 p3 p4
  go_wp2_with fail
  refine (awake_ok w2 ((hT.same hF1).same hF2)).mono ?_
  rintro e w3 ⟨rfl, hF3⟩
  go_wp2_with fail
  go_ret
  exact ⟨rfl, hA.trans (hF1.trans (hF2.trans hF3))⟩

theorem REnc.bys {w : World} {g : Nat} {l : List Int} (h : Blk w g (byts l).toArray) : Bys w (g + 1) (some ⟨g, 0, none⟩) l := fun _ =>
  ⟨g, 0, rfl, by omega, fun k x hx => by
    rw [Nat.zero_add]
    exact h.cell (by simp [byts, hx])⟩

set_option maxRecDepth 100000 in
set_option maxHeartbeats 1000000 in
theorem bytesWalk_ok (i : Ins) (w : World) (ht : Tabs w) (h : chk i = 0) :
    Calls Tryd.prog 4 #[i.val] w fun e w' => e = .returned (.bool true) ∧ Fr (fun _ => False) w w' := by
  have HC := hid (fun W hW => encode_ok i W hW h)
  have HR := hid (rcheck_any i)
  obtain ⟨n1, n2⟩ := chk_n h
  have HE := hid (fun W => rencode_any i W n1 n2)
  rw [h] at HR
  have hA := Fr.alloc (fun _ => False) w (.cells #[.int .i64 i.op, .int .i64 i.a, .int .i64 i.b, .int .i64 i.c, .int .i64 i.n] 23)
  have hT := ht.same hA
  clear ht h n1 n2
  unfold Ins.val at *
  go_enter Tryd.func4, Tryd.ntmps4
  have hB := Blk.new w #[.int .i64 i.op, .int .i64 i.a, .int .i64 i.b, .int .i64 i.c, .int .i64 i.n] 23
  go_wp2_with fail
  refine (HC.out _ hT).mono ?_
  rintro e w1 ⟨A1, c1, rfl, ho1, hF1⟩
  have HO1 := hid ho1
  clear ho1
  have hB1 := hB.keep hF1 (fun h => h)
  obtain ⟨p0, p1, p2, p3, p4⟩ := hB1.five
  have hl := hB1.lt
  go_wp2_with fail
  refine (HR.out w1).mono ?_
  rintro e w2 ⟨rfl, hF2⟩
  have hB2 := hB1.keep hF2 (fun h => h)
  clear p0 p1 p2 p3 p4
  obtain ⟨p0, p1, p2, p3, p4⟩ := hB2.five
  have hl2 := hB2.lt
  go_wp2_with fail
  refine (HE.out w2).mono ?_
  rintro e w3 ⟨g, rfl, hg, hbg, hF3⟩
  have HBB := hid (bytes_any _ _ A1 (some ⟨g, 0, none⟩) 8 8 c1 8 _ _ w3 (bys_own HO1.out (hF2.trans hF3)) (REnc.bys hbg) (by simp [encB]) (by simp [encB]) (by omega) (by omega))
  rw [show SameB (encB i) (encB i) = true by simp [SameB]] at HBB
  clear hbg
  go_wp2_with fail
  refine HBB.out.mono ?_
  rintro e w4 ⟨rfl, hF4⟩
  go_wp2_with fail
  refine (awake_ok w4 (((((hT.same hF1).same hF2)).same hF3).same hF4)).mono ?_
  rintro e w5 ⟨rfl, hF5⟩
  go_wp2_with fail
  go_ret
  exact ⟨rfl, hA.trans (hF1.trans (hF2.trans (hF3.trans (hF4.trans hF5))))⟩

theorem bytesWalk (i : Ins) (w : World) (ht : Tabs w) :
    Calls Tryd.prog 4 #[i.val] w fun e w' => e = .returned (.bool true) ∧ Fr (fun _ => False) w w' := by
  by_cases h : chk i = 0
  · exact bytesWalk_ok i w ht h
  · exact bytesWalk_no i w ht h

end Go.Proofs.YtecobbojbdfffaaDoor
