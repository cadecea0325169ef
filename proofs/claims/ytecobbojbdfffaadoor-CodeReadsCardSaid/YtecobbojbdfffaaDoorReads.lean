/-
  CodeReads' walk.
-/
import Derived.Test.YtecobbojbdfffaaDoorRefDecode
namespace Go.Proofs.YtecobbojbdfffaaDoor
open Go.RowKit

set_option maxRecDepth 100000 in
set_option maxHeartbeats 1000000 in
theorem readsWalk_long (A : Option Addr) (n cap : Nat) (w : World) (ht : Tabs w) (h : 20 < n) :
    Calls Tryd.prog 5 #[.slice A n cap] w fun e w' => e = .returned (.bool true) ∧ Fr (fun _ => False) w w' := by
  go_enter Tryd.func5, Tryd.ntmps5
  go_wp2_with fail
  refine (awake_ok w ht).mono ?_
  rintro e w3 ⟨rfl, hF3⟩
  go_wp2_with fail
  go_ret
  exact ⟨rfl, hF3⟩

set_option maxRecDepth 100000 in
set_option maxHeartbeats 1000000 in
theorem readsWalk_short (A : Option Addr) (n cap : Nat) (w : World) (ht : Tabs w) (h : n ≤ 20) (h8 : n ≠ 8) :
    Calls Tryd.prog 5 #[.slice A n cap] w fun e w' => e = .returned (.bool true) ∧ Fr (fun _ => False) w w' := by
  have t1 : ((n : Int) != 8) = true := by simpa using (by omega : ¬ (n : Int) = 8)
  have HD := hid (decode_short A n cap w h8)
  unfold Ins.val Ins.zero at HD
  simp only at HD
  go_enter Tryd.func5, Tryd.ntmps5
  go_wp2_with fail
  refine HD.out.mono ?_
  rintro e w1 ⟨rfl, hF1⟩
  go_wp2_with fail
  have hF2 := Fr.alloc (fun _ => False) w1 (.cells #[.int .i64 0, .int .i64 0, .int .i64 0, .int .i64 0, .int .i64 0] 23)
  refine (awake_ok _ (ht.same (hF1.trans hF2))).mono ?_
  rintro e w3 ⟨rfl, hF3⟩
  go_wp2_with fail
  go_ret
  exact ⟨rfl, hF1.trans (hF2.trans hF3)⟩

set_option maxRecDepth 100000 in
set_option maxHeartbeats 1000000 in
theorem readsWalk_eight (A : Option Addr) (cap : Nat) (l : List Int) (w : World) (ht : Tabs w) (hb : Bys w w.heap.size A l) (hl : l.length = 8) (hy : AllB l) :
    Calls Tryd.prog 5 #[.slice A 8 cap] w fun e w' => e = .returned (.bool true) ∧ Fr (fun _ => False) w w' := by
  have hd := decode_any A 8 cap l w ht hb hl hy
  have hr := fun (W : World) (f : Fr (fun _ => False) w W) => rdecode_any A 8 0 cap l W ((hb.same f (Nat.le_refl _)).more f.size) hl hy (by omega) (by omega)
  rw [show (l.drop 0).take 8 = l by rw [List.drop_zero]; exact List.take_of_length_le (by omega)] at hr
  obtain ⟨⟨op, a, b, c, m⟩, hj⟩ : ∃ j, decIns l = j := ⟨_, rfl⟩
  obtain ⟨y, hy'⟩ : ∃ y, decErr l = y := ⟨_, rfl⟩
  rw [hj, hy'] at hd hr
  have HD := hid hd
  have HR := hid hr
  clear hd hr hj hy' hb hl hy
  unfold Ins.val at HD HR
  simp only [show ((0 : Nat) : Int) = 0 from rfl] at HD HR
  go_enter Tryd.func5, Tryd.ntmps5
  go_wp2_with fail
  refine HD.out.mono ?_
  rintro e w1 ⟨rfl, hF1⟩
  have hF2 := Fr.alloc (fun _ => False) w1 (.cells #[.int .i64 op, .int .i64 a, .int .i64 b, .int .i64 c, .int .i64 m] 23)
  have hB2 := Blk.new w1 #[.int .i64 op, .int .i64 a, .int .i64 b, .int .i64 c, .int .i64 m] 23
  go_wp2_with fail
  refine (HR.out _ (hF1.trans hF2)).mono ?_
  rintro e w2 ⟨rfl, hF3⟩
  have hB3 := hB2.keep hF3 (fun h => h)
  obtain ⟨p0, p1, p2, p3, p4⟩ := hB3.five (i := ⟨op, a, b, c, m⟩)
  simp only at p0 p1 p2 p3 p4
  have l3 := hB3.lt
  go_wp2_with fail
  have hF4 := Fr.alloc (fun _ => False) w2 (.cells #[.int .i64 op, .int .i64 a, .int .i64 b, .int .i64 c, .int .i64 m] 23)
  refine (awake_ok _ (ht.same (hF1.trans (hF2.trans (hF3.trans hF4))))).mono ?_
  rintro e w3 ⟨rfl, hF5⟩
  go_wp2_with fail
  go_ret
  exact ⟨rfl, hF1.trans (hF2.trans (hF3.trans (hF4.trans hF5)))⟩

theorem readsWalk (A : Option Addr) (n cap : Nat) (l : List Int) (w : World) (ht : Tabs w) (hb : Bys w w.heap.size A l) (hl : l.length = n) (hy : AllB l) :
    Calls Tryd.prog 5 #[.slice A n cap] w fun e w' => e = .returned (.bool true) ∧ Fr (fun _ => False) w w' := by
  by_cases h : 20 < n
  · exact readsWalk_long A n cap w ht h
  · by_cases h8 : n = 8
    · subst h8
      exact readsWalk_eight A cap l w ht hb hl hy
    · exact readsWalk_short A n cap w ht (by omega) h8

end Go.Proofs.YtecobbojbdfffaaDoor
