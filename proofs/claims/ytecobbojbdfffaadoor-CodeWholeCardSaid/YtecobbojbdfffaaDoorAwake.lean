/-
  The chapter's examples.
-/
import Derived.Test.YtecobbojbdfffaaDoorPack
namespace Go.Proofs.YtecobbojbdfffaaDoor
open Go.RowKit

theorem bys_own {w : World} {B : Nat} {A : Option Addr} {n cap : Nat} {l : List Int} (h : OwnB w B A n cap l) {w' : World} (f : Fr (fun _ => False) w w') : Bys w' w'.heap.size A l :=
  (h.same f).bys

theorem bys_new (w : World) (t : TypeId) (l : List Int) : Bys (w.alloc (.cells (byts l).toArray t)) (w.heap.size + 1) (some ⟨w.heap.size, 0, none⟩) l := fun _ =>
  ⟨w.heap.size, 0, rfl, by omega, fun k x hx => by
    rw [Nat.zero_add]
    exact (Blk.new w (byts l).toArray t).cell (by simp [byts, hx])⟩

set_option maxRecDepth 100000 in
set_option maxHeartbeats 1000000 in
theorem awake_ok (w : World) (ht : Tabs w) :
    Calls Tryd.prog 15 #[] w fun e w' => e = .returned (.bool true) ∧ Fr (fun _ => False) w w' := by
  have HE := hid (encode_ok ⟨0, 2, 0, 0, -1⟩ w ht (by decide))
  unfold Ins.val at HE
  go_enter Tryd.func15, Tryd.ntmps15
  go_wp2_with fail
  refine HE.out.mono ?_
  rintro e w1 ⟨A1, c1, rfl, ho1, hF1⟩
  have HO1 := hid ho1
  clear ho1
  have hF2 : Fr (fun _ => False) w1 ((w1.alloc (.cells #[.int .i64 16, .int .i64 0, .int .i64 0, .int .i64 0, .int .i64 0] 23)).alloc (.cells #[.int .i64 0, .slice (some ⟨w1.heap.size, 0, none⟩) 1 1] 51)) := (Fr.alloc _ _ _).trans (Fr.alloc _ _ _)
  have hp : Prg ((w1.alloc (.cells #[.int .i64 16, .int .i64 0, .int .i64 0, .int .i64 0, .int .i64 0] 23)).alloc (.cells #[.int .i64 0, .slice (some ⟨w1.heap.size, 0, none⟩) 1 1] 51)) ((w1.alloc (.cells #[.int .i64 16, .int .i64 0, .int .i64 0, .int .i64 0, .int .i64 0] 23)).alloc (.cells #[.int .i64 0, .slice (some ⟨w1.heap.size, 0, none⟩) 1 1] 51)).heap.size (some ⟨w1.heap.size + 1, 0, none⟩) [⟨0, [⟨16, 0, 0, 0, 0⟩]⟩] := fun _ => by
    refine ⟨_, _, rfl, by simp, fun k f hf => ?_⟩
    rcases k with _ | k
    · simp at hf
      subst hf
      have hb := (Blk.new (w1.alloc (.cells #[.int .i64 16, .int .i64 0, .int .i64 0, .int .i64 0, .int .i64 0] 23)) #[.int .i64 0, .slice (some ⟨w1.heap.size, 0, none⟩) 1 1] 51).at (size_alloc _ _)
      have hb0 := (Blk.new w1 #[.int .i64 16, .int .i64 0, .int .i64 0, .int .i64 0, .int .i64 0] 23).alloc (.cells #[.int .i64 0, .slice (some ⟨w1.heap.size, 0, none⟩) 1 1] 51)
      refine ⟨some ⟨w1.heap.size, 0, none⟩, 1, hb.cell rfl, hb.cell rfl, fun _ => ⟨_, _, rfl, by simp; omega, fun k i hi => ?_⟩⟩
      rcases k with _ | k
      · simp at hi
        subst hi
        exact ⟨hb0.cell rfl, hb0.cell rfl, hb0.cell rfl, hb0.cell rfl, hb0.cell rfl⟩
      · simp at hi
    · simp at hf
  have HP := hid (pack_any (some ⟨w1.heap.size + 1, 0, none⟩) 1 _ _ ((ht.same hF1).same hF2) hp)
  simp only [List.length_cons, List.length_nil, Nat.zero_add] at HP
  clear hp
  go_wp2_with fail
  refine HP.out.mono ?_
  rintro e w2 (⟨_, A2, n2, c2, rfl, hn2, ho2, hF3⟩ | ⟨hne, _⟩)
  · have HL := hid ho2.len
    have hn2 : n2 = 11 := by have := ho2.len; simpa [packBytes, fnBytes, encB] using this.symm
    subst hn2
    have HO2 := hid ho2
    clear ho2
    have hb1 := bys_own (HO1.out.same (hF2.trans hF3)) (Fr.alloc (fun _ => False) w2 (.cells #[.int .u8 0, .int .u8 2, .int .u8 0, .int .u8 0, .int .u8 255, .int .u8 255, .int .u8 255, .int .u8 255] 5))
    have HB := hid (bytes_any _ _ A1 (some ⟨w2.heap.size, 0, none⟩) 8 8 c1 8 _ _ _ hb1 (bys_new w2 5 [0, 2, 0, 0, 255, 255, 255, 255]) (by decide) rfl (by omega) (by omega))
    rw [show SameB (encB ⟨0, 2, 0, 0, -1⟩) [0, 2, 0, 0, 255, 255, 255, 255] = true by decide] at HB
    clear hb1
    go_wp2_with fail
    refine HB.out.mono ?_
    rintro e w3 ⟨rfl, hF4⟩
    have hF5 := (Fr.alloc (fun _ => False) w2 (.cells #[.int .u8 0, .int .u8 2, .int .u8 0, .int .u8 0, .int .u8 255, .int .u8 255, .int .u8 255, .int .u8 255] 5)).trans hF4
    have hb1 := bys_own (HO2.out.same hF5) (Fr.alloc (fun _ => False) w3 (.cells #[.int .u8 1, .int .u8 0, .int .u8 1, .int .u8 16, .int .u8 0, .int .u8 0, .int .u8 0, .int .u8 0, .int .u8 0, .int .u8 0, .int .u8 0] 5))
    have HB2 := hid (bytes_any _ _ A2 (some ⟨w3.heap.size, 0, none⟩) 11 11 c2 11 _ _ _ hb1 (bys_new w3 5 [1, 0, 1, 16, 0, 0, 0, 0, 0, 0, 0]) (by decide) rfl (by omega) (by omega))
    rw [show SameB (packBytes [⟨0, [⟨16, 0, 0, 0, 0⟩]⟩]) [1, 0, 1, 16, 0, 0, 0, 0, 0, 0, 0] = true by decide] at HB2
    clear hb1
    go_wp2_with fail
    refine HB2.out.mono ?_
    rintro e w4 ⟨rfl, hF6⟩
    go_wp2_with fail
    go_ret
    exact ⟨rfl, (((hF1.trans hF2).trans hF3).trans hF5).trans ((Fr.alloc _ _ _).trans hF6)⟩
  · exact absurd (by decide) hne

end Go.Proofs.YtecobbojbdfffaaDoor
