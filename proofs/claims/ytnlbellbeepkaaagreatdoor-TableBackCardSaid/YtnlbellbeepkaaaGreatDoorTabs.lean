/-
  Stage 7: what stands in the tables that the program reads; numerals; words put together.
-/
import Derived.Test.YtnlbellbeepkaaaGreatDoorTxt
import Derived.Test.YtnlbellbeepkaaaGreatDoorCloses
namespace Go.Proofs.YtnlbellbeepkaaaGreatDoor
open Go.RowKit
set_option linter.unusedVariables false

/-- The cells of the tables. -/
structure Tabs (w : World) : Prop where
  two : 2 ≤ w.heap.size
  kds : ∀ k, k < 5 → w.cell? ⟨0, k, none⟩ = some (.string (bs (kindT.getD k [])))
  pow : ∃ t fz, w.heap[(1 : Nat)]? = some (.cells (Lib.pow10Tab.map fun z => Value.int .u64 z).toArray t fz)

theorem Tabs.same {w w' : World} (h : Tabs w) (f : Fr (fun _ => False) w w') : Tabs w' := by
  have h2 := h.two
  refine ⟨Nat.le_trans h2 f.size, fun k hk => ?_, ?_⟩
  · rw [cell_keep f (p := ⟨0, k, none⟩) (by show (0 : Nat) < _; omega) (fun h => h)]
    exact h.kds k hk
  · rw [f.block _ (by omega) (fun h => h)]
    exact h.pow

theorem Tabs.powTab {w : World} (h : Tabs w) : Lib.TabIs Tryz.prog w "internal/strconv.uint64pow10" .u64 Lib.pow10Tab := by
  obtain ⟨t, fz, hb⟩ := h.pow
  unfold Lib.TabIs World.var?
  rw [show Tryz.prog.globalNamed "internal/strconv.uint64pow10" = some 1 by kernel_rfl]
  simp [hb]

theorem itoa_ok (x : Int) (h0 : -9223372036854775808 ≤ x) (h1 : x ≤ 9223372036854775807) (w : World) (ht : Tabs w) :
    Calls Tryz.prog 21 #[.int .i64 x] w fun e w' => e = .returned (.string (bs (Lib.itoa x))) ∧ Fr (fun _ => False) w w' := by
  refine (Tryz.strconv_Itoa x h0 h1 w ht.powTab).mono fun e w' ⟨he, k, os, hw⟩ => ⟨he, ?_⟩
  subst hw
  exact ⟨rfl, rfl, rfl, by simp [Go.Sort.grow], fun j hj _ => by
    show ((w.drewN k).heap ++ os)[j]? = _
    rw [Array.getElem?_append_left (by simpa using hj)]
    rfl⟩

theorem format_ok (x : Int) (h0 : -9223372036854775808 ≤ x) (h1 : x ≤ 9223372036854775807) (w : World) (ht : Tabs w) :
    Calls Tryz.prog 22 #[.int .i64 x, .int .i64 10] w fun e w' => e = .returned (.string (bs (Lib.itoa x))) ∧ Fr (fun _ => False) w w' := by
  refine (Tryz.strconv_FormatInt_10 x h0 h1 w ht.powTab).mono fun e w' ⟨he, k, os, hw⟩ => ⟨he, ?_⟩
  subst hw
  exact ⟨rfl, rfl, rfl, by simp [Go.Sort.grow], fun j hj _ => by
    show ((w.drewN k).heap ++ os)[j]? = _
    rw [Array.getElem?_append_left (by simpa using hj)]
    rfl⟩

theorem join7 (W : World) (g : Nat) (l : List Bs) (hB : Blk W g (l.map fun x => Value.string (bs x)).toArray) (hl : l.length = 7) (hlen : (glue 32 l).length ≤ 1000000) :
    Calls Tryz.prog 23 #[.slice (some ⟨g, 0, none⟩) 7 7, .string ⟨#[32]⟩] W fun e w' => e = .returned (.string (bs (glue 32 l))) ∧ Fr (fun _ => False) W w' := by
  have hJ := Tryz.strings_Join g 0 7 (l.map bs) (bs [32]) W (fun j x hx => by
    rw [List.getElem?_map] at hx
    obtain ⟨y, hy, rfl⟩ := Option.map_eq_some_iff.1 hx
    rw [Nat.zero_add]
    refine hB.cell ?_
    rw [List.getElem?_toArray, List.getElem?_map, hy]
    rfl) hB.lt (by simp [hl]) (by simp [hl]) (by
      rw [List.map_map, show (fun s : ByteArray => s.data.toList) ∘ bs = id from rfl, List.map_id]
      show (Lib.join l [32]).length ≤ _
      rw [glue_join]; omega)
  rw [List.map_map, show (fun s : ByteArray => s.data.toList) ∘ bs = id from rfl, List.map_id, List.length_map, show (bs [32]).data.toList = [32] from rfl, glue_join, hl] at hJ
  exact hJ.mono fun e w' ⟨he, hb⟩ => ⟨he, Fr.ofBelow hb⟩

def TxPost (r : Tw) (w : World) (e : Ending) (w' : World) : Prop := e = .returned (.string (bs (rowT r))) ∧ Fr (fun _ => False) w w'

theorem add_nl (l : Bs) (h : l.length ≤ 1000000) : ∀ W, (Op.stringOp .add (bs l) ⟨#[10]⟩).run Tryz.prog W = .ok (.string (bs (l ++ [10]))) W := by
  intro W
  have e : bs (l ++ [10]) = bs l ++ ⟨#[10]⟩ := by
    unfold bs
    apply ByteArray.ext
    simp
  have h2 : (bs l).size ≤ 1000000 := by rw [bs_size]; exact h
  have h3 : (⟨#[10]⟩ : ByteArray).size = 1 := rfl
  rw [e]
  exact run_string_add_sum W _ _ (Nat.le_trans (Nat.add_le_add h2 (Nat.le_of_eq h3)) (by decide))

end Go.Proofs.YtnlbellbeepkaaaGreatDoor
