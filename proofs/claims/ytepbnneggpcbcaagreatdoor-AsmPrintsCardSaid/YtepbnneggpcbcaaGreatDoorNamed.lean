/-
  asm.named, asm.fields.
-/
import Derived.Test.YtepbnneggpcbcaaGreatDoorTabs
import Derived.Test.YtepbnneggpcbcaaGreatDoorProg
import Derived.Test.YtepbnneggpcbcaaGreatDoorOwn
namespace Go.Proofs.YtepbnneggpcbcaaGreatDoor
open Go.RowKit

theorem bs_toList (l : Bs) : (bs l).toList = l := by
  unfold bs
  rw [ByteArray.toList_eq]
theorem bs_data (l : Bs) : (bs l).data.toList = l := rfl
theorem bs_size (l : Bs) : (bs l).size = l.length := rfl
theorem bs_of (s : ByteArray) : ∃ l, s = bs l := ⟨s.data.toList, by unfold bs; simp⟩

theorem bs_yes {a b : Bs} (h : a = b) : ((bs a).toList == (bs b).toList) = true := by rw [h]; simp
theorem bs_no {a b : Bs} (h : a ≠ b) : ((bs a).toList == (bs b).toList) = false := by
  rw [bs_toList, bs_toList]
  simpa using h

/-- What named answers. -/
def nmV : Option Nat → Value
  | some op => .tuple #[.int .i64 (op : Int), .bool true]
  | none => .tuple #[.int .i64 0, .bool false]

def Not (l : Bs) (k : Nat) : Prop := ∀ j, j < k → names.getD j [] ≠ l
def NmRel (l : Bs) (s : Value) : Prop := ∃ k : Nat, k ≤ 17 ∧ s = .int .i64 k ∧ Not l k

theorem nameIx_at {l : Bs} {k : Nat} (hk : k < 17) (h : names.getD k [] = l) : nameIx l = some k := by rw [← h]; exact nameIx_some k hk
theorem nameIx_no {l : Bs} (h : Not l 17) : nameIx l = none := by
  cases hx : nameIx l with
  | none => rfl
  | some op =>
    obtain ⟨h1, h2⟩ := nameIx_lt hx
    exact absurd h2 (h op h1)

set_option maxHeartbeats 400000 in
theorem named_any (l : Bs) (w : World) (ht : Tabs w) :
    Calls Tryz.prog 22 #[.string (bs l)] w fun e w' => e = .returned (nmV (nameIx l)) ∧ w = w' := by
  have H0 := ht.two
  go_enter Tryz.func22, Tryz.ntmps22
  go_wp2
  go_loop [5] (fun s => NmRel l s) (fun s => 17 - (intOf s).toNat)
  case atStart => exact ⟨0, by omega, rfl, fun j hj => by omega⟩
  case round =>
    obtain ⟨k, hk, rfl, hn⟩ := hrel
    by_cases hlt : k < 17
    · have q := ht.nms k hlt
      by_cases hx : names.getD k [] = l
      · have HI := hid (nameIx_at hlt hx)
        rw [hx] at q
        clear hx hn
        go_wp2
        go_ret2
        exact ⟨by rw [HI.out]; rfl, rfl⟩
      · have HN := hid (show Not l (k + 1) from fun j hj => by
          rcases Nat.lt_or_ge j k with h | h
          · exact hn j h
          · obtain rfl : j = k := by omega
            exact hx)
        have t := bs_no hx
        generalize names.getD k [] = x at q t
        clear hx hn
        go_wp2
        go_round
        case rel => exact ⟨k + 1, by omega, by go_num, HN.out⟩
        case measure => simp [intOf]; omega
    · obtain rfl : k = 17 := by omega
      have HI := hid (nameIx_no hn)
      clear hn
      go_wp2
      go_ret2
      exact ⟨by rw [HI.out]; rfl, rfl⟩

end Go.Proofs.YtepbnneggpcbcaaGreatDoor
