/-
  The reference's names and forms.
-/
import Derived.Test.YtepbnneggpcbcaaGreatDoorRefNum
namespace Go.Proofs.YtepbnneggpcbcaaGreatDoor
open Go.RowKit

def fms : List Bs := [[114, 32, 32, 110], [114, 114, 32, 32], [114, 114, 114, 32], [114, 114, 114, 32], [114, 114, 114, 32], [114, 114, 114, 32], [32, 32, 32, 110], [114, 32, 32, 110], [104, 32, 32, 102], [114, 104, 32, 32], [114, 114, 104, 32], [32, 32, 32, 110], [114, 32, 32, 32], [32, 32, 32, 32], [32, 32, 32, 32], [114, 32, 32, 32], [114, 32, 32, 32]]
def fm (op : Nat) : Bs := fms.getD op []

def lt (a : Nat) : UInt8 := if a = 0 then 32 else if a = 4 then 110 else (mk a).headD 0

/-- What the letter k of a form says. -/
theorem fm_at : ∀ op, op < 17 → ∀ k, k < 4 → (fm op)[k]? = some (lt (ak op k)) := by decide
theorem fm_len : ∀ op, op < 17 → (fm op).length = 4 := by decide
theorem lt_of : ∀ a, a ≤ 4 → (a = 0 → lt a = 32) ∧ (a = 4 → lt a = 110) := by decide
theorem lt_mk : ∀ a, 1 ≤ a → a ≤ 3 → mk a = [lt a] ∧ lt a ≠ 32 ∧ lt a ≠ 110 := by
  intro a h1 h3
  have : a = 1 ∨ a = 2 ∨ a = 3 := by omega
  rcases this with rfl | rfl | rfl <;> exact ⟨by decide, by decide, by decide⟩

set_option maxRecDepth 100000 in
set_option maxHeartbeats 4000000 in
theorem forms_any (o : Int) (h0 : 0 ≤ o) (h1 : o < 17) (w : World) : Calls Tryz.prog 37 #[.int .i64 o] w fun e w' => e = .returned (.string (bs (fm o.toNat))) ∧ w = w' := by
  have hc : o = 0 ∨ o = 1 ∨ o = 2 ∨ o = 3 ∨ o = 4 ∨ o = 5 ∨ o = 6 ∨ o = 7 ∨ o = 8 ∨ o = 9 ∨ o = 10 ∨ o = 11 ∨ o = 12 ∨ o = 13 ∨ o = 14 ∨ o = 15 ∨ o = 16 := by omega
  clear h0 h1
  rcases hc with rfl | rfl | rfl | rfl | rfl | rfl | rfl | rfl | rfl | rfl | rfl | rfl | rfl | rfl | rfl | rfl | rfl
  all_goals
    go_enter Tryz.func37, Tryz.ntmps37
    go_wp2_with fail
    go_ret
    exact ⟨rfl, rfl⟩

set_option maxRecDepth 100000 in
set_option maxHeartbeats 2000000 in
theorem names_any (w : World) : Calls Tryz.prog 36 #[] w fun e w' => e = .returned (.slice (some ⟨w.heap.size, 0, none⟩) 17 17) ∧ w' = w.alloc (.cells (strs names).toArray 9) := by
  go_enter Tryz.func36, Tryz.ntmps36
  go_wp2_with fail
  go_ret
  exact ⟨rfl, rfl⟩

end Go.Proofs.YtepbnneggpcbcaaGreatDoor
