/-
  CheckHeld.
-/
import Derived.Test.YthpkhcompkfcaaaDoorRefHeld
import Derived.Test.YthpkhcompkfcaaaDoorRefDepths
import Derived.Test.YthpkhcompkfcaaaDoorAwake
namespace Go.Proofs.YthpkhcompkfcaaaDoor
open Go.RowKit
set_option linter.unusedVariables false

/-- A row that is read from here on. -/
def Kept (w : World) (A : Option Addr) (L : List Int) : Prop := ∀ w', Fr (fun _ => False) w w' → Nums w' w'.heap.size A L
theorem Kept.mk {w : World} {A : Option Addr} {L : List Int} (h : Nums w w.heap.size A L) : Kept w A L := fun w' F => (h.same F (Nat.le_refl _)).more F.size
theorem Kept.at_ {w w' : World} {A : Option Addr} {L : List Int} (h : Kept w A L) (F : Fr (fun _ => False) w w') : Nums w' w'.heap.size A L := h w' F
theorem Kept.on {w w1 : World} {A : Option Addr} {L : List Int} (h : Kept w A L) (F : Fr (fun _ => False) w w1) : Kept w1 A L := fun w' G => h w' (F.trans G)

set_option maxRecDepth 100000 in
set_option maxHeartbeats 4000000 in
theorem heldLaw (f : Fn) (A : Option Addr) (c : Nat) (W : World) (ht : Tabs W) (hp : Cod W W.heap.size A f.code) : Calls Tryd.prog 4 #[.agg #[.int .i64 f.needs, .slice A f.code.length c]] W (LawPost W) := by
  have HP := hid hp
  clear hp
  obtain ⟨n, hn⟩ : ∃ n, f.code.length = n := ⟨_, rfl⟩
  rw [hn]
  have HN := hid hn
  clear hn
  obtain ⟨w1, hw1⟩ : ∃ w1, w1 = W.alloc (.cells #[.int .i64 f.needs, .slice A n c] 29) := ⟨_, rfl⟩
  have HA := hid (show Fr (fun _ => False) W w1 by rw [hw1]; exact Fr.alloc _ _ _)
  have hBx : Blk w1 W.heap.size #[.int .i64 f.needs, .slice A n c] := by rw [hw1]; exact Blk.new _ _ _
  have HBX := hid hBx
  have q0 := hBx.cell (i := 0) rfl
  have q1 := hBx.cell (i := 1) rfl
  have ql := hBx.lt
  simp only [List.getElem_toArray, List.getElem_cons_zero, List.getElem_cons_succ] at q0 q1
  clear hBx
  go_enter Tryd.func4, Tryd.ntmps4
  go_upto_region 1 with fail
  rw [← hw1]
  clear hw1
  by_cases h140 : 140 < n
  · go_wp2_with fail
    refine (awake_any w1 (ht.same HA.out)).mono ?_
    rintro e w4 ⟨rfl, hF4⟩
    have HF4 := hid (HA.out.trans hF4)
    clear hF4
    go_wp2_with fail
    go_ret
    exact ⟨rfl, HF4.out⟩
  · go_upto_region 3 with fail
    have HS := hid (show ∀ w', Fr (fun _ => False) w1 w' → w'.cell? ⟨W.heap.size, 0, none⟩ = some (.int .i64 f.needs) ∧ w'.cell? ⟨W.heap.size, 1, none⟩ = some (.slice A n c) from fun w' F => ⟨(HBX.out.keep F (fun h => h)).cell rfl, (HBX.out.keep F (fun h => h)).cell rfl⟩)
    have HCO := hid (fun (w' : World) (F : Fr (fun _ => False) w1 w') => (show Cod w' w'.heap.size A f.code from ((HP.out.same (HA.out.trans F) (Nat.le_refl _)).more (HA.out.trans F).size)))
    have HHE := hid (fun (w' : World) (F : Fr (fun _ => False) w1 w') => held_any f A n c w' HN.out (by omega) (HCO.out w' F))
    have HRE := hid (fun (w' : World) (F : Fr (fun _ => False) w1 w') => rheld_any f A n c w' HN.out (by omega) (HCO.out w' F))
    have HIN := hid (fun (w' : World) (A1 A2 : Option Addr) (c1 c2 : Nat) (h1 : Nums w' w'.heap.size A1 (natsI (heldL f))) (h2 : Nums w' w'.heap.size A2 (natsI (heldL f))) => ints_same A1 A2 n c1 c2 (natsI (heldL f)) w' (by rw [natsI_len, heldL_len]; exact HN.out) (by omega) h1 h2)
    have HAW := hid (fun (w' : World) (F : Fr (fun _ => False) w1 w') => awake_any w' (ht.same (HA.out.trans F)))
    have HFd := hid (Fr.refl (fun _ => False) w1)
    clear q0 q1
    go_region_held3 (fun w' => w'.cell? ⟨W.heap.size, 0, none⟩ = some (.int .i64 f.needs) ∧ w'.cell? ⟨W.heap.size, 1, none⟩ = some (.slice A n c))
      (first | exact HS.out _ HFd.out | exact HS.out _ (HFd.out.trans (Fr.drew _ _)))
      (first
        | (go_at_call 14; (with_reducible refine (HHE.out _ (by first | exact HFd.out | exact HFd.out.trans (Fr.drew _ _))).mono ?_); rintro e w6 ⟨A1, n1, c1, rfl, h1, h2, hF6⟩; (obtain rfl : n = n1 := by rw [natsI_len, heldL_len, HN.out] at h1; exact h1); have HFd := hid (HFd.out.trans (Fr.trans (by first | exact Fr.refl _ _ | exact Fr.drew _ _) hF6)); (try (have HK2 := hid (HK2.out.on (Fr.trans (by first | exact Fr.refl _ _ | exact Fr.drew _ _) hF6)))); have HK1 := hid (Kept.mk h2); clear h1 h2 hF6)
        | (go_at_call 15; (with_reducible refine (HRE.out _ (by first | exact HFd.out | exact HFd.out.trans (Fr.drew _ _))).mono ?_); rintro e w7 ⟨A2, n2, c2, rfl, h1, h2, hF6⟩; (obtain rfl : n = n2 := by rw [natsI_len, heldL_len, HN.out] at h1; exact h1); have HFd := hid (HFd.out.trans (Fr.trans (by first | exact Fr.refl _ _ | exact Fr.drew _ _) hF6)); (try (have HK1 := hid (HK1.out.on (Fr.trans (by first | exact Fr.refl _ _ | exact Fr.drew _ _) hF6)))); have HK2 := hid (Kept.mk h2); clear h1 h2 hF6)
        | (go_at_call 10; (with_reducible refine (HAW.out _ (by first | exact HFd.out | exact HFd.out.trans (Fr.drew _ _))).mono ?_); rintro e w9 ⟨rfl, hF6⟩; have HFd := hid (HFd.out.trans (Fr.trans (by first | exact Fr.refl _ _ | exact Fr.drew _ _) hF6)); clear hF6)
        | (go_at_call 11; (with_reducible refine (HIN.out _ A1 A2 c1 c2 (HK1.out.at_ (by first | exact Fr.refl _ _ | exact Fr.drew _ _)) (HK2.out.at_ (by first | exact Fr.refl _ _ | exact Fr.drew _ _))).mono ?_); rintro e w8 ⟨rfl, hF6⟩; have HFd := hid (HFd.out.trans (Fr.trans (by first | exact Fr.refl _ _ | exact Fr.drew _ _) hF6)); clear hF6))
    all_goals
      go_wp2_with fail
      go_ret
      exact ⟨rfl, HA.out.trans HFd.out⟩

end Go.Proofs.YthpkhcompkfcaaaDoor
