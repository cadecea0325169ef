/-
  FramePasses.
-/
import Derived.Test.YtedpgfldkjimpaaDoorLawBits
namespace Go.Proofs.YtedpgfldkjimpaaDoor
open Go.RowKit
set_option linter.unusedVariables false

set_option maxRecDepth 100000 in
set_option maxHeartbeats 4000000 in
theorem passLawC {cel : Frm → Array Value} (hC : Cel cel) (F : Frm) (i : Ins) (x : Bool) (W : World) (ht : Tabs W) : Calls Tryd.prog 6 #[.agg (cel F), i.val, .bool x] W (LawPost W) := by
  have HT := hid (fun (w' : World) (F' : Fr (fun _ => False) W w') => ht.same F')
  clear ht
  unfold Ins.val
  obtain ⟨G, hG⟩ : ∃ G, G = F.closed i x := ⟨_, rfl⟩
  have HP := hid (fun (w' : World) (F' : Fr (fun _ => False) W w') => close_any hC F i x w' (HT.out w' F'))
  have HR := hid (fun (w' : World) => rclose_any hC F i x w')
  rw [← hG] at HP HR
  unfold Ins.val at HP HR
  clear hG
  have HAW := hid (fun (w' : World) (F' : Fr (fun _ => False) W w') => awake_any w' (HT.out w' F'))
  obtain ⟨w1, hw1⟩ : ∃ w1, w1 = (W.alloc (.cells (cel F) 25)).alloc (.cells #[.int .i64 i.op, .int .i64 i.a, .int .i64 i.b, .int .i64 i.c, .int .i64 i.n] 27) := ⟨_, rfl⟩
  obtain ⟨hA, hB, hI⟩ := two W (cel F) #[.int .i64 i.op, .int .i64 i.a, .int .i64 i.b, .int .i64 i.c, .int .i64 i.n] 25 27
  rw [← hw1] at hA hB hI
  have HA := hid hA
  have HB := hid hB
  have HI := hid hI
  clear hA hB hI
  go_enter Tryd.func6, Tryd.ntmps6
  go_upto_region 1 with fail
  rw [← hw1]
  clear hw1
  obtain ⟨N, hN, hN1, hN2⟩ := nineteen
  have hsz : ∀ F, (cel F).size = N := fun F => by rw [hC.size, hN]
  have HN := hid hN
  clear hN
  have HS := hid (show ∀ w', Fr (fun _ => False) w1 w' → (loadCellsFrom ⟨W.heap.size, 0, none⟩ 0 N #[]).run Tryd.prog w' = .ok (cel F) w' ∧ w'.cell? ⟨W.heap.size + 1, 0, none⟩ = some (.int .i64 i.op) ∧ w'.cell? ⟨W.heap.size + 1, 1, none⟩ = some (.int .i64 i.a) ∧ w'.cell? ⟨W.heap.size + 1, 2, none⟩ = some (.int .i64 i.b) ∧ w'.cell? ⟨W.heap.size + 1, 3, none⟩ = some (.int .i64 i.c) ∧ w'.cell? ⟨W.heap.size + 1, 4, none⟩ = some (.int .i64 i.n) from fun w' F' => ⟨load_eq (HB.out.keep F' (fun h => h)) (hsz _), (HI.out.keep F' (fun h => h)).cell rfl, (HI.out.keep F' (fun h => h)).cell rfl, (HI.out.keep F' (fun h => h)).cell rfl, (HI.out.keep F' (fun h => h)).cell rfl, (HI.out.keep F' (fun h => h)).cell rfl⟩)
  obtain ⟨l1, i10, i11, i12, i13, i14⟩ := HS.out w1 (Fr.refl _ _)
  go_wp2_with fail
  refine (usual_any hC F w1).mono ?_
  rintro e w2 ⟨⟨us, rfl⟩, hF2⟩
  clear l1 i10 i11 i12 i13 i14
  cases us
  · go_wp2_with fail
    refine (awake_any w2 (HT.out _ (HA.out.trans hF2))).mono ?_
    rintro e w3 ⟨rfl, hF3⟩
    go_wp2_with fail
    go_ret
    exact ⟨rfl, HA.out.trans (hF2.trans hF3)⟩
  · go_upto_region 3 with fail
    have HFd := hid hF2
    clear hF2
    go_region_held3 (fun w' => (loadCellsFrom ⟨W.heap.size, 0, none⟩ 0 N #[]).run Tryd.prog w' = .ok (cel F) w' ∧ w'.cell? ⟨W.heap.size + 1, 0, none⟩ = some (.int .i64 i.op) ∧ w'.cell? ⟨W.heap.size + 1, 1, none⟩ = some (.int .i64 i.a) ∧ w'.cell? ⟨W.heap.size + 1, 2, none⟩ = some (.int .i64 i.b) ∧ w'.cell? ⟨W.heap.size + 1, 3, none⟩ = some (.int .i64 i.c) ∧ w'.cell? ⟨W.heap.size + 1, 4, none⟩ = some (.int .i64 i.n))
      (first | exact HS.out _ HFd.out | exact HS.out _ (HFd.out.trans (Fr.drew _ _)))
      (first
        | (go_at_call 27; (with_reducible refine (HP.out _ (HA.out.trans (by first | exact HFd.out | exact HFd.out.trans (Fr.drew _ _)))).mono ?_); rintro e w6 ⟨rfl, hF6⟩; have HFd := hid (HFd.out.trans (Fr.trans (by first | exact Fr.refl _ _ | exact Fr.drew _ _) hF6)); clear hF6)
        | (go_at_call 14; (with_reducible refine (plain_any hC F _).mono ?_); rintro e w6 ⟨rfl, hF6⟩; have HFd := hid (HFd.out.trans (Fr.trans (by first | exact Fr.refl _ _ | exact Fr.drew _ _) hF6)); clear hF6)
        | (go_at_call 28; (with_reducible refine (HR.out _).mono ?_); rintro e w6 ⟨rfl, hF6⟩; have HFd := hid (HFd.out.trans (Fr.trans (by first | exact Fr.refl _ _ | exact Fr.drew _ _) hF6)); clear hF6)
        | (go_at_call 16; (with_reducible refine (same_any hC _ _).mono ?_); rintro e w6 ⟨rfl, hF6⟩; have HFd := hid (HFd.out.trans (Fr.trans (by first | exact Fr.refl _ _ | exact Fr.drew _ _) hF6)); clear hF6)
        | (go_at_call 29; (with_reducible refine (passed_any hC F _).mono ?_); rintro e w6 ⟨rfl, hF6⟩; have HFd := hid (HFd.out.trans (Fr.trans (by first | exact Fr.refl _ _ | exact Fr.drew _ _) hF6)); clear hF6)
        | (go_at_call 30; (with_reducible refine (ron_any hC F _).mono ?_); rintro e w6 ⟨rfl, hF6⟩; have HFd := hid (HFd.out.trans (Fr.trans (by first | exact Fr.refl _ _ | exact Fr.drew _ _) hF6)); clear hF6)
        | (go_at_call 12; (with_reducible refine (HAW.out _ (HA.out.trans (by first | exact HFd.out | exact HFd.out.trans (Fr.drew _ _)))).mono ?_); rintro e w6 ⟨rfl, hF6⟩; have HFd := hid (HFd.out.trans (Fr.trans (by first | exact Fr.refl _ _ | exact Fr.drew _ _) hF6)); clear hF6))
    all_goals
      go_wp2_with fail
      go_ret
      exact ⟨rfl, HA.out.trans HFd.out⟩

theorem passLaw (F : Frm) (i : Ins) (x : Bool) (W : World) (ht : Tabs W) : Calls Tryd.prog 6 #[F.val, i.val, .bool x] W (LawPost W) := passLawC cel_is F i x W ht

end Go.Proofs.YtedpgfldkjimpaaDoor
