/-
  CheckPrograms.
-/
import Derived.Test.YthpkhcompkfcaaaDoorRefPrg
import Derived.Test.YthpkhcompkfcaaaDoorRefPlain
import Derived.Test.YthpkhcompkfcaaaDoorFew
import Derived.Test.YthpkhcompkfcaaaDoorAwake
namespace Go.Proofs.YthpkhcompkfcaaaDoor
open Go.RowKit
set_option linter.unusedVariables false

open Classical in
theorem accB_is (P : List Fn) : accB P = ((prgF P).code == 0) := by
  rw [Bool.eq_iff_iff, accB_true, ← prgF_none, beq_iff_eq]
  exact accB_code.symm

set_option maxRecDepth 100000 in
set_option maxHeartbeats 4000000 in
theorem programsLaw (A : Option Addr) (c : Nat) (P : List Fn) (W : World) (ht : Tabs W) (hp : Prg W W.heap.size A P) :
    Calls Tryd.prog 5 #[.agg #[.slice A P.length c]] W (LawPost W) := by
  have HP := hid hp
  clear hp
  obtain ⟨n, hn⟩ : ∃ n, P.length = n := ⟨_, rfl⟩
  rw [hn]
  have HN := hid hn
  clear hn
  obtain ⟨w1, hw1⟩ : ∃ w1, w1 = W.alloc (.cells #[.slice A n c] 34) := ⟨_, rfl⟩
  have HA := hid (show Fr (fun _ => False) W w1 by rw [hw1]; exact Fr.alloc _ _ _)
  have hBx : Blk w1 W.heap.size #[.slice A n c] := by rw [hw1]; exact Blk.new _ _ _
  have HBX := hid hBx
  have q0 : w1.cell? ⟨W.heap.size, 0, none⟩ = some (.slice A n c) := hBx.cell rfl
  have ql := hBx.lt
  clear hBx
  go_enter Tryd.func5, Tryd.ntmps5
  go_upto_region 1 with fail
  rw [← hw1]
  clear hw1
  go_wp2_with fail
  refine (few_any A n c P w1 ((HP.out.same HA.out (Nat.le_refl _)).more HA.out.size) HN.out).mono ?_
  rintro e w2 ⟨fb, rfl, hfb, hF2⟩
  have HFB := hid hfb
  have HF2 := hid (HA.out.trans hF2)
  have HB2 := hid (HBX.out.keep hF2 (fun h => h))
  have q0 : w2.cell? ⟨W.heap.size, 0, none⟩ = some (.slice A n c) := HB2.out.cell rfl
  have ql := HB2.out.lt
  clear hfb hF2
  cases fb with
  | false =>
    go_wp2_with fail
    refine (awake_any w2 (ht.same HF2.out)).mono ?_
    rintro e w4 ⟨rfl, hF4⟩
    have HF4 := hid (HF2.out.trans hF4)
    clear hF4
    go_wp2_with fail
    go_ret
    exact ⟨rfl, HF4.out⟩
  | true =>
    have hFEW := HFB.out rfl
    have hn40 : n ≤ 40 := by rw [← HN.out]; exact hFEW.1
    have HFL := hid (show ∀ (k : Nat) f, P[k]? = some f → f.code.length ≤ 1000 from fun k f h => by have := hFEW.2 k f h; omega)
    clear hFEW
    have HPW := hid (show ∀ w', Fr (fun _ => False) W w' → Prg w' w'.heap.size A P from fun w' F => (HP.out.same F (Nat.le_refl _)).more F.size)
    obtain ⟨y, hy⟩ : ∃ y, prgF P = y := ⟨_, rfl⟩
    go_wp2_with fail
    refine (program_any A n c P w2 (ht.same HF2.out) (HPW.out _ HF2.out) HN.out (by omega)).mono ?_
    rintro e w3 ⟨rfl, hF3⟩
    rw [hy]
    have hacc := accB_is P
    rw [hy] at hacc
    have HY := hid hy
    clear hy
    obtain ⟨x0, x1, x2⟩ := y
    simp only at hacc
    unfold Flt.val
    simp only
    obtain ⟨w4, hw4⟩ : ∃ w4, w4 = w3.alloc (.cells #[.int .i64 x0, .int .i64 x1, .int .i64 x2] 38) := ⟨_, rfl⟩
    have HF4 := hid (show Fr (fun _ => False) w2 w4 by rw [hw4]; exact hF3.trans (Fr.alloc _ _ _))
    have HX := hid (show Blk w4 w3.heap.size #[.int .i64 x0, .int .i64 x1, .int .i64 x2] by rw [hw4]; exact Blk.new _ _ _)
    have HW4 := hid (HF2.out.trans HF4.out)
    have hb4 := HB2.out.keep HF4.out (fun h => h)
    have HB4 := hid hb4
    have q0 : w4.cell? ⟨W.heap.size, 0, none⟩ = some (.slice A n c) := hb4.cell rfl
    have ql := hb4.lt
    have HACC := hid hacc
    clear hF3 hb4 hacc
    go_upto_region 4 with fail
    rw [← hw4]
    clear hw4
    go_wp2_with fail
    refine (rprogram_any A n c P w4 (HPW.out _ HW4.out) HN.out (by omega) HFL.out).mono ?_
    rintro e w5 ⟨rfl, hF5⟩
    rw [HY.out]
    unfold Flt.val
    simp only
    obtain ⟨w6, hw6⟩ : ∃ w6, w6 = w5.alloc (.cells #[.int .i64 x0, .int .i64 x1, .int .i64 x2] 40) := ⟨_, rfl⟩
    have HF6 := hid (show Fr (fun _ => False) w4 w6 by rw [hw6]; exact hF5.trans (Fr.alloc _ _ _))
    have HYB := hid (show Blk w6 w5.heap.size #[.int .i64 x0, .int .i64 x1, .int .i64 x2] by rw [hw6]; exact Blk.new _ _ _)
    have HXB := hid (HX.out.keep HF6.out (fun h => h))
    have HW6 := hid (HW4.out.trans HF6.out)
    have HB6 := hid (HB4.out.keep HF6.out (fun h => h))
    have ql := HB6.out.lt
    have xl := HXB.out.lt
    have yl := HYB.out.lt
    have HS := hid (show ∀ w', Fr (fun _ => False) w6 w' → w'.cell? ⟨W.heap.size, 0, none⟩ = some (.slice A n c) ∧ w'.cell? ⟨w3.heap.size, 0, none⟩ = some (.int .i64 x0) ∧ w'.cell? ⟨w3.heap.size, 1, none⟩ = some (.int .i64 x1) ∧ w'.cell? ⟨w3.heap.size, 2, none⟩ = some (.int .i64 x2) ∧ w'.cell? ⟨w5.heap.size, 0, none⟩ = some (.int .i64 x0) ∧ w'.cell? ⟨w5.heap.size, 1, none⟩ = some (.int .i64 x1) ∧ w'.cell? ⟨w5.heap.size, 2, none⟩ = some (.int .i64 x2) from fun w' F =>
      ⟨(HB6.out.keep F (fun h => h)).cell rfl, (HXB.out.keep F (fun h => h)).cell rfl, (HXB.out.keep F (fun h => h)).cell rfl, (HXB.out.keep F (fun h => h)).cell rfl, (HYB.out.keep F (fun h => h)).cell rfl, (HYB.out.keep F (fun h => h)).cell rfl, (HYB.out.keep F (fun h => h)).cell rfl⟩)
    have HAP := hid (fun (w' : World) (F : Fr (fun _ => False) w6 w') => accepts_any A n c P w' (ht.same (HW6.out.trans F)) (HPW.out _ (HW6.out.trans F)) HN.out (by omega))
    have HPP := hid (fun (w' : World) (F : Fr (fun _ => False) w6 w') => plain_any A n c P w' (HPW.out _ (HW6.out.trans F)) HN.out (by omega) HFL.out)
    have HRP := hid (fun (w' : World) (F : Fr (fun _ => False) w6 w') => rplain_any A n c P w' (HPW.out _ (HW6.out.trans F)) HN.out (by omega) HFL.out)
    have HAW := hid (fun (w' : World) (F : Fr (fun _ => False) w6 w') => awake_any w' (ht.same (HW6.out.trans F)))
    rw [HACC.out] at HAP
    obtain ⟨pb, hpb⟩ : ∃ pb, plainP P = pb := ⟨_, rfl⟩
    rw [hpb] at HPP HRP
    have HFd := hid (Fr.refl (fun _ => False) w6)
    obtain ⟨ab, hab⟩ : ∃ ab, (x2 == 0) = ab := ⟨_, rfl⟩
    rw [hab] at HAP
    have ta : (ab == ab) = true := by cases ab <;> rfl
    have tp : (pb == pb) = true := by cases pb <;> rfl
    have e0 : (x0 == x0) = true := by simp
    clear hF5 hpb q0
    go_upto_region 5 with fail
    rw [← hw6]
    clear hw6
    go_region_held3 (fun w' => w'.cell? ⟨W.heap.size, 0, none⟩ = some (.slice A n c) ∧ w'.cell? ⟨w3.heap.size, 0, none⟩ = some (.int .i64 x0) ∧ w'.cell? ⟨w3.heap.size, 1, none⟩ = some (.int .i64 x1) ∧ w'.cell? ⟨w3.heap.size, 2, none⟩ = some (.int .i64 x2) ∧ w'.cell? ⟨w5.heap.size, 0, none⟩ = some (.int .i64 x0) ∧ w'.cell? ⟨w5.heap.size, 1, none⟩ = some (.int .i64 x1) ∧ w'.cell? ⟨w5.heap.size, 2, none⟩ = some (.int .i64 x2))
      (first | exact HS.out _ HFd.out | exact HS.out _ (HFd.out.trans (Fr.drew _ _)))
      (first
        | (go_at_call 19; (with_reducible refine (HAP.out _ (by first | exact HFd.out | exact HFd.out.trans (Fr.drew _ _))).mono ?_); rintro e w7 ⟨rfl, hF7⟩; have HFd := hid (HFd.out.trans (Fr.trans (by first | exact Fr.refl _ _ | exact Fr.drew _ _) hF7)); clear hF7)
        | (go_at_call 20; (with_reducible refine (HPP.out _ (by first | exact HFd.out | exact HFd.out.trans (Fr.drew _ _))).mono ?_); rintro e w7 ⟨rfl, hF7⟩; have HFd := hid (HFd.out.trans (Fr.trans (by first | exact Fr.refl _ _ | exact Fr.drew _ _) hF7)); clear hF7)
        | (go_at_call 21; (with_reducible refine (HRP.out _ (by first | exact HFd.out | exact HFd.out.trans (Fr.drew _ _))).mono ?_); rintro e w7 ⟨rfl, hF7⟩; have HFd := hid (HFd.out.trans (Fr.trans (by first | exact Fr.refl _ _ | exact Fr.drew _ _) hF7)); clear hF7)
        | (go_at_call 10; (with_reducible refine (HAW.out _ (by first | exact HFd.out | exact HFd.out.trans (Fr.drew _ _))).mono ?_); rintro e w7 ⟨rfl, hF7⟩; have HFd := hid (HFd.out.trans (Fr.trans (by first | exact Fr.refl _ _ | exact Fr.drew _ _) hF7)); clear hF7))
    all_goals
      go_wp2_with fail
      go_ret
      exact ⟨rfl, HW6.out.trans HFd.out⟩

end Go.Proofs.YthpkhcompkfcaaaDoor
