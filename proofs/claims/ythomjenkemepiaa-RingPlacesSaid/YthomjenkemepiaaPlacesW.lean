/-
  RingPlaces answers true at any ring, any place, any number.
-/
import Derived.Test.YthomjenkemepiaaAwake
import Derived.Test.YthomjenkemepiaaRef
import Derived.Deep.RegionHeld3
import Derived.Deep.DeepCutAuto
import Derived.Deep.LoopGhost
namespace Go.Proofs.Ythomjenkemepiaa
open Go.RowKit
set_option linter.unusedVariables false

theorem ofVal_open (x : Int) : ∃ p q r, ofVal x = .tuple #[.agg #[.int .i64 p, .int .i64 q], .int .i64 r] := by
  unfold ofVal
  split
  · exact ⟨_, _, _, rfl⟩
  · exact ⟨_, _, _, rfl⟩

set_option maxRecDepth 100000 in
set_option maxHeartbeats 1000000 in
theorem placesLaw (a l i x : Int) (w : World) (hx : Fits x) :
    Calls Try.prog 3 #[.agg #[.int .i64 a, .int .i64 l], .int .i64 i, .int .i64 x] w fun e w' => e = .returned (.bool true) ∧ Below w.heap.size w w' := by
  have Z1 := hid (fun v => size_any a l v)
  have Z2 := hid (fun v => rsize_any a l v)
  have P1 := hid (fun v => place_any a l i v)
  have P2 := hid (fun v => rplace_any a l i v)
  have D1 := hid (fun v => word_any a l v)
  have D2 := hid (fun v => rword_any a l v)
  have O1 := hid (fun v => of_any x v hx.2)
  have O2 := hid (fun v => rof_any x v hx.2)
  obtain ⟨z, hz⟩ : ∃ z, Rg.size ⟨a, l⟩ = z := ⟨_, rfl⟩
  obtain ⟨y, hy⟩ : ∃ z, Rg.place ⟨a, l⟩ i = z := ⟨_, rfl⟩
  obtain ⟨d, hd⟩ : ∃ z, Rg.word ⟨a, l⟩ = z := ⟨_, rfl⟩
  obtain ⟨p, q, r, hv⟩ := ofVal_open x
  rw [hz] at Z1 Z2
  rw [hy] at P1 P2
  rw [hd] at D1 D2
  rw [hv] at O1 O2
  clear hz hy hd hv hx
  have HB1 := hid (((((Blk.new (w.alloc (.cells #[.int .i64 a, .int .i64 l] 23)) #[.int .i64 a, .int .i64 l] 24).at (n := w.heap.size + 1) (by simp))).alloc (.cells #[.int .i64 a, .int .i64 l] 25)))
  have HB2 := hid ((Blk.new ((w.alloc (.cells #[.int .i64 a, .int .i64 l] 23)).alloc (.cells #[.int .i64 a, .int .i64 l] 24)) #[.int .i64 a, .int .i64 l] 25).at (n := w.heap.size + 2) (by simp))
  have HT := hid (show Fr (fun _ => False) w (((w.alloc (.cells #[.int .i64 a, .int .i64 l] 23)).alloc (.cells #[.int .i64 a, .int .i64 l] 24)).alloc (.cells #[.int .i64 a, .int .i64 l] 25)) from (Fr.alloc _ _ _).trans ((Fr.alloc _ _ _).trans (Fr.alloc _ _ _)))
  have HS := hid (show ∀ w', Fr (fun _ => False) (((w.alloc (.cells #[.int .i64 a, .int .i64 l] 23)).alloc (.cells #[.int .i64 a, .int .i64 l] 24)).alloc (.cells #[.int .i64 a, .int .i64 l] 25)) w' → w'.cell? ⟨(w.heap.size + 1), 0, none⟩ = some (.int .i64 a) ∧ w'.cell? ⟨(w.heap.size + 1), 1, none⟩ = some (.int .i64 l) ∧ w'.cell? ⟨(w.heap.size + 2), 0, none⟩ = some (.int .i64 a) ∧ w'.cell? ⟨(w.heap.size + 2), 1, none⟩ = some (.int .i64 l) from fun w' F => ⟨(HB1.out.keep F id).cell rfl, (HB1.out.keep F id).cell rfl, (HB2.out.keep F id).cell rfl, (HB2.out.keep F id).cell rfl⟩)
  have HFd := hid (Fr.refl (fun _ => False) (((w.alloc (.cells #[.int .i64 a, .int .i64 l] 23)).alloc (.cells #[.int .i64 a, .int .i64 l] 24)).alloc (.cells #[.int .i64 a, .int .i64 l] 25)))
  go_enter Try.func3, Try.ntmps3
  go_upto_region 3 with fail
  go_region_held3 (fun w' => w'.cell? ⟨(w.heap.size + 1), 0, none⟩ = some (.int .i64 a) ∧ w'.cell? ⟨(w.heap.size + 1), 1, none⟩ = some (.int .i64 l) ∧ w'.cell? ⟨(w.heap.size + 2), 0, none⟩ = some (.int .i64 a) ∧ w'.cell? ⟨(w.heap.size + 2), 1, none⟩ = some (.int .i64 l))
    (first | exact HS.out _ HFd.out | exact HS.out _ (HFd.out.trans (Fr.drew _ _)))
    (first
      | (go_at_call 10; first
          | ((with_reducible refine (Z1.out _).mono ?_); rintro e w6 ⟨rfl, hF6⟩; have HFd := hid (HFd.out.trans (Fr.trans (by first | exact Fr.refl _ _ | exact Fr.drew _ _) hF6)); clear hF6))
      | (go_at_call 11; first
          | ((with_reducible refine (Z2.out _).mono ?_); rintro e w6 ⟨rfl, hF6⟩; have HFd := hid (HFd.out.trans (Fr.trans (by first | exact Fr.refl _ _ | exact Fr.drew _ _) hF6)); clear hF6))
      | (go_at_call 12; first
          | ((with_reducible refine (P1.out _).mono ?_); rintro e w6 ⟨rfl, hF6⟩; have HFd := hid (HFd.out.trans (Fr.trans (by first | exact Fr.refl _ _ | exact Fr.drew _ _) hF6)); clear hF6))
      | (go_at_call 13; first
          | ((with_reducible refine (P2.out _).mono ?_); rintro e w6 ⟨rfl, hF6⟩; have HFd := hid (HFd.out.trans (Fr.trans (by first | exact Fr.refl _ _ | exact Fr.drew _ _) hF6)); clear hF6))
      | (go_at_call 14; first
          | ((with_reducible refine (D1.out _).mono ?_); rintro e w6 ⟨rfl, hF6⟩; have HFd := hid (HFd.out.trans (Fr.trans (by first | exact Fr.refl _ _ | exact Fr.drew _ _) hF6)); clear hF6))
      | (go_at_call 15; first
          | ((with_reducible refine (D2.out _).mono ?_); rintro e w6 ⟨rfl, hF6⟩; have HFd := hid (HFd.out.trans (Fr.trans (by first | exact Fr.refl _ _ | exact Fr.drew _ _) hF6)); clear hF6)))
  all_goals
    have HT := hid (HT.out.trans HFd.out)
    go_wp2_with fail
    refine (O1.out _).mono ?_
    rintro e w7 ⟨rfl, hF7⟩
    have HT := hid (HT.out.trans hF7)
    clear hF7
    go_wp2_with fail
    refine (O2.out _).mono ?_
    rintro e w8 ⟨rfl, hF8⟩
    have HT := hid (HT.out.trans ((Fr.alloc _ _ _).trans hF8))
    have hG := ((Blk.new w7 #[.int .i64 p, .int .i64 q] 24).keep hF8 id).alloc (.cells #[.int .i64 p, .int .i64 q] 25)
    have g0 := hG.cell (i := 0) rfl
    have g1 := hG.cell (i := 1) rfl
    clear hF8
    go_wp2_with fail
    refine (awake_ok _).mono ?_
    rintro e w9 ⟨rfl, hF9⟩
    go_wp2_with fail
    go_ret
    exact ⟨rfl, (HT.out.trans ((Fr.alloc _ _ _).trans hF9)).below (Nat.le_refl _) (fun _ hh => hh.elim)⟩
end Go.Proofs.Ythomjenkemepiaa
