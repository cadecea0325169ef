/-
  Events and waits of the program, call by call.
-/
import Derived.Test.YtlhpngoplmccjaaCalls
import Derived.Test.YtlhpngoplmccjaaReads
import Derived.Test.YtlhpngoplmccjaaAdd
import Derived.Test.YtlhpngoplmccjaaNew
import Derived.Deep.RegionHeld3
import Derived.Deep.QuietTactic
import Derived.BigQuiet
namespace Go.Proofs.Ytlhpngoplmccjaa
open Go.RowKit
set_option linter.unusedVariables false

theorem Blk.same {w w' : World} {b : Nat} {c : Array Value} (h : Blk w b c) (f : Fr (fun _ => False) w w') : Blk w' b c := h.keep f id

/-- A wait as it lies in memory. -/
def WT (w : World) (x : Nat) (k h s : Int) : Prop := Blk w x #[.int .i64 k, .int .i64 h, .int .i64 s]

theorem WT.keep {S : Nat → Prop} {w w' : World} {x : Nat} {k h s : Int} (H : WT w x k h s) (f : Fr S w w') (hb : ¬ S x) : WT w' x k h s := Blk.keep H f hb
theorem WT.same {w w' : World} {x : Nat} {k h s : Int} (H : WT w x k h s) (f : Fr (fun _ => False) w w') : WT w' x k h s := Blk.same H f

/-- Whether an event was told as often as that. -/
def Mach.toldB (M : Mach) (k s : Int) : Bool := decide (0 ≤ k) && decide (k < M.used) && (M.peek k == s)

set_option maxRecDepth 100000 in
set_option maxHeartbeats 400000 in
theorem eparked_ok (b : MB) (M : Mach) (k s : Int) (w : World) (h : IsM w b M) :
    Calls Try.prog 43 #[.agg #[.int .i64 k], .pointer (some ⟨b.m, 0, none⟩), .int .i64 s] w fun e w' => e = .returned (.bool (M.toldB k s)) ∧ Fr (fun _ => False) w w' := by
  have HM := hid (fun (u : World) (F : Fr (fun _ => False) w u) => h.same F)
  obtain ⟨n, hn⟩ : ∃ n : Nat, M.used = n := ⟨_, rfl⟩
  obtain ⟨p, hp⟩ : ∃ p, M.peek k = p := ⟨_, rfl⟩
  have HU := hid (fun (u : World) (F : Fr (fun _ => False) w u) => hn ▸ used_ok b M u (HM.out u F))
  have HP := hid (fun (u : World) (F : Fr (fun _ => False) w u) => hp ▸ peek_any b M k u (HM.out u F))
  have HV := hid (show M.toldB k s = (decide (0 ≤ k) && decide (k < n) && (p == s)) from by unfold Mach.toldB; rw [hn, hp])
  clear hn hp h
  rcases t1 : decide (0 ≤ k) with _ | _
  · have HV2 := hid (show M.toldB k s = false from by rw [HV.out, t1]; rfl)
    go_enter Try.func43, Try.ntmps43
    go_wp2_with fail
    go_quiet (fail)
    go_wp2_with fail
    go_ret
    exact ⟨by rw [HV2.out]; rfl, (Fr.alloc _ _ _).trans (Fr.drewN _ _ _)⟩
  · rcases t2 : decide (k < n) with _ | _
    · have HV2 := hid (show M.toldB k s = false from by rw [HV.out, t1, t2]; rfl)
      go_enter Try.func43, Try.ntmps43
      go_wp2_with fail
      go_quiet ((go_at_call 23; exact (HU.out _ ((Fr.alloc _ _ _).trans (Fr.drewN _ _ _))).mono fun _ _ ⟨he, hm⟩ => ⟨he, _, hm.symm⟩))
      go_wp2_with fail
      go_ret
      exact ⟨by rw [HV2.out]; rfl, (Fr.alloc _ _ _).trans (Fr.drewN _ _ _)⟩
    · have HV2 := hid (show M.toldB k s = (p == s) from by rw [HV.out, t1, t2]; rfl)
      go_enter Try.func43, Try.ntmps43
      go_wp2_with fail
      go_quiet ((first
        | (go_at_call 23; exact (HU.out _ ((Fr.alloc _ _ _).trans (Fr.drewN _ _ _))).mono fun _ _ ⟨he, hm⟩ => ⟨he, _, hm.symm⟩)
        | (go_at_call 28; exact (HP.out _ ((Fr.alloc _ _ _).trans (Fr.drewN _ _ _))).mono fun _ _ ⟨he, hm⟩ => ⟨he, _, hm.symm⟩)))
      go_wp2_with fail
      go_ret
      exact ⟨by rw [HV2.out]; rfl, (Fr.alloc _ _ _).trans (Fr.drewN _ _ _)⟩

set_option maxHeartbeats 400000 in
theorem eparked_nil (k s : Int) (w : World) :
    Calls Try.prog 43 #[.agg #[.int .i64 k], .pointer none, .int .i64 s] w fun e w' => e = .returned (.bool false) ∧ Fr (fun _ => False) w w' := by
  rcases t1 : decide (0 ≤ k) with _ | _
  · go_enter Try.func43, Try.ntmps43
    go_wp2_with fail
    go_quiet (fail)
    go_wp2_with fail
    go_ret
    exact ⟨rfl, (Fr.alloc _ _ _).trans (Fr.drewN _ _ _)⟩
  · have t2 : decide (k < 0) = false := by simp at t1 ⊢; omega
    go_enter Try.func43, Try.ntmps43
    go_wp2_with fail
    go_quiet ((go_at_call 23; exact (used_nil _).mono fun _ _ ⟨he, hm⟩ => ⟨he, _, hm.symm⟩))
    go_wp2_with fail
    go_ret
    exact ⟨rfl, (Fr.alloc _ _ _).trans (Fr.drewN _ _ _)⟩

end Go.Proofs.Ytlhpngoplmccjaa
