/-
  Stage 7: the chapter's example; a law's end.
-/
import Derived.Test.YtnlbellbeepkaaaGreatDoorPrint
import Derived.Test.YtnlbellbeepkaaaGreatDoorUnder
import Derived.Test.YtnlbellbeepkaaaGreatDoorGrown
namespace Go.Proofs.YtnlbellbeepkaaaGreatDoor
open Go.RowKit
set_option linter.unusedVariables false

/-- A law's end. -/
def LawPost (W : World) : Ending → World → Prop := fun e w' => e = .returned (.bool true) ∧ Fr (fun _ => False) W w'

def awR : Tw := ⟨0, 1, 1, 4, 0, 0, ⟨#[]⟩⟩
def awL : List Tw := [⟨-1, 0, 0, 2, 5, 3, ⟨#[]⟩⟩, awR]
theorem aw_chk : chk awL = 0 := by kernel_rfl
theorem aw_chk2 : chk [awR] = 11 := by kernel_rfl
theorem aw_txt : tabT awL = [45, 32, 48, 32, 48, 32, 118, 97, 108, 117, 101, 32, 53, 32, 51, 32, 45, 10, 48, 32, 49, 32, 49, 32, 99, 97, 110, 99, 101, 108, 108, 101, 100, 32, 48, 32, 48, 32, 45, 10] := by kernel_rfl
theorem aw_pr : prV awL = [45, 32, 48, 32, 48, 32, 118, 97, 108, 117, 101, 32, 53, 32, 51, 32, 45, 10, 48, 32, 49, 32, 49, 32, 99, 97, 110, 99, 101, 108, 108, 101, 100, 32, 48, 32, 48, 32, 45, 10] := by
  unfold prV
  rw [if_pos aw_chk, aw_txt]

theorem aw_at {i : Nat} {r : Tw} (h : awL[i]? = some r) : r = ⟨-1, 0, 0, 2, 5, 3, ⟨#[]⟩⟩ ∨ r = awR := by
  unfold awL at h
  rcases i with _ | _ | i
  · simp at h; exact .inl h.symm
  · simp at h; exact .inr h.symm
  · simp at h

theorem aw_fits : Fits awL :=
  ⟨fun i r h => by rcases aw_at h with rfl | rfl <;> refine ⟨?_, ?_, ?_, ?_, ?_, ?_, ?_, ?_, ?_, ?_⟩ <;> decide,
   fun i r h => by rcases aw_at h with rfl | rfl <;> decide,
   by rw [aw_txt]; decide⟩

theorem few1 {r : Tw} (h : r.cl.size ≤ 4000000) : FewT [r] := fun i s hs => by
  rcases i with _ | i
  · simp at hs; subst hs; exact h
  · simp at hs

set_option maxRecDepth 100000 in
set_option maxHeartbeats 4000000 in
theorem awake_ok (w : World) (ht : Tabs w) : Calls Tryz.prog 5 #[] w (LawPost w) := by
  obtain ⟨w1, hw1⟩ : ∃ w1, w1 = w.alloc (.cells #[.int .i64 (-1), .int .i64 0, .int .i64 0, .int .i64 2, .int .i64 5, .int .i64 3, .string ⟨#[]⟩, .int .i64 0, .int .i64 1, .int .i64 1, .int .i64 4, .int .i64 0, .int .i64 0, .string ⟨#[]⟩] 34) := ⟨_, rfl⟩
  have hF1 : Fr (fun _ => False) w w1 := by rw [hw1]; exact Fr.alloc _ _ _
  have hO : OwnR w1 w.heap.size 34 7 (some ⟨w.heap.size, 0, none⟩) 2 2 (flatT awL) := by
    rw [hw1]
    exact OwnR.full (k := 7) (n := 2) (TBlk.new _ _ _) (Nat.le_refl _) rfl (by omega)
  have hlt : w.heap.size < w1.heap.size := by rw [hw1]; simp
  have hR : RdT w1 (some ⟨w.heap.size, 0, none⟩) awL := hO.rdT
  have hR2 : RdT w1 (some ⟨w.heap.size, 7, none⟩) [awR] := fun _ => by
    obtain ⟨g, o, e, hg, hc⟩ := hR (by decide)
    injection e with e
    injection e with e eo
    subst e eo
    refine ⟨_, _, rfl, hg, fun j v hv => ?_⟩
    have h2 : (flatT awL)[7 + j]? = some v := by
      rw [show flatT awL = flatT [⟨-1, 0, 0, 2, 5, 3, ⟨#[]⟩⟩] ++ flatT [awR] from rfl, List.getElem?_append_right (by rw [flatT_len]; simp), flatT_len]
      simpa using hv
    have h3 := hc _ v h2
    rw [Nat.zero_add] at h3
    exact h3
  have HPR := hid (print_any (some ⟨w.heap.size, 0, none⟩) 2 2 awL w1 (ht.same hF1) hR rfl (by omega) (by omega) (fun _ => aw_fits) aw_fits.few)
  have HCK := hid (fun W (hW : Fr (fun _ => False) w1 W) => check_any (some ⟨w.heap.size, 0, none⟩) 2 2 awL W (hR.same hW) rfl (by omega) (by omega) aw_fits.few)
  have HC2 := hid (fun W (hW : Fr (fun _ => False) w1 W) => check_any (some ⟨w.heap.size, 7, none⟩) 1 1 [awR] W (hR2.same hW) rfl (by omega) (by omega) (few1 (by decide)))
  have HGR := hid (fun W (hW : Fr (fun _ => False) w1 W) => grown_any (some ⟨w.heap.size, 0, none⟩) (some ⟨w.heap.size, 0, none⟩) 2 2 2 2 awL awL W (hR.same hW) (hR.same hW) rfl rfl (by omega) (by omega) (by omega) (by omega) aw_fits.few aw_fits.few)
  unfold PrPost at HPR
  unfold CkPost at HCK HC2
  rw [aw_pr, aw_chk] at HPR
  rw [aw_chk] at HCK
  rw [aw_chk2] at HC2
  unfold bs at HPR
  have HF1 := hid hF1
  clear hF1 hO hR hR2
  go_enter Tryz.func5, Tryz.ntmps5
  go_upto_region 2 with fail
  rw [← hw1]
  clear hw1
  go_wp2_with fail
  refine HPR.out.mono ?_
  rintro e w2 ⟨rfl, hF2⟩
  go_wp2_with fail
  refine (HCK.out _ hF2).mono ?_
  rintro e w3 ⟨rfl, hF3⟩
  go_wp2_with fail
  refine (HC2.out _ (hF2.trans hF3)).mono ?_
  rintro e w4 ⟨rfl, hF4⟩
  go_wp2_with fail
  refine (HGR.out _ ((hF2.trans hF3).trans hF4)).mono ?_
  rintro e w5 ⟨b, rfl, hb, hF5⟩
  obtain rfl : b = true := hb.2 (Grows.refl aw_chk)
  go_wp2_with fail
  go_ret
  exact ⟨rfl, (((HF1.out.trans hF2).trans hF3).trans hF4).trans hF5⟩

end Go.Proofs.YtnlbellbeepkaaaGreatDoor
