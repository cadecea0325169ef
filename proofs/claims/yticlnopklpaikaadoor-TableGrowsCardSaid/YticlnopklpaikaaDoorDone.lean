/-
  Stage 7: Done, the program's.
-/
import Derived.Test.YticlnopklpaikaaDoorWay
namespace Go.Proofs.YticlnopklpaikaaDoor
open Go.RowKit
set_option linter.unusedVariables false

def doneB (l : List Tw) : Bool := l.all cameB

theorem doneB_false {l : List Tw} {j : Nat} {r : Tw} (hr : l[j]? = some r) (h : cameB r = false) : doneB l = false := by
  unfold doneB
  rw [List.all_eq_false]
  exact ⟨r, List.mem_of_getElem? hr, by rw [h]; simp⟩
theorem doneB_true {l : List Tw} (h : ∀ (i : Nat) r, l[i]? = some r → cameB r = true) : doneB l = true := by
  unfold doneB
  rw [List.all_eq_true]
  intro r hr
  obtain ⟨i, hi, rfl⟩ := List.getElem_of_mem hr
  exact h i _ (List.getElem?_eq_getElem hi)

/-- Where the loop stands. -/
def DnRel (l : List Tw) (n : Nat) (w : World) (d : Nat) (k : Value) (wr : World) : Prop := ∃ j : Nat, j ≤ n ∧ d = n + 1 - j ∧ k = .int .i64 j ∧ (∀ (i : Nat) r, i < j → l[i]? = some r → cameB r = true) ∧ Fr (fun _ => False) w wr

set_option maxRecDepth 100000 in
set_option maxHeartbeats 1000000 in
theorem done_any (A : Option Addr) (n c : Nat) (l : List Tw) (w : World) (hA : RdT w A l) (hl : l.length = n) (hn : n ≤ 4000000) :
    Calls Tryd.prog 21 #[.slice A n c] w fun e w' => e = .returned (.bool (doneB l)) ∧ Fr (fun _ => False) w w' := by
  have HL := hid hl
  clear hl
  go_enter Tryd.func21, Tryd.ntmps21
  go_wp2_with fail
  go_loopg [7] (n + 1) (fun d k wr => DnRel l n w d k wr)
  case atStart => exact ⟨0, by omega, by omega, rfl, fun i r h => by omega, Fr.refl _ _⟩
  case round =>
    obtain ⟨j, hj, hd, rfl, hall, hF⟩ := hrel
    have HW := hid hall
    have HF := hid hF
    have HD := hid hd
    clear hall hF hd
    by_cases hlt : j < n
    · obtain ⟨r, hr⟩ : ∃ r, l[j]? = some r := ⟨_, List.getElem?_eq_getElem (by rw [HL.out]; omega)⟩
      obtain ⟨g, og, rfl, hg, hc⟩ := (hA.same HF.out).cell hr
      have q0 : wr.cell? ⟨g, og + j * 7, none⟩ = some (.int .i64 r.par) := hc 0 _ rfl
      have q1 := hc 1 _ rfl
      have q2 := hc 2 _ rfl
      have q3 := hc 3 _ rfl
      have q4 := hc 4 _ rfl
      have q5 := hc 5 _ rfl
      have q6 := hc 6 _ rfl
      have HR := hid hr
      clear hr hc
      obtain ⟨b, hb⟩ : ∃ b, cameB r = b := ⟨_, rfl⟩
      have HB := hid hb
      clear hb
      go_upto_region 4 with fail
      have hB := Blk.new wr #[.int .i64 r.par, .int .i64 r.in_, .int .i64 r.fn, .int .i64 r.kind, .int .i64 r.v, .int .i64 r.st, .string r.cl] 40
      have HF := hid (HF.out.trans (Fr.alloc _ wr (.cells #[.int .i64 r.par, .int .i64 r.in_, .int .i64 r.fn, .int .i64 r.kind, .int .i64 r.v, .int .i64 r.st, .string r.cl] 40)))
      obtain ⟨w4, hw4⟩ : ∃ w4, w4 = wr.alloc (.cells #[.int .i64 r.par, .int .i64 r.in_, .int .i64 r.fn, .int .i64 r.kind, .int .i64 r.v, .int .i64 r.st, .string r.cl] 40) := ⟨_, rfl⟩
      rw [← hw4] at hB HF ⊢
      clear hw4
      have b0 := hB.cell (i := 0) rfl
      have b1 := hB.cell (i := 1) rfl
      have b2 := hB.cell (i := 2) rfl
      have b3 := hB.cell (i := 3) rfl
      have b4 := hB.cell (i := 4) rfl
      have b5 := hB.cell (i := 5) rfl
      have b6 := hB.cell (i := 6) rfl
      simp only [List.getElem_toArray, List.getElem_cons_zero, List.getElem_cons_succ] at b0 b1 b2 b3 b4 b5 b6
      clear q0 q1 q2 q3 q4 q5 q6
      go_wp2_with fail
      refine (came_any r _).mono ?_
      rintro e w' ⟨rfl, hF2⟩
      have HF2 := hid (HF.out.trans hF2)
      clear hF2
      rw [HB.out]
      cases b with
      | false =>
        go_wp2_with fail
        go_ret
        exact ⟨ret_bool (doneB_false HR.out HB.out).symm, HF2.out⟩
      | true =>
        go_wp2_with fail
        go_roundg (n + 1 - (j + 1))
        case rel => exact ⟨j + 1, by omega, rfl, by go_num, fun i r' hi hr' => by
          rcases Nat.lt_or_ge i j with h | h
          · exact HW.out i r' h hr'
          · obtain rfl : i = j := by omega
            rw [HR.out] at hr'
            injection hr' with hr'
            rw [← hr']
            exact HB.out, HF2.out⟩
        case measure => have := HD.out; omega
    · go_wp2_with fail
      go_ret
      exact ⟨ret_bool (doneB_true fun i r hr => HW.out i r (by have := (List.getElem?_eq_some_iff.1 hr).1; rw [HL.out] at this; omega) hr).symm, HF.out⟩


end Go.Proofs.YticlnopklpaikaaDoor
