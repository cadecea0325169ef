/-
  Stage 7: Within, the program's and the document's.
-/
import Derived.Test.YticlnopklpaikaaDoorWay
namespace Go.Proofs.YticlnopklpaikaaDoor
open Go.RowKit
set_option linter.unusedVariables false

theorem parAt_of {l : List Tw} {i : Nat} {r : Tw} (h : l[i]? = some r) : parAt l (i : Int) = r.par := by
  unfold parAt
  rw [if_pos (by omega)]
  simp [h]

theorem wth_out {l : List Tw} {t : Int} {n : Nat} {y : Int} (h : ¬ (0 ≤ y ∧ y < l.length)) : wth l t n y = false := by
  cases n with
  | zero => rfl
  | succ n => simp only [wth]; rw [if_neg h]

theorem wth_hit {l : List Tw} {t : Int} {n : Nat} {y : Int} (hn : 0 < n) (h : 0 ≤ y ∧ y < l.length) (ht : y = t) : wth l t n y = true := by
  obtain ⟨m, rfl⟩ : ∃ m, n = m + 1 := ⟨n - 1, by omega⟩
  simp only [wth]; rw [if_pos h, if_pos ht]

theorem wth_up {l : List Tw} {t : Int} {n : Nat} {y : Int} (hn : 0 < n) (h : 0 ≤ y ∧ y < l.length) (ht : y ≠ t) : wth l t n y = wth l t (n - 1) (parAt l y) := by
  obtain ⟨m, rfl⟩ : ∃ m, n = m + 1 := ⟨n - 1, by omega⟩
  simp only [wth]; rw [if_pos h, if_neg ht]; rfl

/-- Where the loop stands. -/
def WtRel (l : List Tw) (t : Int) (b : Bool) (n : Nat) (w : World) (d : Nat) (x k : Value) (wr : World) : Prop := ∃ (j : Nat) (y : Int), j ≤ n ∧ d = n + 1 - j ∧ x = .int .i64 y ∧ k = .int .i64 j ∧ wth l t (n - j) y = b ∧ Fr (fun _ => False) w wr

set_option maxRecDepth 100000 in
set_option maxHeartbeats 1000000 in
theorem within_any (A : Option Addr) (n c : Nat) (l : List Tw) (i t : Int) (w : World) (hA : RdT w A l) (hl : l.length = n) (hn : n ≤ 4000000) :
    Calls Tryd.prog 15 #[.slice A n c, .int .i64 i, .int .i64 t] w fun e w' => e = .returned (.bool (wth l t n i)) ∧ Fr (fun _ => False) w w' := by
  have HL := hid hl
  clear hl
  obtain ⟨b, hb⟩ : ∃ b, wth l t n i = b := ⟨_, rfl⟩
  rw [hb]
  have HBB := hid hb
  clear hb
  go_enter Tryd.func15, Tryd.ntmps15
  go_wp2_with fail
  go_loopg [1, 9] (n + 1) (fun d x k wr => WtRel l t b n w d x k wr)
  case atStart => exact ⟨0, i, by omega, by omega, rfl, rfl, HBB.out, Fr.refl _ _⟩
  case round =>
    obtain ⟨j, y, hj, hd, rfl, rfl, hw, hF⟩ := hrel
    have HW := hid hw
    have HF := hid hF
    have HD := hid hd
    clear hw hF hd
    by_cases hlt : j < n
    · go_wp2_with fail
      refine (has_any _ _ _ _ _ hn).mono ?_
      rintro e w' ⟨rfl, rfl⟩
      by_cases hin : 0 ≤ y ∧ y < n
      · have HI := hid (show inB n y = true from decide_eq_true hin)
        rw [HI.out]
        obtain ⟨z, rfl⟩ : ∃ z : Nat, y = z := ⟨y.toNat, by omega⟩
        obtain ⟨r, hr⟩ : ∃ r, l[z]? = some r := ⟨_, List.getElem?_eq_getElem (by rw [HL.out]; omega)⟩
        obtain ⟨g, og, rfl, hg, hc⟩ := (hA.same HF.out).cell hr
        have q0 : wr.cell? ⟨g, og + z * 7, none⟩ = some (.int .i64 r.par) := hc 0 _ rfl
        have HR := hid hr
        have hz0 : (0 : Int) ≤ z ∧ (z : Int) < n := by omega
        have hz1 : z < n := by omega
        clear hr hc hin
        by_cases ht : (z : Int) = t
        · have t1 : ((z : Int) == t) = true := beq_iff_eq.2 ht
          have HT := hid ht
          clear ht
          go_wp2_with fail
          go_ret
          exact ⟨ret_bool (by rw [← HW.out]; exact (wth_hit (by omega) (by rw [HL.out]; exact hz0) HT.out).symm), HF.out⟩
        · have t1 : ((z : Int) == t) = false := beq_eq_false_iff_ne.2 ht
          have HT := hid ht
          clear ht
          go_wp2_with fail
          go_roundg (n + 1 - (j + 1))
          case rel => exact ⟨j + 1, r.par, by omega, rfl, rfl, by go_num, by
            rw [← HW.out, wth_up (by omega) (by rw [HL.out]; exact hz0) HT.out, parAt_of HR.out]
            rfl, HF.out⟩
          case measure => have := HD.out; omega
      · have HI := hid (show inB n y = false from decide_eq_false hin)
        rw [HI.out]
        have HN := hid hin
        clear hin
        go_wp2_with fail
        go_ret
        exact ⟨ret_bool (by rw [← HW.out]; exact (wth_out (by rw [HL.out]; exact HN.out)).symm), HF.out⟩
    · go_wp2_with fail
      go_ret
      exact ⟨ret_bool (by rw [← HW.out, show n - j = 0 by omega]; rfl), HF.out⟩

set_option maxRecDepth 100000 in
set_option maxHeartbeats 1000000 in
theorem rwithin_any (A : Option Addr) (n c : Nat) (l : List Tw) (i t : Int) (w : World) (hA : RdT w A l) (hl : l.length = n) (hn : n ≤ 4000000) :
    Calls Tryd.prog 16 #[.slice A n c, .int .i64 i, .int .i64 t] w fun e w' => e = .returned (.bool (wth l t (n + 1) i)) ∧ Fr (fun _ => False) w w' := by
  have HL := hid hl
  clear hl
  obtain ⟨b, hb⟩ : ∃ b, wth l t (n + 1) i = b := ⟨_, rfl⟩
  rw [hb]
  have HBB := hid hb
  clear hb
  go_enter Tryd.func16, Tryd.ntmps16
  go_wp2_with fail
  go_loopg [1, 7] (n + 2) (fun d x k wr => WtRel l t b (n + 1) w d x k wr)
  case atStart => exact ⟨0, i, by omega, by omega, rfl, rfl, HBB.out, Fr.refl _ _⟩
  case round =>
    obtain ⟨j, y, hj, hd, rfl, rfl, hw, hF⟩ := hrel
    have HW := hid hw
    have HF := hid hF
    have HD := hid hd
    clear hw hF hd
    by_cases hlt : j < n + 1
    · by_cases h0 : 0 ≤ y
      · by_cases h1 : y < n
        · obtain ⟨z, rfl⟩ : ∃ z : Nat, y = z := ⟨y.toNat, by omega⟩
          obtain ⟨r, hr⟩ : ∃ r, l[z]? = some r := ⟨_, List.getElem?_eq_getElem (by rw [HL.out]; omega)⟩
          obtain ⟨g, og, rfl, hg, hc⟩ := (hA.same HF.out).cell hr
          have q0 : wr.cell? ⟨g, og + z * 7, none⟩ = some (.int .i64 r.par) := hc 0 _ rfl
          have HR := hid hr
          have hz0 : (0 : Int) ≤ z ∧ (z : Int) < n := by omega
          have hz1 : z < n := by omega
          clear hr hc
          by_cases ht : (z : Int) = t
          · have t1 : ((z : Int) == t) = true := beq_iff_eq.2 ht
            have HT := hid ht
            clear ht
            go_wp2_with fail
            go_ret
            exact ⟨ret_bool (by rw [← HW.out]; exact (wth_hit (by omega) (by rw [HL.out]; exact hz0) HT.out).symm), HF.out⟩
          · have t1 : ((z : Int) == t) = false := beq_eq_false_iff_ne.2 ht
            have HT := hid ht
            clear ht
            go_wp2_with fail
            go_roundg (n + 2 - (j + 1))
            case rel => exact ⟨j + 1, r.par, by omega, rfl, rfl, by go_num, by
              rw [← HW.out, wth_up (by omega) (by rw [HL.out]; exact hz0) HT.out, parAt_of HR.out]
              rfl, HF.out⟩
            case measure => have := HD.out; omega
        · go_wp2_with fail
          go_ret
          exact ⟨ret_bool (by rw [← HW.out]; exact (wth_out (by rw [HL.out]; omega)).symm), HF.out⟩
      · go_wp2_with fail
        go_ret
        exact ⟨ret_bool (by rw [← HW.out]; exact (wth_out (by omega)).symm), HF.out⟩
    · go_wp2_with fail
      go_ret
      exact ⟨ret_bool (by rw [← HW.out, show n + 1 - j = 0 by omega]; rfl), HF.out⟩

end Go.Proofs.YticlnopklpaikaaDoor
