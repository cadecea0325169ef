/-
  The document's tree of scopes: Inside, New, Open, May (walks).
-/
import Derived.Test.YtoajdknhllaoeaaRft
namespace Go.Proofs.Ytoajdknhllaoeaa
open Go.RowKit
set_option linter.unusedVariables false

theorem infob1 : (Try.prog.info? 4).map (fun i => (i.zero, i.size, i.bytes)) = some (some (.bool false), 1, 1) := by kernel_rfl
theorem infol1 : (Try.prog.info? 2).map (fun i => (i.zero, i.size, i.bytes)) = some (some (.int .i64 0), 1, 8) := by kernel_rfl

/-- What the document's tree turned leaves. -/
def RfP (P : Nat → Prop) (rb : Nat) (T : Sc) (w w' : World) : Prop := ∃ P', RfM w' P' rb T ∧ Fr P w w' ∧ ∀ k, P' k → P k ∨ w.heap.size ≤ k

section
variable {P : Nat → Prop} {rb : Nat} {T : Sc} (w : World)

def RiRel (w : World) (T : Sc) (s o : Nat) (d : Nat) (x : Value) (wr : World) : Prop := ∃ t : Nat, t ≤ T.nst s ∧ d = T.nst s + 1 - t ∧ x = .int .i64 (up T.par s t : Nat) ∧ w = wr ∧ ∀ j, j < t → up T.par s j ≠ o

set_option maxRecDepth 100000 in
set_option maxHeartbeats 2000000 in
theorem r_inside_in (k o : Nat) (r : Bool) (hk : k < T.n) (ho : o < T.n) (hr : r = true ↔ Ard T.par T.nst k o) (h : RfM w P rb T) : Calls Try.prog 31 #[.pointer (some ⟨rb, 0, none⟩), .int .i64 k, .int .i64 o] w fun e w' => e = .returned (.bool r) ∧ w = w' := by
  have HI1 := hid (by have := r_is w k h; rw [isB_yes hk] at this; exact this)
  have HI2 := hid (by have := r_is w o h; rw [isB_yes ho] at this; exact this)
  obtain ⟨g, c, q, q2, c0, hc, hl, hcl, -, -⟩ := h.par_
  have HCL := hid hcl
  have HOK := hid h.ok
  have HK := hid hk
  have HR := hid hr
  have HREL := hid (show RiRel w T k o (T.nst k + 1) (.int .i64 k) w from ⟨0, by omega, by omega, rfl, rfl, fun j hj => by omega⟩)
  clear h hcl hk ho hr
  go_enter Try.func31, Try.ntmps31
  go_wp2_with fail
  refine HI1.out.mono ?_
  rintro e w2 ⟨rfl, rfl⟩
  go_wp2_with fail
  refine HI2.out.mono ?_
  rintro e w2 ⟨rfl, rfl⟩
  go_wp2_with fail
  go_loopg [1] (T.nst k + 1) (fun d x wr => RiRel w T k o d x wr)
  case atStart => exact HREL.out
  case round =>
    clear HREL
    obtain ⟨t, ht, rfl, rfl, hw, hno⟩ := hrel
    subst hw
    have HTT := hid ht
    have HNO := hid hno
    have HUP := hid (Tre.up_in HOK.out HK.out t ht)
    have HA := hid (Tre.ard_at HOK.out HK.out ht hno)
    have HPU := hid (fun hlt => pI_up HOK.out HK.out (show t < T.nst k from hlt))
    have hin := HUP.out.1
    have c1 := HCL.out _ hin
    obtain ⟨j, hj⟩ : ∃ j, up T.par k t = j := ⟨_, rfl⟩
    rw [hj] at HA HPU hin c1 ⊢
    have HJ := hid hj
    have hin2 : (j : Int) < T.n := by omega
    clear hj ht hno
    by_cases he : j = o
    · have hrt : r = true := HR.out.2 (HA.out.1 he)
      subst hrt he
      have t1 : ((j : Int) != (j : Int)) = false := by simp
      go_wp2_with fail
      go_ret
      exact ⟨rfl, rfl⟩
    · have t1 : ((j : Int) != (o : Int)) = true := by simp; omega
      have t3 : ((j : Int) == (o : Int)) = false := by simp; omega
      by_cases h0 : j = 0
      · have hrf : r = false := by
          cases r with
          | false => rfl
          | true => exact absurd (HR.out.1 rfl) (HA.out.2.1 he h0)
        subst hrf
        have t2 : ((j : Int) != 0) = false := by simp; omega
        clear h0 he
        go_wp2_with fail
        go_ret
        exact ⟨rfl, rfl⟩
      · have t2 : ((j : Int) != 0) = true := by simp; omega
        obtain ⟨n1, n2⟩ := HA.out.2.2 he h0
        obtain ⟨v, hv⟩ : ∃ v, pI T.par j = v := ⟨_, rfl⟩
        rw [hv] at c1 HPU
        have HN2 := hid n2
        have HN1 := hid n1
        clear hv he h0 n1 n2
        go_wp2_with fail
        go_roundg (T.nst k + 1 - (t + 1))
        case rel => exact ⟨t + 1, HN1.out, by omega, by rw [HPU.out (by have := HN1.out; omega)], rfl, fun i hi => HN2.out i hi⟩
        case measure => have := HTT.out; omega

set_option maxRecDepth 100000 in
set_option maxHeartbeats 2000000 in
theorem r_inside_out (x y : Int) (hxy : (isB T.n x && isB T.n y) = false) (h : RfM w P rb T) : Calls Try.prog 31 #[.pointer (some ⟨rb, 0, none⟩), .int .i64 x, .int .i64 y] w fun e w' => e = .returned (.bool false) ∧ w = w' := by
  have HI1 := hid (r_is w x h)
  have HI2 := hid (r_is w y h)
  cases hb : isB T.n x with
  | false =>
    rw [hb] at HI1
    clear h hxy hb HI2
    go_enter Try.func31, Try.ntmps31
    go_wp2_with fail
    refine HI1.out.mono ?_
    rintro e w2 ⟨rfl, rfl⟩
    go_wp2_with fail
    go_ret
    exact ⟨rfl, rfl⟩
  | true =>
    rw [hb] at HI1 hxy
    rw [show isB T.n y = false from by simpa using hxy] at HI2
    clear h hxy hb
    go_enter Try.func31, Try.ntmps31
    go_wp2_with fail
    refine HI1.out.mono ?_
    rintro e w2 ⟨rfl, rfl⟩
    go_wp2_with fail
    refine HI2.out.mono ?_
    rintro e w2 ⟨rfl, rfl⟩
    go_wp2_with fail
    go_ret
    exact ⟨rfl, rfl⟩

theorem r_inside (x y : Int) (h : RfM w P rb T) : Calls Try.prog 31 #[.pointer (some ⟨rb, 0, none⟩), .int .i64 x, .int .i64 y] w fun e w' => e = .returned (.bool (insV T x y)) ∧ w = w' := by
  cases hb : (isB T.n x && isB T.n y) with
  | true =>
    obtain ⟨h1, h2⟩ := Bool.and_eq_true_iff.1 hb
    obtain ⟨k, rfl, hk⟩ := isB_of h1
    obtain ⟨o, rfl, ho⟩ := isB_of h2
    exact r_inside_in w k o _ hk ho (insV_in T hk ho) h
  | false => rw [insV_out T hb]; exact r_inside_out w x y hb h

set_option maxRecDepth 100000 in
set_option maxHeartbeats 1000000 in
theorem r_new (z : Nat) (s : List Int) : Calls Try.prog 12 #[] w fun e w' => ∃ rb P, e = .returned (.pointer (some ⟨rb, 0, none⟩)) ∧ RfM w' P rb (scT z s) ∧ Fr (fun _ => False) w w' ∧ ∀ k, P k → w.heap.size ≤ k := by
  go_enter Try.func12, Try.ntmps12
  go_wp2_with fail
  go_ret
  refine ⟨_, fun k => w.heap.size ≤ k ∧ k < w.heap.size + 4, rfl, ⟨⟨some ⟨w.heap.size, 0, none⟩, 1, some ⟨w.heap.size + 1, 0, none⟩, 1, some ⟨w.heap.size + 1 + 1, 0, none⟩, 1, ?_, ?_, ?_, ?_, ?_, ?_, ?_, ?_⟩, scT_ok _ _, fun k hk => by simp; omega⟩, ((((Fr.alloc _ _ _).trans (Fr.alloc _ _ _)).trans (Fr.alloc _ _ _)).trans (Fr.alloc _ _ _)), fun k hk => hk.1⟩
  · refine (TBlk.new _ _ _).at ?_; simp
  · exact OwnR.same (w := w.alloc (.cells #[.int .i64 (-1)] 3)) ⟨rfl, .inr ⟨w.heap.size, 1, #[.int .i64 (-1)], rfl, Nat.zero_le _, TBlk.new w _ _, Nat.le_refl _, by unfold maxLen; omega, rfl, rfl⟩⟩ (((Fr.alloc _ _ _).trans (Fr.alloc _ _ _)).trans (Fr.alloc _ _ _))
  · exact OwnR.same (w := (w.alloc (.cells #[.int .i64 (-1)] 3)).alloc (.cells #[.bool false] 4)) ⟨rfl, .inr ⟨w.heap.size + 1, 1, #[.bool false], rfl, Nat.zero_le _, (TBlk.new _ _ _).at (by simp), Nat.le_refl _, by unfold maxLen; omega, rfl, rfl⟩⟩ ((Fr.alloc _ _ _).trans (Fr.alloc _ _ _))
  · exact OwnR.same (w := ((w.alloc (.cells #[.int .i64 (-1)] 3)).alloc (.cells #[.bool false] 4)).alloc (.cells #[.int .i64 0] 2)) ⟨rfl, .inr ⟨w.heap.size + 1 + 1, 1, #[.int .i64 0], rfl, Nat.zero_le _, (TBlk.new _ _ _).at (by simp), Nat.le_refl _, by unfold maxLen; omega, rfl, rfl⟩⟩ (Fr.alloc _ _ _)
  · show w.heap.size ≤ _ ∧ _ < w.heap.size + 4; simp; omega
  · rintro k ⟨a, ha, rfl⟩; cases ha; exact ⟨Nat.le_refl _, by show w.heap.size < w.heap.size + 4; omega⟩
  · rintro k ⟨a, ha, rfl⟩; cases ha; exact ⟨by show w.heap.size ≤ w.heap.size + 1; omega, by show w.heap.size + 1 < w.heap.size + 4; omega⟩
  · rintro k ⟨a, ha, rfl⟩; cases ha; exact ⟨by show w.heap.size ≤ w.heap.size + 1 + 1; omega, by show w.heap.size + 1 + 1 < w.heap.size + 4; omega⟩

/-- What the errors of calls are. -/
def mayE (n : Nat) (most x s : Int) : Int := bif isB n s then (bif decide (x < 0) || decide (most < x) then 10 else 0) else 17

set_option maxRecDepth 100000 in
set_option maxHeartbeats 1000000 in
theorem r_may (x most s : Int) (h : RfM w P rb T) : Calls Try.prog 13 #[.pointer (some ⟨rb, 0, none⟩), .int .i64 x, .int .i64 most, .int .i64 s] w fun e w' => e = .returned (.int .i64 (mayE T.n most x s)) ∧ w = w' := by
  have HIS := hid (r_is w s h)
  unfold mayE
  cases hb : isB T.n s with
  | false =>
    rw [hb] at HIS
    clear h hb
    go_enter Try.func13, Try.ntmps13
    go_wp2_with fail
    refine HIS.out.mono ?_
    rintro e w2 ⟨rfl, rfl⟩
    go_wp2_with fail
    go_ret
    exact ⟨rfl, rfl⟩
  | true =>
    rw [hb] at HIS
    clear h hb
    by_cases h1 : x < 0
    · have t1 : decide (x < 0) = true := decide_eq_true h1
      rw [t1]
      go_enter Try.func13, Try.ntmps13
      go_wp2_with fail
      refine HIS.out.mono ?_
      rintro e w2 ⟨rfl, rfl⟩
      go_wp2_with fail
      go_ret
      exact ⟨rfl, rfl⟩
    · have t1 : decide (x < 0) = false := decide_eq_false h1
      rw [t1]
      by_cases h2 : most < x
      · have t2 : decide (most < x) = true := decide_eq_true h2
        rw [t2]
        go_enter Try.func13, Try.ntmps13
        go_wp2_with fail
        refine HIS.out.mono ?_
        rintro e w2 ⟨rfl, rfl⟩
        go_wp2_with fail
        go_ret
        exact ⟨rfl, rfl⟩
      · have t2 : decide (most < x) = false := decide_eq_false h2
        rw [t2]
        go_enter Try.func13, Try.ntmps13
        go_wp2_with fail
        refine HIS.out.mono ?_
        rintro e w2 ⟨rfl, rfl⟩
        go_wp2_with fail
        go_ret
        exact ⟨rfl, rfl⟩
end
end Go.Proofs.Ytoajdknhllaoeaa
