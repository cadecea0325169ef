/-
  ScopeNests answers true at every input.
-/
import Derived.Test.YtoajdknhllaoeaaNes
namespace Go.Proofs.Ytoajdknhllaoeaa
open Go.RowKit
set_option linter.unusedVariables false
set_option linter.unusedSimpArgs false

theorem Tre.cut {n i : Nat} {par nst : Nat → Nat} (h : Tre n par nst) (h0 : 0 < i) (hi : i ≤ n) : Tre i par nst :=
  ⟨h0, fun k k0 k1 => h.lt k k0 (by omega), h.zero, fun k k0 k1 => h.one k k0 (by omega)⟩

/-- All is beside one another, and tells the same. -/
def NeRel (w0 : World) (b : MB) (tb rb : Nat) (T R : Sc) (A1 : Option Addr) (c1 : Nat) (d : Nat) (z : Value) (w : World) : Prop :=
  ∃ i : Nat, i ≤ T.n ∧ d = T.n + 1 - i ∧ z = .int .i64 i ∧ NsM w0 b tb rb T R A1 c1 w

set_option maxRecDepth 100000 in
set_option maxHeartbeats 4000000 in
theorem nestsLaw (A : Option Addr) (ln c : Nat) (f : Nat → Nat → Int) (x y : Int) (w0 : World) (hr : Row w0 A ln 1 f) :
    Calls Try.prog 4 #[.slice A ln c, .int .i64 x, .int .i64 y] w0 fun e w' => e = .returned (.bool true) ∧ Below w0.heap.size w0 w' := by
  have HRW := hid hr
  clear hr
  go_enter Try.func4, Try.ntmps4
  go_wp2_with fail
  refine (new_mk 200 1 200 1 rfl rfl _ (by omega) (by omega) (by omega) (by omega)).mono ?_
  rintro e w1 ⟨b, rfl, hM, hF, hown⟩
  have HM := hid hM
  have HF := hid hF
  have HO := hid hown
  clear hM hF hown
  by_cases hlen : 80 < ln
  · have t1 : decide ((80 : Int) < (ln : Int)) = true := by simp; omega
    go_wp2_with fail
    refine (awake_ok w1).mono ?_
    rintro e w9 ⟨rfl, hF9⟩
    have HF9 := hid (HF.out.trans hF9)
    clear hF9
    go_wp2_with fail
    go_ret
    exact ⟨rfl, HF9.out.below (Nat.le_refl _) (fun _ hh => hh.elim)⟩
  have t1 : decide ((80 : Int) < (ln : Int)) = false := by simp; omega
  have HGR := hid (grow_law A ln c 2 f b w0 w1 (by omega) (by omega) HRW.out HM.out HF.out HO.out)
  clear HM HF HO
  go_wp2_with fail
  refine HGR.out.mono ?_
  rintro e w2 ⟨tb, T, A1, c1, rfl, hD, hTn⟩
  have HD := hid hD
  have hTb : T.n ≤ 81 := by omega
  clear hD hTn t1 hlen
  go_wp2_with fail
  refine (ns_new w2 HD.out).mono ?_
  rintro e w3 ⟨rb, rfl, hN⟩
  have HREL := hid (show NoRel w0 b tb rb T A1 c1 (T.n + 1 - 1) (.int .i64 1) w3 from ⟨1, _, by omega, hN.okT.pos, rfl, rfl, rfl, fun k h1 h2 => by omega, hN⟩)
  clear hN
  go_wp2_with fail
  go_loopg [13] (T.n + 1 - 1) (fun d z wr => NoRel w0 b tb rb T A1 c1 d z wr)
  case atStart => exact HREL.out
  case round =>
    clear HREL
    obtain ⟨i, R, hi0, hi, rfl, rfl, hRn, hag, hN⟩ := hrel
    have HI0 := hid hi0
    have HI := hid hi
    have HRN := hid hRn
    have HAG := hid hag
    have HN := hid hN
    clear hi0 hi hRn hag hN
    by_cases hlt : i < T.n
    · have hlt2 : (i : Int) < T.n := by omega
      obtain ⟨g, rfl, hcap, hgl, hcl⟩ := HN.out.r1.at_ hlt
      rw [pI_pos _ HI0.out] at hcl
      have hpi := Tre.lt HN.out.okT i HI0.out hlt
      have hone := Tre.one HN.out.okT i HI0.out hlt
      have hd32 := HD.out.d i hlt
      have hTR := Tre.nst_eq (Tre.cut HN.out.okT HI0.out HI.out) (by have := HN.out.okR; unfold Sc.ok at this; rw [HRN.out] at this; exact this) HAG.out _ hpi
      have HOP := hid (ns_open (b := b) (tb := tb) (T := T) wr 0 1 2 ((T.par i : Nat) : Int) (T.par i) rfl (by rw [HRN.out]; exact hpi) (by omega) (by omega) (by omega) (by omega) (by have := HRN.out; omega) HN.out)
      obtain ⟨v, hv⟩ : ∃ v : Int, ((T.par i : Nat) : Int) = v := ⟨_, rfl⟩
      rw [hv] at hcl HOP
      clear hv hpi hone hd32 hTR
      have hi81 : i ≤ 81 := by omega
      go_wp2_with fail
      refine HOP.out.mono ?_
      rintro e w4 ⟨rfl, h4⟩
      have H4 := hid h4
      clear h4
      go_wp2_with fail
      go_roundg (T.n + 1 - (i + 1))
      case rel => exact ⟨i + 1, _, by omega, hlt, by omega, by go_num, by show R.n + 1 = i + 1; rw [HRN.out], opn_agr HRN.out HAG.out, H4.out⟩
      case measure => omega
    · obtain rfl : i = T.n := by have := HI.out; omega
      have HA := hid (show Agr T R from ⟨HRN.out.symm, HAG.out⟩)
      have HTO := hid HN.out.okT
      have HRO := hid HN.out.okR
      have HSM := hid (show R.n < 1000000 from by have := HRN.out; omega)
      obtain ⟨p1, hp1⟩ : ∃ v, parV T x = v := ⟨_, rfl⟩
      obtain ⟨p2, hp2⟩ : ∃ v, nestV T x = v := ⟨_, rfl⟩
      obtain ⟨p3, hp3⟩ : ∃ v, insV T x y = v := ⟨_, rfl⟩
      obtain ⟨p4, hp4⟩ : ∃ v, insV T y x = v := ⟨_, rfl⟩
      have HC1 := hid (fun W h => ns_parent (R := R) (c1 := c1) (A1 := A1) (w0 := w0) (b := b) (rb := rb) (tb := tb) W x p1 hp1 h)
      have HC2 := hid (fun W h => ns_rparent (T := T) (c1 := c1) (A1 := A1) (w0 := w0) (b := b) (rb := rb) (tb := tb) W x p1 ((HA.out.par_eq x).symm.trans hp1) h)
      have HC3 := hid (fun W h => ns_nest (R := R) (c1 := c1) (A1 := A1) (w0 := w0) (b := b) (rb := rb) (tb := tb) W x p2 hp2 h)
      have HC4 := hid (fun W h => ns_rnest (T := T) (c1 := c1) (A1 := A1) (w0 := w0) (b := b) (rb := rb) (tb := tb) W x p2 HSM.out ((HA.out.nest_eq HTO.out HRO.out x).symm.trans hp2) h)
      have HC5 := hid (fun W h => ns_inside (R := R) (c1 := c1) (A1 := A1) (w0 := w0) (b := b) (rb := rb) (tb := tb) W x y p3 hp3 h)
      have HC6 := hid (fun W h => ns_rinside (T := T) (c1 := c1) (A1 := A1) (w0 := w0) (b := b) (rb := rb) (tb := tb) W x y p3 ((HA.out.ins_eq HTO.out HRO.out x y).symm.trans hp3) h)
      have HC7 := hid (fun W h => ns_inside (R := R) (c1 := c1) (A1 := A1) (w0 := w0) (b := b) (rb := rb) (tb := tb) W y x p4 hp4 h)
      have HC8 := hid (fun W h => ns_rinside (T := T) (c1 := c1) (A1 := A1) (w0 := w0) (b := b) (rb := rb) (tb := tb) W y x p4 ((HA.out.ins_eq HTO.out HRO.out y x).symm.trans hp4) h)
      have q1 : (p1 != p1) = false := by simp
      have q2 : (p2 != p2) = false := by simp
      have q3 : (p3 != p3) = false := by simp
      have q4 : (p4 != p4) = false := by simp
      have q0 : ((T.n : Int) != (T.n : Int)) = false := by simp
      clear hp1 hp2 hp3 hp4 hlt
      go_wp2_with fail
      refine (ns_len wr HN.out).mono ?_
      rintro e w4 ⟨rfl, hF⟩
      have H := hid (HN.out.same hF)
      clear hF HN
      go_wp2_with fail
      refine (HC1.out _ H.out).mono ?_
      rintro e wn1 ⟨rfl, hF⟩
      have Hn := hid (H.out.same hF)
      have H := Hn
      clear hF Hn
      go_wp2_with fail
      refine (HC2.out _ H.out).mono ?_
      rintro e wn2 ⟨rfl, hF⟩
      have Hn := hid (H.out.same hF)
      have H := Hn
      clear hF Hn
      go_wp2_with fail
      refine (HC3.out _ H.out).mono ?_
      rintro e wn3 ⟨rfl, hF⟩
      have Hn := hid (H.out.same hF)
      have H := Hn
      clear hF Hn
      go_wp2_with fail
      refine (HC4.out _ H.out).mono ?_
      rintro e wn4 ⟨rfl, hF⟩
      have Hn := hid (H.out.same hF)
      have H := Hn
      clear hF Hn
      go_wp2_with fail
      refine (HC5.out _ H.out).mono ?_
      rintro e wn5 ⟨rfl, hF⟩
      have Hn := hid (H.out.same hF)
      have H := Hn
      clear hF Hn
      go_wp2_with fail
      refine (HC6.out _ H.out).mono ?_
      rintro e wn6 ⟨rfl, hF⟩
      have Hn := hid (H.out.same hF)
      have H := Hn
      clear hF Hn
      go_wp2_with fail
      refine (HC7.out _ H.out).mono ?_
      rintro e wn7 ⟨rfl, hF⟩
      have Hn := hid (H.out.same hF)
      have H := Hn
      clear hF Hn
      go_wp2_with fail
      refine (HC8.out _ H.out).mono ?_
      rintro e wz ⟨rfl, hF⟩
      have Hn := hid (H.out.same hF)
      have H := Hn
      clear hF Hn
      go_wp2_with fail
      have HREL2 := hid (show NeRel w0 b tb rb T R A1 c1 (T.n + 1) (.int .i64 0) wz from ⟨0, by omega, by omega, rfl, H.out⟩)
      clear H HC1 HC2 HC3 HC4 HC5 HC6 HC7 HC8
      go_loopg [14] (T.n + 1) (fun d z wr => NeRel w0 b tb rb T R A1 c1 d z wr)
      case atStart => exact HREL2.out
      case round =>
        clear HREL2
        obtain ⟨j, hj, rfl, rfl, hN⟩ := hrel
        have HJ := hid hj
        have HN := hid hN
        clear hj hN
        by_cases hjl : j < T.n
        · have hj2 : (j : Int) < T.n := by omega
          obtain ⟨g, rfl, hcap, hgl, hcl⟩ := HN.out.r1.at_ hjl
          obtain ⟨v1, hv1⟩ : ∃ v, pI T.par j = v := ⟨_, rfl⟩
          obtain ⟨v2, hv2⟩ : ∃ v, nestV T j = v := ⟨_, rfl⟩
          obtain ⟨v3, hv3⟩ : ∃ v, insV T j x = v := ⟨_, rfl⟩
          have HC1 := hid (fun W h => ns_parent (R := R) (c1 := c1) (A1 := (some ⟨g, 0, none⟩)) (w0 := w0) (b := b) (rb := rb) (tb := tb) W j v1 ((parV_in T hjl).trans hv1) h)
          have HC2 := hid (fun W h => ns_nest (R := R) (c1 := c1) (A1 := (some ⟨g, 0, none⟩)) (w0 := w0) (b := b) (rb := rb) (tb := tb) W j v2 hv2 h)
          have HC3 := hid (fun W h => ns_rnest (T := T) (c1 := c1) (A1 := (some ⟨g, 0, none⟩)) (w0 := w0) (b := b) (rb := rb) (tb := tb) W j v2 HSM.out ((HA.out.nest_eq HTO.out HRO.out j).symm.trans hv2) h)
          have HC4 := hid (fun W h => ns_inside (R := R) (c1 := c1) (A1 := (some ⟨g, 0, none⟩)) (w0 := w0) (b := b) (rb := rb) (tb := tb) W j x v3 hv3 h)
          have HC5 := hid (fun W h => ns_rinside (T := T) (c1 := c1) (A1 := (some ⟨g, 0, none⟩)) (w0 := w0) (b := b) (rb := rb) (tb := tb) W j x v3 ((HA.out.ins_eq HTO.out HRO.out j x).symm.trans hv3) h)
          have HC6 := hid (fun W h => ns_inside (R := R) (c1 := c1) (A1 := (some ⟨g, 0, none⟩)) (w0 := w0) (b := b) (rb := rb) (tb := tb) W j j true ((insV_in T hjl hjl).2 (Tre.ard_self HTO.out j)) h)
          have HC7 := hid (fun W h => ns_inside (R := R) (c1 := c1) (A1 := (some ⟨g, 0, none⟩)) (w0 := w0) (b := b) (rb := rb) (tb := tb) W j 0 true ((insV_in T hjl HTO.out.pos).2 (Tre.ard_root HTO.out hjl)) h)
          rw [hv1] at hcl
          have HCL := hid (show ∀ W, Fr (fun _ => False) wr W → W.cell? ⟨g, j, none⟩ = some (.int .i64 v1) from fun W F => by rw [← hcl]; exact World.cell?_of_block (w := wr) (F.block g hgl id))
          have HFd := hid (Fr.refl (fun _ => False) wr)
          have q5 : (v1 != v1) = false := by simp
          have q6 : (v2 != v2) = false := by simp
          have q7 : (v3 != v3) = false := by simp
          clear hv1 hv2 hv3 hcl hgl hcap
          go_upto_region 19 with fail
          go_region_held3 (fun W => W.cell? ⟨g, j, none⟩ = some (.int .i64 v1))
            (first | exact HCL.out _ HFd.out | exact HCL.out _ (HFd.out.trans (Fr.drew _ _)))
            (first
              | (go_at_call 26; (with_reducible refine (HC1.out _ (HN.out.same (by first | exact HFd.out | exact HFd.out.trans (Fr.drew _ _)))).mono ?_); rintro e w6 ⟨rfl, hF6⟩; have HFd := hid (HFd.out.trans (show Fr (fun _ => False) _ w6 from by first | exact hF6 | exact (Fr.drew _ _).trans hF6)); clear hF6)
              | (go_at_call 28; (with_reducible refine (HC2.out _ (HN.out.same (by first | exact HFd.out | exact HFd.out.trans (Fr.drew _ _)))).mono ?_); rintro e w6 ⟨rfl, hF6⟩; have HFd := hid (HFd.out.trans (show Fr (fun _ => False) _ w6 from by first | exact hF6 | exact (Fr.drew _ _).trans hF6)); clear hF6)
              | (go_at_call 29; (with_reducible refine (HC3.out _ (HN.out.same (by first | exact HFd.out | exact HFd.out.trans (Fr.drew _ _)))).mono ?_); rintro e w6 ⟨rfl, hF6⟩; have HFd := hid (HFd.out.trans (show Fr (fun _ => False) _ w6 from by first | exact hF6 | exact (Fr.drew _ _).trans hF6)); clear hF6)
              | (go_at_call 31; (with_reducible refine (HC5.out _ (HN.out.same (by first | exact HFd.out | exact HFd.out.trans (Fr.drew _ _)))).mono ?_); rintro e w6 ⟨rfl, hF6⟩; have HFd := hid (HFd.out.trans (show Fr (fun _ => False) _ w6 from by first | exact hF6 | exact (Fr.drew _ _).trans hF6)); clear hF6)
              | (go_at_call 30; go_must (first
                | ((with_reducible refine (HC4.out _ (HN.out.same (by first | exact HFd.out | exact HFd.out.trans (Fr.drew _ _)))).mono ?_); rintro e w6 ⟨rfl, hF6⟩; have HFd := hid (HFd.out.trans (show Fr (fun _ => False) _ w6 from by first | exact hF6 | exact (Fr.drew _ _).trans hF6)); clear hF6)
                | ((with_reducible refine (HC6.out _ (HN.out.same (by first | exact HFd.out | exact HFd.out.trans (Fr.drew _ _)))).mono ?_); rintro e w6 ⟨rfl, hF6⟩; have HFd := hid (HFd.out.trans (show Fr (fun _ => False) _ w6 from by first | exact hF6 | exact (Fr.drew _ _).trans hF6)); clear hF6)
                | ((with_reducible refine (HC7.out _ (HN.out.same (by first | exact HFd.out | exact HFd.out.trans (Fr.drew _ _)))).mono ?_); rintro e w6 ⟨rfl, hF6⟩; have HFd := hid (HFd.out.trans (show Fr (fun _ => False) _ w6 from by first | exact hF6 | exact (Fr.drew _ _).trans hF6)); clear hF6))))
          all_goals
            have HN2 := hid (HN.out.same (by first | exact HFd.out | exact HFd.out.trans (Fr.drew _ _)))
            go_wp2_with fail
            go_roundg (T.n + 1 - (j + 1))
            case rel => exact ⟨j + 1, by omega, by omega, by go_num, HN2.out⟩
            case measure => omega
        · obtain rfl : j = T.n := by have := HJ.out; omega
          go_wp2_with fail
          refine (awake_ok _).mono ?_
          rintro e w9 ⟨rfl, hF9⟩
          have HF9 := hid (HN.out.fr.trans hF9)
          clear hF9
          go_wp2_with fail
          go_ret
          exact ⟨rfl, HF9.out.below (Nat.le_refl _) (fun _ hh => hh.elim)⟩
end Go.Proofs.Ytoajdknhllaoeaa
