/-
  ScopeSpreads answers true at every input.
-/
import Derived.Test.YtoajdknhllaoeaaSpq
import Derived.Deep.CutBlock
import Derived.StillTailTactics
namespace Go.Proofs.Ytoajdknhllaoeaa
open Go.RowKit
set_option linter.unusedVariables false
set_option linter.unusedSimpArgs false

theorem infobl : (Try.prog.info? 4).map (fun i => (i.zero, i.size, i.bytes)) = some (some (.bool false), 1, 1) := by kernel_rfl
theorem infolp : (Try.prog.info? 60).map (fun i => (i.zero, i.size, i.bytes)) = some (some (.pointer none), 1, 8) := by kernel_rfl

theorem Row.at_three {w : World} {a : Option Addr} {len i : Nat} {f : Nat → Nat → Int} (h : Row w a len 3 f) (hi : i < len) :
    ∃ b off, a = some ⟨b, off, none⟩ ∧ b < w.heap.size ∧ (∀ v, Fr (fun _ => False) w v → v.cell? ⟨b, off + i * 3, none⟩ = some (.int .i64 (f i 0)) ∧ v.cell? ⟨b, off + i * 3 + 1, none⟩ = some (.int .i64 (f i 1)) ∧ v.cell? ⟨b, off + i * 3 + 2, none⟩ = some (.int .i64 (f i 2))) := by
  obtain ⟨b, off, ha, hb, hc⟩ := h (by omega)
  have key : ∀ v, Fr (fun _ => False) w v → ∀ j, j < 3 → v.cell? ⟨b, off + i * 3 + j, none⟩ = some (.int .i64 (f i j)) := by
    intro v hf j hj
    have := (hc i j hi hj).1
    rw [← Nat.add_assoc] at this
    rw [← this]
    exact World.cell?_of_block (w := w) (hf.block b hb id)
  exact ⟨b, off, ha, hb, fun v hf => ⟨key v hf 0 (by omega), key v hf 1 (by omega), key v hf 2 (by omega)⟩⟩

def sp0 (T : Sc) : SpD := ⟨T, fun _ => false, fun _ => false, fun _ => 0, fun _ => 0, fun _ => 0, fun _ => 0, fun _ => .pointer none, fun _ => .slice none 0 0, fun _ _ => false, fun _ => false, fun _ => false⟩

def SpRel (w0 : World) (b : MB) (tb n : Nat) (par nst : Nat → Nat) (A1 : Option Addr) (c1 B la : Nat) (d : Nat) (z : Value) (w : World) : Prop :=
  ∃ (i : Nat) (D : SpD), i ≤ la ∧ d = la + 1 - i ∧ z = .int .i64 i ∧ SpM w0 b tb n par nst A1 c1 B D w ∧ SpP n par nst D

/-- Some scope around s, below j, is told so. -/
def Some_ (par nst : Nat → Nat) (s j : Nat) (f : Nat → Bool) : Prop := ∃ o, o < j ∧ Ard par nst s o ∧ f o = true

theorem Some_.next {par nst : Nat → Nat} {s j : Nat} {f : Nat → Bool} {v r : Bool} (h : v = true ↔ Some_ par nst s j f) (hr : r = true ↔ Ard par nst s j) : (v || (r && f j)) = true ↔ Some_ par nst s (j + 1) f := by
  constructor
  · intro hh
    rcases (show v = true ∨ (r = true ∧ f j = true) by simpa using hh) with h1 | ⟨h2, h3⟩
    · obtain ⟨o, h2, h3⟩ := h.1 h1
      exact ⟨o, by omega, h3⟩
    · exact ⟨j, by omega, hr.1 h2, h3⟩
  · rintro ⟨o, h1, h2, h3⟩
    by_cases e : o = j
    · subst e
      rw [hr.2 h2, h3]; simp
    · rw [h.2 ⟨o, by omega, h2, h3⟩]; rfl

/-- The loop over all scopes: what was told so far. -/
def SjRel (par nst : Nat → Nat) (s n : Nat) (f g : Nat → Bool) (w : World) (d : Nat) (x y z : Value) (wr : World) : Prop :=
  ∃ (j : Nat) (v v' : Bool), j ≤ n ∧ d = n + 1 - j ∧ x = .bool v ∧ y = .bool v' ∧ z = .int .i64 j ∧ w = wr ∧ (v = true ↔ Some_ par nst s j f) ∧ (v' = true ↔ Some_ par nst s j g)

set_option maxRecDepth 100000 in
set_option maxHeartbeats 4000000 in
theorem spreadsLaw (A : Option Addr) (ln c : Nat) (f : Nat → Nat → Int) (A2 : Option Addr) (la c2 : Nat) (g : Nat → Nat → Int) (w0 : World) (hr : Row w0 A ln 1 f) (hg : Row w0 A2 la 3 g) :
    Calls Try.prog 6 #[.slice A ln c, .slice A2 la c2] w0 fun e w' => e = .returned (.bool true) ∧ Below w0.heap.size w0 w' := by
  have HRW := hid hr
  have HGW := hid hg
  clear hr hg
  go_enter Try.func6, Try.ntmps6
  go_wp2_with fail
  refine (new_mk 200 2 200 2 rfl rfl _ (by omega) (by omega) (by omega) (by omega)).mono ?_
  rintro e w1 ⟨b, rfl, hM, hF, hown⟩
  have HM := hid hM
  have HF := hid hF
  have HO := hid hown
  clear hM hF hown
  by_cases hlen : 60 < ln ∨ 300 < la
  · have HAW := hid (awake_ok w1)
    by_cases h1 : 60 < ln
    · have t1 : decide ((60 : Int) < (ln : Int)) = true := by simp; omega
      go_wp2_with fail
      refine HAW.out.mono ?_
      rintro e w9 ⟨rfl, hF9⟩
      have HF9 := hid (HF.out.trans hF9)
      clear hF9
      go_wp2_with fail
      go_ret
      exact ⟨rfl, HF9.out.below (Nat.le_refl _) (fun _ hh => hh.elim)⟩
    · have t1 : decide ((60 : Int) < (ln : Int)) = false := by simp; omega
      have t2 : decide ((300 : Int) < (la : Int)) = true := by simp; omega
      go_wp2_with fail
      refine HAW.out.mono ?_
      rintro e w9 ⟨rfl, hF9⟩
      have HF9 := hid (HF.out.trans hF9)
      clear hF9
      go_wp2_with fail
      go_ret
      exact ⟨rfl, HF9.out.below (Nat.le_refl _) (fun _ hh => hh.elim)⟩
  have t1 : decide ((60 : Int) < (ln : Int)) = false := by simp; omega
  have t2 : decide ((300 : Int) < (la : Int)) = false := by simp; omega
  have HLEN := hid hlen
  have HGR := hid (grow_law A ln c 3 f b w0 w1 (by omega) (by omega) HRW.out HM.out HF.out HO.out)
  clear hlen HM HF HO
  go_wp2_with fail
  refine HGR.out.mono ?_
  rintro e w2 ⟨tb, T, A1, c1, rfl, hD, hTn⟩
  have HD := hid hD
  have HTN := hid hTn
  have hn0 : 0 < T.n := by obtain ⟨O, k1, _⟩ := hD.ex; exact k1.pos
  have hTb : T.n ≤ 61 := by have := HLEN.out; omega
  obtain ⟨n, hn⟩ : ∃ n, T.n = n := ⟨_, rfl⟩
  rw [hn] at hn0 hTb ⊢
  have HN := hid hn
  clear hD hTn hn t1 t2
  have m1 := run_make_row' (P := Try.prog) 40 4 (.bool false) 1 Try.underlying40 infobl rfl .i64 .i64 n (by omega) (by omega)
  have m2 := run_make_row' (P := Try.prog) 58 60 (.pointer none) 8 Try.underlying58 infolp rfl .i64 .i64 3 (by omega) (by omega)
  have m3 := run_make_row' (P := Try.prog) 40 4 (.bool false) 1 Try.underlying40 infobl rfl .i64 .i64 3 (by omega) (by omega)
  have m4 := run_make_row' (P := Try.prog) 39 3 (.int .i64 0) 8 Try.underlying39 infon rfl .i64 .i64 3 (by omega) (by omega)
  rw [show ((3 : Nat) : Int) = 3 from rfl] at m2 m3 m4
  go_upto_region 15 with fail
  obtain ⟨B, hB⟩ : ∃ B, w2.heap.size = B := ⟨_, rfl⟩
  have HSM := hid (show SpM w0 b tb n T.par T.nst A1 c1 B (sp0 T) ((((((w2.alloc (.cells (madeCells #[.bool false] n) 4)).alloc (.cells (madeCells #[.pointer none] 3) 60)).alloc (.cells (madeCells #[.bool false] 3) 4)).alloc (.cells (madeCells #[.int .i64 0] 3) 3)).alloc (.cells (madeCells #[.int .i64 0] 3) 3)).alloc (.cells #[.slice none 0 0, .slice none 0 0, .slice none 0 0] 40)) from by
    obtain ⟨O, k1, k2, k3⟩ := HD.out.ex
    have F : Fr (fun _ => False) w2 ((((((w2.alloc (.cells (madeCells #[.bool false] n) 4)).alloc (.cells (madeCells #[.pointer none] 3) 60)).alloc (.cells (madeCells #[.bool false] 3) 4)).alloc (.cells (madeCells #[.int .i64 0] 3) 3)).alloc (.cells (madeCells #[.int .i64 0] 3) 3)).alloc (.cells #[.slice none 0 0, .slice none 0 0, .slice none 0 0] 40)) := ((((((Fr.alloc _ _ _).trans (Fr.alloc _ _ _)).trans (Fr.alloc _ _ _)).trans (Fr.alloc _ _ _)).trans (Fr.alloc _ _ _)).trans (Fr.alloc _ _ _))
    have hs := HD.out.fr.size
    have hr1 := HD.out.r1
    rw [HN.out] at hr1
    refine ⟨⟨O, k1.same F, fun k hk => ⟨k2 k hk, by have := k1.lt k hk; omega⟩, k3⟩, HD.out.fr.trans F, by omega, by simp; omega, OwnR.same hr1 F, fun k hk => by have := (OwnR.lt hr1 k hk).2; omega, ?_, ?_, ?_, ?_, ?_, ?_, HN.out, rfl, rfl, HD.out.z, HD.out.did.len, fun k hk ho => (by cases ho), fun k k' hk hk' ho => (by cases ho)⟩
    · show Blk _ _ (aV (fun _ => (.bool false : Value)) n); rw [← made_aV (.bool false) n]; exact ((((((Blk.new _ _ _).at hB).alloc _).alloc _).alloc _).alloc _).alloc _
    · show Blk _ _ (aV (fun _ => (.pointer none : Value)) 3); rw [← made_aV (.pointer none) 3]; refine (((((Blk.new _ _ _).at ?_).alloc _).alloc _).alloc _).alloc _; simp; omega
    · show Blk _ _ (aV (fun _ => (.bool false : Value)) 3); rw [← made_aV (.bool false) 3]; refine ((((Blk.new _ _ _).at ?_).alloc _).alloc _).alloc _; simp; omega
    · show Blk _ _ (aV (fun _ => (.int .i64 0 : Value)) 3); rw [← made_aV (.int .i64 0) 3]; refine (((Blk.new _ _ _).at ?_).alloc _).alloc _; simp; omega
    · show Blk _ _ (aV (fun _ => (.int .i64 0 : Value)) 3); rw [← made_aV (.int .i64 0) 3]; refine ((Blk.new _ _ _).at ?_).alloc _; simp; omega
    · refine (Blk.new _ _ _).at ?_; simp; omega)
  have HSP := hid (show SpP n T.par T.nst (sp0 T) from ⟨fun k hk => rfl, fun k hk => (HD.out.na k).symm, fun k hk ho => (by cases ho)⟩)
  obtain ⟨par, hpar⟩ : ∃ p, T.par = p := ⟨_, rfl⟩
  obtain ⟨nst, hnst⟩ : ∃ p, T.nst = p := ⟨_, rfl⟩
  rw [hpar, hnst] at HSM HSP
  have HREL := hid (show SpRel w0 b tb n par nst A1 c1 B la (la + 1) (.int .i64 0) _ from ⟨0, _, by omega, by omega, rfl, HSM.out, HSP.out⟩)
  clear HSM HSP HD HTN HN hpar hnst
  go_wp2_with fail
  obtain ⟨W3, hW3⟩ : ∃ W3, (((((w2.alloc (.cells (madeCells #[.bool false] n) 4)).alloc (.cells (madeCells #[.pointer none] 3) 60)).alloc (.cells (madeCells #[.bool false] 3) 4)).alloc (.cells (madeCells #[.int .i64 0] 3) 3)).alloc (.cells (madeCells #[.int .i64 0] 3) 3)).alloc (.cells #[.slice none 0 0, .slice none 0 0, .slice none 0 0] 40) = W3 := ⟨_, rfl⟩
  rw [hW3] at HREL ⊢
  clear hW3 m1 m2 m3 m4
  try rw [hB]
  clear hB
  obtain ⟨B5, hB5⟩ : ∃ x, B + 1 + 1 + 1 + 1 + 1 = x := ⟨_, rfl⟩
  obtain ⟨B4, hB4⟩ : ∃ x, B + 1 + 1 + 1 + 1 = x := ⟨_, rfl⟩
  obtain ⟨B3, hB3⟩ : ∃ x, B + 1 + 1 + 1 = x := ⟨_, rfl⟩
  obtain ⟨B2, hB2⟩ : ∃ x, B + 1 + 1 = x := ⟨_, rfl⟩
  obtain ⟨B1, hB1⟩ : ∃ x, B + 1 = x := ⟨_, rfl⟩
  rw [hB5, hB4, hB3, hB2, hB1]
  have HB1 := hid (show B + 1 = B1 from hB1)
  have HB2 := hid (show B + 2 = B2 from hB2)
  have HB3 := hid (show B + 3 = B3 from hB3)
  have HB4 := hid (show B + 4 = B4 from hB4)
  have HB5 := hid (show B + 5 = B5 from hB5)
  clear hB1 hB2 hB3 hB4 hB5
  go_loopg [17] (la + 1) (fun d z wr => SpRel w0 b tb n par nst A1 c1 B la d z wr)
  case atStart => exact HREL.out
  case round =>
    clear HREL
    obtain ⟨i, D, hi, rfl, rfl, hM, hP⟩ := hrel
    have HI := hid hi
    have HM := hid hM
    have HP := hid hP
    clear hi hM hP
    by_cases hlt : i < la
    · have hlt2 : (i : Int) < la := by omega
      obtain ⟨gk, ok, rfl, -, hck⟩ := HGW.out.at_three hlt
      obtain ⟨x0, hx0⟩ : ∃ x, g i 0 = x := ⟨_, rfl⟩
      obtain ⟨x1, hx1⟩ : ∃ x, g i 1 = x := ⟨_, rfl⟩
      obtain ⟨x2, hx2⟩ : ∃ x, g i 2 = x := ⟨_, rfl⟩
      rw [hx0, hx1, hx2] at hck
      obtain ⟨d0, d1, d2⟩ := hck _ HM.out.fr
      clear hck hx0 hx1 hx2
      obtain ⟨s, hs, hse⟩ := wrapped_n x1 n hn0 (by omega)
      obtain ⟨u, hu, hue⟩ := (show ∃ u : Nat, u < 3 ∧ Int.tmod (wrap64 (Int.tmod x2 3 + 3)) 3 = u from wrapped_n x2 3 (by omega) (by omega))
      have tz : ((n : Int) == 0) = false := by simp; omega
      have hs2 : (s : Int) < n := by omega
      have hu2 : (u : Int) < 3 := by omega
      have hi300 : i ≤ 300 := by have := HLEN.out; omega
      have HS := hid hs
      have HU := hid hu
      go_upto_region 21 with fail
      clear hse hue d1 d2
      by_cases hx4 : x0 = 4
      · subst hx4
        obtain ⟨a, ha⟩ : ∃ a, D.T.asked s = a := ⟨_, rfl⟩
        have HAK := hid (sp_ask wr u s (!a) hu hs (by rw [ha]) HM.out)
        have HAM := hid (show D.am s = a from (HP.out.am s hs).trans ha)
        have t5 : ((!a) == a) = false := by cases a <;> rfl
        clear ha hs hu
        go_wp2_with fail
        refine HAK.out.mono ?_
        rintro e w4 ⟨rfl, h4⟩
        have H4 := hid h4
        have c4 : w4.cell? ⟨B, s, none⟩ = some (.bool a) := by rw [← HAM.out]; exact h4.h0.cell (aV_at _ HS.out)
        have z4 := h4.h0.frozen s
        have l4 := h4.h0.lt
        clear h4
        go_upto_region 24 with fail
        have H5 := hid (H4.out.putAm HS.out true)
        obtain ⟨w5, hw5⟩ : ∃ w5, w4.setCell ⟨B, s, none⟩ (.bool true) = w5 := ⟨_, rfl⟩
        go_wp2_with fail
        rw [hw5] at H5
        go_roundg (la + 1 - (i + 1))
        case rel => exact ⟨i + 1, _, by omega, by omega, by go_num, H5.out, HP.out.ask u s⟩
        case measure => omega
      · have t4 : (x0 == 4) = false := by simpa using hx4
        clear hx4
        -- LOOK BEGINS
        obtain ⟨bz, hbz⟩ : ∃ bz, D.busy u = bz := ⟨_, rfl⟩
        have HBZ := hid hbz
        have cb : wr.cell? ⟨B2, u, none⟩ = some (.bool bz) := by rw [← HB2.out, ← hbz]; exact HM.out.h2.cell (aV_at _ hu)
        clear hbz hs hu
        go_upto_if 119 with fail
        go_cut [22, 23] from 118 to 147 (fun x y wx => ∃ D', SpM w0 b tb n par nst A1 c1 B D' wx ∧ SpP n par nst D' ∧ D'.busy u = true)
        case first =>
          cases bz with
          | true =>
            go_wp2_with fail
            go_meet
            exact ⟨D, HM.out, HP.out, HBZ.out⟩
          | false =>
            have HL := hid (sp_look wr s HS.out HM.out)
            go_wp2_with fail
            refine HL.out.mono ?_
            rintro e w4 ⟨lb, rfl, hM4, hL4, hlo, hne⟩
            have H4 := hid hM4
            have HL4 := hid hL4
            have HLO := hid hlo
            have HNE := hid hne
            have HON := hid (show D.on u = false from (HP.out.on u HU.out).trans HBZ.out)
            clear hM4 hL4 hlo hne HL
            obtain ⟨v1, hv1⟩ : ∃ v, D.lp u = v := ⟨_, rfl⟩
            obtain ⟨v3, hv3⟩ : ∃ v : Int, ((D.of u : Nat) : Int) = v := ⟨_, rfl⟩
            obtain ⟨v4, hv4⟩ : ∃ v : Int, ((D.st u : Nat) : Int) = v := ⟨_, rfl⟩
            obtain ⟨v5, hv5⟩ : ∃ v, D.hp u = v := ⟨_, rfl⟩
            have HV3 := hid hv3
            have HV4 := hid hv4
            have HV1 := hid hv1
            have HV5 := hid hv5
            clear hv1 hv3 hv4 hv5
            go_upto_region 30 with fail
            have cc1 : w4.cell? ⟨B1, u, none⟩ = some (v1) := by rw [← HB1.out]; rw [← HV1.out]; exact H4.out.h1.cell (aV_at _ HU.out)
            have z1 : w4.frozen? ⟨B1, u, none⟩ = false := by rw [← HB1.out]; exact H4.out.h1.frozen u
            have l1 : B1 < w4.heap.size := by rw [← HB1.out]; exact H4.out.h1.lt
            have hu2 : (u : Int) < 3 := by have := HU.out; omega
            go_upto_region 31 with fail
            obtain ⟨w5, hw5⟩ : ∃ w, w4.setCell ⟨B1, u, none⟩ (.pointer (some ⟨lb, 0, none⟩)) = w := ⟨_, rfl⟩
            have hp1 := SpM.putLp' H4.out HU.out (ptr lb) HON.out HB1 hw5
            rw [hw5] at ⊢
            have H5 := hid hp1.1
            have HF1 := hid hp1.2
            clear hw5 cc1 z1 l1 hp1
            have cc2 : w5.cell? ⟨B2, u, none⟩ = some (.bool false) := by rw [← HB2.out]; rw [← HBZ.out]; exact H5.out.h2.cell (aV_at (fun k => .bool (D.busy k)) HU.out)
            have z2 : w5.frozen? ⟨B2, u, none⟩ = false := by rw [← HB2.out]; exact H5.out.h2.frozen u
            have l2 : B2 < w5.heap.size := by rw [← HB2.out]; exact H5.out.h2.lt
            have hu2 : (u : Int) < 3 := by have := HU.out; omega
            go_upto_region 32 with fail
            obtain ⟨w6, hw6⟩ : ∃ w, w5.setCell ⟨B2, u, none⟩ (.bool true) = w := ⟨_, rfl⟩
            have hp2 := SpM.putBusy' H5.out HU.out true HB2 hw6
            rw [hw6] at ⊢
            have H6 := hid hp2.1
            have HF2 := hid hp2.2
            clear hw6 cc2 z2 l2 hp2
            have cc3 : w6.cell? ⟨B3, u, none⟩ = some (.int .i64 v3) := by rw [← HB3.out]; rw [← HV3.out]; exact H6.out.h3.cell (aV_at (fun k => .int .i64 (D.of k : Nat)) HU.out)
            have z3 : w6.frozen? ⟨B3, u, none⟩ = false := by rw [← HB3.out]; exact H6.out.h3.frozen u
            have l3 : B3 < w6.heap.size := by rw [← HB3.out]; exact H6.out.h3.lt
            have hu2 : (u : Int) < 3 := by have := HU.out; omega
            go_upto_region 33 with fail
            obtain ⟨wa, hwa⟩ : ∃ w, w6.setCell ⟨B3, u, none⟩ (.int .i64 (s : Int)) = w := ⟨_, rfl⟩
            have hp3 := SpM.putOf' H6.out HU.out s HB3 hwa
            rw [hwa] at ⊢
            have HA := hid hp3.1
            have HF3 := hid hp3.2
            clear hwa cc3 z3 l3 hp3
            have cc4 : wa.cell? ⟨B4, u, none⟩ = some (.int .i64 v4) := by rw [← HB4.out]; rw [← HV4.out]; exact HA.out.h4.cell (aV_at (fun k => .int .i64 (D.st k : Nat)) HU.out)
            have z4 : wa.frozen? ⟨B4, u, none⟩ = false := by rw [← HB4.out]; exact HA.out.h4.frozen u
            have l4 : B4 < wa.heap.size := by rw [← HB4.out]; exact HA.out.h4.lt
            have hu2 : (u : Int) < 3 := by have := HU.out; omega
            go_upto_region 34 with fail
            obtain ⟨w7, hw7⟩ : ∃ w, wa.setCell ⟨B4, u, none⟩ (.int .i64 0) = w := ⟨_, rfl⟩
            have hp4 := SpM.putSt' HA.out HU.out 0 0 rfl HB4 hw7
            rw [hw7] at ⊢
            have H7 := hid hp4.1
            have HF4 := hid hp4.2
            clear hw7 cc4 z4 l4 hp4
            have HSZ := hid (show w0.heap.size ≤ w7.heap.size from H7.out.fr.size)
            have HOW := hid (show OwnR (w7.alloc (.cells #[] 4)) w0.heap.size 4 1 (some ⟨w7.heap.size, 0, none⟩) 0 0 [] from ⟨rfl, .inr ⟨w7.heap.size, 0, #[], rfl, HSZ.out, TBlk.new _ _ _, Nat.le_refl _, by unfold maxLen; omega, rfl, rfl⟩⟩)
            have HNW := hid (show ∀ (j : Nat) v, ((List.range n).map (fun k => Value.bool (D.am k)))[j]? = some v → (w7.alloc (.cells #[] 4)).cell? ((⟨B, 0, none⟩ : Addr).add j) = some v from fun j v hv => by
              have hj : j < n := by
                have := (List.getElem?_eq_some_iff.1 hv).1
                simpa using this
              have ea : ({ block := B, off := 0 } : Addr).add j = ⟨B, j, none⟩ := by
                unfold Addr.add
                split
                · subst_vars; rfl
                · simp
              rw [ea, ← hv]
              rw [(H7.out.h0.alloc _).cell (aV_at _ hj)]
              simp [hj])
            have HONE := hid (show ∀ v ∈ (List.range n).map (fun k => Value.bool (D.am k)), v.oneCell' = true from fun v hv => by
              obtain ⟨k, _, rfl⟩ := List.mem_map.1 hv
              rfl)
            obtain ⟨i0, hi0, hz⟩ := Option.map_eq_some_iff.1 infobl
            simp only [Prod.mk.injEq] at hz
            obtain ⟨hz0, hz1, hz2⟩ := hz
            have HI0 := hid hi0
            have HZ0 := hid hz0
            have HZ1 := hid hz1
            have HZ2 := hid hz2
            clear hi0 hz0 hz1 hz2
            obtain ⟨NW, hNW⟩ : ∃ l, (List.range n).map (fun k => Value.bool (D.am k)) = l := ⟨_, rfl⟩
            have HNL := hid (show NW.length = n * 1 from by rw [← hNW]; simp)
            rw [hNW] at HNW HONE
            have HNWE := hid hNW
            clear hNW
            have c5 : ∀ W, Fr (fun _ => False) w7 W → W.cell? ⟨B5, u, none⟩ = some v5 ∧ W.frozen? ⟨B5, u, none⟩ = false ∧ B5 < W.heap.size := fun W F => by
              have h := (H7.out.same F).h5
              rw [HB5.out] at h
              refine ⟨?_, h.frozen u, h.lt⟩
              rw [← HV5.out]
              exact h.cell (aV_at D.hp HU.out)
            have HC5 := hid c5
            clear c5
            have hu2 : (u : Int) < 3 := by have := HU.out; omega
            have hnn := hn0
            go_upto_region 35 with (at_builtin; go_must (refine wpList_append_lies _ rfl _ _ 40 rfl w0.heap.size 4 i0 (.bool false) 1 1 Try.underlying40 HI0.out HZ0.out HZ1.out HZ2.out rfl (by decide) (.slice (some ⟨w7.heap.size, 0, none⟩) 0 0) 0 _ rfl HOW.out ⟨B, 0, none⟩ n n NW rfl HNL.out HNW.out HONE.out hn0 (by unfold maxLen; omega) (by omega) (by have := HSZ.out; simp; omega) (w7.heap.size + 1) (by simp) ?_; intro g8 c8 w8 hown8 hgrow8 hat8 hlt8; rw [Nat.zero_add] at *; have HO8 := hid (show OwnR w8 w0.heap.size 4 1 (some ⟨g8, 0, none⟩) n c8 NW from hown8); have HF8 := hid (show Fr (fun _ => False) w7 w8 from (Fr.alloc (fun _ => False) w7 (.cells #[] 4)).since (Fr.of_grown hgrow8) (by rintro k ⟨a, ha, hk⟩ hl; injection ha with ha; subst ha; simp only at hk; omega)); have HG8 := hid (show g8 = w7.heap.size ∨ g8 = w7.heap.size + 1 from hat8.imp_left (fun h => by injection h with h; exact h.symm)); obtain ⟨q5, z5, l5⟩ := HC5.out w8 HF8.out; clear hown8 hgrow8 hat8 hlt8))
            have HM9 := hid (SpM.made (w := w8) HU.out HON.out H4.out HL4.out HLO.out HNE.out H7.out (((HF1.out.trans HF2.out).trans HF3.out).trans HF4.out) (by rw [HNWE.out]; exact HO8.out) HF8.out HG8.out HP.out.am hn0 (show w8.setCell ⟨B5, u, none⟩ (.slice (some ⟨g8, 0, none⟩) n c8) = w8.setCell ⟨B + 5, u, none⟩ (.slice (some ⟨g8, 0, none⟩) n c8) by rw [HB5.out]))
            go_meet
            exact ⟨_, HM9.out, HP.out.bgn HS.out, if_pos rfl⟩
        case rest =>
          obtain ⟨D1, hM1, hP1, hb1⟩ := hcut
          have HM1 := hid hM1
          have HP1 := hid hP1
          have HON := hid (show D1.on u = true from (hP1.on u HU.out).trans hb1)
          have HBT := hid hb1
          clear hM1 hP1 hb1 cb
          obtain ⟨g1, g2, g3⟩ := HP1.out.lk u HU.out HON.out
          obtain ⟨lpE, gh, ch, hpE, hch, hBB⟩ := HM1.out.look HU.out HON.out
          obtain ⟨o, ho⟩ : ∃ o, D1.of u = o := ⟨_, rfl⟩
          obtain ⟨q, hq⟩ : ∃ q, D1.st u = q := ⟨_, rfl⟩
          obtain ⟨lb, hlb⟩ : ∃ l, D1.lk u = l := ⟨_, rfl⟩
          rw [ho, hq] at g2 g3
          rw [ho] at g1
          rw [hlb] at lpE
          have hle := g3.le
          have hT := HM1.out.ok
          have hnl := hT.nst_le o g1
          obtain ⟨m, hm⟩ : ∃ m, nst o = m := ⟨_, rfl⟩
          rw [hm] at hle hnl
          have hupn := (hT.up_in g1 q (by rw [hm]; exact hle)).1
          obtain ⟨kx, hkx⟩ : ∃ k, up par o q = k := ⟨_, rfl⟩
          rw [hkx] at g2 hupn
          have HKX := hid hkx
          have HMN := hid hm
          have HO := hid ho
          have HQ := hid hq
          have HLB := hid hlb
          have HG1 := hid g1
          have HG2 := hid g2
          have HG3 := hid g3
          have HLP := hid lpE
          have HHP := hid hpE
          have HCH := hid hch
          have HBB := hid hBB
          have HUN := hid hupn
          have HT := hid hT
          have hqb : q < 1000000 := by omega
          have HQM := hid hle
          have HMB := hid (show m < 1000000 by omega)
          have cc4 : wc.cell? ⟨B4, u, none⟩ = some (.int .i64 (q : Nat)) := by rw [← HB4.out, ← hq]; exact HM1.out.h4.cell (aV_at (fun k => .int .i64 (D1.st k : Nat)) HU.out)
          have z4 : wc.frozen? ⟨B4, u, none⟩ = false := by rw [← HB4.out]; exact HM1.out.h4.frozen u
          have l4 : B4 < wc.heap.size := by rw [← HB4.out]; exact HM1.out.h4.lt
          have hu2 : (u : Int) < 3 := by have := HU.out; omega
          clear ho hq hlb hm hkx g1 g2 g3 lpE hpE hch hBB hupn hT hnl hle
          go_upto_region 36 with fail
          obtain ⟨w5, hw5⟩ : ∃ w, wc.setCell ⟨B4, u, none⟩ (.int .i64 ((q : Int) + 1)) = w := ⟨_, rfl⟩
          have hp5 := HM1.out.putSt' HU.out (q + 1) ((q : Int) + 1) (by omega) HB4 hw5
          rw [hw5] at ⊢
          have H5 := hid (show SpM w0 b tb n par nst A1 c1 B (D1.cnt u (q + 1)) w5 from hp5.1)
          clear hw5 cc4 z4 l4 hp5
          have cl : w5.cell? ⟨B1, u, none⟩ = some (.pointer (some ⟨lb, 0, none⟩)) := by
            have h := H5.out.h1.cell (aV_at (D1.cnt u (q + 1)).lp HU.out)
            rw [HB1.out] at h
            rw [h]
            exact congrArg some HLP.out
          have ll : B1 < w5.heap.size := by rw [← HB1.out]; exact H5.out.h1.lt
          obtain ⟨y, hy⟩ : ∃ y : Int, ((q + 1 : Nat) : Int) = y := ⟨_, rfl⟩
          have HY := hid hy
          clear hy
          by_cases ha : D1.T.asked kx = true
          · have HA1 := hid ha
            have HST := hid (sp_yes (D := D1.cnt u (q + 1)) w5 u kx HU.out HON.out HUN.out HG2.out ha H5.out)
            clear ha
            rw [show (D1.cnt u (q + 1)).lk u = lb from HLB.out] at HST
            go_wp2_with fail
            refine HST.out.mono ?_
            rintro e w6 ⟨rfl, h6⟩
            have H6 := hid (show SpM w0 b tb n par nst A1 c1 B ((D1.cnt u (q + 1)).stp u (-1) true) w6 from h6)
            have l3 : B3 < w6.heap.size := by rw [← HB3.out]; exact h6.h3.lt
            have l4 : B4 < w6.heap.size := by rw [← HB4.out]; exact h6.h4.lt
            clear h6 cl ll HST
            have HFd := hid (Fr.refl (fun _ => False) w6)
            have HSS := hid (show ∀ W, Fr (fun _ => False) w6 W → W.cell? ⟨B4, u, none⟩ = some (.int .i64 y) ∧ W.cell? ⟨B3, u, none⟩ = some (.int .i64 (o : Nat)) from fun W F => by
              have h4 := (H6.out.same F).h4.cell (aV_at (fun k => .int .i64 ((((D1.cnt u (q + 1)).stp u (-1) true).st k : Nat) : Int)) HU.out)
              have h3 := (H6.out.same F).h3.cell (aV_at (fun k => .int .i64 ((((D1.cnt u (q + 1)).stp u (-1) true).of k : Nat) : Int)) HU.out)
              rw [HB4.out] at h4
              rw [HB3.out] at h3
              refine ⟨?_, ?_⟩
              · rw [h4, ← HY.out]; exact congrArg (fun k : Nat => some (Value.int .i64 (k : Int))) (if_pos rfl)
              · rw [h3]; exact congrArg (fun k : Nat => some (Value.int .i64 (k : Int))) HO.out)
            have HNS := hid (fun W (h : SpM w0 b tb n par nst A1 c1 B ((D1.cnt u (q + 1)).stp u (-1) true) W) => sp_nest W o m HG1.out HMN.out h)
            have hwr : IntKind.i64.wrap ((m : Int) + 1) = (m : Int) + 1 := by rw [IntKind.wrap_i64]; have := HMB.out; omega
            have t7 : decide ((m : Int) + 1 < y) = false := by have h1 := HQM.out; have h2 := HY.out; simp; omega
            go_upto_region 37 with fail
            refine wp_region_held_drew (S := fun W => W.cell? ⟨B4, u, none⟩ = some (.int .i64 y) ∧ W.cell? ⟨B3, u, none⟩ = some (.int .i64 (o : Nat))) (by kernel_rfl) (HSS.out _ (Fr.drew _ _)) (fun hHeld => ?_)
            have HFd := hid (HFd.out.trans (Fr.drew _ _))
            refine wpAnyH_take (i := 0) (v := (.int .i64 0)) rfl (by kernel_rfl) (by kernel_rfl) (by kernel_rfl) (fun _ _ _ h => h) (Or.inl ⟨by rfl, by intro W hSW; (try dsimp only at hSW); go_simp⟩) (by assumption) ?_
            simp only [Act.put, List.getElem_toArray, List.getElem_cons_zero, List.getElem_cons_succ, List.setIfInBounds_toArray, List.set_cons_zero, List.set_cons_succ]
            refine wpAnyH_take (i := 1) (v := (.bool false)) rfl (by kernel_rfl) (by kernel_rfl) (by kernel_rfl) (fun _ _ _ h => h) (Or.inl ⟨by rfl, by intro W hSW; (try dsimp only at hSW); go_simp⟩) (by assumption) ?_
            simp only [Act.put, List.getElem_toArray, List.getElem_cons_zero, List.getElem_cons_succ, List.setIfInBounds_toArray, List.set_cons_zero, List.set_cons_succ]
            refine wpAnyH_take (i := 2) (v := (.bool false)) rfl (by kernel_rfl) (by kernel_rfl) (by kernel_rfl) (fun _ _ _ h => h) (Or.inl ⟨by rfl, by intro W hSW; (try dsimp only at hSW); go_simp⟩) (by assumption) ?_
            simp only [Act.put, List.getElem_toArray, List.getElem_cons_zero, List.getElem_cons_succ, List.setIfInBounds_toArray, List.set_cons_zero, List.set_cons_succ]
            refine wpAnyH_take (i := 3) (v := (.bool true)) rfl (by kernel_rfl) (by kernel_rfl) (by kernel_rfl) (fun _ _ _ h => h) (Or.inl ⟨by rfl, by intro W hSW; (try dsimp only at hSW); go_simp⟩) (by assumption) ?_
            simp only [Act.put, List.getElem_toArray, List.getElem_cons_zero, List.getElem_cons_succ, List.setIfInBounds_toArray, List.set_cons_zero, List.set_cons_succ]
            refine wpAnyH_take (i := 4) (v := (.bool true)) rfl (by kernel_rfl) (by kernel_rfl) (by kernel_rfl) (fun _ _ _ h => h) (Or.inl ⟨by rfl, by intro W hSW; (try dsimp only at hSW); go_simp⟩) (by assumption) ?_
            simp only [Act.put, List.getElem_toArray, List.getElem_cons_zero, List.getElem_cons_succ, List.setIfInBounds_toArray, List.set_cons_zero, List.set_cons_succ]
            refine wpAnyH_take (i := 5) (v := (.bool true)) rfl (by kernel_rfl) (by kernel_rfl) (by kernel_rfl) (fun _ _ _ h => h) (Or.inl ⟨by rfl, by intro W hSW; (try dsimp only at hSW); go_simp⟩) (by assumption) ?_
            simp only [Act.put, List.getElem_toArray, List.getElem_cons_zero, List.getElem_cons_succ, List.setIfInBounds_toArray, List.set_cons_zero, List.set_cons_succ]
            refine wpAnyH_take (i := 6) (v := (.bool false)) rfl (by kernel_rfl) (by kernel_rfl) (by kernel_rfl) (fun _ _ _ h => h) (Or.inl ⟨by rfl, by intro W hSW; (try dsimp only at hSW); go_simp⟩) (by assumption) ?_
            simp only [Act.put, List.getElem_toArray, List.getElem_cons_zero, List.getElem_cons_succ, List.setIfInBounds_toArray, List.set_cons_zero, List.set_cons_succ]
            refine wpAnyH_take (i := 7) (v := (.bool false)) rfl (by kernel_rfl) (by kernel_rfl) (by kernel_rfl) (fun _ _ _ h => h) (Or.inl ⟨by rfl, by intro W hSW; (try dsimp only at hSW); go_simp⟩) (by assumption) ?_
            simp only [Act.put, List.getElem_toArray, List.getElem_cons_zero, List.getElem_cons_succ, List.setIfInBounds_toArray, List.set_cons_zero, List.set_cons_succ]
            refine wpAnyH_take (i := 8) (v := (.bool false)) rfl (by kernel_rfl) (by kernel_rfl) (by kernel_rfl) (fun _ _ _ h => h) (Or.inl ⟨by rfl, by intro W hSW; (try dsimp only at hSW); go_simp⟩) (by assumption) ?_
            simp only [Act.put, List.getElem_toArray, List.getElem_cons_zero, List.getElem_cons_succ, List.setIfInBounds_toArray, List.set_cons_zero, List.set_cons_succ]
            refine wpAnyH_take (i := 9) (v := (.bool false)) rfl (by kernel_rfl) (by kernel_rfl) (by kernel_rfl) (fun _ _ _ h => h) (Or.inl ⟨by rfl, by intro W hSW; (try dsimp only at hSW); go_simp⟩) (by assumption) ?_
            simp only [Act.put, List.getElem_toArray, List.getElem_cons_zero, List.getElem_cons_succ, List.setIfInBounds_toArray, List.set_cons_zero, List.set_cons_succ]
            refine wpAnyH_take (i := 10) (v := (.slice (some ⟨B4, 0, none⟩) 3 3)) rfl (by kernel_rfl) (by kernel_rfl) (by kernel_rfl) (fun _ _ _ h => h) (Or.inl ⟨by rfl, by intro W hSW; (try dsimp only at hSW); go_simp⟩) (by assumption) ?_
            simp only [Act.put, List.getElem_toArray, List.getElem_cons_zero, List.getElem_cons_succ, List.setIfInBounds_toArray, List.set_cons_zero, List.set_cons_succ]
            refine wpAnyH_take (i := 11) (v := (.int .i64 u)) rfl (by kernel_rfl) (by kernel_rfl) (by kernel_rfl) (fun _ _ _ h => h) (Or.inl ⟨by rfl, by intro W hSW; (try dsimp only at hSW); go_simp⟩) (by assumption) ?_
            simp only [Act.put, List.getElem_toArray, List.getElem_cons_zero, List.getElem_cons_succ, List.setIfInBounds_toArray, List.set_cons_zero, List.set_cons_succ]
            refine wpAnyH_take (i := 12) (v := (.pointer (some ⟨B4, u, none⟩))) rfl (by kernel_rfl) (by kernel_rfl) (by kernel_rfl) (fun _ _ _ h => h) (Or.inl ⟨by rfl, by intro W hSW; (try dsimp only at hSW); go_simp⟩) (by assumption) ?_
            simp only [Act.put, List.getElem_toArray, List.getElem_cons_zero, List.getElem_cons_succ, List.setIfInBounds_toArray, List.set_cons_zero, List.set_cons_succ]
            refine wpAnyH_take (i := 13) (v := (.int .i64 y)) rfl (by kernel_rfl) (by kernel_rfl) (by kernel_rfl) (fun _ _ _ h => h) (Or.inl ⟨by rfl, by intro W hSW; (try dsimp only at hSW); go_simp⟩) (by assumption) ?_
            simp only [Act.put, List.getElem_toArray, List.getElem_cons_zero, List.getElem_cons_succ, List.setIfInBounds_toArray, List.set_cons_zero, List.set_cons_succ]
            refine wpAnyH_take (i := 14) (v := (.pointer (some ⟨tb, 0, none⟩))) rfl (by kernel_rfl) (by kernel_rfl) (by kernel_rfl) (fun _ _ _ h => h) (Or.inl ⟨by rfl, by intro W hSW; (try dsimp only at hSW); go_simp⟩) (by assumption) ?_
            simp only [Act.put, List.getElem_toArray, List.getElem_cons_zero, List.getElem_cons_succ, List.setIfInBounds_toArray, List.set_cons_zero, List.set_cons_succ]
            refine wpAnyH_take (i := 15) (v := (.slice (some ⟨B3, 0, none⟩) 3 3)) rfl (by kernel_rfl) (by kernel_rfl) (by kernel_rfl) (fun _ _ _ h => h) (Or.inl ⟨by rfl, by intro W hSW; (try dsimp only at hSW); go_simp⟩) (by assumption) ?_
            simp only [Act.put, List.getElem_toArray, List.getElem_cons_zero, List.getElem_cons_succ, List.setIfInBounds_toArray, List.set_cons_zero, List.set_cons_succ]
            refine wpAnyH_take (i := 16) (v := (.int .i64 u)) rfl (by kernel_rfl) (by kernel_rfl) (by kernel_rfl) (fun _ _ _ h => h) (Or.inl ⟨by rfl, by intro W hSW; (try dsimp only at hSW); go_simp⟩) (by assumption) ?_
            simp only [Act.put, List.getElem_toArray, List.getElem_cons_zero, List.getElem_cons_succ, List.setIfInBounds_toArray, List.set_cons_zero, List.set_cons_succ]
            refine wpAnyH_take (i := 17) (v := (.pointer (some ⟨B3, u, none⟩))) rfl (by kernel_rfl) (by kernel_rfl) (by kernel_rfl) (fun _ _ _ h => h) (Or.inl ⟨by rfl, by intro W hSW; (try dsimp only at hSW); go_simp⟩) (by assumption) ?_
            simp only [Act.put, List.getElem_toArray, List.getElem_cons_zero, List.getElem_cons_succ, List.setIfInBounds_toArray, List.set_cons_zero, List.set_cons_succ]
            refine wpAnyH_take (i := 18) (v := (.int .i64 o)) rfl (by kernel_rfl) (by kernel_rfl) (by kernel_rfl) (fun _ _ _ h => h) (Or.inl ⟨by rfl, by intro W hSW; (try dsimp only at hSW); go_simp⟩) (by assumption) ?_
            simp only [Act.put, List.getElem_toArray, List.getElem_cons_zero, List.getElem_cons_succ, List.setIfInBounds_toArray, List.set_cons_zero, List.set_cons_succ]
            refine wpAnyH_ready (rs := [19]) (by kernel_rfl) (by simp) ?_
            refine AllReadyH.cons rfl (fun K hK => ?_) AllReadyH.nil
            simp only [List.getElem_toArray, List.getElem_cons_zero, List.getElem_cons_succ]
            go_simp
            ((with_reducible refine (HNS.out _ (H6.out.same HFd.out)).mono ?_); rintro e w7 ⟨rfl, hF7⟩; have HFd := hid (HFd.out.trans hF7); clear hF7)
            refine hK.out _ _ (HSS.out _ HFd.out) (fun hHeld => ?_)
            clear hK K
            try simp only [Act.put, List.getElem_toArray, List.getElem_cons_zero, List.getElem_cons_succ, List.setIfInBounds_toArray, List.set_cons_zero, List.set_cons_succ]
            refine wpAnyH_take (i := 20) (v := (.int .i64 ((m : Int) + 1))) rfl (by kernel_rfl) (by kernel_rfl) (by kernel_rfl) (fun _ _ _ h => h) (Or.inl ⟨by rfl, by intro W hSW; (try dsimp only at hSW); go_simp⟩) (by assumption) ?_
            simp only [Act.put, List.getElem_toArray, List.getElem_cons_zero, List.getElem_cons_succ, List.setIfInBounds_toArray, List.set_cons_zero, List.set_cons_succ]
            refine wpAnyH_take (i := 21) (v := (.bool false)) rfl (by kernel_rfl) (by kernel_rfl) (by kernel_rfl) (fun _ _ _ h => h) (Or.inl ⟨by rfl, by intro W hSW; (try dsimp only at hSW); go_simp⟩) (by assumption) ?_
            simp only [Act.put, List.getElem_toArray, List.getElem_cons_zero, List.getElem_cons_succ, List.setIfInBounds_toArray, List.set_cons_zero, List.set_cons_succ]
            refine wpAnyH_take (i := 22) (v := (.bool false)) rfl (by kernel_rfl) (by kernel_rfl) (by kernel_rfl) (fun _ _ _ h => h) (Or.inl ⟨by rfl, by intro W hSW; (try dsimp only at hSW); go_simp⟩) (by assumption) ?_
            simp only [Act.put, List.getElem_toArray, List.getElem_cons_zero, List.getElem_cons_succ, List.setIfInBounds_toArray, List.set_cons_zero, List.set_cons_succ]
            refine wpAnyH_done (by kernel_rfl) ?_ _
            have H7 := hid (H6.out.same HFd.out)
            clear hwr t7 HSS HNS HFd H6
            have cc2 : w7.cell? ⟨B2, u, none⟩ = some (.bool true) := by
              have h := H7.out.h2.cell (aV_at (fun k => .bool (((D1.cnt u (q + 1)).stp u (-1) true).busy k)) HU.out)
              rw [HB2.out] at h
              rw [h]
              exact congrArg (fun k => some (Value.bool k)) HBT.out
            have z2 : w7.frozen? ⟨B2, u, none⟩ = false := by rw [← HB2.out]; exact H7.out.h2.frozen u
            have l2 : B2 < w7.heap.size := by rw [← HB2.out]; exact H7.out.h2.lt
            go_upto_region 41 with fail
            obtain ⟨w8, hw8⟩ : ∃ w, w7.setCell ⟨B2, u, none⟩ (.bool false) = w := ⟨_, rfl⟩
            have hp8 := H7.out.putBusy' HU.out false HB2 hw8
            rw [hw8] at ⊢
            have H8 := hid hp8.1
            have H9 := hid (show SpM w0 b tb n par nst A1 c1 B (((D1.cnt u (q + 1)).stp u (-1) true).fin u) w8 from H8.out.off u)
            have HP9 := hid (show SpP n par nst (((D1.cnt u (q + 1)).stp u (-1) true).fin u) from HP1.out.fin)
            obtain ⟨-, gh, ch, hpE, hch, hBB⟩ := H8.out.look HU.out HON.out
            have ch5 : w8.cell? ⟨B5, u, none⟩ = some (.slice (some ⟨gh, 0, none⟩) n ch) := by
              have h := H8.out.h5.cell (aV_at ((D1.cnt u (q + 1)).stp u (-1) true).hp HU.out)
              rw [HB5.out] at h
              rw [h]
              exact congrArg some hpE
            have co : w8.cell? ⟨B3, u, none⟩ = some (.int .i64 (o : Nat)) := by
              have h := H8.out.h3.cell (aV_at (fun k => .int .i64 ((((D1.cnt u (q + 1)).stp u (-1) true).of k : Nat) : Int)) HU.out)
              rw [HB3.out] at h
              rw [h]
              exact congrArg (fun k : Nat => some (Value.int .i64 (k : Int))) HO.out
            have HBA := hid (show ∀ j, j < n → w8.cell? ⟨gh, j, none⟩ = some (.bool (D1.ah u j)) from fun j hj => hBB.2 j hj)
            have HBS := hid (show ∀ j, j < n → w8.cell? ⟨B, j, none⟩ = some (.bool (D1.T.asked j)) from fun j hj => by
              rw [H8.out.h0.cell (aV_at (fun k => .bool (((D1.cnt u (q + 1)).stp u (-1) true).am k)) hj)]
              exact congrArg (fun k => some (Value.bool k)) (HP1.out.am j hj))
            have HAR := hid (fun (j : Nat) (hj : j < n) (r : Bool) (hr : r = true ↔ Ard par nst o j) => sp_around w8 o j r HG1.out hj hr H9.out)
            clear hw8 cc2 z2 l2 hp8 hpE hBB H8 H7
            go_wp2_with fail
            go_loopg [27, 28, 29] (n + 1) (fun d x y z wr => SjRel par nst o n D1.T.asked (D1.ah u) w8 d x y z wr)
            case atStart => exact ⟨0, false, false, by omega, by omega, rfl, rfl, rfl, rfl, ⟨fun h => (by cases h), fun ⟨o', h, _⟩ => absurd h (by omega)⟩, ⟨fun h => (by cases h), fun ⟨o', h, _⟩ => absurd h (by omega)⟩⟩
            case round =>
              obtain ⟨j, v, v', hj, rfl, rfl, rfl, rfl, hw, hv, hv'⟩ := hrel
              subst hw
              have HJ := hid hj
              have HV := hid hv
              have HV' := hid hv'
              clear hj hv hv'
              by_cases hjl : j < n
              · have hj2 : (j : Int) < n := by omega
                have hjc : j < ch := by omega
                have hjc2 : (j : Int) < (n : Int) := by omega
                obtain ⟨aj, haj⟩ : ∃ x, D1.T.asked j = x := ⟨_, rfl⟩
                obtain ⟨hjv, hhj⟩ : ∃ x, D1.ah u j = x := ⟨_, rfl⟩
                have ca := HBS.out j hjl
                have ch2 := HBA.out j hjl
                rw [haj] at ca
                rw [hhj] at ch2
                have HAJ := hid haj
                have HHJ := hid hhj
                clear haj hhj
                by_cases hard : Ard par nst o j
                · have HARJ := hid (HAR.out j hjl true ⟨fun _ => hard, fun _ => rfl⟩)
                  have HN1 := hid (Some_.next HV.out (r := true) ⟨fun _ => hard, fun _ => rfl⟩)
                  have HN2 := hid (Some_.next HV'.out (r := true) ⟨fun _ => hard, fun _ => rfl⟩)
                  rw [HAJ.out] at HN1
                  rw [HHJ.out] at HN2
                  clear hard
                  cases v
                  all_goals cases v'
                  all_goals
                    go_wp2_with fail
                    refine HARJ.out.mono ?_
                    rintro e wz ⟨rfl, hwz⟩
                    subst hwz
                    go_wp2_with fail
                    go_roundg (n + 1 - (j + 1))
                    case rel => exact ⟨j + 1, _, _, by omega, by omega, rfl, rfl, by go_num, rfl, by first | exact HN1.out | simpa using HN1.out, by first | exact HN2.out | simpa using HN2.out⟩
                    case measure => omega
                · have HARJ := hid (HAR.out j hjl false ⟨fun h => (by cases h), fun h => absurd h hard⟩)
                  have HN1 := hid (Some_.next HV.out (r := false) ⟨fun h => (by cases h), fun h => absurd h hard⟩)
                  have HN2 := hid (Some_.next HV'.out (r := false) ⟨fun h => (by cases h), fun h => absurd h hard⟩)
                  clear hard
                  go_wp2_with fail
                  refine HARJ.out.mono ?_
                  rintro e wz ⟨rfl, hwz⟩
                  subst hwz
                  go_wp2_with fail
                  go_roundg (n + 1 - (j + 1))
                  case rel => exact ⟨j + 1, v, v', by omega, by omega, rfl, rfl, by go_num, rfl, by simpa using HN1.out, by simpa using HN2.out⟩
                  case measure => omega
              · obtain rfl : j = n := by have := HJ.out; omega
                have hvt : v = true := HV.out.2 (by
                  obtain ⟨o', h1, h2⟩ := HG3.out.yes (by rw [HKX.out]; exact HA1.out)
                  obtain ⟨e, he, h3⟩ := h1
                  exact ⟨o', by rw [← h3]; exact (HT.out.up_in HG1.out e he).1, ⟨e, he, h3⟩, h2⟩)
                subst hvt
                go_wp2_with fail
                go_roundg (la + 1 - (i + 1))
                case rel => exact ⟨i + 1, _, by omega, by omega, by go_num, H9.out, HP9.out⟩
                case measure => omega
          · have ha : D1.T.asked kx = false := by simpa using ha
            have HA1 := hid ha
            by_cases hk0 : kx = 0
            · have HK0 := hid hk0
              have HST := hid (sp_not (D := D1.cnt u (q + 1)) w5 u kx (-1) true HU.out HON.out HUN.out HG2.out ha (by rw [hk0]; rfl) (by decide) H5.out)
              clear ha hk0
              rw [show (D1.cnt u (q + 1)).lk u = lb from HLB.out] at HST
              go_wp2_with fail
              refine HST.out.mono ?_
              rintro e w6 ⟨rfl, h6⟩
              have H6 := hid (show SpM w0 b tb n par nst A1 c1 B ((D1.cnt u (q + 1)).stp u (-1) false) w6 from h6)
              have l3 : B3 < w6.heap.size := by rw [← HB3.out]; exact h6.h3.lt
              have l4 : B4 < w6.heap.size := by rw [← HB4.out]; exact h6.h4.lt
              clear h6 cl ll HST
              have HFd := hid (Fr.refl (fun _ => False) w6)
              have HSS := hid (show ∀ W, Fr (fun _ => False) w6 W → W.cell? ⟨B4, u, none⟩ = some (.int .i64 y) ∧ W.cell? ⟨B3, u, none⟩ = some (.int .i64 (o : Nat)) from fun W F => by
                have h4 := (H6.out.same F).h4.cell (aV_at (fun k => .int .i64 ((((D1.cnt u (q + 1)).stp u (-1) false).st k : Nat) : Int)) HU.out)
                have h3 := (H6.out.same F).h3.cell (aV_at (fun k => .int .i64 ((((D1.cnt u (q + 1)).stp u (-1) false).of k : Nat) : Int)) HU.out)
                rw [HB4.out] at h4
                rw [HB3.out] at h3
                refine ⟨?_, ?_⟩
                · rw [h4, ← HY.out]; exact congrArg (fun k : Nat => some (Value.int .i64 (k : Int))) (if_pos rfl)
                · rw [h3]; exact congrArg (fun k : Nat => some (Value.int .i64 (k : Int))) HO.out)
              have HNS := hid (fun W (h : SpM w0 b tb n par nst A1 c1 B ((D1.cnt u (q + 1)).stp u (-1) false) W) => sp_nest W o m HG1.out HMN.out h)
              have hwr : IntKind.i64.wrap ((m : Int) + 1) = (m : Int) + 1 := by rw [IntKind.wrap_i64]; have := HMB.out; omega
              have t7 : decide ((m : Int) + 1 < y) = false := by have h1 := HQM.out; have h2 := HY.out; simp; omega
              go_upto_region 37 with fail
              refine wp_region_held_drew (S := fun W => W.cell? ⟨B4, u, none⟩ = some (.int .i64 y) ∧ W.cell? ⟨B3, u, none⟩ = some (.int .i64 (o : Nat))) (by kernel_rfl) (HSS.out _ (Fr.drew _ _)) (fun hHeld => ?_)
              have HFd := hid (HFd.out.trans (Fr.drew _ _))
              refine wpAnyH_take (i := 0) (v := (.int .i64 0)) rfl (by kernel_rfl) (by kernel_rfl) (by kernel_rfl) (fun _ _ _ h => h) (Or.inl ⟨by rfl, by intro W hSW; (try dsimp only at hSW); go_simp⟩) (by assumption) ?_
              simp only [Act.put, List.getElem_toArray, List.getElem_cons_zero, List.getElem_cons_succ, List.setIfInBounds_toArray, List.set_cons_zero, List.set_cons_succ]
              refine wpAnyH_take (i := 1) (v := (.bool false)) rfl (by kernel_rfl) (by kernel_rfl) (by kernel_rfl) (fun _ _ _ h => h) (Or.inl ⟨by rfl, by intro W hSW; (try dsimp only at hSW); go_simp⟩) (by assumption) ?_
              simp only [Act.put, List.getElem_toArray, List.getElem_cons_zero, List.getElem_cons_succ, List.setIfInBounds_toArray, List.set_cons_zero, List.set_cons_succ]
              refine wpAnyH_take (i := 2) (v := (.bool false)) rfl (by kernel_rfl) (by kernel_rfl) (by kernel_rfl) (fun _ _ _ h => h) (Or.inl ⟨by rfl, by intro W hSW; (try dsimp only at hSW); go_simp⟩) (by assumption) ?_
              simp only [Act.put, List.getElem_toArray, List.getElem_cons_zero, List.getElem_cons_succ, List.setIfInBounds_toArray, List.set_cons_zero, List.set_cons_succ]
              refine wpAnyH_take (i := 3) (v := (.bool false)) rfl (by kernel_rfl) (by kernel_rfl) (by kernel_rfl) (fun _ _ _ h => h) (Or.inl ⟨by rfl, by intro W hSW; (try dsimp only at hSW); go_simp⟩) (by assumption) ?_
              simp only [Act.put, List.getElem_toArray, List.getElem_cons_zero, List.getElem_cons_succ, List.setIfInBounds_toArray, List.set_cons_zero, List.set_cons_succ]
              refine wpAnyH_take (i := 4) (v := (.bool false)) rfl (by kernel_rfl) (by kernel_rfl) (by kernel_rfl) (fun _ _ _ h => h) (Or.inl ⟨by rfl, by intro W hSW; (try dsimp only at hSW); go_simp⟩) (by assumption) ?_
              simp only [Act.put, List.getElem_toArray, List.getElem_cons_zero, List.getElem_cons_succ, List.setIfInBounds_toArray, List.set_cons_zero, List.set_cons_succ]
              refine wpAnyH_take (i := 5) (v := undef) rfl (by kernel_rfl) (by kernel_rfl) (by kernel_rfl) (fun _ _ _ h => h) (Or.inr ⟨by rfl, rfl⟩) (by assumption) ?_
              simp only [Act.put, List.getElem_toArray, List.getElem_cons_zero, List.getElem_cons_succ, List.setIfInBounds_toArray, List.set_cons_zero, List.set_cons_succ]
              refine wpAnyH_take (i := 6) (v := undef) rfl (by kernel_rfl) (by kernel_rfl) (by kernel_rfl) (fun _ _ _ h => h) (Or.inr ⟨by rfl, rfl⟩) (by assumption) ?_
              simp only [Act.put, List.getElem_toArray, List.getElem_cons_zero, List.getElem_cons_succ, List.setIfInBounds_toArray, List.set_cons_zero, List.set_cons_succ]
              refine wpAnyH_take (i := 7) (v := (.bool false)) rfl (by kernel_rfl) (by kernel_rfl) (by kernel_rfl) (fun _ _ _ h => h) (Or.inl ⟨by rfl, by intro W hSW; (try dsimp only at hSW); go_simp⟩) (by assumption) ?_
              simp only [Act.put, List.getElem_toArray, List.getElem_cons_zero, List.getElem_cons_succ, List.setIfInBounds_toArray, List.set_cons_zero, List.set_cons_succ]
              refine wpAnyH_take (i := 8) (v := (.bool false)) rfl (by kernel_rfl) (by kernel_rfl) (by kernel_rfl) (fun _ _ _ h => h) (Or.inl ⟨by rfl, by intro W hSW; (try dsimp only at hSW); go_simp⟩) (by assumption) ?_
              simp only [Act.put, List.getElem_toArray, List.getElem_cons_zero, List.getElem_cons_succ, List.setIfInBounds_toArray, List.set_cons_zero, List.set_cons_succ]
              refine wpAnyH_take (i := 9) (v := (.bool false)) rfl (by kernel_rfl) (by kernel_rfl) (by kernel_rfl) (fun _ _ _ h => h) (Or.inl ⟨by rfl, by intro W hSW; (try dsimp only at hSW); go_simp⟩) (by assumption) ?_
              simp only [Act.put, List.getElem_toArray, List.getElem_cons_zero, List.getElem_cons_succ, List.setIfInBounds_toArray, List.set_cons_zero, List.set_cons_succ]
              refine wpAnyH_take (i := 10) (v := (.slice (some ⟨B4, 0, none⟩) 3 3)) rfl (by kernel_rfl) (by kernel_rfl) (by kernel_rfl) (fun _ _ _ h => h) (Or.inl ⟨by rfl, by intro W hSW; (try dsimp only at hSW); go_simp⟩) (by assumption) ?_
              simp only [Act.put, List.getElem_toArray, List.getElem_cons_zero, List.getElem_cons_succ, List.setIfInBounds_toArray, List.set_cons_zero, List.set_cons_succ]
              refine wpAnyH_take (i := 11) (v := (.int .i64 u)) rfl (by kernel_rfl) (by kernel_rfl) (by kernel_rfl) (fun _ _ _ h => h) (Or.inl ⟨by rfl, by intro W hSW; (try dsimp only at hSW); go_simp⟩) (by assumption) ?_
              simp only [Act.put, List.getElem_toArray, List.getElem_cons_zero, List.getElem_cons_succ, List.setIfInBounds_toArray, List.set_cons_zero, List.set_cons_succ]
              refine wpAnyH_take (i := 12) (v := (.pointer (some ⟨B4, u, none⟩))) rfl (by kernel_rfl) (by kernel_rfl) (by kernel_rfl) (fun _ _ _ h => h) (Or.inl ⟨by rfl, by intro W hSW; (try dsimp only at hSW); go_simp⟩) (by assumption) ?_
              simp only [Act.put, List.getElem_toArray, List.getElem_cons_zero, List.getElem_cons_succ, List.setIfInBounds_toArray, List.set_cons_zero, List.set_cons_succ]
              refine wpAnyH_take (i := 13) (v := (.int .i64 y)) rfl (by kernel_rfl) (by kernel_rfl) (by kernel_rfl) (fun _ _ _ h => h) (Or.inl ⟨by rfl, by intro W hSW; (try dsimp only at hSW); go_simp⟩) (by assumption) ?_
              simp only [Act.put, List.getElem_toArray, List.getElem_cons_zero, List.getElem_cons_succ, List.setIfInBounds_toArray, List.set_cons_zero, List.set_cons_succ]
              refine wpAnyH_take (i := 14) (v := (.pointer (some ⟨tb, 0, none⟩))) rfl (by kernel_rfl) (by kernel_rfl) (by kernel_rfl) (fun _ _ _ h => h) (Or.inl ⟨by rfl, by intro W hSW; (try dsimp only at hSW); go_simp⟩) (by assumption) ?_
              simp only [Act.put, List.getElem_toArray, List.getElem_cons_zero, List.getElem_cons_succ, List.setIfInBounds_toArray, List.set_cons_zero, List.set_cons_succ]
              refine wpAnyH_take (i := 15) (v := (.slice (some ⟨B3, 0, none⟩) 3 3)) rfl (by kernel_rfl) (by kernel_rfl) (by kernel_rfl) (fun _ _ _ h => h) (Or.inl ⟨by rfl, by intro W hSW; (try dsimp only at hSW); go_simp⟩) (by assumption) ?_
              simp only [Act.put, List.getElem_toArray, List.getElem_cons_zero, List.getElem_cons_succ, List.setIfInBounds_toArray, List.set_cons_zero, List.set_cons_succ]
              refine wpAnyH_take (i := 16) (v := (.int .i64 u)) rfl (by kernel_rfl) (by kernel_rfl) (by kernel_rfl) (fun _ _ _ h => h) (Or.inl ⟨by rfl, by intro W hSW; (try dsimp only at hSW); go_simp⟩) (by assumption) ?_
              simp only [Act.put, List.getElem_toArray, List.getElem_cons_zero, List.getElem_cons_succ, List.setIfInBounds_toArray, List.set_cons_zero, List.set_cons_succ]
              refine wpAnyH_take (i := 17) (v := (.pointer (some ⟨B3, u, none⟩))) rfl (by kernel_rfl) (by kernel_rfl) (by kernel_rfl) (fun _ _ _ h => h) (Or.inl ⟨by rfl, by intro W hSW; (try dsimp only at hSW); go_simp⟩) (by assumption) ?_
              simp only [Act.put, List.getElem_toArray, List.getElem_cons_zero, List.getElem_cons_succ, List.setIfInBounds_toArray, List.set_cons_zero, List.set_cons_succ]
              refine wpAnyH_take (i := 18) (v := (.int .i64 o)) rfl (by kernel_rfl) (by kernel_rfl) (by kernel_rfl) (fun _ _ _ h => h) (Or.inl ⟨by rfl, by intro W hSW; (try dsimp only at hSW); go_simp⟩) (by assumption) ?_
              simp only [Act.put, List.getElem_toArray, List.getElem_cons_zero, List.getElem_cons_succ, List.setIfInBounds_toArray, List.set_cons_zero, List.set_cons_succ]
              refine wpAnyH_ready (rs := [19]) (by kernel_rfl) (by simp) ?_
              refine AllReadyH.cons rfl (fun K hK => ?_) AllReadyH.nil
              simp only [List.getElem_toArray, List.getElem_cons_zero, List.getElem_cons_succ]
              go_simp
              ((with_reducible refine (HNS.out _ (H6.out.same HFd.out)).mono ?_); rintro e w7 ⟨rfl, hF7⟩; have HFd := hid (HFd.out.trans hF7); clear hF7)
              refine hK.out _ _ (HSS.out _ HFd.out) (fun hHeld => ?_)
              clear hK K
              try simp only [Act.put, List.getElem_toArray, List.getElem_cons_zero, List.getElem_cons_succ, List.setIfInBounds_toArray, List.set_cons_zero, List.set_cons_succ]
              refine wpAnyH_take (i := 20) (v := (.int .i64 ((m : Int) + 1))) rfl (by kernel_rfl) (by kernel_rfl) (by kernel_rfl) (fun _ _ _ h => h) (Or.inl ⟨by rfl, by intro W hSW; (try dsimp only at hSW); go_simp⟩) (by assumption) ?_
              simp only [Act.put, List.getElem_toArray, List.getElem_cons_zero, List.getElem_cons_succ, List.setIfInBounds_toArray, List.set_cons_zero, List.set_cons_succ]
              refine wpAnyH_take (i := 21) (v := (.bool false)) rfl (by kernel_rfl) (by kernel_rfl) (by kernel_rfl) (fun _ _ _ h => h) (Or.inl ⟨by rfl, by intro W hSW; (try dsimp only at hSW); go_simp⟩) (by assumption) ?_
              simp only [Act.put, List.getElem_toArray, List.getElem_cons_zero, List.getElem_cons_succ, List.setIfInBounds_toArray, List.set_cons_zero, List.set_cons_succ]
              refine wpAnyH_take (i := 22) (v := (.bool false)) rfl (by kernel_rfl) (by kernel_rfl) (by kernel_rfl) (fun _ _ _ h => h) (Or.inl ⟨by rfl, by intro W hSW; (try dsimp only at hSW); go_simp⟩) (by assumption) ?_
              simp only [Act.put, List.getElem_toArray, List.getElem_cons_zero, List.getElem_cons_succ, List.setIfInBounds_toArray, List.set_cons_zero, List.set_cons_succ]
              refine wpAnyH_done (by kernel_rfl) ?_ _
              have H7 := hid (H6.out.same HFd.out)
              clear hwr t7 HSS HNS HFd H6
              have cc2 : w7.cell? ⟨B2, u, none⟩ = some (.bool true) := by
                have h := H7.out.h2.cell (aV_at (fun k => .bool (((D1.cnt u (q + 1)).stp u (-1) false).busy k)) HU.out)
                rw [HB2.out] at h
                rw [h]
                exact congrArg (fun k => some (Value.bool k)) HBT.out
              have z2 : w7.frozen? ⟨B2, u, none⟩ = false := by rw [← HB2.out]; exact H7.out.h2.frozen u
              have l2 : B2 < w7.heap.size := by rw [← HB2.out]; exact H7.out.h2.lt
              go_upto_region 41 with fail
              obtain ⟨w8, hw8⟩ : ∃ w, w7.setCell ⟨B2, u, none⟩ (.bool false) = w := ⟨_, rfl⟩
              have hp8 := H7.out.putBusy' HU.out false HB2 hw8
              rw [hw8] at ⊢
              have H8 := hid hp8.1
              have H9 := hid (show SpM w0 b tb n par nst A1 c1 B (((D1.cnt u (q + 1)).stp u (-1) false).fin u) w8 from H8.out.off u)
              have HP9 := hid (show SpP n par nst (((D1.cnt u (q + 1)).stp u (-1) false).fin u) from HP1.out.fin)
              obtain ⟨-, gh, ch, hpE, hch, hBB⟩ := H8.out.look HU.out HON.out
              have ch5 : w8.cell? ⟨B5, u, none⟩ = some (.slice (some ⟨gh, 0, none⟩) n ch) := by
                have h := H8.out.h5.cell (aV_at ((D1.cnt u (q + 1)).stp u (-1) false).hp HU.out)
                rw [HB5.out] at h
                rw [h]
                exact congrArg some hpE
              have co : w8.cell? ⟨B3, u, none⟩ = some (.int .i64 (o : Nat)) := by
                have h := H8.out.h3.cell (aV_at (fun k => .int .i64 ((((D1.cnt u (q + 1)).stp u (-1) false).of k : Nat) : Int)) HU.out)
                rw [HB3.out] at h
                rw [h]
                exact congrArg (fun k : Nat => some (Value.int .i64 (k : Int))) HO.out
              have HBA := hid (show ∀ j, j < n → w8.cell? ⟨gh, j, none⟩ = some (.bool (D1.ah u j)) from fun j hj => hBB.2 j hj)
              have HBS := hid (show ∀ j, j < n → w8.cell? ⟨B, j, none⟩ = some (.bool (D1.T.asked j)) from fun j hj => by
                rw [H8.out.h0.cell (aV_at (fun k => .bool (((D1.cnt u (q + 1)).stp u (-1) false).am k)) hj)]
                exact congrArg (fun k => some (Value.bool k)) (HP1.out.am j hj))
              have HAR := hid (fun (j : Nat) (hj : j < n) (r : Bool) (hr : r = true ↔ Ard par nst o j) => sp_around w8 o j r HG1.out hj hr H9.out)
              clear hw8 cc2 z2 l2 hp8 hpE hBB H8 H7
              go_wp2_with fail
              go_loopg [27, 28, 29] (n + 1) (fun d x y z wr => SjRel par nst o n D1.T.asked (D1.ah u) w8 d x y z wr)
              case atStart => exact ⟨0, false, false, by omega, by omega, rfl, rfl, rfl, rfl, ⟨fun h => (by cases h), fun ⟨o', h, _⟩ => absurd h (by omega)⟩, ⟨fun h => (by cases h), fun ⟨o', h, _⟩ => absurd h (by omega)⟩⟩
              case round =>
                obtain ⟨j, v, v', hj, rfl, rfl, rfl, rfl, hw, hv, hv'⟩ := hrel
                subst hw
                have HJ := hid hj
                have HV := hid hv
                have HV' := hid hv'
                clear hj hv hv'
                by_cases hjl : j < n
                · have hj2 : (j : Int) < n := by omega
                  have hjc : j < ch := by omega
                  have hjc2 : (j : Int) < (n : Int) := by omega
                  obtain ⟨aj, haj⟩ : ∃ x, D1.T.asked j = x := ⟨_, rfl⟩
                  obtain ⟨hjv, hhj⟩ : ∃ x, D1.ah u j = x := ⟨_, rfl⟩
                  have ca := HBS.out j hjl
                  have ch2 := HBA.out j hjl
                  rw [haj] at ca
                  rw [hhj] at ch2
                  have HAJ := hid haj
                  have HHJ := hid hhj
                  clear haj hhj
                  by_cases hard : Ard par nst o j
                  · have HARJ := hid (HAR.out j hjl true ⟨fun _ => hard, fun _ => rfl⟩)
                    have HN1 := hid (Some_.next HV.out (r := true) ⟨fun _ => hard, fun _ => rfl⟩)
                    have HN2 := hid (Some_.next HV'.out (r := true) ⟨fun _ => hard, fun _ => rfl⟩)
                    rw [HAJ.out] at HN1
                    rw [HHJ.out] at HN2
                    clear hard
                    cases v
                    all_goals cases v'
                    all_goals
                      go_wp2_with fail
                      refine HARJ.out.mono ?_
                      rintro e wz ⟨rfl, hwz⟩
                      subst hwz
                      go_wp2_with fail
                      go_roundg (n + 1 - (j + 1))
                      case rel => exact ⟨j + 1, _, _, by omega, by omega, rfl, rfl, by go_num, rfl, by first | exact HN1.out | simpa using HN1.out, by first | exact HN2.out | simpa using HN2.out⟩
                      case measure => omega
                  · have HARJ := hid (HAR.out j hjl false ⟨fun h => (by cases h), fun h => absurd h hard⟩)
                    have HN1 := hid (Some_.next HV.out (r := false) ⟨fun h => (by cases h), fun h => absurd h hard⟩)
                    have HN2 := hid (Some_.next HV'.out (r := false) ⟨fun h => (by cases h), fun h => absurd h hard⟩)
                    clear hard
                    go_wp2_with fail
                    refine HARJ.out.mono ?_
                    rintro e wz ⟨rfl, hwz⟩
                    subst hwz
                    go_wp2_with fail
                    go_roundg (n + 1 - (j + 1))
                    case rel => exact ⟨j + 1, v, v', by omega, by omega, rfl, rfl, by go_num, rfl, by simpa using HN1.out, by simpa using HN2.out⟩
                    case measure => omega
                · obtain rfl : j = n := by have := HJ.out; omega
                  have hvt : v' = false := by
                    cases v' with
                    | false => rfl
                    | true =>
                      obtain ⟨o', h1, h2, h3⟩ := HV'.out.1 rfl
                      rw [HG3.out.none HT.out HG1.out (by rw [HKX.out]; exact HA1.out) (by rw [HKX.out]; exact HK0.out) o' h2] at h3
                      cases h3
                  subst hvt
                  go_wp2_with fail
                  go_roundg (la + 1 - (i + 1))
                  case rel => exact ⟨i + 1, _, by omega, by omega, by go_num, H9.out, HP9.out⟩
                  case measure => omega
            · obtain ⟨x, hx⟩ : ∃ x, pI par kx = x := ⟨_, rfl⟩
              have HX := hid hx
              have HPN := hid (show SpP n par nst ((D1.cnt u (q + 1)).stp u x false) from by
                have h := HP1.out.on_ HT.out HU.out HON.out (by rw [HO.out, HQ.out, HKX.out]; exact ha) (by rw [HO.out, HQ.out, HKX.out]; exact hk0)
                rw [HO.out, HQ.out, HKX.out, HX.out] at h
                exact h)
              have HST := hid (sp_not (D := D1.cnt u (q + 1)) w5 u kx x false HU.out HON.out HUN.out HG2.out ha hx (by rw [← hx, pI_pos _ (by omega)]; simp) H5.out)
              clear ha hk0 hx
              rw [show (D1.cnt u (q + 1)).lk u = lb from HLB.out] at HST
              go_wp2_with fail
              refine HST.out.mono ?_
              rintro e w6 ⟨rfl, h6⟩
              have H6 := hid (show SpM w0 b tb n par nst A1 c1 B ((D1.cnt u (q + 1)).stp u (x) false) w6 from h6)
              have l3 : B3 < w6.heap.size := by rw [← HB3.out]; exact h6.h3.lt
              have l4 : B4 < w6.heap.size := by rw [← HB4.out]; exact h6.h4.lt
              clear h6 cl ll HST
              have HFd := hid (Fr.refl (fun _ => False) w6)
              have HSS := hid (show ∀ W, Fr (fun _ => False) w6 W → W.cell? ⟨B4, u, none⟩ = some (.int .i64 y) ∧ W.cell? ⟨B3, u, none⟩ = some (.int .i64 (o : Nat)) from fun W F => by
                have h4 := (H6.out.same F).h4.cell (aV_at (fun k => .int .i64 ((((D1.cnt u (q + 1)).stp u (x) false).st k : Nat) : Int)) HU.out)
                have h3 := (H6.out.same F).h3.cell (aV_at (fun k => .int .i64 ((((D1.cnt u (q + 1)).stp u (x) false).of k : Nat) : Int)) HU.out)
                rw [HB4.out] at h4
                rw [HB3.out] at h3
                refine ⟨?_, ?_⟩
                · rw [h4, ← HY.out]; exact congrArg (fun k : Nat => some (Value.int .i64 (k : Int))) (if_pos rfl)
                · rw [h3]; exact congrArg (fun k : Nat => some (Value.int .i64 (k : Int))) HO.out)
              have HNS := hid (fun W (h : SpM w0 b tb n par nst A1 c1 B ((D1.cnt u (q + 1)).stp u (x) false) W) => sp_nest W o m HG1.out HMN.out h)
              have hwr : IntKind.i64.wrap ((m : Int) + 1) = (m : Int) + 1 := by rw [IntKind.wrap_i64]; have := HMB.out; omega
              have t7 : decide ((m : Int) + 1 < y) = false := by have h1 := HQM.out; have h2 := HY.out; simp; omega
              go_upto_region 37 with fail
              refine wp_region_held_drew (S := fun W => W.cell? ⟨B4, u, none⟩ = some (.int .i64 y) ∧ W.cell? ⟨B3, u, none⟩ = some (.int .i64 (o : Nat))) (by kernel_rfl) (HSS.out _ (Fr.drew _ _)) (fun hHeld => ?_)
              have HFd := hid (HFd.out.trans (Fr.drew _ _))
              refine wpAnyH_take (i := 0) (v := (.int .i64 0)) rfl (by kernel_rfl) (by kernel_rfl) (by kernel_rfl) (fun _ _ _ h => h) (Or.inl ⟨by rfl, by intro W hSW; (try dsimp only at hSW); go_simp⟩) (by assumption) ?_
              simp only [Act.put, List.getElem_toArray, List.getElem_cons_zero, List.getElem_cons_succ, List.setIfInBounds_toArray, List.set_cons_zero, List.set_cons_succ]
              refine wpAnyH_take (i := 1) (v := (.bool false)) rfl (by kernel_rfl) (by kernel_rfl) (by kernel_rfl) (fun _ _ _ h => h) (Or.inl ⟨by rfl, by intro W hSW; (try dsimp only at hSW); go_simp⟩) (by assumption) ?_
              simp only [Act.put, List.getElem_toArray, List.getElem_cons_zero, List.getElem_cons_succ, List.setIfInBounds_toArray, List.set_cons_zero, List.set_cons_succ]
              refine wpAnyH_take (i := 2) (v := (.bool false)) rfl (by kernel_rfl) (by kernel_rfl) (by kernel_rfl) (fun _ _ _ h => h) (Or.inl ⟨by rfl, by intro W hSW; (try dsimp only at hSW); go_simp⟩) (by assumption) ?_
              simp only [Act.put, List.getElem_toArray, List.getElem_cons_zero, List.getElem_cons_succ, List.setIfInBounds_toArray, List.set_cons_zero, List.set_cons_succ]
              refine wpAnyH_take (i := 3) (v := (.bool false)) rfl (by kernel_rfl) (by kernel_rfl) (by kernel_rfl) (fun _ _ _ h => h) (Or.inl ⟨by rfl, by intro W hSW; (try dsimp only at hSW); go_simp⟩) (by assumption) ?_
              simp only [Act.put, List.getElem_toArray, List.getElem_cons_zero, List.getElem_cons_succ, List.setIfInBounds_toArray, List.set_cons_zero, List.set_cons_succ]
              refine wpAnyH_take (i := 4) (v := (.bool false)) rfl (by kernel_rfl) (by kernel_rfl) (by kernel_rfl) (fun _ _ _ h => h) (Or.inl ⟨by rfl, by intro W hSW; (try dsimp only at hSW); go_simp⟩) (by assumption) ?_
              simp only [Act.put, List.getElem_toArray, List.getElem_cons_zero, List.getElem_cons_succ, List.setIfInBounds_toArray, List.set_cons_zero, List.set_cons_succ]
              refine wpAnyH_take (i := 5) (v := undef) rfl (by kernel_rfl) (by kernel_rfl) (by kernel_rfl) (fun _ _ _ h => h) (Or.inr ⟨by rfl, rfl⟩) (by assumption) ?_
              simp only [Act.put, List.getElem_toArray, List.getElem_cons_zero, List.getElem_cons_succ, List.setIfInBounds_toArray, List.set_cons_zero, List.set_cons_succ]
              refine wpAnyH_take (i := 6) (v := undef) rfl (by kernel_rfl) (by kernel_rfl) (by kernel_rfl) (fun _ _ _ h => h) (Or.inr ⟨by rfl, rfl⟩) (by assumption) ?_
              simp only [Act.put, List.getElem_toArray, List.getElem_cons_zero, List.getElem_cons_succ, List.setIfInBounds_toArray, List.set_cons_zero, List.set_cons_succ]
              refine wpAnyH_take (i := 7) (v := (.bool false)) rfl (by kernel_rfl) (by kernel_rfl) (by kernel_rfl) (fun _ _ _ h => h) (Or.inl ⟨by rfl, by intro W hSW; (try dsimp only at hSW); go_simp⟩) (by assumption) ?_
              simp only [Act.put, List.getElem_toArray, List.getElem_cons_zero, List.getElem_cons_succ, List.setIfInBounds_toArray, List.set_cons_zero, List.set_cons_succ]
              refine wpAnyH_take (i := 8) (v := (.bool false)) rfl (by kernel_rfl) (by kernel_rfl) (by kernel_rfl) (fun _ _ _ h => h) (Or.inl ⟨by rfl, by intro W hSW; (try dsimp only at hSW); go_simp⟩) (by assumption) ?_
              simp only [Act.put, List.getElem_toArray, List.getElem_cons_zero, List.getElem_cons_succ, List.setIfInBounds_toArray, List.set_cons_zero, List.set_cons_succ]
              refine wpAnyH_take (i := 9) (v := (.bool false)) rfl (by kernel_rfl) (by kernel_rfl) (by kernel_rfl) (fun _ _ _ h => h) (Or.inl ⟨by rfl, by intro W hSW; (try dsimp only at hSW); go_simp⟩) (by assumption) ?_
              simp only [Act.put, List.getElem_toArray, List.getElem_cons_zero, List.getElem_cons_succ, List.setIfInBounds_toArray, List.set_cons_zero, List.set_cons_succ]
              refine wpAnyH_take (i := 10) (v := (.slice (some ⟨B4, 0, none⟩) 3 3)) rfl (by kernel_rfl) (by kernel_rfl) (by kernel_rfl) (fun _ _ _ h => h) (Or.inl ⟨by rfl, by intro W hSW; (try dsimp only at hSW); go_simp⟩) (by assumption) ?_
              simp only [Act.put, List.getElem_toArray, List.getElem_cons_zero, List.getElem_cons_succ, List.setIfInBounds_toArray, List.set_cons_zero, List.set_cons_succ]
              refine wpAnyH_take (i := 11) (v := (.int .i64 u)) rfl (by kernel_rfl) (by kernel_rfl) (by kernel_rfl) (fun _ _ _ h => h) (Or.inl ⟨by rfl, by intro W hSW; (try dsimp only at hSW); go_simp⟩) (by assumption) ?_
              simp only [Act.put, List.getElem_toArray, List.getElem_cons_zero, List.getElem_cons_succ, List.setIfInBounds_toArray, List.set_cons_zero, List.set_cons_succ]
              refine wpAnyH_take (i := 12) (v := (.pointer (some ⟨B4, u, none⟩))) rfl (by kernel_rfl) (by kernel_rfl) (by kernel_rfl) (fun _ _ _ h => h) (Or.inl ⟨by rfl, by intro W hSW; (try dsimp only at hSW); go_simp⟩) (by assumption) ?_
              simp only [Act.put, List.getElem_toArray, List.getElem_cons_zero, List.getElem_cons_succ, List.setIfInBounds_toArray, List.set_cons_zero, List.set_cons_succ]
              refine wpAnyH_take (i := 13) (v := (.int .i64 y)) rfl (by kernel_rfl) (by kernel_rfl) (by kernel_rfl) (fun _ _ _ h => h) (Or.inl ⟨by rfl, by intro W hSW; (try dsimp only at hSW); go_simp⟩) (by assumption) ?_
              simp only [Act.put, List.getElem_toArray, List.getElem_cons_zero, List.getElem_cons_succ, List.setIfInBounds_toArray, List.set_cons_zero, List.set_cons_succ]
              refine wpAnyH_take (i := 14) (v := (.pointer (some ⟨tb, 0, none⟩))) rfl (by kernel_rfl) (by kernel_rfl) (by kernel_rfl) (fun _ _ _ h => h) (Or.inl ⟨by rfl, by intro W hSW; (try dsimp only at hSW); go_simp⟩) (by assumption) ?_
              simp only [Act.put, List.getElem_toArray, List.getElem_cons_zero, List.getElem_cons_succ, List.setIfInBounds_toArray, List.set_cons_zero, List.set_cons_succ]
              refine wpAnyH_take (i := 15) (v := (.slice (some ⟨B3, 0, none⟩) 3 3)) rfl (by kernel_rfl) (by kernel_rfl) (by kernel_rfl) (fun _ _ _ h => h) (Or.inl ⟨by rfl, by intro W hSW; (try dsimp only at hSW); go_simp⟩) (by assumption) ?_
              simp only [Act.put, List.getElem_toArray, List.getElem_cons_zero, List.getElem_cons_succ, List.setIfInBounds_toArray, List.set_cons_zero, List.set_cons_succ]
              refine wpAnyH_take (i := 16) (v := (.int .i64 u)) rfl (by kernel_rfl) (by kernel_rfl) (by kernel_rfl) (fun _ _ _ h => h) (Or.inl ⟨by rfl, by intro W hSW; (try dsimp only at hSW); go_simp⟩) (by assumption) ?_
              simp only [Act.put, List.getElem_toArray, List.getElem_cons_zero, List.getElem_cons_succ, List.setIfInBounds_toArray, List.set_cons_zero, List.set_cons_succ]
              refine wpAnyH_take (i := 17) (v := (.pointer (some ⟨B3, u, none⟩))) rfl (by kernel_rfl) (by kernel_rfl) (by kernel_rfl) (fun _ _ _ h => h) (Or.inl ⟨by rfl, by intro W hSW; (try dsimp only at hSW); go_simp⟩) (by assumption) ?_
              simp only [Act.put, List.getElem_toArray, List.getElem_cons_zero, List.getElem_cons_succ, List.setIfInBounds_toArray, List.set_cons_zero, List.set_cons_succ]
              refine wpAnyH_take (i := 18) (v := (.int .i64 o)) rfl (by kernel_rfl) (by kernel_rfl) (by kernel_rfl) (fun _ _ _ h => h) (Or.inl ⟨by rfl, by intro W hSW; (try dsimp only at hSW); go_simp⟩) (by assumption) ?_
              simp only [Act.put, List.getElem_toArray, List.getElem_cons_zero, List.getElem_cons_succ, List.setIfInBounds_toArray, List.set_cons_zero, List.set_cons_succ]
              refine wpAnyH_ready (rs := [19]) (by kernel_rfl) (by simp) ?_
              refine AllReadyH.cons rfl (fun K hK => ?_) AllReadyH.nil
              simp only [List.getElem_toArray, List.getElem_cons_zero, List.getElem_cons_succ]
              go_simp
              ((with_reducible refine (HNS.out _ (H6.out.same HFd.out)).mono ?_); rintro e w7 ⟨rfl, hF7⟩; have HFd := hid (HFd.out.trans hF7); clear hF7)
              refine hK.out _ _ (HSS.out _ HFd.out) (fun hHeld => ?_)
              clear hK K
              try simp only [Act.put, List.getElem_toArray, List.getElem_cons_zero, List.getElem_cons_succ, List.setIfInBounds_toArray, List.set_cons_zero, List.set_cons_succ]
              refine wpAnyH_take (i := 20) (v := (.int .i64 ((m : Int) + 1))) rfl (by kernel_rfl) (by kernel_rfl) (by kernel_rfl) (fun _ _ _ h => h) (Or.inl ⟨by rfl, by intro W hSW; (try dsimp only at hSW); go_simp⟩) (by assumption) ?_
              simp only [Act.put, List.getElem_toArray, List.getElem_cons_zero, List.getElem_cons_succ, List.setIfInBounds_toArray, List.set_cons_zero, List.set_cons_succ]
              refine wpAnyH_take (i := 21) (v := (.bool false)) rfl (by kernel_rfl) (by kernel_rfl) (by kernel_rfl) (fun _ _ _ h => h) (Or.inl ⟨by rfl, by intro W hSW; (try dsimp only at hSW); go_simp⟩) (by assumption) ?_
              simp only [Act.put, List.getElem_toArray, List.getElem_cons_zero, List.getElem_cons_succ, List.setIfInBounds_toArray, List.set_cons_zero, List.set_cons_succ]
              refine wpAnyH_take (i := 22) (v := (.bool false)) rfl (by kernel_rfl) (by kernel_rfl) (by kernel_rfl) (fun _ _ _ h => h) (Or.inl ⟨by rfl, by intro W hSW; (try dsimp only at hSW); go_simp⟩) (by assumption) ?_
              simp only [Act.put, List.getElem_toArray, List.getElem_cons_zero, List.getElem_cons_succ, List.setIfInBounds_toArray, List.set_cons_zero, List.set_cons_succ]
              refine wpAnyH_done (by kernel_rfl) ?_ _
              have H7 := hid (H6.out.same HFd.out)
              clear hwr t7 HSS HNS HFd H6
              go_wp2_with fail
              go_roundg (la + 1 - (i + 1))
              case rel => exact ⟨i + 1, _, by omega, by omega, by go_num, H7.out, HPN.out⟩
              case measure => omega
        -- LOOK ENDS
    · have t1 : decide ((i : Int) < (la : Int)) = false := by simp; omega
      go_wp2_with fail
      refine (awake_ok _).mono ?_
      rintro e w9 ⟨rfl, hF9⟩
      have HF9 := hid (HM.out.fr.trans hF9)
      clear hF9
      go_wp2_with fail
      go_ret
      exact ⟨rfl, HF9.out.below (Nat.le_refl _) (fun _ hh => hh.elim)⟩
end Go.Proofs.Ytoajdknhllaoeaa
