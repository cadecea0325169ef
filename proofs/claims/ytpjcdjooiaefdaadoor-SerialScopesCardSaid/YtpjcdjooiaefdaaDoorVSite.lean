/-
  What is told of an instruction where it stands.
-/
import Derived.Test.YtpjcdjooiaefdaaDoorVSmall
import Derived.Deep.RegionHeld3
namespace Go.Proofs.YtpjcdjooiaefdaaDoor
open Go.RowKit

/-- An instruction, and where it stands. -/
structure Sit where
  F : Option Addr
  nf : Nat
  cf : Nat
  k : Int
  at_ : Int
  i : Ins
  D : Option Addr
  nd : Nat
  cd : Nat
  held : Int

def Sit.val (s : Sit) : Value := .agg #[.slice s.F s.nf s.cf, .int .i64 s.k, .int .i64 s.at_, .int .i64 s.i.op, .int .i64 s.i.a, .int .i64 s.i.b, .int .i64 s.i.c, .int .i64 s.i.n, .slice s.D s.nd s.cd, .int .i64 s.held]

def toldF (s : Sit) (b : Bool) (x : Int) : Flt := if b = true then ⟨s.k, s.at_, x⟩ else Flt.none

set_option maxHeartbeats 400000 in
theorem told_any (s : Sit) (b : Bool) (x : Int) (w : World) : Calls Tryd.prog 61 #[s.val, .bool b, .int .i64 x] w fun e w' => e = .returned (toldF s b x).val ∧ Fr (fun _ => False) w w' := by
  obtain ⟨F, nf, cf, k, at_, ⟨op, a, bb, c, n⟩, D, nd, cd, held⟩ := s
  cases b with
  | true =>
    unfold Sit.val
    simp only
    go_enter Tryd.func61, Tryd.ntmps61
    go_wp2_with fail
    refine bodyPost_ret (v := .agg #[.int .i64 k, .int .i64 at_, .int .i64 x]) (by simp [results, Tryd.results61, go_sem]; try rfl) rfl ⟨rfl, ?_⟩
    exact (Fr.alloc _ _ _).trans (Fr.alloc _ _ _)
  | false =>
    unfold Sit.val
    simp only
    go_enter Tryd.func61, Tryd.ntmps61
    go_wp2_with fail
    refine bodyPost_ret (v := .agg #[.int .i64 0, .int .i64 0, .int .i64 0]) (by simp [results, Tryd.results61, go_sem]; try rfl) rfl ⟨rfl, ?_⟩
    exact (Fr.alloc _ _ _).trans (Fr.alloc _ _ _)


/-- The cells of a site. -/
def Sit.cells (s : Sit) : Array Value := #[.slice s.F s.nf s.cf, .int .i64 s.k, .int .i64 s.at_, .int .i64 s.i.op, .int .i64 s.i.a, .int .i64 s.i.b, .int .i64 s.i.c, .int .i64 s.i.n, .slice s.D s.nd s.cd, .int .i64 s.held]

theorem Fr.put3 {w w3 : World} (h : Fr (fun _ => False) w w3) (x y z : Value) {b : Nat} (hb : w.heap.size ≤ b) : Fr (fun _ => False) w (((w3.setCell ⟨b, 0, none⟩ x).setCell ⟨b, 1, none⟩ y).setCell ⟨b, 2, none⟩ z) :=
  h.since (((Fr.setCell (S := fun j => j = b) w3 ⟨b, 0, none⟩ x rfl).trans (Fr.setCell _ ⟨b, 1, none⟩ y rfl)).trans (Fr.setCell _ ⟨b, 2, none⟩ z rfl)) (fun i hi hl => by omega)

/-- What a site tells of its goal. -/
def goalS (s : Sit) : Bool := (isJ s.i && !hasB s.nd s.i.n) || (s.i.op == 8 && !hasB s.nf s.i.n)

set_option maxHeartbeats 1000000 in
theorem goal_any (s : Sit) (w : World) : Calls Tryd.prog 44 #[s.val] w fun e w' => e = .returned (toldF s (goalS s) 10).val ∧ Fr (fun _ => False) w w' := by
  obtain ⟨j, hj⟩ : ∃ j, isJ s.i = j := ⟨_, rfl⟩
  have HJ := hid (jumps_any s.i)
  rw [hj] at HJ
  obtain ⟨F, nf, cf, k, at_, ⟨op, a, bb, c, n⟩, D, nd, cd, held⟩ := s
  unfold Ins.val at HJ
  simp only at HJ hj
  unfold Sit.val
  simp only
  have HT1 := hid (fun w => told_any ⟨F, nf, cf, k, at_, ⟨op, a, bb, c, n⟩, D, nd, cd, held⟩ true 10 w)
  have HT0 := hid (fun w => told_any ⟨F, nf, cf, k, at_, ⟨op, a, bb, c, n⟩, D, nd, cd, held⟩ false 10 w)
  unfold Sit.val toldF Flt.val Flt.none at HT1 HT0
  simp only [if_true, if_false, Bool.false_eq_true] at HT1 HT0
  have HB0 := hid ((Blk.new w #[.slice F nf cf, .int .i64 k, .int .i64 at_, .int .i64 op, .int .i64 a, .int .i64 bb, .int .i64 c, .int .i64 n, .slice D nd cd, .int .i64 held] 84).alloc (.cells #[.int .i64 0, .int .i64 0, .int .i64 0] 49))
  have HR0 := hid ((Blk.new (w.alloc (.cells #[.slice F nf cf, .int .i64 k, .int .i64 at_, .int .i64 op, .int .i64 a, .int .i64 bb, .int .i64 c, .int .i64 n, .slice D nd cd, .int .i64 held] 84)) #[.int .i64 0, .int .i64 0, .int .i64 0] 49).at (n := w.heap.size + 1) (by simp))
  have HA := hid ((Fr.alloc (fun _ => False) w (.cells #[.slice F nf cf, .int .i64 k, .int .i64 at_, .int .i64 op, .int .i64 a, .int .i64 bb, .int .i64 c, .int .i64 n, .slice D nd cd, .int .i64 held] 84)).trans (Fr.alloc _ _ (.cells #[.int .i64 0, .int .i64 0, .int .i64 0] 49)))
  cases j with
  | true =>
    have h8 : (op == 8) = false := by unfold isJ at hj; simp only [Bool.or_eq_true, beq_iff_eq] at hj; rw [beq_eq_false_iff_ne]; omega
    obtain ⟨h1, hh1⟩ : ∃ h, hasB nd n = h := ⟨_, rfl⟩
    have HQ := hid (show goalS ⟨F, nf, cf, k, at_, ⟨op, a, bb, c, n⟩, D, nd, cd, held⟩ = !h1 by unfold goalS; simp only; rw [hj, h8, hh1]; simp)
    have HH := hid hh1
    clear hj h8 hh1
    go_enter Tryd.func44, Tryd.ntmps44
    go_wp2_with fail
    refine (HJ.out _).mono ?_
    rintro e w1 ⟨rfl, hF1⟩
    have hB := HB0.out.keep hF1 (fun h => h)
    have hR := HR0.out.keep hF1 (fun h => h)
    have p0 := hB.cell (i := 0) rfl
    have p1 := hB.cell (i := 1) rfl
    have p2 := hB.cell (i := 2) rfl
    have p3 := hB.cell (i := 3) rfl
    have p4 := hB.cell (i := 4) rfl
    have p5 := hB.cell (i := 5) rfl
    have p6 := hB.cell (i := 6) rfl
    have p7 := hB.cell (i := 7) rfl
    have p8 := hB.cell (i := 8) rfl
    have p9 := hB.cell (i := 9) rfl
    have HF := hid (HA.out.trans hF1)
    have HR := hid hR
    clear hB hR hF1
    go_wp2_with fail
    refine (has_chk _ _ _).mono ?_
    rintro e w2 ⟨rfl, rfl⟩
    rw [HH.out]
    cases h1 with
    | true =>
      go_wp2_with fail
      refine (HT0.out _).mono ?_
      rintro e w3 ⟨rfl, hF3⟩
      have hR := HR.out.keep hF3 (fun h => h)
      have r0 := hR.cell (i := 0) rfl
      have r1 := hR.cell (i := 1) rfl
      have r2 := hR.cell (i := 2) rfl
      have z0 := hR.frozen 0
      have z1 := hR.frozen 1
      have z2 := hR.frozen 2
      go_wp2_with fail
      refine bodyPost_ret (v := .agg #[.int .i64 0, .int .i64 0, .int .i64 0]) (by simp [results, Tryd.results44, go_sem, r0, r1, r2]; try rfl) rfl ⟨?_, ?_⟩
      · rw [HQ.out]; rfl
      · exact Fr.put3 (HF.out.trans hF3) _ _ _ (by omega)
    | false =>
      go_wp2_with fail
      refine (HT1.out _).mono ?_
      rintro e w3 ⟨rfl, hF3⟩
      have hR := HR.out.keep hF3 (fun h => h)
      have r0 := hR.cell (i := 0) rfl
      have r1 := hR.cell (i := 1) rfl
      have r2 := hR.cell (i := 2) rfl
      have z0 := hR.frozen 0
      have z1 := hR.frozen 1
      have z2 := hR.frozen 2
      go_wp2_with fail
      refine bodyPost_ret (v := .agg #[.int .i64 k, .int .i64 at_, .int .i64 10]) (by simp [results, Tryd.results44, go_sem, r0, r1, r2]; try rfl) rfl ⟨?_, ?_⟩
      · rw [HQ.out]; rfl
      · exact Fr.put3 (HF.out.trans hF3) _ _ _ (by omega)
  | false =>
    by_cases h8 : op = 8
    · subst h8
      obtain ⟨h1, hh1⟩ : ∃ h, hasB nf n = h := ⟨_, rfl⟩
      have HQ := hid (show goalS ⟨F, nf, cf, k, at_, ⟨8, a, bb, c, n⟩, D, nd, cd, held⟩ = !h1 by unfold goalS; simp only; rw [hj, hh1]; simp)
      have HH := hid hh1
      clear hj hh1
      go_enter Tryd.func44, Tryd.ntmps44
      go_wp2_with fail
      refine (HJ.out _).mono ?_
      rintro e w1 ⟨rfl, hF1⟩
      have hB := HB0.out.keep hF1 (fun h => h)
      have hR := HR0.out.keep hF1 (fun h => h)
      have p0 := hB.cell (i := 0) rfl
      have p1 := hB.cell (i := 1) rfl
      have p2 := hB.cell (i := 2) rfl
      have p3 := hB.cell (i := 3) rfl
      have p4 := hB.cell (i := 4) rfl
      have p5 := hB.cell (i := 5) rfl
      have p6 := hB.cell (i := 6) rfl
      have p7 := hB.cell (i := 7) rfl
      have p8 := hB.cell (i := 8) rfl
      have p9 := hB.cell (i := 9) rfl
      have HF := hid (HA.out.trans hF1)
      have HR := hid hR
      clear hB hR hF1
      go_wp2_with fail
      refine (has_chk _ _ _).mono ?_
      rintro e w2 ⟨rfl, rfl⟩
      rw [HH.out]
      cases h1 with
      | true =>
        go_wp2_with fail
        refine (HT0.out _).mono ?_
        rintro e w3 ⟨rfl, hF3⟩
        have hR := HR.out.keep hF3 (fun h => h)
        have r0 := hR.cell (i := 0) rfl
        have r1 := hR.cell (i := 1) rfl
        have r2 := hR.cell (i := 2) rfl
        have z0 := hR.frozen 0
        have z1 := hR.frozen 1
        have z2 := hR.frozen 2
        go_wp2_with fail
        refine bodyPost_ret (v := .agg #[.int .i64 0, .int .i64 0, .int .i64 0]) (by simp [results, Tryd.results44, go_sem, r0, r1, r2]; try rfl) rfl ⟨?_, ?_⟩
        · rw [HQ.out]; rfl
        · exact Fr.put3 (HF.out.trans hF3) _ _ _ (by omega)
      | false =>
        go_wp2_with fail
        refine (HT1.out _).mono ?_
        rintro e w3 ⟨rfl, hF3⟩
        have hR := HR.out.keep hF3 (fun h => h)
        have r0 := hR.cell (i := 0) rfl
        have r1 := hR.cell (i := 1) rfl
        have r2 := hR.cell (i := 2) rfl
        have z0 := hR.frozen 0
        have z1 := hR.frozen 1
        have z2 := hR.frozen 2
        go_wp2_with fail
        refine bodyPost_ret (v := .agg #[.int .i64 k, .int .i64 at_, .int .i64 10]) (by simp [results, Tryd.results44, go_sem, r0, r1, r2]; try rfl) rfl ⟨?_, ?_⟩
        · rw [HQ.out]; rfl
        · exact Fr.put3 (HF.out.trans hF3) _ _ _ (by omega)
    · have t8 : (op == 8) = false := by simpa using h8
      have HQ := hid (show goalS ⟨F, nf, cf, k, at_, ⟨op, a, bb, c, n⟩, D, nd, cd, held⟩ = false by unfold goalS; simp only; rw [hj, t8]; simp)
      clear hj
      go_enter Tryd.func44, Tryd.ntmps44
      go_wp2_with fail
      refine (HJ.out _).mono ?_
      rintro e w1 ⟨rfl, hF1⟩
      have hB := HB0.out.keep hF1 (fun h => h)
      have hR := HR0.out.keep hF1 (fun h => h)
      have p0 := hB.cell (i := 0) rfl
      have p1 := hB.cell (i := 1) rfl
      have p2 := hB.cell (i := 2) rfl
      have p3 := hB.cell (i := 3) rfl
      have p4 := hB.cell (i := 4) rfl
      have p5 := hB.cell (i := 5) rfl
      have p6 := hB.cell (i := 6) rfl
      have p7 := hB.cell (i := 7) rfl
      have p8 := hB.cell (i := 8) rfl
      have p9 := hB.cell (i := 9) rfl
      have HF := hid (HA.out.trans hF1)
      have HR := hid hR
      clear hB hR hF1
      go_wp2_with fail
      refine (HT0.out _).mono ?_
      rintro e w3 ⟨rfl, hF3⟩
      have hR := HR.out.keep hF3 (fun h => h)
      have r0 := hR.cell (i := 0) rfl
      have r1 := hR.cell (i := 1) rfl
      have r2 := hR.cell (i := 2) rfl
      have z0 := hR.frozen 0
      have z1 := hR.frozen 1
      have z2 := hR.frozen 2
      go_wp2_with fail
      refine bodyPost_ret (v := .agg #[.int .i64 0, .int .i64 0, .int .i64 0]) (by simp [results, Tryd.results44, go_sem, r0, r1, r2]; try rfl) rfl ⟨?_, ?_⟩
      · rw [HQ.out]; rfl
      · exact Fr.put3 (HF.out.trans hF3) _ _ _ (by omega)

/-- What a site tells of the end. -/
def endS (s : Sit) : Bool := decide (s.at_ = s.nd - 1) && isP s.i

set_option maxHeartbeats 1000000 in
theorem end_any (s : Sit) (w : World) (hnd : s.nd ≤ 1000) : Calls Tryd.prog 45 #[s.val] w fun e w' => e = .returned (toldF s (endS s) 11).val ∧ Fr (fun _ => False) w w' := by
  obtain ⟨j, hj⟩ : ∃ j, isP s.i = j := ⟨_, rfl⟩
  have HP := hid (passes_any s.i)
  rw [hj] at HP
  obtain ⟨F, nf, cf, k, at_, ⟨op, a, bb, c, n⟩, D, nd, cd, held⟩ := s
  unfold Ins.val at HP
  simp only at HP hj hnd
  unfold Sit.val
  simp only
  have HT1 := hid (fun w => told_any ⟨F, nf, cf, k, at_, ⟨op, a, bb, c, n⟩, D, nd, cd, held⟩ true 11 w)
  have HT0 := hid (fun w => told_any ⟨F, nf, cf, k, at_, ⟨op, a, bb, c, n⟩, D, nd, cd, held⟩ false 11 w)
  unfold Sit.val toldF Flt.val Flt.none at HT1 HT0
  simp only [if_true, if_false, Bool.false_eq_true] at HT1 HT0
  have HB0 := hid ((Blk.new w #[.slice F nf cf, .int .i64 k, .int .i64 at_, .int .i64 op, .int .i64 a, .int .i64 bb, .int .i64 c, .int .i64 n, .slice D nd cd, .int .i64 held] 84).alloc (.cells #[.int .i64 0, .int .i64 0, .int .i64 0] 49))
  have HR0 := hid ((Blk.new (w.alloc (.cells #[.slice F nf cf, .int .i64 k, .int .i64 at_, .int .i64 op, .int .i64 a, .int .i64 bb, .int .i64 c, .int .i64 n, .slice D nd cd, .int .i64 held] 84)) #[.int .i64 0, .int .i64 0, .int .i64 0] 49).at (n := w.heap.size + 1) (by simp))
  have HA := hid ((Fr.alloc (fun _ => False) w (.cells #[.slice F nf cf, .int .i64 k, .int .i64 at_, .int .i64 op, .int .i64 a, .int .i64 bb, .int .i64 c, .int .i64 n, .slice D nd cd, .int .i64 held] 84)).trans (Fr.alloc _ _ (.cells #[.int .i64 0, .int .i64 0, .int .i64 0] 49)))
  clear HB0 HR0 HA
  have HA := hid (((Fr.alloc (fun _ => False) w (.cells #[.slice F nf cf, .int .i64 k, .int .i64 at_, .int .i64 op, .int .i64 a, .int .i64 bb, .int .i64 c, .int .i64 n, .slice D nd cd, .int .i64 held] 84)).trans (Fr.alloc _ _ (.cells #[.int .i64 0, .int .i64 0, .int .i64 0] 49))).trans (Fr.alloc _ _ (.cells #[.int .i64 op, .int .i64 a, .int .i64 bb, .int .i64 c, .int .i64 n] 43)))
  have HB := hid (((Blk.new w #[.slice F nf cf, .int .i64 k, .int .i64 at_, .int .i64 op, .int .i64 a, .int .i64 bb, .int .i64 c, .int .i64 n, .slice D nd cd, .int .i64 held] 84).alloc (.cells #[.int .i64 0, .int .i64 0, .int .i64 0] 49)).alloc (.cells #[.int .i64 op, .int .i64 a, .int .i64 bb, .int .i64 c, .int .i64 n] 43))
  have HR := hid (((Blk.new (w.alloc (.cells #[.slice F nf cf, .int .i64 k, .int .i64 at_, .int .i64 op, .int .i64 a, .int .i64 bb, .int .i64 c, .int .i64 n, .slice D nd cd, .int .i64 held] 84)) #[.int .i64 0, .int .i64 0, .int .i64 0] 49).at (n := w.heap.size + 1) (by simp)).alloc (.cells #[.int .i64 op, .int .i64 a, .int .i64 bb, .int .i64 c, .int .i64 n] 43))
  have HII := hid ((Blk.new ((w.alloc (.cells #[.slice F nf cf, .int .i64 k, .int .i64 at_, .int .i64 op, .int .i64 a, .int .i64 bb, .int .i64 c, .int .i64 n, .slice D nd cd, .int .i64 held] 84)).alloc (.cells #[.int .i64 0, .int .i64 0, .int .i64 0] 49)) #[.int .i64 op, .int .i64 a, .int .i64 bb, .int .i64 c, .int .i64 n] 43).at (n := w.heap.size + 1 + 1) (by simp))
  by_cases hl : at_ = nd - 1
  · subst hl
    cases j with
    | true =>
      have HQ := hid (show endS ⟨F, nf, cf, k, nd - 1, ⟨op, a, bb, c, n⟩, D, nd, cd, held⟩ = true by unfold endS; simp only; rw [hj]; simp)
      clear hj
      go_enter Tryd.func45, Tryd.ntmps45
      go_wp2_with fail
      obtain ⟨W0, hW0⟩ : ∃ W0, (((w.alloc (.cells #[.slice F nf cf, .int .i64 k, .int .i64 (nd - 1), .int .i64 op, .int .i64 a, .int .i64 bb, .int .i64 c, .int .i64 n, .slice D nd cd, .int .i64 held] 84)).alloc (.cells #[.int .i64 0, .int .i64 0, .int .i64 0] 49)).alloc (.cells #[.int .i64 op, .int .i64 a, .int .i64 bb, .int .i64 c, .int .i64 n] 43)) = W0 := ⟨_, rfl⟩
      rw [hW0]
      rw [hW0] at HA HB HR HII
      clear hW0
      have q0 := HB.out.cell (i := 0) rfl
      have q1 := HB.out.cell (i := 1) rfl
      have q2 := HB.out.cell (i := 2) rfl
      have q3 := HB.out.cell (i := 3) rfl
      have q4 := HB.out.cell (i := 4) rfl
      have q5 := HB.out.cell (i := 5) rfl
      have q6 := HB.out.cell (i := 6) rfl
      have q7 := HB.out.cell (i := 7) rfl
      have q8 := HB.out.cell (i := 8) rfl
      have q9 := HB.out.cell (i := 9) rfl
      have i0 := HII.out.cell (i := 0) rfl
      have i1 := HII.out.cell (i := 1) rfl
      have i2 := HII.out.cell (i := 2) rfl
      have i3 := HII.out.cell (i := 3) rfl
      have i4 := HII.out.cell (i := 4) rfl
      have l0 := HII.out.lt
      go_region_with
        (first
          | (go_at_call 62; refine (HP.out _).mono ?_; rintro e w2 ⟨rfl, hF2⟩; have hB := HB.out.drew.keep hF2 (fun h => h); have HR2 := hid (HR.out.drew.keep hF2 (fun h => h)); have HF2 := hid ((HA.out.trans (Fr.drew _ _)).trans hF2); have p0 := hB.cell (i := 0) rfl; have p1 := hB.cell (i := 1) rfl; have p2 := hB.cell (i := 2) rfl; have p3 := hB.cell (i := 3) rfl; have p4 := hB.cell (i := 4) rfl; have p5 := hB.cell (i := 5) rfl; have p6 := hB.cell (i := 6) rfl; have p7 := hB.cell (i := 7) rfl; have p8 := hB.cell (i := 8) rfl; have p9 := hB.cell (i := 9) rfl; have hI := HII.out.drew.keep hF2 (fun h => h); have j0 := hI.cell (i := 0) rfl; have j1 := hI.cell (i := 1) rfl; have j2 := hI.cell (i := 2) rfl; have j3 := hI.cell (i := 3) rfl; have j4 := hI.cell (i := 4) rfl; clear hB hF2 hI)
          | (go_at_call 61; refine (HT1.out _).mono ?_; rintro e w3 ⟨rfl, hF3⟩; have hR := HR2.out.keep hF3 (fun h => h); have r0 := hR.cell (i := 0) rfl; have r1 := hR.cell (i := 1) rfl; have r2 := hR.cell (i := 2) rfl; have z0 := hR.frozen 0; have z1 := hR.frozen 1; have z2 := hR.frozen 2))
      all_goals
        go_wp2_with fail
        refine bodyPost_ret (v := .agg #[.int .i64 k, .int .i64 (nd - 1), .int .i64 11]) (by simp [results, Tryd.results45, go_sem, r0, r1, r2]; try rfl) rfl ⟨?_, ?_⟩
        · rw [HQ.out]; rfl
        · exact Fr.put3 (HF2.out.trans hF3) _ _ _ (by omega)
    | false =>
      have HQ := hid (show endS ⟨F, nf, cf, k, nd - 1, ⟨op, a, bb, c, n⟩, D, nd, cd, held⟩ = false by unfold endS; simp only; rw [hj]; simp)
      clear hj
      go_enter Tryd.func45, Tryd.ntmps45
      go_wp2_with fail
      obtain ⟨W0, hW0⟩ : ∃ W0, (((w.alloc (.cells #[.slice F nf cf, .int .i64 k, .int .i64 (nd - 1), .int .i64 op, .int .i64 a, .int .i64 bb, .int .i64 c, .int .i64 n, .slice D nd cd, .int .i64 held] 84)).alloc (.cells #[.int .i64 0, .int .i64 0, .int .i64 0] 49)).alloc (.cells #[.int .i64 op, .int .i64 a, .int .i64 bb, .int .i64 c, .int .i64 n] 43)) = W0 := ⟨_, rfl⟩
      rw [hW0]
      rw [hW0] at HA HB HR HII
      clear hW0
      have q0 := HB.out.cell (i := 0) rfl
      have q1 := HB.out.cell (i := 1) rfl
      have q2 := HB.out.cell (i := 2) rfl
      have q3 := HB.out.cell (i := 3) rfl
      have q4 := HB.out.cell (i := 4) rfl
      have q5 := HB.out.cell (i := 5) rfl
      have q6 := HB.out.cell (i := 6) rfl
      have q7 := HB.out.cell (i := 7) rfl
      have q8 := HB.out.cell (i := 8) rfl
      have q9 := HB.out.cell (i := 9) rfl
      have i0 := HII.out.cell (i := 0) rfl
      have i1 := HII.out.cell (i := 1) rfl
      have i2 := HII.out.cell (i := 2) rfl
      have i3 := HII.out.cell (i := 3) rfl
      have i4 := HII.out.cell (i := 4) rfl
      have l0 := HII.out.lt
      go_region_with
        (first
          | (go_at_call 62; refine (HP.out _).mono ?_; rintro e w2 ⟨rfl, hF2⟩; have hB := HB.out.drew.keep hF2 (fun h => h); have HR2 := hid (HR.out.drew.keep hF2 (fun h => h)); have HF2 := hid ((HA.out.trans (Fr.drew _ _)).trans hF2); have p0 := hB.cell (i := 0) rfl; have p1 := hB.cell (i := 1) rfl; have p2 := hB.cell (i := 2) rfl; have p3 := hB.cell (i := 3) rfl; have p4 := hB.cell (i := 4) rfl; have p5 := hB.cell (i := 5) rfl; have p6 := hB.cell (i := 6) rfl; have p7 := hB.cell (i := 7) rfl; have p8 := hB.cell (i := 8) rfl; have p9 := hB.cell (i := 9) rfl; have hI := HII.out.drew.keep hF2 (fun h => h); have j0 := hI.cell (i := 0) rfl; have j1 := hI.cell (i := 1) rfl; have j2 := hI.cell (i := 2) rfl; have j3 := hI.cell (i := 3) rfl; have j4 := hI.cell (i := 4) rfl; clear hB hF2 hI)
          | (go_at_call 61; refine (HT0.out _).mono ?_; rintro e w3 ⟨rfl, hF3⟩; have hR := HR2.out.keep hF3 (fun h => h); have r0 := hR.cell (i := 0) rfl; have r1 := hR.cell (i := 1) rfl; have r2 := hR.cell (i := 2) rfl; have z0 := hR.frozen 0; have z1 := hR.frozen 1; have z2 := hR.frozen 2))
      all_goals
        go_wp2_with fail
        refine bodyPost_ret (v := .agg #[.int .i64 0, .int .i64 0, .int .i64 0]) (by simp [results, Tryd.results45, go_sem, r0, r1, r2]; try rfl) rfl ⟨?_, ?_⟩
        · rw [HQ.out]; rfl
        · exact Fr.put3 (HF2.out.trans hF3) _ _ _ (by omega)
  · have HQ := hid (show endS ⟨F, nf, cf, k, at_, ⟨op, a, bb, c, n⟩, D, nd, cd, held⟩ = false by unfold endS; simp only; rw [decide_eq_false hl]; simp)
    have t1 : (at_ == (nd : Int) - 1) = false := by simpa using hl
    clear hj
    go_enter Tryd.func45, Tryd.ntmps45
    go_wp2_with fail
    obtain ⟨W0, hW0⟩ : ∃ W0, (((w.alloc (.cells #[.slice F nf cf, .int .i64 k, .int .i64 at_, .int .i64 op, .int .i64 a, .int .i64 bb, .int .i64 c, .int .i64 n, .slice D nd cd, .int .i64 held] 84)).alloc (.cells #[.int .i64 0, .int .i64 0, .int .i64 0] 49)).alloc (.cells #[.int .i64 op, .int .i64 a, .int .i64 bb, .int .i64 c, .int .i64 n] 43)) = W0 := ⟨_, rfl⟩
    rw [hW0]
    rw [hW0] at HA HB HR HII
    clear hW0
    have q0 := HB.out.cell (i := 0) rfl
    have q1 := HB.out.cell (i := 1) rfl
    have q2 := HB.out.cell (i := 2) rfl
    have q3 := HB.out.cell (i := 3) rfl
    have q4 := HB.out.cell (i := 4) rfl
    have q5 := HB.out.cell (i := 5) rfl
    have q6 := HB.out.cell (i := 6) rfl
    have q7 := HB.out.cell (i := 7) rfl
    have q8 := HB.out.cell (i := 8) rfl
    have q9 := HB.out.cell (i := 9) rfl
    have i0 := HII.out.cell (i := 0) rfl
    have i1 := HII.out.cell (i := 1) rfl
    have i2 := HII.out.cell (i := 2) rfl
    have i3 := HII.out.cell (i := 3) rfl
    have i4 := HII.out.cell (i := 4) rfl
    have l0 := HII.out.lt
    go_region_with
      (first
        | (go_at_call 61; refine (HT0.out _).mono ?_; rintro e w3 ⟨rfl, hF3⟩; have hR := HR.out.drew.keep hF3 (fun h => h); have r0 := hR.cell (i := 0) rfl; have r1 := hR.cell (i := 1) rfl; have r2 := hR.cell (i := 2) rfl; have z0 := hR.frozen 0; have z1 := hR.frozen 1; have z2 := hR.frozen 2))
    all_goals
      go_wp2_with fail
      refine bodyPost_ret (v := .agg #[.int .i64 0, .int .i64 0, .int .i64 0]) (by simp [results, Tryd.results45, go_sem, r0, r1, r2]; try rfl) rfl ⟨?_, ?_⟩
      · rw [HQ.out]; rfl
      · exact Fr.put3 ((HA.out.trans (Fr.drew _ _)).trans hF3) _ _ _ (by omega)

end Go.Proofs.YtpjcdjooiaefdaaDoor
