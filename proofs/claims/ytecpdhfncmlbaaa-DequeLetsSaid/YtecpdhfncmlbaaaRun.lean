/-
  Operations that are done to their end: run and takes of the laws; lists that are the same.
-/
import Derived.Test.YtecpdhfncmlbaaaList
import Derived.Deep.LoopGhost
namespace Go.Proofs.Ytecpdhfncmlbaaa
open Go.RowKit
set_option linter.unusedVariables false

/-- An operation, and the machine, as they stand. -/
structure St (w : World) (b : MB) (o q cp : Nat) (most : Int) (op : DOp) (M : Mach) (s : List Int) (B : Int) : Prop where
  hI : IsOp w b o q cp most op
  hM : IsM w b (MO M s)
  ob : OpB B op
  cb : CellB B M
  len : 1 < M.all.length

theorem St.same {w w' : World} {b : MB} {o q cp : Nat} {most : Int} {op : DOp} {M : Mach} {s : List Int} {B : Int} (h : St w b o q cp most op M s B) (F : Fr (fun _ => False) w w') : St w' b o q cp most op M s B :=
  ⟨h.hI.same F, h.hM.same F, h.ob, h.cb, h.len⟩

theorem St.begin_ {w : World} {b : MB} {o q cp : Nat} {most : Int} {M : Mach} {s : List Int} {B : Int} {kind : Nat} {x : Int} (hI : IsOp w b o q cp most (beginOp kind x)) (hM : IsM w b (MO M s)) (hc : CellB B M) (h0 : 0 ≤ B) (hl : 1 < M.all.length) : St w b o q cp most (beginOp kind x) M s B :=
  ⟨hI, hM, OpB.begin_ _ _ h0, hc, hl⟩

theorem live_begin (kind : Nat) (x : Int) : (beginOp kind x).Live := by
  unfold DOp.Live beginOp
  simp

def StepPost (b : MB) (o q cp : Nat) (most : Int) (op : DOp) (M : Mach) (s : List Int) (B : Int) (j : Nat) (w : World) (e : Ending) (w' : World) : Prop :=
  ∃ cp', (cp' = cp ∨ w.heap.size ≤ cp') ∧ e = .returned (.int .i64 ((op.act most M).1.how : Nat)) ∧ St w' b o q cp' most (op.act most M).1 (op.act most M).2 (stp s j) (B + 1) ∧ Fr (OM b q cp) w w'

theorem st_step {w : World} {b : MB} {o q cp : Nat} {most : Int} {op : DOp} {M : Mach} {s : List Int} {B : Int} {j : Nat} (h : St w b o q cp most op M s B) (hl : op.Live) (hs : op.safe M) (hj : j < s.length) (h0 : 0 ≤ B) (hB : B ≤ 100000) :
    Calls Try.prog 18 #[.pointer (some ⟨o, 0, none⟩), .pointer (some ⟨b.m, 0, none⟩), .int .i64 j] w (StepPost b o q cp most op M s B j w) := by
  refine (op_step ⟨h.hI, h.hM, hj, hs, h.ob.more hB, hl⟩).mono ?_
  rintro e w' ⟨cp', hcp, he, hI, hM, hF⟩
  have hb := act_bd (most := most) h.len hs h0 h.cb h.ob
  exact ⟨cp', hcp, he, ⟨hI, hM, hb.2, hb.1, by rw [act_len]; exact h.len⟩, hF⟩

def RunPost (b : MB) (o q cp : Nat) (most : Int) (op' : DOp) (M' : Mach) (sl : Nat) (w : World) (e : Ending) (w' : World) : Prop :=
  e = .returned (.int .i64 (op'.how : Nat)) ∧ ∃ cp' s', (cp' = cp ∨ w.heap.size ≤ cp') ∧ IsOp w' b o q cp' most op' ∧ IsM w' b (MO M' s') ∧ s'.length = sl ∧ Fr (OM b q cp) w w'

def RnRel (b : MB) (o q cp : Nat) (most : Int) (op' : DOp) (M' : Mach) (sl n : Nat) (w : World) (d : Nat) (x : Value) (wr : World) : Prop :=
  ∃ (k m : Nat) (op : DOp) (M : Mach) (s : List Int) (cpi : Nat), k + m = n ∧ d = 301 - k ∧ x = .int .i64 k ∧ Run most op M m op' M' ∧ op.Live ∧ St wr b o q cpi most op M s (1000 + k) ∧ s.length = sl ∧ (cpi = cp ∨ w.heap.size ≤ cpi) ∧ Fr (OM b q cp) w wr

theorem fr_om_since {b : MB} {q cp cpi : Nat} {w wr w' : World} (F : Fr (OM b q cp) w wr) (F' : Fr (OM b q cpi) wr w') (hc : cpi = cp ∨ w.heap.size ≤ cpi) : Fr (OM b q cp) w w' := by
  refine F.since F' ?_
  rintro i ((h | h) | h) hlt
  · exact .inl (.inl h)
  · rcases hc with hc | hc
    · exact .inl (.inr (h.trans hc))
    · omega
  · exact .inr h

set_option maxRecDepth 100000 in
set_option maxHeartbeats 1000000 in
theorem run_ok (b : MB) (o q cp : Nat) (most : Int) (op op' : DOp) (M M' : Mach) (s : List Int) (j n : Nat) (w : World) (hR : Run most op M n op' M') (hl : op.Live) (hS : St w b o q cp most op M s 1000) (hj : j < s.length) (hn : n ≤ 300) :
    Calls Try.prog 31 #[.pointer (some ⟨b.m, 0, none⟩), .pointer (some ⟨o, 0, none⟩), .int .i64 j] w (RunPost b o q cp most op' M' s.length w) := by
  obtain ⟨sl, hsl⟩ : ∃ sl, s.length = sl := ⟨_, rfl⟩
  rw [hsl] at hj ⊢
  have HREL := hid (show RnRel b o q cp most op' M' sl n w 301 (.int .i64 0) w from ⟨0, n, op, M, s, cp, by omega, rfl, rfl, hR, hl, by simpa using hS, hsl, .inl rfl, Fr.refl _ _⟩)
  have HJ := hid hj
  have HN := hid hn
  clear hR hl hS hj hn hsl
  go_enter Try.func31, Try.ntmps31
  go_wp2_with fail
  go_loopg [7] 301 (fun d x wr => RnRel b o q cp most op' M' sl n w d x wr)
  case atStart => exact HREL.out
  case round =>
    clear HREL
    obtain ⟨k, m, op1, M1, s1, cpi, hkm, rfl, rfl, hRun, hLive, hSt, hsl, hcp, hF⟩ := hrel
    have HF := hid hF
    have HCP := hid hcp
    have HSL := hid hsl
    have HKM := hid hkm
    clear hF hcp hsl hkm
    cases hRun with
    | last _ _ hs hb he =>
      have t0 : decide ((k : Int) < 300) = true := by have := HKM.out; have := HN.out; simp; omega
      have HST := hid (st_step (j := j) hSt hLive hs (by rw [HSL.out]; exact HJ.out) (by omega) (by have := HKM.out; have := HN.out; omega))
      obtain ⟨op2, hop2⟩ : ∃ op2, (op1.act most M1).1 = op2 := ⟨_, rfl⟩
      obtain ⟨M2, hM2⟩ : ∃ M2, (op1.act most M1).2 = M2 := ⟨_, rfl⟩
      unfold StepPost at HST
      rw [hop2, hM2] at HST
      rw [hop2] at he
      have t1 : ((op2.how : Int) != 0) = true := by simp; omega
      have t2 : ((op2.how : Int) != 2) = true := by simp; omega
      obtain ⟨hw, hhw⟩ : ∃ hw, op2.how = hw := ⟨_, rfl⟩
      have HHW := hid hhw
      rw [hhw] at t1 t2 HST
      clear he hb hs hSt hLive hhw
      go_wp2_with fail
      refine HST.out.mono ?_
      rintro e w2 ⟨cp2, hcp2, rfl, hS2, hF2⟩
      have HS2 := hid hS2
      have HF2 := hid (fr_om_since HF.out hF2 HCP.out)
      have HC2 := hid (show cp2 = cp ∨ w.heap.size ≤ cp2 from by
        rcases hcp2 with h | h
        · rw [h]; exact HCP.out
        · exact .inr (Nat.le_trans HF.out.size h))
      clear hS2 hF2 hcp2 HST
      go_wp2_with fail
      go_ret
      rw [hop2, hM2]
      exact ⟨by rw [HHW.out]; simp, cp2, _, HC2.out, HS2.out.hI, HS2.out.hM, by rw [stp_len]; exact HSL.out, HF2.out⟩
    | step _ _ m _ _ hs hb he hr =>
      have t0 : decide ((k : Int) < 300) = true := by have := HKM.out; have := HN.out; simp; omega
      have HST := hid (st_step (j := j) hSt hLive hs (by rw [HSL.out]; exact HJ.out) (by omega) (by have := HKM.out; have := HN.out; omega))
      have hk3 : k < 300 := by have := HKM.out; have := HN.out; omega
      have HLV := hid (act_live (M := M1) (most := most) hLive hs.2.1 he)
      have HR := hid hr
      obtain ⟨op2, hop2⟩ : ∃ op2, (op1.act most M1).1 = op2 := ⟨_, rfl⟩
      obtain ⟨M2, hM2⟩ : ∃ M2, (op1.act most M1).2 = M2 := ⟨_, rfl⟩
      unfold StepPost at HST
      rw [hop2, hM2] at HST HR
      rw [hop2] at he HLV
      have HE := hid he
      obtain ⟨hw, hhw⟩ : ∃ hw, op2.how = hw := ⟨_, rfl⟩
      rw [hhw] at he HST
      clear hb hs hSt hLive hhw hr hop2 hM2
      rcases he with rfl | rfl
      all_goals
        go_wp2_with fail
        refine HST.out.mono ?_
        rintro e w2 ⟨cp2, hcp2, rfl, hS2, hF2⟩
        have HS2 := hid hS2
        have HF2 := hid (fr_om_since HF.out hF2 HCP.out)
        have HC2 := hid (show cp2 = cp ∨ w.heap.size ≤ cp2 from by
          rcases hcp2 with h | h
          · rw [h]; exact HCP.out
          · exact .inr (Nat.le_trans HF.out.size h))
        clear hS2 hF2 hcp2 HST
        go_wp2_with fail
        go_roundg (301 - (k + 1))
        case rel =>
          refine ⟨k + 1, m, op2, M2, stp s1 j, cp2, by have := HKM.out; omega, rfl, by go_num, HR.out, HLV.out, ?_, by rw [stp_len]; exact HSL.out, HC2.out, HF2.out⟩
          have := HS2.out
          rw [show (1000 : Int) + ((k + 1 : Nat) : Int) = 1000 + (k : Int) + 1 by omega]
          exact this
        case measure => have := HKM.out; have := HN.out; omega
end Go.Proofs.Ytecpdhfncmlbaaa
