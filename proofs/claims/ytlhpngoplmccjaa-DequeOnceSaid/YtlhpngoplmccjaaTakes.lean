/-
  So many steps of an operation: takes of the laws.
-/
import Derived.Test.YtlhpngoplmccjaaRun
namespace Go.Proofs.Ytlhpngoplmccjaa
open Go.RowKit
set_option linter.unusedVariables false

/-- So many steps, of which only the last one may end it. -/
inductive Tk (most : Int) : DOp → Mach → Nat → DOp → Mach → Prop
  | last (o : DOp) (M : Mach) (hs : o.safe M) : Tk most o M 1 (o.act most M).1 (o.act most M).2
  | step (o : DOp) (M : Mach) (n : Nat) (o' : DOp) (M' : Mach) (hs : o.safe M) (he : (o.act most M).1.how = 0) (hr : Tk most (o.act most M).1 (o.act most M).2 n o' M') : Tk most o M (n + 1) o' M'

theorem Tk.pos {most : Int} {o : DOp} {M : Mach} {n : Nat} {o' : DOp} {M' : Mach} (h : Tk most o M n o' M') : 1 ≤ n := by
  cases h <;> omega

def TkPost (b : MB) (o q cp : Nat) (most : Int) (op' : DOp) (M' : Mach) (sl n : Nat) (w : World) (e : Ending) (w' : World) : Prop :=
  e = .returned (.int .i64 (op'.how : Nat)) ∧ ∃ cp' s', (cp' = cp ∨ w.heap.size ≤ cp') ∧ St w' b o q cp' most op' M' s' (1000 + n) ∧ (op'.how = 0 ∨ op'.how = 2 → op'.Live) ∧ s'.length = sl ∧ Fr (OM b q cp) w w'

def TkRel (b : MB) (o q cp : Nat) (most : Int) (op' : DOp) (M' : Mach) (sl n : Nat) (w : World) (d : Nat) (x : Value) (wr : World) : Prop :=
  ∃ (k m : Nat) (op : DOp) (M : Mach) (s : List Int) (cpi : Nat), k + m = n ∧ d = n + 1 - k ∧ x = .int .i64 k ∧ Tk most op M m op' M' ∧ op.Live ∧ St wr b o q cpi most op M s (1000 + k) ∧ s.length = sl ∧ (cpi = cp ∨ w.heap.size ≤ cpi) ∧ Fr (OM b q cp) w wr

set_option maxRecDepth 100000 in
set_option maxHeartbeats 1000000 in
theorem takes_ok (b : MB) (o q cp : Nat) (most : Int) (op op' : DOp) (M M' : Mach) (s : List Int) (n : Nat) (w : World) (hR : Tk most op M n op' M') (hl : op.Live) (hS : St w b o q cp most op M s 1000) (hj : 1 < s.length) (hn : n ≤ 300) :
    Calls Try.prog 49 #[.pointer (some ⟨b.m, 0, none⟩), .pointer (some ⟨o, 0, none⟩), .int .i64 n] w (TkPost b o q cp most op' M' s.length n w) := by
  obtain ⟨sl, hsl⟩ : ∃ sl, s.length = sl := ⟨_, rfl⟩
  rw [hsl] at hj ⊢
  have hpos := hR.pos
  have HREL := hid (show TkRel b o q cp most op' M' sl n w (n + 1) (.int .i64 0) w from ⟨0, n, op, M, s, cp, by omega, rfl, rfl, hR, hl, by simpa using hS, hsl, .inl rfl, Fr.refl _ _⟩)
  have HJ := hid hj
  have HN := hid hn
  have q1 : (n : Int) - 1 ≤ 9223372036854775807 := by omega
  have q2 : -9223372036854775808 ≤ (n : Int) - 1 := by omega
  clear hR hl hS hj hn hsl
  go_enter Try.func49, Try.ntmps49
  go_wp2_with fail
  go_loopg [7] (n + 1) (fun d x wr => TkRel b o q cp most op' M' sl n w d x wr)
  case atStart => exact HREL.out
  case round =>
    clear HREL
    obtain ⟨k, m, op1, M1, s1, cpi, hkm, rfl, rfl, hRun, hLive, hSt, hsl, hcp, hF⟩ := hrel
    have HF := hid hF
    have HCP := hid hcp
    have HSL := hid hsl
    have HKM := hid hkm
    clear hF hcp hsl hkm
    cases hRun with
    | last _ _ hs =>
      have t0 : decide ((k : Int) < (n : Int) - 1) = false := by have := HKM.out; simp; omega
      have HST := hid (show Calls Try.prog 18 #[.pointer (some ⟨o, 0, none⟩), .pointer (some ⟨b.m, 0, none⟩), .int .i64 1] wr _ from st_step (j := 1) hSt hLive hs (by rw [HSL.out]; exact HJ.out) (by omega) (by have := HKM.out; have := HN.out; omega))
      have HLV := hid (act_live (M := M1) (most := most) hLive hs.2.1)
      obtain ⟨op2, hop2⟩ : ∃ op2, (op1.act most M1).1 = op2 := ⟨_, rfl⟩
      obtain ⟨M2, hM2⟩ : ∃ M2, (op1.act most M1).2 = M2 := ⟨_, rfl⟩
      unfold StepPost at HST
      rw [hop2, hM2] at HST
      rw [hop2] at HLV
      clear hs hSt hLive
      go_wp2_with fail
      refine HST.out.mono ?_
      rintro e w2 ⟨cp2, hcp2, rfl, hS2, hF2⟩
      have HS2 := hid hS2
      have HF2 := hid (fr_om_since HF.out hF2 HCP.out)
      have HC2 := hid (show cp2 = cp ∨ w.heap.size ≤ cp2 from by
        rcases hcp2 with h | h
        · rw [h]; exact HCP.out
        · exact .inr (Nat.le_trans HF.out.size h))
      clear hS2 hF2 hcp2 HST
      go_wp2_with fail
      go_ret
      rw [hop2, hM2]
      refine ⟨rfl, cp2, stp s1 1, HC2.out, ?_, HLV.out, by rw [stp_len]; exact HSL.out, HF2.out⟩
      have := HS2.out
      rw [show (1000 : Int) + (k : Int) + 1 = 1000 + (n : Int) by have := HKM.out; omega] at this
      exact this
    | step _ _ m _ _ hs he hr =>
      have hp2 := hr.pos
      have t0 : decide ((k : Int) < (n : Int) - 1) = true := by have := HKM.out; simp; omega
      have HST := hid (show Calls Try.prog 18 #[.pointer (some ⟨o, 0, none⟩), .pointer (some ⟨b.m, 0, none⟩), .int .i64 1] wr _ from st_step (j := 1) hSt hLive hs (by rw [HSL.out]; exact HJ.out) (by omega) (by have := HKM.out; have := HN.out; omega))
      have hk3 : k < 300 := by have := HKM.out; have := HN.out; omega
      have HLV := hid (act_live (M := M1) (most := most) hLive hs.2.1 (.inl he))
      have HR := hid hr
      obtain ⟨op2, hop2⟩ : ∃ op2, (op1.act most M1).1 = op2 := ⟨_, rfl⟩
      obtain ⟨M2, hM2⟩ : ∃ M2, (op1.act most M1).2 = M2 := ⟨_, rfl⟩
      unfold StepPost at HST
      rw [hop2, hM2] at HST HR
      rw [hop2] at he HLV
      rw [he] at HST
      clear hs hSt hLive hr hop2 hM2 he hp2
      go_wp2_with fail
      refine HST.out.mono ?_
      rintro e w2 ⟨cp2, hcp2, rfl, hS2, hF2⟩
      have HS2 := hid hS2
      have HF2 := hid (fr_om_since HF.out hF2 HCP.out)
      have HC2 := hid (show cp2 = cp ∨ w.heap.size ≤ cp2 from by
        rcases hcp2 with h | h
        · rw [h]; exact HCP.out
        · exact .inr (Nat.le_trans HF.out.size h))
      clear hS2 hF2 hcp2 HST
      go_wp2_with fail
      go_roundg (n + 1 - (k + 1))
      case rel =>
        refine ⟨k + 1, m, op2, M2, stp s1 1, cp2, by have := HKM.out; omega, rfl, by go_num, HR.out, HLV.out, ?_, by rw [stp_len]; exact HSL.out, HC2.out, HF2.out⟩
        have := HS2.out
        rw [show (1000 : Int) + ((k + 1 : Nat) : Int) = 1000 + (k : Int) + 1 by omega]
        exact this
      case measure => have := HKM.out; omega
end Go.Proofs.Ytlhpngoplmccjaa
