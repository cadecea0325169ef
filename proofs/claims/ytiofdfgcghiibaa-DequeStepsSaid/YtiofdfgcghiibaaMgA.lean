/-
  Operations that are done to their end: run and takes of the laws; lists that are the same.
  So many steps of an operation: takes of the laws.
  Steps of operations, evaluated: for the chapter's example.
  The chapter's example comes out true.
  A new deque is an empty list; what a Push, a Pop and a Steal make of a list, within 300 steps.
  Whether two lists are the same: same of the laws.
-/
import Derived.Test.YtiofdfgcghiibaaList
import Derived.Deep.LoopGhost
import Derived.Test.YtiofdfgcghiibaaNew
import Derived.Test.YtiofdfgcghiibaaDqList
import Derived.Test.YtiofdfgcghiibaaOpen
namespace Go.Proofs.Ytiofdfgcghiibaa
open Go.RowKit
set_option linter.unusedVariables false

/-- An operation, and the machine, as they stand. -/
structure St (w : World) (b : MB) (o q cp : Nat) (most : Int) (op : DOp) (M : Mach) (s : List Int) (B : Int) : Prop where
  hI : IsOp w b o q cp most op
  hM : IsM w b (MO M s)
  ob : OpB B op
  cb : CellB B M
  len : 1 < M.all.length

theorem St.same {w w' : World} {b : MB} {o q cp : Nat} {most : Int} {op : DOp} {M : Mach} {s : List Int} {B : Int} (h : St w b o q cp most op M s B) (F : Fr (fun _ => False) w w') : St w' b o q cp most op M s B :=
  ⟨h.hI.same F, h.hM.same F, h.ob, h.cb, h.len⟩

theorem St.begin_ {w : World} {b : MB} {o q cp : Nat} {most : Int} {M : Mach} {s : List Int} {B : Int} {kind : Nat} {x : Int} (hI : IsOp w b o q cp most (beginOp kind x)) (hM : IsM w b (MO M s)) (hc : CellB B M) (h0 : 0 ≤ B) (hl : 1 < M.all.length) : St w b o q cp most (beginOp kind x) M s B :=
  ⟨hI, hM, OpB.begin_ _ _ h0, hc, hl⟩

theorem live_begin (kind : Nat) (x : Int) : (beginOp kind x).Live := by
  unfold DOp.Live beginOp
  simp

def StepPost (b : MB) (o q cp : Nat) (most : Int) (op : DOp) (M : Mach) (s : List Int) (B : Int) (j : Nat) (w : World) (e : Ending) (w' : World) : Prop :=
  ∃ cp', (cp' = cp ∨ w.heap.size ≤ cp') ∧ e = .returned (.int .i64 ((op.act most M).1.how : Nat)) ∧ St w' b o q cp' most (op.act most M).1 (op.act most M).2 (stp s j) (B + 1) ∧ Fr (OM b q cp) w w'

theorem st_step {w : World} {b : MB} {o q cp : Nat} {most : Int} {op : DOp} {M : Mach} {s : List Int} {B : Int} {j : Nat} (h : St w b o q cp most op M s B) (hl : op.Live) (hs : op.safe M) (hj : j < s.length) (h0 : 0 ≤ B) (hB : B ≤ 100000) :
    Calls Try.prog 18 #[.pointer (some ⟨o, 0, none⟩), .pointer (some ⟨b.m, 0, none⟩), .int .i64 j] w (StepPost b o q cp most op M s B j w) := by
  refine (op_step ⟨h.hI, h.hM, hj, hs, h.ob.more hB, hl⟩).mono ?_
  rintro e w' ⟨cp', hcp, he, hI, hM, hF⟩
  have hb := act_bd (most := most) h.len hs h0 h.cb h.ob
  exact ⟨cp', hcp, he, ⟨hI, hM, hb.2, hb.1, by rw [act_len]; exact h.len⟩, hF⟩

def RunPost (b : MB) (o q cp : Nat) (most : Int) (op' : DOp) (M' : Mach) (sl : Nat) (w : World) (e : Ending) (w' : World) : Prop :=
  e = .returned (.int .i64 (op'.how : Nat)) ∧ ∃ cp' s', (cp' = cp ∨ w.heap.size ≤ cp') ∧ IsOp w' b o q cp' most op' ∧ IsM w' b (MO M' s') ∧ s'.length = sl ∧ Fr (OM b q cp) w w'

def RnRel (b : MB) (o q cp : Nat) (most : Int) (op' : DOp) (M' : Mach) (sl n : Nat) (w : World) (d : Nat) (x : Value) (wr : World) : Prop :=
  ∃ (k m : Nat) (op : DOp) (M : Mach) (s : List Int) (cpi : Nat), k + m = n ∧ d = 301 - k ∧ x = .int .i64 k ∧ Run most op M m op' M' ∧ op.Live ∧ St wr b o q cpi most op M s (1000 + k) ∧ s.length = sl ∧ (cpi = cp ∨ w.heap.size ≤ cpi) ∧ Fr (OM b q cp) w wr

theorem fr_om_since {b : MB} {q cp cpi : Nat} {w wr w' : World} (F : Fr (OM b q cp) w wr) (F' : Fr (OM b q cpi) wr w') (hc : cpi = cp ∨ w.heap.size ≤ cpi) : Fr (OM b q cp) w w' := by
  refine F.since F' ?_
  rintro i ((h | h) | h) hlt
  · exact .inl (.inl h)
  · rcases hc with hc | hc
    · exact .inl (.inr (h.trans hc))
    · omega
  · exact .inr h

end Go.Proofs.Ytiofdfgcghiibaa

namespace Go.Proofs.Ytiofdfgcghiibaa
open Go.RowKit
set_option linter.unusedVariables false

/-- So many steps, of which only the last one may end it. -/
inductive Tk (most : Int) : DOp → Mach → Nat → DOp → Mach → Prop
  | last (o : DOp) (M : Mach) (hs : o.safe M) : Tk most o M 1 (o.act most M).1 (o.act most M).2
  | step (o : DOp) (M : Mach) (n : Nat) (o' : DOp) (M' : Mach) (hs : o.safe M) (he : (o.act most M).1.how = 0) (hr : Tk most (o.act most M).1 (o.act most M).2 n o' M') : Tk most o M (n + 1) o' M'

theorem Tk.pos {most : Int} {o : DOp} {M : Mach} {n : Nat} {o' : DOp} {M' : Mach} (h : Tk most o M n o' M') : 1 ≤ n := by
  cases h <;> omega

def TkPost (b : MB) (o q cp : Nat) (most : Int) (op' : DOp) (M' : Mach) (sl n : Nat) (w : World) (e : Ending) (w' : World) : Prop :=
  e = .returned (.int .i64 (op'.how : Nat)) ∧ ∃ cp' s', (cp' = cp ∨ w.heap.size ≤ cp') ∧ St w' b o q cp' most op' M' s' (1000 + n) ∧ (op'.how = 0 ∨ op'.how = 2 → op'.Live) ∧ s'.length = sl ∧ Fr (OM b q cp) w w'

def TkRel (b : MB) (o q cp : Nat) (most : Int) (op' : DOp) (M' : Mach) (sl n : Nat) (w : World) (d : Nat) (x : Value) (wr : World) : Prop :=
  ∃ (k m : Nat) (op : DOp) (M : Mach) (s : List Int) (cpi : Nat), k + m = n ∧ d = n + 1 - k ∧ x = .int .i64 k ∧ Tk most op M m op' M' ∧ op.Live ∧ St wr b o q cpi most op M s (1000 + k) ∧ s.length = sl ∧ (cpi = cp ∨ w.heap.size ≤ cpi) ∧ Fr (OM b q cp) w wr

set_option maxRecDepth 100000 in
set_option maxHeartbeats 1000000 in
theorem takes_ok (b : MB) (o q cp : Nat) (most : Int) (op op' : DOp) (M M' : Mach) (s : List Int) (n : Nat) (w : World) (hR : Tk most op M n op' M') (hl : op.Live) (hS : St w b o q cp most op M s 1000) (hj : 1 < s.length) (hn : n ≤ 300) :
    Calls Try.prog 44 #[.pointer (some ⟨b.m, 0, none⟩), .pointer (some ⟨o, 0, none⟩), .int .i64 n] w (TkPost b o q cp most op' M' s.length n w) := by
  obtain ⟨sl, hsl⟩ : ∃ sl, s.length = sl := ⟨_, rfl⟩
  rw [hsl] at hj ⊢
  have hpos := hR.pos
  have HREL := hid (show TkRel b o q cp most op' M' sl n w (n + 1) (.int .i64 0) w from ⟨0, n, op, M, s, cp, by omega, rfl, rfl, hR, hl, by simpa using hS, hsl, .inl rfl, Fr.refl _ _⟩)
  have HJ := hid hj
  have HN := hid hn
  have q1 : (n : Int) - 1 ≤ 9223372036854775807 := by omega
  have q2 : -9223372036854775808 ≤ (n : Int) - 1 := by omega
  clear hR hl hS hj hn hsl
  go_enter Try.func44, Try.ntmps44
  go_wp2_with fail
  go_loopg [7] (n + 1) (fun d x wr => TkRel b o q cp most op' M' sl n w d x wr)
  case atStart => exact HREL.out
  case round =>
    clear HREL
    obtain ⟨k, m, op1, M1, s1, cpi, hkm, rfl, rfl, hRun, hLive, hSt, hsl, hcp, hF⟩ := hrel
    have HF := hid hF
    have HCP := hid hcp
    have HSL := hid hsl
    have HKM := hid hkm
    clear hF hcp hsl hkm
    cases hRun with
    | last _ _ hs =>
      have t0 : decide ((k : Int) < (n : Int) - 1) = false := by have := HKM.out; simp; omega
      have HST := hid (show Calls Try.prog 18 #[.pointer (some ⟨o, 0, none⟩), .pointer (some ⟨b.m, 0, none⟩), .int .i64 1] wr _ from st_step (j := 1) hSt hLive hs (by rw [HSL.out]; exact HJ.out) (by omega) (by have := HKM.out; have := HN.out; omega))
      have HLV := hid (act_live (M := M1) (most := most) hLive hs.2.1)
      obtain ⟨op2, hop2⟩ : ∃ op2, (op1.act most M1).1 = op2 := ⟨_, rfl⟩
      obtain ⟨M2, hM2⟩ : ∃ M2, (op1.act most M1).2 = M2 := ⟨_, rfl⟩
      unfold StepPost at HST
      rw [hop2, hM2] at HST
      rw [hop2] at HLV
      clear hs hSt hLive
      go_wp2_with fail
      refine HST.out.mono ?_
      rintro e w2 ⟨cp2, hcp2, rfl, hS2, hF2⟩
      have HS2 := hid hS2
      have HF2 := hid (fr_om_since HF.out hF2 HCP.out)
      have HC2 := hid (show cp2 = cp ∨ w.heap.size ≤ cp2 from by
        rcases hcp2 with h | h
        · rw [h]; exact HCP.out
        · exact .inr (Nat.le_trans HF.out.size h))
      clear hS2 hF2 hcp2 HST
      go_wp2_with fail
      go_ret
      rw [hop2, hM2]
      refine ⟨rfl, cp2, stp s1 1, HC2.out, ?_, HLV.out, by rw [stp_len]; exact HSL.out, HF2.out⟩
      have := HS2.out
      rw [show (1000 : Int) + (k : Int) + 1 = 1000 + (n : Int) by have := HKM.out; omega] at this
      exact this
    | step _ _ m _ _ hs he hr =>
      have hp2 := hr.pos
      have t0 : decide ((k : Int) < (n : Int) - 1) = true := by have := HKM.out; simp; omega
      have HST := hid (show Calls Try.prog 18 #[.pointer (some ⟨o, 0, none⟩), .pointer (some ⟨b.m, 0, none⟩), .int .i64 1] wr _ from st_step (j := 1) hSt hLive hs (by rw [HSL.out]; exact HJ.out) (by omega) (by have := HKM.out; have := HN.out; omega))
      have hk3 : k < 300 := by have := HKM.out; have := HN.out; omega
      have HLV := hid (act_live (M := M1) (most := most) hLive hs.2.1 (.inl he))
      have HR := hid hr
      obtain ⟨op2, hop2⟩ : ∃ op2, (op1.act most M1).1 = op2 := ⟨_, rfl⟩
      obtain ⟨M2, hM2⟩ : ∃ M2, (op1.act most M1).2 = M2 := ⟨_, rfl⟩
      unfold StepPost at HST
      rw [hop2, hM2] at HST HR
      rw [hop2] at he HLV
      rw [he] at HST
      clear hs hSt hLive hr hop2 hM2 he hp2
      go_wp2_with fail
      refine HST.out.mono ?_
      rintro e w2 ⟨cp2, hcp2, rfl, hS2, hF2⟩
      have HS2 := hid hS2
      have HF2 := hid (fr_om_since HF.out hF2 HCP.out)
      have HC2 := hid (show cp2 = cp ∨ w.heap.size ≤ cp2 from by
        rcases hcp2 with h | h
        · rw [h]; exact HCP.out
        · exact .inr (Nat.le_trans HF.out.size h))
      clear hS2 hF2 hcp2 HST
      go_wp2_with fail
      go_roundg (n + 1 - (k + 1))
      case rel =>
        refine ⟨k + 1, m, op2, M2, stp s1 1, cp2, by have := HKM.out; omega, rfl, by go_num, HR.out, HLV.out, ?_, by rw [stp_len]; exact HSL.out, HC2.out, HF2.out⟩
        have := HS2.out
        rw [show (1000 : Int) + ((k + 1 : Nat) : Int) = 1000 + (k : Int) + 1 by omega]
        exact this
      case measure => have := HKM.out; omega
end Go.Proofs.Ytiofdfgcghiibaa

namespace Go.Proofs.Ytiofdfgcghiibaa
open Go.RowKit
set_option linter.unusedVariables false

instance (r : Rg) : Decidable r.Right := by unfold Rg.Right; infer_instance

def wordB (x : Int) : Bool := decide ((rgOf x).Right) && decide ((rgOf x).word = x)

theorem wordB_of {x : Int} (h : wordB x = true) : ∃ R : Rg, R.Right ∧ x = R.word := by
  unfold wordB at h
  simp only [Bool.and_eq_true, decide_eq_true_eq] at h
  exact ⟨_, h.1, h.2.symm⟩

def inRB (o : DOp) : Bool := decide (1 ≤ o.nx) && ((o.kind == 0 && decide (o.nx ≤ 8)) || (o.kind == 1 && decide (o.nx ≤ 8)) || (o.kind == 2 && decide (o.nx ≤ 5)))

theorem inRB_of {o : DOp} (h : inRB o = true) : o.InR := by
  unfold inRB at h
  unfold DOp.InR
  simp at h
  omega

def safeB (o : DOp) (M : Mach) : Bool :=
  decide (3 ≤ M.used) && inRB o && match o.kind, o.nx with
  | 0, 3 => wordB (rd M 2)
  | 1, 2 => wordB (rd M 2)
  | 2, 3 => wordB (rd M 2)
  | 0, 4 => decide (o.rg.Right ∧ 1 ≤ pow (o.rg.l + 1) ∧ 0 ≤ o.rg.l + 1 ∧ o.rg.l + 1 ≤ 8 ∧ (M.used : Int) + pow (o.rg.l + 1) ≤ M.all.length ∧ M.used ≤ 600 ∧ o.t < o.b ∧ o.b - o.t = pow o.rg.l)
  | 0, 5 => decide (o.rg.Right ∧ o.to.Right ∧ o.pl < o.b ∧ o.rg.place o.pl < M.used ∧ o.to.place o.pl < M.used ∧ 3 ≤ o.to.place o.pl ∧ o.b - o.t = pow o.rg.l ∧ o.to.l = o.rg.l + 1)
  | 0, 6 => decide o.to.Right
  | 0, 7 => decide (o.rg.Right ∧ o.rg.place o.b < M.used ∧ 3 ≤ o.rg.place o.b)
  | 1, 6 => decide (o.rg.Right ∧ o.rg.place (o.b - 1) < M.used)
  | 2, 4 => decide (o.rg.Right ∧ o.rg.place o.t < M.used)
  | _, _ => true

theorem safeB_of {o : DOp} {M : Mach} (h : safeB o M = true) : o.safe M := by
  unfold safeB at h
  simp only [Bool.and_eq_true, decide_eq_true_eq] at h
  obtain ⟨⟨h1, h2⟩, h3⟩ := h
  refine ⟨h1, inRB_of h2, ?_⟩
  split at h3
  all_goals rename_i hk hn
  all_goals simp only [hk, hn]
  · exact wordB_of h3
  · exact wordB_of h3
  · exact wordB_of h3
  · exact of_decide_eq_true h3
  · exact of_decide_eq_true h3
  · exact of_decide_eq_true h3
  · exact of_decide_eq_true h3
  · exact of_decide_eq_true h3
  · exact of_decide_eq_true h3

def tk (most : Int) : Nat → DOp → Mach → Option (DOp × Mach)
  | 0, _, _ => none
  | 1, o, M => bif safeB o M then some (o.act most M) else none
  | n + 2, o, M => bif safeB o M && (o.act most M).1.how == 0 then tk most (n + 1) (o.act most M).1 (o.act most M).2 else none

theorem tk_of {most : Int} : ∀ (n : Nat) (o : DOp) (M : Mach) (r : DOp × Mach), tk most n o M = some r → Tk most o M n r.1 r.2
  | 0, _, _, _, h => by cases h
  | 1, o, M, r, h => by
    unfold tk at h
    cases hs : safeB o M
    · rw [hs] at h; cases h
    · rw [hs] at h
      injection h with h
      rw [← h]
      exact Tk.last o M (safeB_of hs)
  | n + 2, o, M, r, h => by
    unfold tk at h
    cases hs : safeB o M && (o.act most M).1.how == 0
    · rw [hs] at h; cases h
    · rw [hs] at h
      simp only [Bool.and_eq_true, beq_iff_eq] at hs
      exact Tk.step o M (n + 1) _ _ (safeB_of hs.1) hs.2 (tk_of (n + 1) _ _ r h)

/-! ### The chapter's example -/

def x0 : Mach := newM ⟨List.replicate 16 0, 0, []⟩ 0
def x1 : Option (DOp × Mach) := tk 1 5 (beginOp 0 5) x0
def m1 : Mach := ((tk 1 5 (beginOp 0 5) x0).getD (beginOp 0 0, x0)).2
def m2 : Mach := ((tk 1 9 (beginOp 0 6) m1).getD (beginOp 0 0, x0)).2
def m3 : Mach := ((tk 1 3 (beginOp 0 7) m2).getD (beginOp 0 0, x0)).2
def m4 : Mach := ((tk 1 4 (beginOp 2 0) m3).getD (beginOp 0 0, x0)).2
def o4 : DOp := ((tk 1 4 (beginOp 2 0) m3).getD (beginOp 0 0, x0)).1
def m5 : Mach := (o4.act 1 m4).2
def o5 : DOp := (o4.act 1 m4).1

theorem tk_get {most : Int} {n : Nat} {o : DOp} {M : Mach} {h : Nat} (e : (tk most n o M).map (fun r => r.1.how) = some h) : Tk most o M n ((tk most n o M).getD (beginOp 0 0, x0)).1 ((tk most n o M).getD (beginOp 0 0, x0)).2 ∧ ((tk most n o M).getD (beginOp 0 0, x0)).1.how = h := by
  obtain ⟨r, hr, he⟩ := Option.map_eq_some_iff.1 e
  rw [hr]
  exact ⟨tk_of n o M r hr, he⟩

theorem e1 : (tk 1 5 (beginOp 0 5) x0).map (fun r => r.1.how) = some 1 := by decide +kernel
theorem e2 : (tk 1 9 (beginOp 0 6) m1).map (fun r => r.1.how) = some 1 := by decide +kernel
theorem e3 : (tk 1 3 (beginOp 0 7) m2).map (fun r => r.1.how) = some 4 := by decide +kernel
theorem e4 : (tk 1 4 (beginOp 2 0) m3).map (fun r => r.1.how) = some 2 := by decide +kernel
theorem e5 : safeB o4 m4 = true ∧ (o4.act 1 m4).1.how = 1 ∧ (o4.act 1 m4).1.got = 5 ∧ o4.got = 5 := by decide +kernel
theorem e6 : dqL m5 ⟨4, 1⟩ = [6] ∧ (rd m5 2 = (⟨4, 1⟩ : Rg).word) := by decide +kernel
theorem ec : CellB 1000 x0 ∧ CellB 1000 m1 ∧ CellB 1000 m2 ∧ CellB 1000 m3 := by unfold CellB; decide +kernel
theorem ecl : x0.all.length = 16 ∧ m1.all.length = 16 ∧ m2.all.length = 16 ∧ m3.all.length = 16 := by decide +kernel
def o1' : DOp := ((tk 1 5 (beginOp 0 5) x0).getD (beginOp 0 0, x0)).1
def o2' : DOp := ((tk 1 9 (beginOp 0 6) m1).getD (beginOp 0 0, x0)).1
def o3' : DOp := ((tk 1 3 (beginOp 0 7) m2).getD (beginOp 0 0, x0)).1
theorem t1 : Tk 1 (beginOp 0 5) x0 5 o1' m1 ∧ o1'.how = 1 := tk_get e1
theorem t2 : Tk 1 (beginOp 0 6) m1 9 o2' m2 ∧ o2'.how = 1 := tk_get e2
theorem t3 : Tk 1 (beginOp 0 7) m2 3 o3' m3 ∧ o3'.how = 4 := tk_get e3
theorem t4 : Tk 1 (beginOp 2 0) m3 4 o4 m4 ∧ o4.how = 2 := tk_get e4
end Go.Proofs.Ytiofdfgcghiibaa

namespace Go.Proofs.Ytiofdfgcghiibaa
open Go.RowKit
set_option linter.unusedVariables false

/-- What an operation turns lies in new blocks, but for the machine's own. -/
theorem fr_op_own {S : Nat → Prop} {b : MB} {q cp : Nat} {w wr w' : World} (F : Fr S w wr) (F' : Fr (OM b q cp) wr w') (hb : ∀ k, b.own k → k < w.heap.size → S k) (hq : w.heap.size ≤ q) (hc : w.heap.size ≤ cp) : Fr S w w' := by
  refine F.since F' ?_
  rintro i ((h | h) | h) hlt
  · exact hb i h hlt
  · omega
  · omega

theorem seen5 (op : DOp) (h : op.how = 2) (g : op.got = 5) : op.tell = 5 := by unfold DOp.tell; rw [if_pos (.inl h), g]
theorem done5 (op : DOp) (h : op.how = 1) (g : op.got = 5) : op.tell = 5 := by unfold DOp.tell; rw [if_pos (.inr h), g]

set_option maxRecDepth 100000 in
set_option maxHeartbeats 1000000 in
theorem steals_ok (b : MB) (s : List Int) (w : World) (hM : IsM w b (MO m3 s)) (h1 : 1 < s.length) :
    Calls Try.prog 45 #[.pointer (some ⟨b.m, 0, none⟩), .agg #[.int .i64 0, .int .i64 1]] w fun e w' => e = .returned (.bool true) ∧ Fr b.own w w' := by
  have HM := hid hM
  have HB := hid (fun (u : World) (F : Fr (fun _ => False) w u) => beg_steal (most := 1) 0 (hM.same F))
  have H1 := hid h1
  have HOW := hid hM.own_lt
  clear hM h1
  go_enter Try.func45, Try.ntmps45
  go_wp2_with fail
  refine (HB.out _ (Fr.alloc _ _ _)).mono ?_
  rintro e w1 ⟨o, q, cp, rfl, hI, hF1, ⟨ho, hq, hc⟩, hlt⟩
  have HFA := hid ((Fr.alloc (fun _ => False) w (.cells #[.int .i64 0, .int .i64 1] 34)).trans hF1)
  have HBd := hid ((Blk.new w #[.int .i64 0, .int .i64 1] 34).same hF1)
  have HQC := hid (show w.heap.size < o ∧ w.heap.size < q ∧ w.heap.size < cp from by simp at ho hq hc; omega)
  obtain ⟨tkh, th⟩ := t4
  have HTK := hid (takes_ok b o q cp 1 _ o4 m3 m4 s 4 w1 tkh (live_begin 2 0) (St.begin_ hI (HM.out.same HFA.out) ec.2.2.2 (by omega) (by rw [ecl.2.2.2]; omega)) H1.out (by omega))
  have HTH := hid th
  clear hI hF1 ho hq hc hlt tkh th
  have c0 := HBd.out.cell (i := 0) rfl
  have c1 := HBd.out.cell (i := 1) rfl
  go_wp2_with fail
  refine HTK.out.mono ?_
  rintro e w2 ⟨rfl, cp2, s2, hc2, hS2, hl2, hs2, hF2⟩
  rw [HTH.out]
  have HS2 := hid hS2
  have HSL := hid hs2
  have HL2 := hid (hl2 (.inr HTH.out))
  have HC2 := hid (show w.heap.size < cp2 from by
    have := HQC.out
    rcases hc2 with h | h
    · omega
    · have := HBd.out.lt; omega)
  have HG2 := hid (fr_op_own (S := b.own) (HFA.out.mono fun _ h => h.elim) hF2 (fun k h _ => h) (by have := HQC.out; omega) (by have := HQC.out; omega))
  have HBd2 := hid (HBd.out.keep hF2 (fun hh => by
    have := HQC.out
    rcases hh with (h | h) | h
    · have := HOW.out _ h; omega
    · omega
    · omega))
  have HGT := hid (op_got HS2.out.hI (fun _ h => by rw [HTH.out] at h; cases h))
  rw [seen5 _ HTH.out e5.2.2.2] at HGT
  clear hS2 hl2 hs2 hc2 hF2 HTK c0 c1
  go_wp2_with fail
  refine HGT.out.mono ?_
  rintro e w3 ⟨rfl, hF3⟩
  have HST := hid (show Calls Try.prog 18 #[.pointer (some ⟨o, 0, none⟩), .pointer (some ⟨b.m, 0, none⟩), .int .i64 1] w3 _ from st_step (j := 1) (HS2.out.same hF3) HL2.out (safeB_of e5.1) (by rw [HSL.out]; exact H1.out) (by omega) (by omega))
  have HF3 := hid hF3
  clear hF3
  go_wp2_with fail
  refine HST.out.mono ?_
  rintro e w4 ⟨cp4, hc4, rfl, hS4, hF4⟩
  rw [show (DOp.act 1 o4 m4).1.how = 1 from e5.2.1]
  have HS4 := hid hS4
  have HG4 := hid (fr_op_own (HG2.out.trans (HF3.out.mono fun _ h => h.elim)) hF4 (fun k h _ => h) (by have := HQC.out; omega) (by have := HC2.out; omega))
  have HBd4 := hid ((HBd2.out.same HF3.out).keep hF4 (fun hh => by
    have := HQC.out
    have := HC2.out
    rcases hh with (h | h) | h
    · have := HOW.out _ h; omega
    · omega
    · omega))
  have HGT4 := hid (op_got HS4.out.hI (fun _ h => by rw [e5.2.1] at h; cases h))
  rw [done5 _ e5.2.1 e5.2.2.1] at HGT4
  clear hS4 hc4 hF4 HST
  go_wp2_with fail
  refine HGT4.out.mono ?_
  rintro e w5 ⟨rfl, hF5⟩
  have HBd5 := hid (HBd4.out.same hF5)
  have HLI := hid (dlist_ok b m5 _ ⟨4, 1⟩ 1 w5 (HS4.out.hM.same hF5) e6.2 (by unfold Rg.Right; decide +kernel) (by decide +kernel) (by decide +kernel) (by decide +kernel) (HS4.out.cb.more (by omega)))
  rw [e6.1] at HLI
  have HG5 := hid (HG4.out.trans (hF5.mono fun _ h => h.elim))
  have c0 := HBd5.out.cell (i := 0) rfl
  have c1 := HBd5.out.cell (i := 1) rfl
  clear hF5
  go_wp2_with fail
  refine HLI.out.mono ?_
  rintro e w6 ⟨A, cap, rfl, hO, hF6⟩
  obtain ⟨g, rfl, _, _, _, hcell⟩ := OwnR.cell hO (by simp)
  have l0 : w6.cell? ⟨g, 0, none⟩ = some (.int .i64 6) := hcell 0 _ rfl
  have HG6 := hid (HG5.out.trans (hF6.mono fun _ h => h.elim))
  clear hO hF6 hcell
  go_wp2_with fail
  go_ret
  exact ⟨rfl, HG6.out⟩

set_option maxRecDepth 100000 in
set_option maxHeartbeats 1000000 in
theorem awake_ok (w : World) :
    Calls Try.prog 9 #[] w fun e w' => e = .returned (.bool true) ∧ Fr (fun _ => False) w w' := by
  go_enter Try.func9, Try.ntmps9
  go_wp2_with fail
  refine (new_ok 16 2 _ (by omega) (by omega) (by omega) (by omega)).mono ?_
  rintro e w1 ⟨b, rfl, hM, hF, hown⟩
  have HOWN := hid hown
  have HM := hid (show IsM w1 b (MO ⟨List.replicate 16 0, 0, []⟩ (List.replicate 3 0)) from hM)
  have HF := hid hF
  clear hM hF hown
  go_wp2_with fail
  refine (dnew_ok b _ _ 2 2 0 1 _ HM.out rfl rfl (by simp) (by omega) (by omega) (by omega) (by decide +kernel)).mono ?_
  rintro e w2 ⟨rfl, hM, hF2⟩
  have HM2 := hid (show IsM w2 b (MO x0 (stp (stp (List.replicate 3 0) 2) 2)) from hM)
  obtain ⟨s2, hs2⟩ : ∃ s2, stp (stp (List.replicate 3 0) 2) 2 = s2 := ⟨_, rfl⟩
  have HSL := hid (show s2.length = 3 from by rw [← hs2]; decide +kernel)
  rw [hs2] at HM2
  have HF2 := hid (HF.out.since hF2 (fun i hi hlt => by have := HOWN.out _ hi; omega))
  have HW := hid (Nat.le_trans HF.out.size hF2.size)
  clear hM hF2 hs2
  have HBe := hid (fun (u : World) (x : Int) (M : Mach) (s : List Int) (hu : IsM u b (MO M s)) => beg_push (most := 1) x hu)
  have HU := hid (show (MO x0 s2).used = 4 from by show x0.used = 4; decide +kernel)
  have HUS := hid (used_ok b (MO x0 s2) _ (HM2.out.same (Fr.alloc _ w2 (.cells #[.int .i64 0, .int .i64 1] 34))))
  rw [HU.out] at HUS
  have HBd := hid (Blk.new w2 #[.int .i64 0, .int .i64 1] 34)
  have HFA := hid (HF2.out.trans (Fr.alloc (fun _ => False) w2 (.cells #[.int .i64 0, .int .i64 1] 34)))
  have HOL := hid (show ∀ k, b.own k → k < w2.heap.size from HM2.out.own_lt)
  have HMA := hid (HM2.out.same (Fr.alloc (fun _ => False) w2 (.cells #[.int .i64 0, .int .i64 1] 34)))
  obtain ⟨wa, hwa⟩ : ∃ wa, w2.alloc (.cells #[.int .i64 0, .int .i64 1] 34) = wa := ⟨_, rfl⟩
  have HSZ := hid (show w2.heap.size < wa.heap.size from by rw [← hwa]; simp)
  have HWA := hid hwa
  rw [hwa] at HUS HBd HFA HMA
  have a0 := HBd.out.cell (i := 0) rfl
  have a1 := HBd.out.cell (i := 1) rfl
  go_wp2_with fail
  refine HUS.out.mono ?_
  rintro e w' ⟨rfl, rfl⟩
  clear HUS hwa
  have a0 := HBd.out.cell (i := 0) rfl
  have a1 := HBd.out.cell (i := 1) rfl
  go_wp2_with fail
  refine (HBe.out _ _ _ _ HMA.out).mono ?_
  rintro e v0 ⟨o, q, cp, rfl, hI, hF1, ⟨ho, hq, hc⟩, hlt⟩
  have HMB0 := hid (HMA.out.same hF1)
  have HQC0 := hid (show w2.heap.size < q ∧ w2.heap.size < cp ∧ w.heap.size ≤ w2.heap.size from by have := HSZ.out; have := HW.out; have := HBd.out.lt; omega)
  have HTK0 := hid (takes_ok b o q cp 1 _ o1' x0 m1 s2 5 v0 t1.1 (live_begin 0 5) (St.begin_ hI HMB0.out ec.1 (by omega) (by rw [ecl.1]; omega)) (by rw [HSL.out]; omega) (by omega))
  have HVS0 := hid (show wa.heap.size ≤ v0.heap.size from Nat.le_trans (Nat.le_refl _) hF1.size)
  have HFB0 := hid (HFA.out.trans hF1)
  have HBdB0 := hid (HBd.out.same hF1)
  clear hI hF1 ho hq hc hlt a0 a1
  go_wp2_with fail
  refine HTK0.out.mono ?_
  rintro e u0 ⟨rfl, cpb, t0, hcb, hSb, hlb, hsb, hFb⟩
  rw [show o1'.how = 1 from t1.2]
  have HM_0 := hid hSb.hM
  have HSL0 := hid (show t0.length = 3 from by rw [hsb]; exact HSL.out)
  have HG0 := hid (fr_op_own (S := fun _ => False) HFB0.out hFb (fun k h hlt => by have := HOWN.out _ h; omega) (by have := HQC0.out; omega) (by have := HQC0.out; omega))
  have HBdN0 := hid (HBdB0.out.keep hFb (fun hh => by
    have := HQC0.out
    rcases hh with (h | h) | h
    · have := HOL.out _ h; omega
    · omega
    · omega))
  have HGS0 := hid (show wa.heap.size ≤ u0.heap.size from Nat.le_trans HVS0.out hFb.size)
  clear hcb hSb hlb hsb hFb HTK0
  have a0 := HBdN0.out.cell (i := 0) rfl
  have a1 := HBdN0.out.cell (i := 1) rfl
  go_wp2_with fail
  refine (HBe.out _ _ _ _ HM_0.out).mono ?_
  rintro e v1 ⟨o, q, cp, rfl, hI, hF1, ⟨ho, hq, hc⟩, hlt⟩
  have HMB1 := hid (HM_0.out.same hF1)
  have HQC1 := hid (show w2.heap.size < q ∧ w2.heap.size < cp ∧ w.heap.size ≤ w2.heap.size from by have := HSZ.out; have := HW.out; have := HG0.out.size; have := HGS0.out; omega)
  have HTK1 := hid (takes_ok b o q cp 1 _ o2' m1 m2 t0 9 v1 t2.1 (live_begin 0 6) (St.begin_ hI HMB1.out ec.2.1 (by omega) (by rw [ecl.2.1]; omega)) (by rw [HSL0.out]; omega) (by omega))
  have HVS1 := hid (show wa.heap.size ≤ v1.heap.size from Nat.le_trans (HGS0.out) hF1.size)
  have HFB1 := hid (HG0.out.trans hF1)
  have HBdB1 := hid (HBdN0.out.same hF1)
  clear hI hF1 ho hq hc hlt a0 a1
  go_wp2_with fail
  refine HTK1.out.mono ?_
  rintro e u1 ⟨rfl, cpb, t1, hcb, hSb, hlb, hsb, hFb⟩
  rw [show o2'.how = 1 from t2.2]
  have HM_1 := hid hSb.hM
  have HSL1 := hid (show t1.length = 3 from by rw [hsb]; exact HSL0.out)
  have HG1 := hid (fr_op_own (S := fun _ => False) HFB1.out hFb (fun k h hlt => by have := HOWN.out _ h; omega) (by have := HQC1.out; omega) (by have := HQC1.out; omega))
  have HBdN1 := hid (HBdB1.out.keep hFb (fun hh => by
    have := HQC1.out
    rcases hh with (h | h) | h
    · have := HOL.out _ h; omega
    · omega
    · omega))
  have HGS1 := hid (show wa.heap.size ≤ u1.heap.size from Nat.le_trans HVS1.out hFb.size)
  clear hcb hSb hlb hsb hFb HTK1
  have a0 := HBdN1.out.cell (i := 0) rfl
  have a1 := HBdN1.out.cell (i := 1) rfl
  go_wp2_with fail
  refine (HBe.out _ _ _ _ HM_1.out).mono ?_
  rintro e v2 ⟨o, q, cp, rfl, hI, hF1, ⟨ho, hq, hc⟩, hlt⟩
  have HMB2 := hid (HM_1.out.same hF1)
  have HQC2 := hid (show w2.heap.size < q ∧ w2.heap.size < cp ∧ w.heap.size ≤ w2.heap.size from by have := HSZ.out; have := HW.out; have := HG1.out.size; have := HGS1.out; omega)
  have HTK2 := hid (takes_ok b o q cp 1 _ o3' m2 m3 t1 3 v2 t3.1 (live_begin 0 7) (St.begin_ hI HMB2.out ec.2.2.1 (by omega) (by rw [ecl.2.2.1]; omega)) (by rw [HSL1.out]; omega) (by omega))
  have HVS2 := hid (show wa.heap.size ≤ v2.heap.size from Nat.le_trans (HGS1.out) hF1.size)
  have HFB2 := hid (HG1.out.trans hF1)
  have HBdB2 := hid (HBdN1.out.same hF1)
  clear hI hF1 ho hq hc hlt a0 a1
  go_wp2_with fail
  refine HTK2.out.mono ?_
  rintro e u2 ⟨rfl, cpb, t2, hcb, hSb, hlb, hsb, hFb⟩
  rw [show o3'.how = 4 from t3.2]
  have HM_2 := hid hSb.hM
  have HSL2 := hid (show t2.length = 3 from by rw [hsb]; exact HSL1.out)
  have HG2 := hid (fr_op_own (S := fun _ => False) HFB2.out hFb (fun k h hlt => by have := HOWN.out _ h; omega) (by have := HQC2.out; omega) (by have := HQC2.out; omega))
  have HBdN2 := hid (HBdB2.out.keep hFb (fun hh => by
    have := HQC2.out
    rcases hh with (h | h) | h
    · have := HOL.out _ h; omega
    · omega
    · omega))
  have HGS2 := hid (show wa.heap.size ≤ u2.heap.size from Nat.le_trans HVS2.out hFb.size)
  clear hcb hSb hlb hsb hFb HTK2
  have a0 := HBdN2.out.cell (i := 0) rfl
  have a1 := HBdN2.out.cell (i := 1) rfl
  go_wp2_with fail
  refine (steals_ok b _ _ HM_2.out (by rw [HSL2.out]; omega)).mono ?_
  rintro e w9 ⟨rfl, hF9⟩
  go_wp2_with fail
  go_ret
  exact ⟨rfl, HG2.out.since hF9 (fun i hi hlt => by have := HOWN.out _ hi; omega)⟩
end Go.Proofs.Ytiofdfgcghiibaa

namespace Go.Proofs.Ytiofdfgcghiibaa
open Go.RowKit
set_option linter.unusedVariables false

theorem z600 (st : List Int) (l : Int) (h0 : 0 ≤ l) (h8 : l ≤ 8) : (newM ⟨List.replicate 600 0, 0, st⟩ l).all.length = 600 ∧ (newM ⟨List.replicate 600 0, 0, st⟩ l).used = 3 + (pow l).toNat ∧ rd (newM ⟨List.replicate 600 0, 0, st⟩ l) 0 = 0 ∧ rd (newM ⟨List.replicate 600 0, 0, st⟩ l) 1 = 0 ∧ rd (newM ⟨List.replicate 600 0, 0, st⟩ l) 2 = (⟨3, l⟩ : Rg).word := by
  have hp := pow_pos l
  have e0 : ∀ k : Int, rd (Mach.give ⟨List.replicate 600 0, 0, st⟩ (3 + pow l).toNat) k = 0 := fun k => rep_free 600 k.toNat
  refine ⟨?_, ?_, ?_, ?_, ?_⟩
  · unfold newM
    rw [wr_len]
    exact List.length_replicate
  · show 0 + (3 + pow l).toNat = _
    omega
  · unfold newM
    rw [rd_wr_far _ _ _ _ (by omega) (by omega) (by omega)]
    exact e0 0
  · unfold newM
    rw [rd_wr_far _ _ _ _ (by omega) (by omega) (by omega)]
    exact e0 1
  · unfold newM
    exact rd_wr_same _ _ _ (by omega) (by show (2 : Int) < ((List.replicate 600 (0 : Int)).length : Nat); rw [List.length_replicate]; omega)

theorem new_right (l : Int) (h0 : 0 ≤ l) (h8 : l ≤ 8) : Rg.Right ⟨3, l⟩ := by
  have := pow_le l h8
  exact ⟨h0, h8, by simp, by simp only; omega⟩

theorem new_ds (st : List Int) (l most : Int) (h0 : 0 ≤ l) (hlm : l ≤ most) (h8 : most ≤ 8) (g : Int → Int) : DS most (newM ⟨List.replicate 600 0, 0, st⟩ l) g 1 ⟨3, l⟩ 0 0 ∧ Id (newM ⟨List.replicate 600 0, 0, st⟩ l) ⟨3, l⟩ 0 0 := by
  obtain ⟨a1, a2, a3, a4, a5⟩ := z600 st l h0 (by omega)
  have hp := pow_pos l
  have hp2 := pow_le l (by omega)
  exact ⟨⟨a1, by rw [a2]; omega, new_right l h0 (by omega), by simp, by rw [a2]; simp only; omega, hlm, h8, a5, by rw [a3]; omega, by rw [a3]; omega, by omega, by rw [a3]; simp only; omega, by omega, fun i h1 h2 => by rw [a3] at h1; omega⟩,
    rfl, by rw [a4], by rw [a2]; simp only; omega⟩

theorem new_seq (st : List Int) (l most : Int) (h0 : 0 ≤ l) (hlm : l ≤ most) (h8 : most ≤ 8) : SeqI most (newM ⟨List.replicate 600 0, 0, st⟩ l) ⟨3, l⟩ 1 [] := by
  obtain ⟨d, hI⟩ := new_ds st l most h0 hlm h8 (fun _ => 0)
  exact ⟨_, _, d, hI, by rw [(z600 st l h0 (by omega)).2.2.1]; simp, fun k hk => by simp at hk⟩

section
variable {most : Int} {M : Mach} {R : Rg} {nxt : Int} {L : List Int}

theorem SeqI.cb (h : SeqI most M R nxt L) (hn : nxt ≤ 1000) : CellB 1000 M ∧ 1 < M.all.length := by
  obtain ⟨a1, a2, a3, a4, a5, a6, a7, a8⟩ := h.cells
  obtain ⟨g, hi, d, _⟩ := h.ex
  refine ⟨?_, by rw [d.len]; omega⟩
  unfold CellB
  omega

theorem SeqI.m8 (h : SeqI most M R nxt L) : most ≤ 8 := by
  obtain ⟨g, hi, d, _⟩ := h.ex
  exact d.m8

/-- What List tells. -/
theorem SeqI.list (h : SeqI most M R nxt L) : dqL M R = L := by
  obtain ⟨a1, a2, a3, a4, a5, a6, a7, a8⟩ := h.cells
  have e : (rd M 1 - rd M 0).toNat = L.length := by omega
  unfold dqL
  rw [e]
  apply List.ext_getElem
  · rw [dqN_len]
  · intro i h1 h2
    have := dqN_at M R L.length i h2
    rw [a6 i h2] at this
    rw [List.getD_eq_getElem?_getD, List.getD_eq_getElem?_getD, List.getElem?_eq_getElem h1, List.getElem?_eq_getElem h2] at this
    exact this

theorem SeqI.up (h : SeqI most M R nxt L) {n' : Int} (hn : nxt ≤ n') : SeqI most M R n' L := by
  obtain ⟨g, hi, d, hI, hl, hc⟩ := h.ex
  exact ⟨g, hi, ⟨d.len, d.us, d.rt, d.ra, d.ru, d.rl, d.m8, d.wd, d.t0, d.tl, d.lh, d.hs, by have := d.hn; omega, d.ct⟩, hI, hl, hc⟩

theorem SeqI.push'' (h : SeqI most M R nxt L) (x : Int) : ∃ n o' M' R', Run most (beginOp 0 x) M n o' M' ∧ n ≤ 300 ∧ rd M' 0 = rd M 0 ∧
    (((L.length : Int) = pow most ∧ o'.how = 4 ∧ SeqI most M' R' (nxt + 1) L) ∨ ((L.length : Int) < pow most ∧ o'.how = 1 ∧ SeqI most M' R' (nxt + 1) (L ++ [x]))) := by
  have hr := h.room
  by_cases hf : (L.length : Int) = pow most
  · obtain ⟨o', r1, r2⟩ := h.full x hf
    refine ⟨3, o', M, R, r1, by omega, rfl, .inl ⟨hf, r2, ?_⟩⟩
    obtain ⟨g, hi, d, hI, hl, hc⟩ := h.ex
    exact ⟨g, hi, ⟨d.len, d.us, d.rt, d.ra, d.ru, d.rl, d.m8, d.wd, d.t0, d.tl, d.lh, d.hs, by have := d.hn; omega, d.ct⟩, hI, hl, hc⟩
  · obtain ⟨o', M', R', r1, r2, r3, r4⟩ := h.pushT x (by omega)
    refine ⟨_, o', M', R', r1, ?_, r4, .inr ⟨by omega, r2, r3⟩⟩
    unfold pushN
    obtain ⟨g, hi, d, _⟩ := h.ex
    have hp := pow_le most d.m8
    have h1 := d.rt.1
    split
    · rename_i hh
      have : R.l < most := by
        by_cases he : R.l = most
        · rw [he] at hr hh
          omega
        · have := d.rl
          omega
      have ps := pow_succ R.l h1
      have pm := pow_mono (a := R.l + 1) (b := most) (by omega) (by omega)
      omega
    · omega
theorem SeqI.push' (h : SeqI most M R nxt L) (x : Int) : ∃ n o' M' R', Run most (beginOp 0 x) M n o' M' ∧ n ≤ 300 ∧
    (((L.length : Int) = pow most ∧ o'.how = 4 ∧ SeqI most M' R' (nxt + 1) L) ∨ ((L.length : Int) < pow most ∧ o'.how = 1 ∧ SeqI most M' R' (nxt + 1) (L ++ [x]))) := by
  obtain ⟨n, o', M', R', a, b, _, c⟩ := h.push'' x
  exact ⟨n, o', M', R', a, b, c⟩

end
end Go.Proofs.Ytiofdfgcghiibaa

namespace Go.Proofs.Ytiofdfgcghiibaa
open Go.RowKit
set_option linter.unusedVariables false

theorem Row.at_one {w : World} {a : Option Addr} {len i : Nat} {f : Nat → Nat → Int} (h : Row w a len 1 f) (hi : i < len) :
    ∃ b off, a = some ⟨b, off, none⟩ ∧ (∀ v, Fr (fun _ => False) w v → v.cell? ⟨b, off + i, none⟩ = some (.int .i64 (f i 0))) := by
  obtain ⟨b, off, ha, hb, hc⟩ := h (by omega)
  refine ⟨b, off, ha, fun v hf => ?_⟩
  have := (hc i 0 hi (by omega)).1
  rw [show off + (i * 1 + 0) = off + i by omega] at this
  rw [← this]
  exact World.cell?_of_block (w := w) (hf.block b hb id)

/-- A row of numbers that is read. -/
def IntR (w : World) (A : Option Addr) (L : List Int) : Prop :=
  0 < L.length → ∃ g off, A = some ⟨g, off, none⟩ ∧ g < w.heap.size ∧ ∀ k, k < L.length → w.cell? ⟨g, off + k, none⟩ = some (.int .i64 (L.getD k 0))

theorem IntR.same {w w' : World} {A : Option Addr} {L : List Int} (h : IntR w A L) (F : Fr (fun _ => False) w w') : IntR w' A L := by
  intro h0
  obtain ⟨g, off, hA, hg, hc⟩ := h h0
  exact ⟨g, off, hA, Nat.lt_of_lt_of_le hg F.size, fun k hk => (World.cell?_of_block (w := w) (F.block g hg id)).trans (hc k hk)⟩

theorem OwnR.intR {w : World} {B : Nat} {e : TypeId} {A : Option Addr} {n cap : Nat} {L : List Int} (h : OwnR w B e 1 A n cap (intsV L)) (hn : n = L.length) : IntR w A L := by
  intro h0
  obtain ⟨g, hA, hB, hg, _, hc⟩ := h.cell (by omega)
  refine ⟨g, 0, hA, hg, fun k hk => ?_⟩
  rw [Nat.zero_add]
  refine hc k _ ?_
  simp [intsV, hk]

def SmRel (L : List Int) (L' : List Int) (w : World) (d : Nat) (x : Value) (wr : World) : Prop :=
  ∃ k : Nat, k ≤ L.length ∧ d = L.length + 1 - k ∧ x = .int .i64 k ∧ (∀ i, i < k → L.getD i 0 = L'.getD i 0) ∧ Fr (fun _ => False) w wr

set_option maxRecDepth 100000 in
set_option maxHeartbeats 1000000 in
theorem same_no (A A' : Option Addr) (L L' : List Int) (c c' : Nat) (w : World) (h : L.length ≠ L'.length) (hl : L.length ≤ 1000) (hl' : L'.length ≤ 1000) :
    Calls Try.prog 25 #[.slice A L.length c, .slice A' L'.length c'] w fun e w' => e = .returned (.bool false) ∧ Fr (fun _ => False) w w' := by
  obtain ⟨n, hn⟩ : ∃ n, L.length = n := ⟨_, rfl⟩
  obtain ⟨m, hm⟩ : ∃ n, L'.length = n := ⟨_, rfl⟩
  rw [hn] at h hl ⊢
  rw [hm] at h hl' ⊢
  clear hn hm
  have t1 : ((n : Int) != m) = true := by simp; omega
  go_enter Try.func25, Try.ntmps25
  go_wp2_with fail
  go_ret
  exact ⟨rfl, Fr.refl _ _⟩

set_option maxRecDepth 100000 in
set_option maxHeartbeats 1000000 in
theorem same_yes (A A' : Option Addr) (L : List Int) (n c c' : Nat) (w : World) (hA : IntR w A L) (hA' : IntR w A' L) (hn : L.length = n) (hl : n ≤ 1000) :
    Calls Try.prog 25 #[.slice A n c, .slice A' n c'] w fun e w' => e = .returned (.bool true) ∧ Fr (fun _ => False) w w' := by
  have HA := hid hA
  have HA' := hid hA'
  have HN := hid hn
  have HREL := hid (show SmRel L L w (n + 1) (.int .i64 0) w from ⟨0, by omega, by omega, rfl, fun _ _ => rfl, Fr.refl _ _⟩)
  clear hA hA' hn
  go_enter Try.func25, Try.ntmps25
  go_wp2_with fail
  go_loopg [5] (n + 1) (fun d x wr => SmRel L L w d x wr)
  case atStart => exact HREL.out
  case round =>
    clear HREL
    obtain ⟨k, hk, rfl, rfl, _, hF⟩ := hrel
    have HF := hid hF
    have HK := hid hk
    clear hF hk
    by_cases hlt : k < n
    · obtain ⟨g, off, rfl, hg, hc⟩ := (HA.out.same HF.out) (by have := HN.out; omega)
      obtain ⟨g', off', rfl, hg', hc'⟩ := (HA'.out.same HF.out) (by have := HN.out; omega)
      have c1 := hc k (by have := HN.out; omega)
      have c2 := hc' k (by have := HN.out; omega)
      have hlt2 : (k : Int) < n := by omega
      have t1 : (L.getD k 0 != L.getD k 0) = false := by simp
      obtain ⟨z, hz⟩ : ∃ z, L.getD k 0 = z := ⟨_, rfl⟩
      rw [hz] at c1 c2 t1
      clear hc hc' hz hg hg'
      go_wp2_with fail
      go_quiet (fail)
      go_wp2_with fail
      go_roundg (L.length + 1 - (k + 1))
      case rel => exact ⟨k + 1, by have := HN.out; omega, rfl, by go_num, fun _ _ => rfl, HF.out.trans (Fr.drewN _ _ _)⟩
      case measure => have := HN.out; omega
    · obtain rfl : k = n := by have := HK.out; have := HN.out; omega
      go_wp2_with fail
      go_ret
      exact ⟨rfl, HF.out⟩
end Go.Proofs.Ytiofdfgcghiibaa
