/-
  strings.Lines: what its iterator hands to a loop's rounds.
-/
import Derived.Test.YtnlbellbeepkaaaGreatDoorPut
import Derived.RangeFuncNested
import Derived.RangeFuncBound
import Derived.RangeFuncCalls
import Derived.RangeFuncLeaves
import Derived.Shelf.Abstract
import Derived.Shelf.RegionOpen
import Derived.OwnWalkIn
import Derived.TacticsInMore
import Derived.LoopNIn
import Derived.LoopIn
namespace Go.Proofs.YtnlbellbeepkaaaGreatDoor
open Go.RowKit Go.Shelf
attribute [local go_sem] Oper.semAt_some

theorem ixb_none (c : UInt8) (l : Bs) (h : c ∉ l) : Lib.indexByte l c = -1 := by
  induction l with
  | nil => rfl
  | cons x r ih =>
    have hx : (x == c) = false := by
      rw [beq_eq_false_iff_ne]
      exact fun e => h (by simp [e])
    rw [Lib.indexByte, hx, ih (fun hm => h (by simp [hm]))]
    rfl
theorem ixb_app (c : UInt8) (h r : Bs) (hh : c ∉ h) : Lib.indexByte (h ++ c :: r) c = (h.length : Int) := by
  induction h with
  | nil => rw [List.nil_append, Lib.indexByte]; simp
  | cons x t ih =>
    have hx : (x == c) = false := by
      rw [beq_eq_false_iff_ne]
      exact fun e => hh (by simp [e])
    rw [List.cons_append, Lib.indexByte, hx, ih (fun hm => hh (by simp [hm]))]
    have : ((t.length : Int) == -1) = false := by
      rw [beq_eq_false_iff_ne]
      omega
    simp [this]

theorem ix_ok (l : Bs) (x : Int) (hx : Lib.indexByte l 10 = x) (w : World) : Calls Tryz.prog 25 #[.string (bs l), .int .u8 10] w fun e w' => e = .returned (.int .i64 x) ∧ w = w' :=
  (Tryz.strings_IndexByte (bs l) 10 w).mono fun _ _ ⟨he, hw⟩ => ⟨by rw [he, bs_data, ← hx]; rfl, hw.symm⟩

def leftS (sb : Nat) (W : World) : Nat := match W.cell? ⟨sb, 0, none⟩ with
  | some (.string s) => s.size
  | _ => 0

theorem leftS_of {W : World} {sb : Nat} {l : Bs} (h : Blk W sb #[.string (bs l)]) : leftS sb W = l.length := by
  unfold leftS
  rw [h.cell (i := 0) rfl]
  rfl

def LsRel (s : Bs) (sb : Nat) (J : List Bs → World → Prop) (W : World) : Prop := ∃ pre rest, lns s = pre ++ lns rest ∧ rest.length ≤ s.length ∧ J pre W ∧ Blk W sb #[.string (bs rest)]

def LsPost (s : Bs) (J Jx : List Bs → World → Prop) (e : Ending) (W' : World) : Prop := (∃ v, e = .returned v) ∧ (J (lns s) W' ∨ ∃ pre x post, lns s = pre ++ x :: post ∧ Jx (pre ++ [x]) W')

def YdPost (sb : Nat) (J Jx : List Bs → World → Prop) (pre : List Bs) (x rest : Bs) (e : Ending) (W' : World) : Prop :=
  (e = .returned (.bool true) ∧ J (pre ++ [x]) W' ∧ Blk W' sb #[.string (bs rest)]) ∨ (e = .returned (.bool false) ∧ Jx (pre ++ [x]) W')

set_option maxRecDepth 100000 in
set_option maxHeartbeats 4000000 in
theorem lines_in (n l sb : Nat) (hn : 3 ≤ n) (s : Bs) (hs : s.length ≤ 1000000) (J Jx : List Bs → World → Prop) (w : World)
    (hJs : ∀ pre W v, J pre W → J pre (W.setCell ⟨sb, 0, none⟩ v)) (hJd : ∀ pre W, J pre W → J pre W.drew)
    (hY : ∀ pre x rest W1, lns s = pre ++ x :: lns rest → J pre W1 → Blk W1 sb #[.string (bs rest)] → YieldAt Fence.wide (n - 1) Tryz.prog l #[.string (bs x)] W1 (YdPost sb J Jx pre x rest))
    (h0 : J [] w) (hb : Blk w sb #[.string (bs s)]) :
    CallsIn Fence.wide n Tryz.prog 24 #[.func (.yield l) #[] #[], .pointer (some ⟨sb, 0, none⟩)] w (LsPost s J Jx) := by
  have HY := hid hY
  have HJS := hid hJs
  have HJD := hid hJd
  clear hY hJs hJd
  refine callsIn_of_wp Tryz.func24 rfl trivial ?_ rfl
  simp only [Tryz.ntmps24, List.size_toArray, List.length_cons, List.length_nil, Nat.reduceAdd, Nat.reduceSub, Array.replicate_succ, Array.replicate_zero, List.push_toArray, List.append_toArray, List.nil_append, List.cons_append]
  gi_wp2
  gi_loopw [3] (fun _ wr => LsRel s sb J wr) (fun _ wr => leftS sb wr)
  case atStart => exact ⟨[], s, rfl, Nat.le_refl _, h0, hb⟩
  case round =>
    obtain ⟨pre, rest, hpr, hrl, hJ, hB⟩ := hrel
    have c0 : wr.cell? ⟨sb, 0, none⟩ = some (.string (bs rest)) := hB.cell rfl
    have z0 := hB.frozen 0
    have ql := hB.lt
    have HB := hid hB
    have HJ := hid hJ
    rcases lns_cases rest with ⟨rfl, hl⟩ | ⟨hne, hno, hl⟩ | ⟨h, r, hno, rfl, hl⟩
    · have HP := hid hpr
      clear hpr hJ hB hl
      have e0 : ¬ 0 < (bs []).size := by decide
      gi_wp2
      go_end0
      exact ⟨⟨_, rfl⟩, .inl (by rw [HP.out]; simpa [lns] using HJ.out)⟩
    · have HIX := hid (ix_ok rest (-1) (ixb_none 10 rest hno) wr)
      have e0 : 0 < (bs rest).size := by rw [bs_size]; exact List.length_pos_iff.2 hne
      have HPR := hid (show lns s = pre ++ rest :: lns [] by rw [hpr, hl]; rfl)
      have hb2 : Blk (wr.setCell ⟨sb, 0, none⟩ (.string ⟨#[]⟩)) sb #[.string (bs [])] := hB.set 0 (.string ⟨#[]⟩)
      have HB2 := hid hb2
      have HY2 := hid (HY.out pre rest [] _ HPR.out (HJS.out _ _ (.string ⟨#[]⟩) hJ) hb2)
      clear hpr hJ hB hl hne hno
      gi_wp2
      refine ⟨trivial, fun _ => (by omega), (callsIn_wide.2 HIX.out).mono ?_⟩
      rintro e w1 ⟨rfl, rfl⟩
      obtain ⟨fn, tmps, assign, body, hy, hR⟩ := HY2.out
      gi_wp2
      refine ⟨fun _ => (by omega), hR.mono ?_⟩
      rintro e W' (⟨rfl, hJ2, hB2⟩ | ⟨rfl, hJx⟩)
      · have HJ2 := hid hJ2
        have HB3 := hid hB2
        clear hJ2 hB2
        gi_wp2
        go_roundw
        case rel => exact ⟨pre ++ [rest], [], by rw [HPR.out]; simp, by simp, HJ2.out, HB3.out⟩
        case measure =>
          rw [leftS_of HB3.out, leftS_of HB.out]
          rw [bs_size] at e0
          exact e0
      · have HX := hid hJx
        clear hJx
        gi_wp2
        refine bodyPost_ret (results_none rfl _ _ _) rfl ?_
        exact ⟨⟨_, rfl⟩, .inr ⟨pre, rest, _, HPR.out, HX.out⟩⟩
    · have hsz : (bs (h ++ 10 :: r)).size = h.length + 1 + r.length := by rw [bs_size]; simp; omega
      have HPR := hid (show lns s = pre ++ (h ++ [10]) :: lns r by rw [hpr, hl])
      have HIX := hid (ix_ok (h ++ 10 :: r) h.length (ixb_app 10 h r hno) wr)
      have HRL := hid hrl
      have hx1 : (bs (h ++ 10 :: r)).extract 0 (h.length + 1) = bs (h ++ [10]) := by
        unfold bs
        apply ByteArray.ext
        simp [List.take_append, List.take_of_length_le]
      have hx2 : (bs (h ++ 10 :: r)).extract (h.length + 1) (bs (h ++ 10 :: r)).size = bs r := by
        rw [bs_size]
        unfold bs
        apply ByteArray.ext
        simp
        rw [List.take_of_length_le (by omega)]
      obtain ⟨S, hS⟩ : ∃ S, bs (h ++ 10 :: r) = S := ⟨_, rfl⟩
      rw [hS] at hsz hx1 hx2 HIX c0
      have e0 : 0 < S.size := by omega
      have e1 : h.length + 1 ≤ S.size := by omega
      have e2 : S.size ≤ 1000000 := by rw [← hS, bs_size]; omega
      have hb2 : Blk (wr.setCell ⟨sb, 0, none⟩ (.string (S.extract (h.length + 1) S.size))).drew sb #[.string (bs r)] := by
        rw [hx2]
        exact (hB.set 0 (.string (bs r))).drew
      have HY2 := hid (HY.out pre (h ++ [10]) r _ HPR.out (HJD.out _ _ (HJS.out _ _ (.string (S.extract (h.length + 1) S.size)) hJ)) hb2)
      rw [← hx1] at HY2
      have z1 : wrap64 ((h.length : Int) + 1) = (h.length : Int) + 1 := by unfold wrap64; omega
      have z2 : (0 : Int) ≤ (h.length : Int) + 1 := by omega
      have z3 : (h.length : Int) + 1 ≤ (S.size : Int) := by omega
      have z4 : ((h.length : Int) + 1).toNat = h.length + 1 := by omega
      have HSZ := hid hsz
      clear hpr hJ hB hl hx1 hx2 hS hsz hrl hb2
      gi_wp2
      refine ⟨trivial, fun _ => (by omega), (callsIn_wide.2 HIX.out).mono ?_⟩
      rintro e w1 ⟨rfl, rfl⟩
      obtain ⟨fn, tmps, assign, body, hy, hR⟩ := HY2.out
      gi_wp2
      gi_region
      all_goals
        gi_wp2
        refine ⟨fun _ => (by omega), hR.mono ?_⟩
        rintro e W' (⟨rfl, hJ2, hB2⟩ | ⟨rfl, hJx⟩)
        · have HJ2 := hid hJ2
          have HB3 := hid hB2
          clear hJ2 hB2
          gi_wp2
          go_roundw
          case rel => exact ⟨pre ++ [h ++ [10]], r, by rw [HPR.out]; simp, by have := HRL.out; simp at this; omega, HJ2.out, HB3.out⟩
          case measure =>
            rw [leftS_of HB3.out, leftS_of HB.out]
            simp
            omega
        · have HX := hid hJx
          clear hJx
          gi_wp2
          refine bodyPost_ret (results_none rfl _ _ _) rfl ?_
          exact ⟨⟨_, rfl⟩, .inr ⟨pre, h ++ [10], _, HPR.out, HX.out⟩⟩

end Go.Proofs.YtnlbellbeepkaaaGreatDoor
