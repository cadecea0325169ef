/-
  What is in a deque of the program; whether two lists are one.
-/
import Derived.Test.YtiofdfgcghiibaaDNew
import Derived.Test.YtiofdfgcghiibaaOwn
import Derived.Test.YtiofdfgcghiibaaReads
import Derived.Deep.DeepMust
import Derived.Deep.DeepCutAuto
import Derived.Deep.RegionHeld3
namespace Go.Proofs.Ytiofdfgcghiibaa
open Go.RowKit
set_option linter.unusedVariables false

def intsV (l : List Int) : List Value := l.map (fun k => Value.int .i64 k)

theorem add_none (g i j : Nat) : ({ block := g, off := i } : Addr).add j = ⟨g, i + j, none⟩ := by
  unfold Addr.add
  split
  · subst_vars; rfl
  · rfl

theorem newk (w : World) (e : TypeId) (x : Value) : ∀ j u, ([x] : List Value)[j]? = some u → (w.alloc (.cells #[x] e)).cell? ((⟨w.heap.size, 0, none⟩ : Addr).add j) = some u := fun j u hu => by
  rw [add_none, Nat.zero_add]
  exact (Blk.new w #[x] e).cell (by simpa using hu)

theorem infoint64 : (Try.prog.info? 2).map (fun i => (i.zero, i.size, i.bytes)) = some (some (.int .i64 0), 1, 8) := by kernel_rfl

/-- The first k numbers from the top on. -/
def dqN (M : Mach) (R : Rg) (k : Nat) : List Int := (List.range k).map fun i => rd M (R.place (rd M 0 + (i : Nat)))
def dqL (M : Mach) (R : Rg) : List Int := dqN M R (rd M 1 - rd M 0).toNat
theorem dqN_len (M : Mach) (R : Rg) (k : Nat) : (dqN M R k).length = k := by simp [dqN]
theorem dqN_succ (M : Mach) (R : Rg) (k : Nat) : dqN M R (k + 1) = dqN M R k ++ [rd M (R.place (rd M 0 + (k : Nat)))] := by simp [dqN, List.range_succ]
theorem dqN_at (M : Mach) (R : Rg) (k i : Nat) (h : i < k) : (dqN M R k).getD i 0 = rd M (R.place (rd M 0 + (i : Nat))) := by
  rw [List.getD_eq_getElem?_getD]
  simp [dqN, h]

theorem peek_rd (b : MB) (M : Mach) (s : List Int) (y : Int) (w : World) (h : IsM w b (MO M s)) (h0 : 0 ≤ y) (h1 : y < M.used) :
    Calls Try.prog 28 #[.pointer (some ⟨b.m, 0, none⟩), .int .i64 y] w fun e w' => e = .returned (.int .i64 (rd M y)) ∧ w = w' := by
  have e : (MO M s).peek y = rd M y := by
    unfold Mach.peek
    rw [if_pos ⟨h0, h1⟩]
    rfl
  rw [← e]
  exact peek_any b (MO M s) y w h

def ListPost (L : List Int) (w : World) (e : Ending) (w' : World) : Prop :=
  ∃ (A : Option Addr) (cap : Nat), e = .returned (.slice A L.length cap) ∧ OwnR w' w.heap.size 2 1 A L.length cap (intsV L) ∧ Fr (fun _ => False) w w'

def LsRel (M : Mach) (R : Rg) (w : World) (B gd gr : Nat) (most : Int) (N : Nat) (d : Nat) (x k : Value) (wr : World) : Prop :=
  ∃ (j : Nat) (A : Option Addr) (cap : Nat), j ≤ N ∧ d = N + 1 - j ∧ x = .slice A j cap ∧ k = .int .i64 (rd M 0 + j) ∧ OwnR wr B 2 1 A j cap (intsV (dqN M R j)) ∧ Fr (fun _ => False) w wr ∧ Blk wr gr #[.int .i64 R.a, .int .i64 R.l] ∧ B ≤ wr.heap.size

set_option maxRecDepth 100000 in
set_option maxHeartbeats 1000000 in
theorem dlist_ok (b : MB) (M : Mach) (s : List Int) (R : Rg) (most : Int) (w : World) (hM : IsM w b (MO M s)) (hwd : rd M 2 = R.word) (hR : R.Right) (h3 : 3 ≤ M.used) (hu : R.a + pow R.l ≤ M.used) (hle : rd M 1 - rd M 0 ≤ pow R.l) (hbd : CellB 100000 M) :
    Calls Try.prog 26 #[.agg #[.int .i64 0, .int .i64 most], .pointer (some ⟨b.m, 0, none⟩)] w (ListPost (dqL M R) w) := by
  unfold CellB at hbd
  obtain ⟨i0, hi, hz⟩ := Option.map_eq_some_iff.1 infoint64
  simp only [Prod.mk.injEq] at hz
  obtain ⟨hz0, hz1, hz2⟩ := hz
  have HII := hid hi
  have HZ0 := hid hz0
  have HZ1 := hid hz1
  have HZ2 := hid hz2
  clear hi hz0 hz1 hz2
  obtain ⟨N, hN⟩ : ∃ N, (rd M 1 - rd M 0).toNat = N := ⟨_, rfl⟩
  have HD := hid (fun (u : World) => word_is most u)
  have HT := hid (fun (u : World) => top_is most u)
  have HBo := hid (fun (u : World) => bottom_is most u)
  have HO := hid (fun (u : World) => of_word R hR u)
  have HSZ := hid (fun (u : World) => size_yes R.a R.l u hR)
  have HPL := hid (show ∀ (i : Int) (u : World), Calls Try.prog 65 #[.agg #[.int .i64 R.a, .int .i64 R.l], .int .i64 i] u fun e w' => e = .returned (.int .i64 (R.place i)) ∧ Fr (fun _ => False) u w' from fun (i : Int) (u : World) => place_any R.a R.l i u)
  have HP := hid (fun (y : Int) (u : World) (F : Fr (fun _ => False) w u) (h0 : 0 ≤ y) (h1 : y < M.used) => peek_rd b M s y u (hM.same F) h0 h1)
  have HP0 := hid (fun (u : World) (F : Fr (fun _ => False) w u) => peek_rd b M s 0 u (hM.same F) (by omega) (by omega))
  have HP1 := hid (fun (u : World) (F : Fr (fun _ => False) w u) => peek_rd b M s 1 u (hM.same F) (by omega) (by omega))
  have HP2 := hid (show ∀ (u : World) (F : Fr (fun _ => False) w u), Calls Try.prog 28 #[.pointer (some ⟨b.m, 0, none⟩), .int .i64 2] u fun e w' => e = .returned (.int .i64 R.word) ∧ u = w' from fun (u : World) (F : Fr (fun _ => False) w u) => by
    have := peek_rd b M s 2 u (hM.same F) (by omega) (by omega)
    rw [hwd] at this
    exact this)
  have HPI := hid (fun (i : Int) => place_in hR i)
  have HRA := hid hR.2.2.1
  have HUU := hid hu
  have HNN := hid hN
  have HLE := hid hle
  have e0 : (dqL M R) = dqN M R N := by rw [← hN]; rfl
  rw [e0]
  obtain ⟨wd, hwd2⟩ : ∃ wd, R.word = wd := ⟨_, rfl⟩
  rw [hwd2] at HP2 HO
  obtain ⟨t, ht⟩ : ∃ t, rd M 0 = t := ⟨_, rfl⟩
  obtain ⟨bo, hbo⟩ : ∃ bo, rd M 1 = bo := ⟨_, rfl⟩
  obtain ⟨n, hn⟩ : ∃ n, pow R.l = n := ⟨_, rfl⟩
  rw [hn] at HSZ HPI HUU HLE
  have HREL := hid (show ∀ B gd gr d x k wr, LsRel M R w B gd gr most N d x k wr → ∃ (j : Nat) (A : Option Addr) (cap : Nat), j ≤ N ∧ d = N + 1 - j ∧ x = .slice A j cap ∧ k = .int .i64 (t + j) ∧ OwnR wr B 2 1 A j cap (intsV (dqN M R j)) ∧ Fr (fun _ => False) w wr ∧ Blk wr gr #[.int .i64 R.a, .int .i64 R.l] ∧ B ≤ wr.heap.size from fun B gd gr d x k wr h => by rw [← ht]; exact h)
  have HRELB := hid (show ∀ B gd gr d x k wr, (∃ (j : Nat) (A : Option Addr) (cap : Nat), j ≤ N ∧ d = N + 1 - j ∧ x = .slice A j cap ∧ k = .int .i64 (t + j) ∧ OwnR wr B 2 1 A j cap (intsV (dqN M R j)) ∧ Fr (fun _ => False) w wr ∧ Blk wr gr #[.int .i64 R.a, .int .i64 R.l] ∧ B ≤ wr.heap.size) → LsRel M R w B gd gr most N d x k wr from fun B gd gr d x k wr h => by rw [← ht] at h; exact h)
  rw [ht] at HP0 hbd HNN HLE hle hN
  rw [hbo] at HP1 hbd HNN HLE hle hN
  have hN256 : N ≤ 256 := by have := pow_le R.l hR.2.1; rw [hn] at this hle; omega
  have HTT := hid ht
  clear hM hwd hR h3 hu hle hwd2 ht hbo hn hN e0
  go_enter Try.func26, Try.ntmps26
  go_wp2_with fail
  refine (HD.out _).mono ?_
  rintro e w1 ⟨rfl, hF1⟩
  have HBd := hid ((Blk.new w #[.int .i64 0, .int .i64 most] 34).same hF1)
  have HF1 := hid ((Fr.alloc (fun _ => False) w (.cells #[.int .i64 0, .int .i64 most] 34)).trans hF1)
  clear hF1
  go_wp2_with fail
  refine (HP2.out _ HF1.out).mono ?_
  rintro e w2 ⟨rfl, rfl⟩
  go_wp2_with fail
  refine (HO.out _).mono ?_
  rintro e w3 ⟨rfl, hF3⟩
  have HBd := hid (HBd.out.same hF3)
  have HF3 := hid (HF1.out.trans hF3)
  clear hF3
  have HS := hid (show ∀ u, Fr (fun _ => False) (w3.alloc (.cells #[.int .i64 R.a, .int .i64 R.l] 97)) u → u.cell? ⟨w.heap.size, 0, none⟩ = some (.int .i64 0) ∧ u.cell? ⟨w.heap.size, 1, none⟩ = some (.int .i64 most) from
    fun u F => ⟨((HBd.out.alloc _).same F).cell rfl, ((HBd.out.alloc _).same F).cell rfl⟩)
  have HFd := hid (Fr.refl (fun _ => False) (w3.alloc (.cells #[.int .i64 R.a, .int .i64 R.l] 97)))
  have HFA := hid (HF3.out.trans (Fr.alloc _ w3 (.cells #[.int .i64 R.a, .int .i64 R.l] 97)))
  have HBr := hid (Blk.new w3 #[.int .i64 R.a, .int .i64 R.l] 97)
  go_upto_region 5 with fail
  go_region_held3 (fun u => u.cell? ⟨w.heap.size, 0, none⟩ = some (.int .i64 0) ∧ u.cell? ⟨w.heap.size, 1, none⟩ = some (.int .i64 most))
    (first | exact HS.out _ HFd.out | exact HS.out _ (HFd.out.trans (Fr.drew _ _)))
    (first
      | (go_at_call 62; (with_reducible refine (HT.out _).mono ?_); rintro e w6 ⟨rfl, hF6⟩; have HFd := hid (HFd.out.trans (Fr.trans (by first | exact Fr.refl _ _ | exact Fr.drew _ _) hF6)); clear hF6)
      | (go_at_call 63; (with_reducible refine (HBo.out _).mono ?_); rintro e w6 ⟨rfl, hF6⟩; have HFd := hid (HFd.out.trans (Fr.trans (by first | exact Fr.refl _ _ | exact Fr.drew _ _) hF6)); clear hF6)
      | (go_at_call 28; (with_reducible refine (HP0.out _ (HFA.out.trans (by first | exact HFd.out | exact HFd.out.trans (Fr.drew _ _)))).mono ?_); rintro e w6 ⟨rfl, rfl⟩; have HFd := hid (HFd.out.trans (by first | exact Fr.refl _ _ | exact Fr.drew _ _)))
      | (go_at_call 28; (with_reducible refine (HP1.out _ (HFA.out.trans (by first | exact HFd.out | exact HFd.out.trans (Fr.drew _ _)))).mono ?_); rintro e w6 ⟨rfl, rfl⟩; have HFd := hid (HFd.out.trans (by first | exact Fr.refl _ _ | exact Fr.drew _ _))))
  all_goals
    have HB6 := hid (HBr.out.same HFd.out)
    have HF6 := hid (HFA.out.trans HFd.out)
    have HW3 := hid HF3.out.size
    have HW6 := hid (Nat.le_trans HFA.out.size HFd.out.size)
    go_wp2_with fail
    go_loopg [7, 8] (N + 1) (fun d x k wr => LsRel M R w w6.heap.size w.heap.size w3.heap.size most N d x k wr)
    case atStart => exact HRELB.out _ _ _ _ _ _ _ ⟨0, none, 0, by omega, by omega, rfl, by simp, OwnR.nil _ _ _ _, HF6.out, HB6.out, Nat.le_refl _⟩
    case round =>
      obtain ⟨j, A, cap, hj, hd, rfl, rfl, hO, hF, hBr, hsz⟩ := HREL.out _ _ _ _ _ _ _ hrel
      clear hrel
      have HO2 := hid hO
      have HF := hid hF
      have HDD := hid hd
      have HBr2 := hid hBr
      have HSZ2 := hid hsz
      have HJ := hid hj
      have r0 := hBr.cell (i := 0) rfl
      have r1 := hBr.cell (i := 1) rfl
      clear hO hF hd hBr hsz
      by_cases hlt : j < N
      · have t1 : decide (t + (j : Int) < bo) = true := by have := HNN.out; simp; omega
        have t2 : decide ((j : Int) < n) = true := by have := HNN.out; have := HLE.out; simp; omega
        go_wp2_with fail
        refine (HSZ.out _).mono ?_
        rintro e w7 ⟨rfl, hF7⟩
        have r2 : w7.cell? ⟨w3.heap.size, 0, none⟩ = some (.int .i64 R.a) := (HBr2.out.same hF7).cell rfl
        have r3 : w7.cell? ⟨w3.heap.size, 1, none⟩ = some (.int .i64 R.l) := (HBr2.out.same hF7).cell rfl
        have HF7 := hid hF7
        clear hF7
        go_wp2_with fail
        refine (HPL.out _ _).mono ?_
        rintro e w8 ⟨rfl, hF8⟩
        have HF8 := hid (HF7.out.trans hF8)
        clear hF8
        go_wp2_with fail
        refine (HP.out _ _ (HF.out.trans HF8.out) (by have := (HPI.out (t + (j : Int))).1; have := HRA.out; omega) (by have := (HPI.out (t + (j : Int))).2; have := HUU.out; omega)).mono ?_
        rintro e w9 ⟨rfl, rfl⟩
        have HG := hid (HF.out.trans HF8.out)
        have HO3 := hid ((HO2.out.same HF8.out).same (Fr.alloc (fun _ => False) w8 (.cells #[.int .i64 (rd M (R.place (t + (j : Int))))] 2)))
        have HB3 := hid ((HBr2.out.same HF8.out).same (Fr.alloc (fun _ => False) w8 (.cells #[.int .i64 (rd M (R.place (t + (j : Int))))] 2)))
        have HNW := hid (newk w8 2 (.int .i64 (rd M (R.place (t + (j : Int))))))
        have HS3 := hid (show w6.heap.size ≤ (w8.alloc (.cells #[.int .i64 (rd M (R.place (t + (j : Int))))] 2)).heap.size from by have := HSZ2.out; have := HF8.out.size; simp; omega)
        have HG3 := hid (HG.out.trans (Fr.alloc (fun _ => False) w8 (.cells #[.int .i64 (rd M (R.place (t + (j : Int))))] 2)))
        have HX := hid (show dqN M R (j + 1) = dqN M R j ++ [rd M (R.place (t + (j : Int)))] from by rw [dqN_succ, HTT.out])
        obtain ⟨xv, hxv⟩ : ∃ xv, rd M (R.place (t + (j : Int))) = xv := ⟨_, rfl⟩
        rw [hxv] at HX HO3 HB3 HNW HS3 HG3
        have HXV := hid hxv
        rw [hxv]
        clear hxv
        go_wp2_with (at_builtin; go_must (refine wpList_append_own _ rfl _ _ 30 rfl w6.heap.size 2 i0 (.int .i64 0) 1 8 Try.underlying30 HII.out HZ0.out HZ1.out HZ2.out rfl (by decide) (.slice A j cap) j _ rfl HO3.out ⟨w8.heap.size, 0, none⟩ 1 1 [.int .i64 xv] rfl rfl HNW.out (by simp [Value.oneCell']) (by unfold maxLen; omega) (by omega) HS3.out ?_; intro v2 w10 hown2 hgrow2 hnil2; clear hnil2; obtain ⟨A2, c2, rfl, ho2⟩ := OwnR.form hown2; have HO4 := hid ho2; have HFG := hid (Fr.of_grown hgrow2); clear hown2 hgrow2 ho2))
        go_roundg (N + 1 - (j + 1))
        case rel =>
          have hlo := fun i hi => (OwnR.lt HO3.out i hi).1
          refine HRELB.out _ _ _ _ _ _ _ ⟨j + 1, A2, c2, by omega, rfl, rfl, by go_num, by rw [HX.out]; exact OwnR.eq HO4.out (by simp [intsV]), HG3.out.since HFG.out (fun i hi hlt => by have := hlo i hi; have := HW6.out; omega), HB3.out.keep HFG.out (fun hh => by have := hlo _ hh; have := HFd.out.size; simp at this; omega), Nat.le_trans HS3.out HFG.out.size⟩
        case measure => have := HDD.out; omega
      · obtain rfl : j = N := by omega
        have t1 : decide (t + (j : Int) < bo) = false := by have := HNN.out; simp; omega
        go_wp2_with fail
        go_ret
        refine ⟨A, cap, ?_, ?_, HF.out⟩
        · simp [dqN_len]
        · rw [dqN_len]
          exact OwnR.less HO2.out HW6.out
end Go.Proofs.Ytiofdfgcghiibaa
