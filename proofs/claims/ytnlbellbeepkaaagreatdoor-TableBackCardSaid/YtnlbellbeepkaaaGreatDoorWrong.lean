/-
  Stage 7: what is wrong with a row: the program's answer.
-/
import Derived.Test.YtnlbellbeepkaaaGreatDoorCloses
namespace Go.Proofs.YtnlbellbeepkaaaGreatDoor
open Go.RowKit
set_option linter.unusedVariables false

/-- The row's questions, one by one. -/
def ask (a : List Tw) (r : Tw) : Nat → Bool
  | 0 => parB a r.par
  | 1 => rngB a r
  | 2 => binB r
  | 3 => valB r
  | 4 => begB r
  | _ => kinB a r
def askE : Nat → Int
  | 0 => 11
  | 1 => 10
  | 2 => 11
  | _ => 19

theorem right_ask {a : List Tw} {r : Tw} {j : Nat} (hj : j < 6) (h : ∀ i, i < j → ask a r i = true) (hx : ask a r j = false) : rightE a r = askE j := by
  match j, hj with
  | 0, _ =>
    have hx : parB a r.par = false := hx
    unfold rightE
    simp [hx]
    try rfl
  | 1, _ =>
    have h0 : parB a r.par = true := h 0 (by omega)
    have hx : rngB a r = false := hx
    unfold rightE
    simp [h0, hx]
    try rfl
  | 2, _ =>
    have h0 : parB a r.par = true := h 0 (by omega)
    have h1 : rngB a r = true := h 1 (by omega)
    have hx : binB r = false := hx
    unfold rightE
    simp [h0, h1, hx]
    try rfl
  | 3, _ =>
    have h0 : parB a r.par = true := h 0 (by omega)
    have h1 : rngB a r = true := h 1 (by omega)
    have h2 : binB r = true := h 2 (by omega)
    have hx : valB r = false := hx
    unfold rightE
    simp [h0, h1, h2, hx]
    try rfl
  | 4, _ =>
    have h0 : parB a r.par = true := h 0 (by omega)
    have h1 : rngB a r = true := h 1 (by omega)
    have h2 : binB r = true := h 2 (by omega)
    have h3 : valB r = true := h 3 (by omega)
    have hx : begB r = false := hx
    unfold rightE
    simp [h0, h1, h2, h3, hx]
    try rfl
  | 5, _ =>
    have h0 : parB a r.par = true := h 0 (by omega)
    have h1 : rngB a r = true := h 1 (by omega)
    have h2 : binB r = true := h 2 (by omega)
    have h3 : valB r = true := h 3 (by omega)
    have h4 : begB r = true := h 4 (by omega)
    have hx : kinB a r = false := hx
    unfold rightE
    simp [h0, h1, h2, h3, h4, hx]
    try rfl

theorem right_all {a : List Tw} {r : Tw} (h : ∀ i, i < 6 → ask a r i = true) : rightE a r = 0 :=
  rightE_zero.2 ⟨h 0 (by omega), h 1 (by omega), h 2 (by omega), h 3 (by omega), h 4 (by omega), h 5 (by omega)⟩

/-- The first so many questions are answered well. -/
def AskJ (a : List Tw) (r : Tw) (w0 : World) (g : Nat) (j : Nat) (W : World) : Prop := j ≤ 6 ∧ (∀ i, i < j → ask a r i = true) ∧ Fr (fun _ => False) w0 W ∧ g < w0.heap.size

def qFns : List Nat := [28, 29, 30, 31, 32, 33]

def WgPost (a : List Tw) (r : Tw) (w : World) (e : Ending) (w' : World) : Prop := e = .returned (.int .i64 (rightE a r)) ∧ Fr (fun _ => False) w w'

theorem askE_pos (j : Nat) : askE j ≠ 0 := by
  unfold askE
  split <;> decide

theorem ask_step {a : List Tw} {r : Tw} {w0 : World} {g j : Nat} {W : World} (hJ : AskJ a r w0 g j W) (hj : j < 6) {e : Ending} {w' : World} (he : e = .returned (.int .i64 (tol (!ask a r j) (askE j)))) (hF : Fr (fun _ => False) W w') :
    FsOne (AskJ a r w0 g) (fun x W => x = rightE a r ∧ Fr (fun _ => False) w0 W) j e w' := by
  obtain ⟨h0, h1, h2, h3⟩ := hJ
  refine ⟨_, he, fun hx => ⟨by omega, fun i hi => ?_, h2.trans hF, h3⟩, fun hx => ⟨?_, h2.trans hF⟩⟩
  · rcases Nat.lt_or_ge i j with h | h
    · exact h1 i h
    · obtain rfl : i = j := by omega
      cases hh : ask a r i
      · rw [hh] at hx
        exact absurd hx (askE_pos i)
      · rfl
  · cases hh : ask a r j
    · exact (right_ask hj h1 hh).symm
    · rw [hh] at hx
      exact absurd rfl hx

set_option maxRecDepth 100000 in
set_option maxHeartbeats 2000000 in
theorem wrong_any (A : Option Addr) (n c : Nat) (a : List Tw) (r : Tw) (w : World) (hA : RdT w A a) (hl : a.length = n) (hn : n ≤ 4000000) (ht : Tabl a) (hcl : r.cl.size ≤ 4000000) :
    Calls Tryz.prog 17 #[.slice A n c, .agg (rowC r)] w (WgPost a r w) := by
  have HFS := hid (fun (g : Nat) (W : World) (hB : Blk W g #[.func (.func 28) #[.agg (sitC A n c r)] #[], .func (.func 29) #[.agg (sitC A n c r)] #[], .func (.func 30) #[.agg (sitC A n c r)] #[], .func (.func 31) #[.agg (sitC A n c r)] #[], .func (.func 32) #[.agg (sitC A n c r)] #[], .func (.func 33) #[.agg (sitC A n c r)] #[]]) (hW : Fr (fun _ => False) w W) =>
    first_any g 6 qFns (.agg (sitC A n c r)) W (AskJ a r W g) (fun x W' => x = rightE a r ∧ Fr (fun _ => False) W W') rfl (by omega)
      (fun j f W' hf hJ => by
        obtain ⟨h0, h1, h2, h3⟩ := hJ
        have hB' := hB.keep h2 (fun h => h)
        refine ⟨hB'.cell ?_, hB'.lt⟩
        match j, hf with
        | 0, hf => simp [qFns] at hf; subst hf; rfl
        | 1, hf => simp [qFns] at hf; subst hf; rfl
        | 2, hf => simp [qFns] at hf; subst hf; rfl
        | 3, hf => simp [qFns] at hf; subst hf; rfl
        | 4, hf => simp [qFns] at hf; subst hf; rfl
        | 5, hf => simp [qFns] at hf; subst hf; rfl
        | j + 6, hf => simp [qFns] at hf)
      (fun j f W' hf hJ => by
        have hA' := (hA.same hW).same hJ.2.2.1
        match j, hf, hJ with
        | 0, hf, hJ => simp [qFns] at hf; subst hf; exact (parent_any A n c a r W' hA' hl hn ht).mono fun e w' ⟨he, hF⟩ => ask_step hJ (by omega) he hF
        | 1, hf, hJ => simp [qFns] at hf; subst hf; exact (ranges_any A n c a r W' hl hn).mono fun e w' ⟨he, hF⟩ => ask_step hJ (by omega) he hF
        | 2, hf, hJ => simp [qFns] at hf; subst hf; exact (closes_any A n c r W' hcl).mono fun e w' ⟨he, hF⟩ => ask_step hJ (by omega) he hF
        | 3, hf, hJ => simp [qFns] at hf; subst hf; exact (value_any A n c r W').mono fun e w' ⟨he, hF⟩ => ask_step hJ (by omega) he hF
        | 4, hf, hJ => simp [qFns] at hf; subst hf; exact (begun_any A n c r W').mono fun e w' ⟨he, hF⟩ => ask_step hJ (by omega) he hF
        | 5, hf, hJ =>
          simp [qFns] at hf; subst hf
          exact (kin_any A n c a r W' hA' hl hn (fun h0 => by
            have := parB_pos ht (by rintro rfl; simp at hl; omega) (hJ.2.1 0 (by omega))
            rw [hl] at this
            exact this)).mono fun e w' ⟨he, hF⟩ => ask_step hJ (by omega) he hF
        | j + 6, hf, hJ => simp [qFns] at hf)
      (fun j f W' hf => by
        match j, hf with
        | 0, hf => simp [qFns] at hf; subst hf; exact enters_of Tryz.func28 (by kernel_rfl) rfl _ _
        | 1, hf => simp [qFns] at hf; subst hf; exact enters_of Tryz.func29 (by kernel_rfl) rfl _ _
        | 2, hf => simp [qFns] at hf; subst hf; exact enters_of Tryz.func30 (by kernel_rfl) rfl _ _
        | 3, hf => simp [qFns] at hf; subst hf; exact enters_of Tryz.func31 (by kernel_rfl) rfl _ _
        | 4, hf => simp [qFns] at hf; subst hf; exact enters_of Tryz.func32 (by kernel_rfl) rfl _ _
        | 5, hf => simp [qFns] at hf; subst hf; exact enters_of Tryz.func33 (by kernel_rfl) rfl _ _
        | j + 6, hf => simp [qFns] at hf)
      ⟨by omega, fun i hi => by omega, Fr.refl _ _, hB.lt⟩
      (fun W' hJ => ⟨(right_all hJ.2.1).symm, hJ.2.2.1⟩))
  clear hA hl ht hcl
  have HWR := hid (fun e W' (w1 : World) (hF : Fr (fun _ => False) w w1) (h : FsPost (fun x W' => x = rightE a r ∧ Fr (fun _ => False) w1 W') e W') => (show WgPost a r w e W' by
    obtain ⟨x, he, hx, hF2⟩ := h
    exact ⟨by rw [he, hx], hF.trans hF2⟩))
  obtain ⟨p, i, f, k, v, s, cl⟩ := r
  unfold sitC at HFS
  unfold rowC
  simp only at HFS ⊢
  go_enter Tryz.func17, Tryz.ntmps17
  go_upto_region 2 with fail
  obtain ⟨w1, hw1⟩ : ∃ w1, w1 = (w.alloc (.cells #[.int .i64 p, .int .i64 i, .int .i64 f, .int .i64 k, .int .i64 v, .int .i64 s, .string cl] 34)).alloc (.cells #[.slice A n c, .int .i64 p, .int .i64 i, .int .i64 f, .int .i64 k, .int .i64 v, .int .i64 s, .string cl] 68) := ⟨_, rfl⟩
  have hF1 : Fr (fun _ => False) w w1 := by rw [hw1]; exact (Fr.alloc _ _ _).trans (Fr.alloc _ _ _)
  have hB1 : Blk w1 (w.heap.size + 1) #[.slice A n c, .int .i64 p, .int .i64 i, .int .i64 f, .int .i64 k, .int .i64 v, .int .i64 s, .string cl] := by rw [hw1]; exact (Blk.new _ _ _).at (by simp)
  rw [← hw1]
  clear hw1
  have b0 := hB1.cell (i := 0) rfl
  have b1 := hB1.cell (i := 1) rfl
  have b2 := hB1.cell (i := 2) rfl
  have b3 := hB1.cell (i := 3) rfl
  have b4 := hB1.cell (i := 4) rfl
  have b5 := hB1.cell (i := 5) rfl
  have b6 := hB1.cell (i := 6) rfl
  have b7 := hB1.cell (i := 7) rfl
  simp only [List.getElem_toArray, List.getElem_cons_zero, List.getElem_cons_succ] at b0 b1 b2 b3 b4 b5 b6 b7
  have l0 := hB1.lt
  have HF1 := hid hF1
  clear hB1 hF1
  go_wp2_with fail
  refine (HFS.out _ _ (Blk.new _ _ _) (HF1.out.trans (Fr.alloc _ _ _))).mono ?_
  rintro e w2 ⟨x, rfl, hx, hF2⟩
  have HX := hid hx
  clear hx
  go_wp2_with fail
  go_ret
  exact HWR.out _ _ _ (HF1.out.trans (Fr.alloc _ _ _)) ⟨x, rfl, HX.out, hF2⟩

/-- Where the loop stands. -/
def CkRel (l : List Tw) (n : Nat) (X : Int) (w : World) (d : Nat) (k : Value) (wr : World) : Prop := ∃ j : Nat, j ≤ n ∧ d = n + 1 - j ∧ k = .int .i64 j ∧ RightN l j ∧ chkL (l.take j) (l.drop j) = X ∧ Fr (fun _ => False) w wr
def CkPost (l : List Tw) (w : World) (e : Ending) (w' : World) : Prop := e = .returned (.int .i64 (chk l)) ∧ Fr (fun _ => False) w w'

/-- The texts of rows are not too long. -/
def FewT (l : List Tw) : Prop := ∀ (i : Nat) r, l[i]? = some r → r.cl.size ≤ 4000000

set_option maxRecDepth 100000 in
set_option maxHeartbeats 2000000 in
theorem check_any (A : Option Addr) (n c : Nat) (l : List Tw) (w : World) (hA : RdT w A l) (hl : l.length = n) (hn : n ≤ 4000000) (hc : n ≤ c) (hf : FewT l) :
    Calls Tryz.prog 9 #[.slice A n c] w (CkPost l w) := by
  have HWR := hid (fun (j : Nat) (r : Tw) (c' : Nat) (W : World) (hr : l[j]? = some r) (hR : RightN l j) (hW : Fr (fun _ => False) w W) => wrong_any A j c' (l.take j) r W (by
      have hA' := hA.same hW
      intro hp
      obtain ⟨g, o, e, hg, hcl⟩ := hA' (by rw [List.length_take] at hp; omega)
      refine ⟨g, o, e, hg, fun i v hv => hcl i v ?_⟩
      have e2 : flatT l = flatT (l.take j) ++ flatT (l.drop j) := by unfold flatT; rw [← List.flatMap_append, List.take_append_drop]
      rw [e2, List.getElem?_append_left (List.getElem?_eq_some_iff.1 hv).1]
      exact hv) (by rw [List.length_take]; have := (List.getElem?_eq_some_iff.1 hr).1; omega) (by have := (List.getElem?_eq_some_iff.1 hr).1; omega) hR.tabl (hf j r hr))
  have HCE := hid (fun (j : Nat) (r : Tw) (W : World) (hr : l[j]? = some r) (hW : Fr (fun _ => False) w W) => (hA.same hW).cell hr)
  have HL := hid hl
  clear hl hf hA
  rcases Nat.eq_zero_or_pos n with h0 | h0
  · have HQ := hid (show chk l = 17 by unfold chk; rw [if_pos (HL.out.trans h0)])
    subst h0
    go_enter Tryz.func9, Tryz.ntmps9
    go_wp2_with fail
    go_ret
    exact ⟨ret_int HQ.out.symm, Fr.refl _ _⟩
  · obtain ⟨X, hX⟩ : ∃ X, chk l = X := ⟨_, rfl⟩
    have HX := hid (show chkL (l.take 0) (l.drop 0) = X by
      rw [← hX]
      unfold chk
      rw [if_neg (by rw [HL.out]; omega)]
      rfl)
    have HXX := hid hX
    have t0 : ((n : Int) == 0) = false := beq_eq_false_iff_ne.2 (by omega)
    clear hX
    go_enter Tryz.func9, Tryz.ntmps9
    go_wp2_with fail
    go_loopg [11] (n + 1) (fun d k wr => CkRel l n X w d k wr)
    case atStart => exact ⟨0, by omega, by omega, rfl, fun i r h => by omega, HX.out, Fr.refl _ _⟩
    case round =>
      obtain ⟨j, hj, hd, rfl, hR, hc2, hF⟩ := hrel
      have HR := hid hR
      have HC := hid hc2
      have HD := hid hd
      have HF := hid hF
      clear hR hc2 hd hF
      by_cases hlt : j < n
      · obtain ⟨r, hr⟩ : ∃ r, l[j]? = some r := ⟨_, List.getElem?_eq_getElem (by rw [HL.out]; omega)⟩
        obtain ⟨g, og, rfl, hg, hcc⟩ := HCE.out j r wr hr HF.out
        have q0 : wr.cell? ⟨g, og + j * 7, none⟩ = some (.int .i64 r.par) := hcc 0 _ rfl
        have q1 := hcc 1 _ rfl
        have q2 := hcc 2 _ rfl
        have q3 := hcc 3 _ rfl
        have q4 := hcc 4 _ rfl
        have q5 := hcc 5 _ rfl
        have q6 := hcc 6 _ rfl
        have HG := hid hr
        have hj0 : (0 : Int) ≤ j ∧ (j : Int) ≤ n ∧ (j : Int) ≤ c := by omega
        clear hr hcc
        go_upto_region 6 with fail
        have hB := Blk.new wr #[.int .i64 r.par, .int .i64 r.in_, .int .i64 r.fn, .int .i64 r.kind, .int .i64 r.v, .int .i64 r.st, .string r.cl] 34
        have hF4 := HF.out.trans (Fr.alloc _ wr (.cells #[.int .i64 r.par, .int .i64 r.in_, .int .i64 r.fn, .int .i64 r.kind, .int .i64 r.v, .int .i64 r.st, .string r.cl] 34))
        obtain ⟨w4, hw4⟩ : ∃ w4, w4 = wr.alloc (.cells #[.int .i64 r.par, .int .i64 r.in_, .int .i64 r.fn, .int .i64 r.kind, .int .i64 r.v, .int .i64 r.st, .string r.cl] 34) := ⟨_, rfl⟩
        rw [← hw4] at hB hF4 ⊢
        clear hw4
        have b0 := hB.cell (i := 0) rfl
        have b1 := hB.cell (i := 1) rfl
        have b2 := hB.cell (i := 2) rfl
        have b3 := hB.cell (i := 3) rfl
        have b4 := hB.cell (i := 4) rfl
        have b5 := hB.cell (i := 5) rfl
        have b6 := hB.cell (i := 6) rfl
        simp only [List.getElem_toArray, List.getElem_cons_zero, List.getElem_cons_succ] at b0 b1 b2 b3 b4 b5 b6
        have l4 := hB.lt
        have HF4 := hid hF4
        have HB := hid hB
        clear hF4 hB q0 q1 q2 q3 q4 q5 q6
        have HW1 := hid (HWR.out j r c (w4.drew) HG.out HR.out (HF4.out.trans (Fr.drew _ _)))
        have HW2 := hid (HWR.out j r c w4 HG.out HR.out HF4.out)
        unfold rowC at HW1 HW2
        clear HWR
        go_region_held3 (fun W => W.cell? ⟨wr.heap.size, 0, none⟩ = some (.int .i64 r.par) ∧ W.cell? ⟨wr.heap.size, 1, none⟩ = some (.int .i64 r.in_) ∧ W.cell? ⟨wr.heap.size, 2, none⟩ = some (.int .i64 r.fn) ∧ W.cell? ⟨wr.heap.size, 3, none⟩ = some (.int .i64 r.kind) ∧ W.cell? ⟨wr.heap.size, 4, none⟩ = some (.int .i64 r.v) ∧ W.cell? ⟨wr.heap.size, 5, none⟩ = some (.int .i64 r.st) ∧ W.cell? ⟨wr.heap.size, 6, none⟩ = some (.string r.cl))
          (first | exact ⟨b0, b1, b2, b3, b4, b5, b6⟩ | exact ⟨HB.out.drew.cell rfl, HB.out.drew.cell rfl, HB.out.drew.cell rfl, HB.out.drew.cell rfl, HB.out.drew.cell rfl, HB.out.drew.cell rfl, HB.out.drew.cell rfl⟩ | exact ⟨hB5.cell rfl, hB5.cell rfl, hB5.cell rfl, hB5.cell rfl, hB5.cell rfl, hB5.cell rfl, hB5.cell rfl⟩)
          (first
            | (go_at_call 17; (with_reducible refine HW1.out.mono ?_); rintro e w5 ⟨rfl, hF5⟩; have hB5 := HB.out.drew.keep hF5 (fun h => h))
            | (go_at_call 17; (with_reducible refine HW2.out.mono ?_); rintro e w5 ⟨rfl, hF5⟩; have hB5 := HB.out.keep hF5 (fun h => h)))
        all_goals
          have hF6 := (HF4.out.trans (Fr.drew _ _)).trans hF5
          have hst := chkL_at HG.out
          obtain ⟨y, hy⟩ : ∃ y, rightE (l.take j) r = y := ⟨_, rfl⟩
          rw [hy] at hst ⊢
          have HY := hid hy
          have HST := hid hst
          have HF6 := hid hF6
          clear hy hst hF6 hF5 hB5
          by_cases hy0 : y = 0
          · have t1 : (y != 0) = false := by simp [hy0]
            have HY0 := hid hy0
            clear hy0
            go_wp2_with fail
            go_roundg (n + 1 - (j + 1))
            case rel => exact ⟨j + 1, by omega, rfl, by go_num, HR.out.succ HG.out (HY.out.trans HY0.out), by
              have := HST.out
              rw [if_pos HY0.out, HC.out] at this
              exact this.symm, HF6.out⟩
            case measure => have := HD.out; omega
          · have t1 : (y != 0) = true := by simpa using hy0
            have HY0 := hid hy0
            clear hy0
            go_wp2_with fail
            go_ret
            exact ⟨ret_int (by
              have := HST.out
              rw [if_neg HY0.out, HC.out] at this
              rw [HXX.out]
              exact this.symm), HF6.out⟩
      · go_wp2_with fail
        go_ret
        exact ⟨ret_int (by
          have := HC.out
          rw [List.drop_of_length_le (by rw [HL.out]; omega)] at this
          rw [HXX.out]
          exact this), HF.out⟩

end Go.Proofs.YtnlbellbeepkaaaGreatDoor
