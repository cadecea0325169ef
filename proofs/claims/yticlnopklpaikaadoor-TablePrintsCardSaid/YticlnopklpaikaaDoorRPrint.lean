/-
  Stage 7: Print, the document's.
-/
import Derived.Test.YticlnopklpaikaaDoorRNum
import Derived.Test.YticlnopklpaikaaDoorPrint
namespace Go.Proofs.YticlnopklpaikaaDoor
open Go.RowKit
set_option linter.unusedVariables false
set_option linter.unusedSimpArgs false

def RpRel (l : List Tw) (n : Nat) (w : World) (d : Nat) (ov iv : Value) (wr : World) : Prop :=
  ∃ j : Nat, j ≤ n ∧ d = n + 1 - j ∧ ov = .string (bs (tabT (l.take j))) ∧ iv = .int .i64 j ∧ Fr (fun _ => False) w wr

theorem sum_row (T W0 W1 W2 W3 W4 W5 W6 : Bs) : T ++ W0 ++ [32] ++ W1 ++ [32] ++ W2 ++ [32] ++ W3 ++ [32] ++ W4 ++ [32] ++ W5 ++ [32] ++ W6 ++ [10] = T ++ (glue 32 [W0, W1, W2, W3, W4, W5, W6] ++ [10]) := by
  simp [glue]

set_option maxRecDepth 100000 in
set_option maxHeartbeats 8000000 in
theorem rprint_any (A : Option Addr) (n c : Nat) (l : List Tw) (w : World) (hA : RdT w A l) (hl : l.length = n) (hn : n ≤ 4000000) (hf : chk l = 0 → Fits l) (hf2 : FewT l) :
    Calls Tryd.prog 23 #[.slice A n c] w (PrPost l w) := by
  have HCK := hid (rcheck_any A n c l w hA hl hn hf2)
  have HL := hid hl
  have HCE := hid (fun (W : World) (hW : Fr (fun _ => False) w W) (j : Nat) (r : Tw) (hr : l[j]? = some r) => (hA.same hW).cell hr)
  obtain ⟨x, hx⟩ : ∃ x, chk l = x := ⟨_, rfl⟩
  unfold CkPost at HCK
  rw [hx] at HCK
  have HX := hid hx
  have HFT := hid hf
  clear hl hf hf2 hA hx
  go_enter Tryd.func23, Tryd.ntmps23
  go_wp2_with fail
  refine HCK.out.mono ?_
  rintro e w1 ⟨rfl, hF1⟩
  by_cases hx0 : x = 0
  · have t1 : (x != 0) = false := by simp [hx0]
    have HX0 := hid (HX.out.trans hx0)
    have HFI := hid (HFT.out HX0.out)
    have HF1 := hid hF1
    have HEN := hid (fun (e : Ending) (wx : World) (he : e = .returned (.tuple #[.string (bs (tabT l)), .int .i64 0])) (hF : Fr (fun _ => False) w wx) => (show PrPost l w e wx from ⟨by rw [he]; unfold prV; rw [if_pos HX0.out, HX0.out], hF⟩))
    clear hx0 HX hF1
    go_wp2_with fail
    go_loopg [5, 6] (n + 1) (fun d ov iv wr => RpRel l n w d ov iv wr)
    case atStart => exact ⟨0, by omega, by omega, rfl, rfl, HF1.out⟩
    case round =>
      obtain ⟨j, hj, hd, rfl, rfl, hF⟩ := hrel
      have HD := hid hd
      have HF := hid hF
      clear hd hF
      by_cases hlt : j < n
      · obtain ⟨r, hr⟩ : ∃ r, l[j]? = some r := ⟨_, List.getElem?_eq_getElem (by rw [HL.out]; omega)⟩
        obtain ⟨ga, oga, rfl, hga, hcc⟩ := HCE.out wr HF.out j r hr
        have hk := kind_ok HX0.out hr
        have hbd := HFI.out.bnd j r hr
        have HSN := hid (tabT_snoc hr)
        have hpl := tabT_part hr
        have hpl2 := HFI.out.len
        have HPL := hid (show (tabT (l.take j)).length + (rowT r).length ≤ 131072 by omega)
        have hpar : (j = 0 ∧ r.par = -1) ∨ (0 < j ∧ r.par ≠ -1) := by
          have h1 := tabl_of_chk HX0.out
          have h2 := parAt_of' hr
          by_cases h0 : j = 0
          · left
            subst h0
            refine ⟨rfl, ?_⟩
            rw [← h2]
            exact h1.1 (by rintro rfl; simp at hr)
          · right
            have h3 := h1.2 j (by omega) (by rw [HL.out]; omega)
            rw [h2] at h3
            omega
        obtain ⟨p, i, f, k, v, s, cl⟩ := r
        obtain ⟨W0, hW0⟩ : ∃ x : Bs, (if p = -1 then [45] else Lib.itoa p) = x := ⟨_, rfl⟩
        obtain ⟨W6, hW6⟩ : ∃ x : Bs, (if cl.size = 0 then [45] else cl.data.toList) = x := ⟨_, rfl⟩
        obtain ⟨KW, hKW⟩ : ∃ x : Bs, kindW k = x := ⟨_, rfl⟩
        have HRT := hid (show rowT ⟨p, i, f, k, v, s, cl⟩ = glue 32 [W0, Lib.itoa i, Lib.itoa f, KW, Lib.itoa v, Lib.itoa s, W6] ++ [10] by unfold rowT rowW; simp only; rw [hW0, hW6, hKW])
        have HW0 := hid hW0
        simp only at hk hbd hpar
        obtain ⟨p0, p1, i0, i1, f0, f1, v0, v1, s0, s1⟩ := hbd
        simp only at p0 p1 i0 i1 f0 f1 v0 v1 s0 s1
        have HNP := hid (fun W => number_any p p0 p1 W)
        have HNI := hid (fun W => number_any i i0 i1 W)
        have HNF := hid (fun W => number_any f f0 f1 W)
        have HNV := hid (fun W => number_any v v0 v1 W)
        have HNS := hid (fun W => number_any s s0 s1 W)
        have HNK := hid (fun W => kind_any k hk.1 hk.2.1 W)
        have HNO := hid (fun W => or_any cl W)
        unfold NumPost at HNP HNI HNF HNV HNS HNK HNO
        rw [hKW] at HNK
        rw [hW6] at HNO
        have q0 : wr.cell? ⟨ga, oga + j * 7, none⟩ = some (.int .i64 p) := hcc 0 _ rfl
        have q1 : wr.cell? ⟨ga, oga + j * 7 + 1, none⟩ = some (.int .i64 i) := hcc 1 _ rfl
        have q2 : wr.cell? ⟨ga, oga + j * 7 + 2, none⟩ = some (.int .i64 f) := hcc 2 _ rfl
        have q3 : wr.cell? ⟨ga, oga + j * 7 + 3, none⟩ = some (.int .i64 k) := hcc 3 _ rfl
        have q4 : wr.cell? ⟨ga, oga + j * 7 + 4, none⟩ = some (.int .i64 v) := hcc 4 _ rfl
        have q5 : wr.cell? ⟨ga, oga + j * 7 + 5, none⟩ = some (.int .i64 s) := hcc 5 _ rfl
        have q6 : wr.cell? ⟨ga, oga + j * 7 + 6, none⟩ = some (.string cl) := hcc 6 _ rfl
        obtain ⟨T, hT⟩ : ∃ T, tabT (l.take j) = T := ⟨_, rfl⟩
        rw [hT] at HPL HSN ⊢
        rw [HRT.out] at HPL HSN
        have HSM := hid (sum_row T W0 (Lib.itoa i) (Lib.itoa f) KW (Lib.itoa v) (Lib.itoa s) W6)
        have hLL : T.length + W0.length + (Lib.itoa i).length + (Lib.itoa f).length + KW.length + (Lib.itoa v).length + (Lib.itoa s).length + W6.length ≤ 200000 := by
          have h1 := HPL.out
          have h2 := congrArg List.length HSM.out
          simp only [List.length_append, List.length_cons, List.length_nil] at h1 h2
          omega
        have HLL := hid hLL
        have hj0 : (0 : Int) ≤ j ∧ (j : Int) < n := by omega
        have HPA := hid hpar
        have HT := hid hT
        clear hr hcc hk hpl hpl2 hpar hW0 hW6 hKW hT hLL p0 p1 i0 i1 f0 f1 v0 v1 s0 s1
        go_upto_region 9 with fail
        have hB4 := Blk.new wr #[.int .i64 p, .int .i64 i, .int .i64 f, .int .i64 k, .int .i64 v, .int .i64 s, .string cl] 40
        have hF4 := Fr.alloc (fun _ => False) wr (.cells #[.int .i64 p, .int .i64 i, .int .i64 f, .int .i64 k, .int .i64 v, .int .i64 s, .string cl] 40)
        obtain ⟨w4, hw4⟩ : ∃ w4, w4 = wr.alloc (.cells #[.int .i64 p, .int .i64 i, .int .i64 f, .int .i64 k, .int .i64 v, .int .i64 s, .string cl] 40) := ⟨_, rfl⟩
        rw [← hw4] at hB4 hF4 ⊢
        clear hw4 q0 q1 q2 q3 q4 q5 q6
        have HF4 := hid (HF.out.trans hF4)
        have HCL := hid (show ∀ W, Fr (fun _ => False) w4 W → W.cell? ⟨wr.heap.size, 0, none⟩ = some (.int .i64 p) ∧ W.cell? ⟨wr.heap.size, 1, none⟩ = some (.int .i64 i) ∧ W.cell? ⟨wr.heap.size, 2, none⟩ = some (.int .i64 f) ∧ W.cell? ⟨wr.heap.size, 3, none⟩ = some (.int .i64 k) ∧ W.cell? ⟨wr.heap.size, 4, none⟩ = some (.int .i64 v) ∧ W.cell? ⟨wr.heap.size, 5, none⟩ = some (.int .i64 s) ∧ W.cell? ⟨wr.heap.size, 6, none⟩ = some (.string cl) ∧ wr.heap.size < W.heap.size from fun W hW => by
          have a := hB4.keep hW (fun h => h)
          exact ⟨a.cell rfl, a.cell rfl, a.cell rfl, a.cell rfl, a.cell rfl, a.cell rfl, a.cell rfl, a.lt⟩)
        clear hB4 hF4
        obtain ⟨b0, b1, b2, b3, b4, b5, b6, l4⟩ := HCL.out _ (Fr.refl _ _)
        obtain ⟨jp, hjp⟩ : ∃ b, decide (0 < j) = b := ⟨_, rfl⟩
        have HJP := hid hjp
        go_upto_if 25 with fail
        clear hjp
        go_cut [8] from 25 to 28 (fun u wx => u = .string (bs W0) ∧ Fr (fun _ => False) w4 wx)
        case first =>
          cases jp with
          | false =>
            have HP := hid (show W0 = [45] by
              have h1 := of_decide_eq_false HJP.out
              rcases HPA.out with h2 | h2
              · rw [← HW0.out, if_pos h2.2]
              · omega)
            go_wp2_with fail
            go_meet
            case rel => exact ⟨by rw [HP.out]; rfl, Fr.refl _ _⟩
          | true =>
            have HP := hid (show W0 = Lib.itoa p by
              have h1 := of_decide_eq_true HJP.out
              rcases HPA.out with h2 | h2
              · omega
              · rw [← HW0.out, if_neg h2.2])
            go_wp2_with fail
            refine (HNP.out _).mono ?_
            rintro e w5 ⟨rfl, hF5⟩
            go_wp2_with fail
            go_meet
            case rel => exact ⟨by rw [HP.out], hF5⟩
        case rest =>
          obtain ⟨rfl, hF5⟩ := hcut
          have HF5 := hid hF5
          have HFd := hid (Fr.refl (fun _ => False) wc)
          clear hF5 b0 b1 b2 b3 b4 b5 b6 l4
          obtain ⟨_, b1, b2, b3, b4, b5, b6, l5⟩ := HCL.out _ HF5.out
          have HSS := hid (show ∀ W, Fr (fun _ => False) wc W → W.cell? ⟨wr.heap.size, 1, none⟩ = some (.int .i64 i) ∧ W.cell? ⟨wr.heap.size, 2, none⟩ = some (.int .i64 f) ∧ W.cell? ⟨wr.heap.size, 3, none⟩ = some (.int .i64 k) ∧ W.cell? ⟨wr.heap.size, 4, none⟩ = some (.int .i64 v) ∧ W.cell? ⟨wr.heap.size, 5, none⟩ = some (.int .i64 s) ∧ W.cell? ⟨wr.heap.size, 6, none⟩ = some (.string cl) from fun W hW => by
            obtain ⟨_, a1, a2, a3, a4, a5, a6, _⟩ := HCL.out _ (HF5.out.trans hW)
            exact ⟨a1, a2, a3, a4, a5, a6⟩)
          have hLL := HLL.out
          have q0 := add_bs (T) W0 (by (try simp only [List.length_append, List.length_cons, List.length_nil]); omega) (by omega)
          have q1 := add_bs (T ++ W0) [32] (by (try simp only [List.length_append, List.length_cons, List.length_nil]); omega) (by simp)
          have q2 := add_bs (T ++ W0 ++ [32]) (Lib.itoa i) (by (try simp only [List.length_append, List.length_cons, List.length_nil]); omega) (by omega)
          have q3 := add_bs (T ++ W0 ++ [32] ++ Lib.itoa i) [32] (by (try simp only [List.length_append, List.length_cons, List.length_nil]); omega) (by simp)
          have q4 := add_bs (T ++ W0 ++ [32] ++ Lib.itoa i ++ [32]) (Lib.itoa f) (by (try simp only [List.length_append, List.length_cons, List.length_nil]); omega) (by omega)
          have q5 := add_bs (T ++ W0 ++ [32] ++ Lib.itoa i ++ [32] ++ Lib.itoa f) [32] (by (try simp only [List.length_append, List.length_cons, List.length_nil]); omega) (by simp)
          have q6 := add_bs (T ++ W0 ++ [32] ++ Lib.itoa i ++ [32] ++ Lib.itoa f ++ [32]) KW (by (try simp only [List.length_append, List.length_cons, List.length_nil]); omega) (by omega)
          have q7 := add_bs (T ++ W0 ++ [32] ++ Lib.itoa i ++ [32] ++ Lib.itoa f ++ [32] ++ KW) [32] (by (try simp only [List.length_append, List.length_cons, List.length_nil]); omega) (by simp)
          have q8 := add_bs (T ++ W0 ++ [32] ++ Lib.itoa i ++ [32] ++ Lib.itoa f ++ [32] ++ KW ++ [32]) (Lib.itoa v) (by (try simp only [List.length_append, List.length_cons, List.length_nil]); omega) (by omega)
          have q9 := add_bs (T ++ W0 ++ [32] ++ Lib.itoa i ++ [32] ++ Lib.itoa f ++ [32] ++ KW ++ [32] ++ Lib.itoa v) [32] (by (try simp only [List.length_append, List.length_cons, List.length_nil]); omega) (by simp)
          have q10 := add_bs (T ++ W0 ++ [32] ++ Lib.itoa i ++ [32] ++ Lib.itoa f ++ [32] ++ KW ++ [32] ++ Lib.itoa v ++ [32]) (Lib.itoa s) (by (try simp only [List.length_append, List.length_cons, List.length_nil]); omega) (by omega)
          have q11 := add_bs (T ++ W0 ++ [32] ++ Lib.itoa i ++ [32] ++ Lib.itoa f ++ [32] ++ KW ++ [32] ++ Lib.itoa v ++ [32] ++ Lib.itoa s) [32] (by (try simp only [List.length_append, List.length_cons, List.length_nil]); omega) (by simp)
          have q12 := add_bs (T ++ W0 ++ [32] ++ Lib.itoa i ++ [32] ++ Lib.itoa f ++ [32] ++ KW ++ [32] ++ Lib.itoa v ++ [32] ++ Lib.itoa s ++ [32]) W6 (by (try simp only [List.length_append, List.length_cons, List.length_nil]); omega) (by omega)
          have q13 := add_bs (T ++ W0 ++ [32] ++ Lib.itoa i ++ [32] ++ Lib.itoa f ++ [32] ++ KW ++ [32] ++ Lib.itoa v ++ [32] ++ Lib.itoa s ++ [32] ++ W6) [10] (by (try simp only [List.length_append, List.length_cons, List.length_nil]); omega) (by simp)
          rw [HSM.out] at q13
          clear hLL
          have hsp : bs [32] = ⟨#[32]⟩ := rfl
          have hnl : bs [10] = ⟨#[10]⟩ := rfl
          rw [hsp] at q1
          rw [hsp] at q3
          rw [hsp] at q5
          rw [hsp] at q7
          rw [hsp] at q9
          rw [hsp] at q11
          rw [hnl] at q13
          obtain ⟨y0, hy0⟩ : ∃ y, bs (T) = y := ⟨_, rfl⟩
          obtain ⟨y1, hy1⟩ : ∃ y, bs (T ++ W0) = y := ⟨_, rfl⟩
          obtain ⟨y2, hy2⟩ : ∃ y, bs (T ++ W0 ++ [32]) = y := ⟨_, rfl⟩
          obtain ⟨y3, hy3⟩ : ∃ y, bs (T ++ W0 ++ [32] ++ Lib.itoa i) = y := ⟨_, rfl⟩
          obtain ⟨y4, hy4⟩ : ∃ y, bs (T ++ W0 ++ [32] ++ Lib.itoa i ++ [32]) = y := ⟨_, rfl⟩
          obtain ⟨y5, hy5⟩ : ∃ y, bs (T ++ W0 ++ [32] ++ Lib.itoa i ++ [32] ++ Lib.itoa f) = y := ⟨_, rfl⟩
          obtain ⟨y6, hy6⟩ : ∃ y, bs (T ++ W0 ++ [32] ++ Lib.itoa i ++ [32] ++ Lib.itoa f ++ [32]) = y := ⟨_, rfl⟩
          obtain ⟨y7, hy7⟩ : ∃ y, bs (T ++ W0 ++ [32] ++ Lib.itoa i ++ [32] ++ Lib.itoa f ++ [32] ++ KW) = y := ⟨_, rfl⟩
          obtain ⟨y8, hy8⟩ : ∃ y, bs (T ++ W0 ++ [32] ++ Lib.itoa i ++ [32] ++ Lib.itoa f ++ [32] ++ KW ++ [32]) = y := ⟨_, rfl⟩
          obtain ⟨y9, hy9⟩ : ∃ y, bs (T ++ W0 ++ [32] ++ Lib.itoa i ++ [32] ++ Lib.itoa f ++ [32] ++ KW ++ [32] ++ Lib.itoa v) = y := ⟨_, rfl⟩
          obtain ⟨y10, hy10⟩ : ∃ y, bs (T ++ W0 ++ [32] ++ Lib.itoa i ++ [32] ++ Lib.itoa f ++ [32] ++ KW ++ [32] ++ Lib.itoa v ++ [32]) = y := ⟨_, rfl⟩
          obtain ⟨y11, hy11⟩ : ∃ y, bs (T ++ W0 ++ [32] ++ Lib.itoa i ++ [32] ++ Lib.itoa f ++ [32] ++ KW ++ [32] ++ Lib.itoa v ++ [32] ++ Lib.itoa s) = y := ⟨_, rfl⟩
          obtain ⟨y12, hy12⟩ : ∃ y, bs (T ++ W0 ++ [32] ++ Lib.itoa i ++ [32] ++ Lib.itoa f ++ [32] ++ KW ++ [32] ++ Lib.itoa v ++ [32] ++ Lib.itoa s ++ [32]) = y := ⟨_, rfl⟩
          obtain ⟨y13, hy13⟩ : ∃ y, bs (T ++ W0 ++ [32] ++ Lib.itoa i ++ [32] ++ Lib.itoa f ++ [32] ++ KW ++ [32] ++ Lib.itoa v ++ [32] ++ Lib.itoa s ++ [32] ++ W6) = y := ⟨_, rfl⟩
          obtain ⟨y14, hy14⟩ : ∃ y, bs (T ++ (glue 32 [W0, Lib.itoa i, Lib.itoa f, KW, Lib.itoa v, Lib.itoa s, W6] ++ [10])) = y := ⟨_, rfl⟩
          obtain ⟨e0, he0⟩ : ∃ y, bs (W0) = y := ⟨_, rfl⟩
          obtain ⟨e1, he1⟩ : ∃ y, bs (Lib.itoa i) = y := ⟨_, rfl⟩
          obtain ⟨e2, he2⟩ : ∃ y, bs (Lib.itoa f) = y := ⟨_, rfl⟩
          obtain ⟨e3, he3⟩ : ∃ y, bs (KW) = y := ⟨_, rfl⟩
          obtain ⟨e4, he4⟩ : ∃ y, bs (Lib.itoa v) = y := ⟨_, rfl⟩
          obtain ⟨e5, he5⟩ : ∃ y, bs (Lib.itoa s) = y := ⟨_, rfl⟩
          obtain ⟨e6, he6⟩ : ∃ y, bs (W6) = y := ⟨_, rfl⟩
          rw [hy0, he0, hy1] at q0
          rw [hy1, hy2] at q1
          rw [hy2, he1, hy3] at q2
          rw [hy3, hy4] at q3
          rw [hy4, he2, hy5] at q4
          rw [hy5, hy6] at q5
          rw [hy6, he3, hy7] at q6
          rw [hy7, hy8] at q7
          rw [hy8, he4, hy9] at q8
          rw [hy9, hy10] at q9
          rw [hy10, he5, hy11] at q10
          rw [hy11, hy12] at q11
          rw [hy12, he6, hy13] at q12
          rw [hy13, hy14] at q13
          rw [he1] at HNI
          rw [he2] at HNF
          rw [he3] at HNK
          rw [he4] at HNV
          rw [he5] at HNS
          rw [he6] at HNO
          rw [hy0, he0]
          have HY := hid hy14
          clear hsp hnl hy0 hy1 hy2 hy3 hy4 hy5 hy6 hy7 hy8 hy9 hy10 hy11 hy12 hy13 hy14 he0 he1 he2 he3 he4 he5 he6
          go_upto_region 12 with fail
          go_region_held3 (fun W => W.cell? ⟨wr.heap.size, 1, none⟩ = some (.int .i64 i) ∧ W.cell? ⟨wr.heap.size, 2, none⟩ = some (.int .i64 f) ∧ W.cell? ⟨wr.heap.size, 3, none⟩ = some (.int .i64 k) ∧ W.cell? ⟨wr.heap.size, 4, none⟩ = some (.int .i64 v) ∧ W.cell? ⟨wr.heap.size, 5, none⟩ = some (.int .i64 s) ∧ W.cell? ⟨wr.heap.size, 6, none⟩ = some (.string cl))
            (first | exact HSS.out _ HFd.out | exact HSS.out _ (HFd.out.trans (Fr.drew _ _)))
            (first
              | (go_at_call 34; (with_reducible refine (HNI.out _).mono ?_); rintro e wb ⟨rfl, hF⟩; have HFd := hid (HFd.out.trans (Fr.trans (by first | exact Fr.refl _ _ | exact Fr.drew _ _) hF)); clear hF)
              | (go_at_call 34; (with_reducible refine (HNF.out _).mono ?_); rintro e wb ⟨rfl, hF⟩; have HFd := hid (HFd.out.trans (Fr.trans (by first | exact Fr.refl _ _ | exact Fr.drew _ _) hF)); clear hF)
              | (go_at_call 35; (with_reducible refine (HNK.out _).mono ?_); rintro e wb ⟨rfl, hF⟩; have HFd := hid (HFd.out.trans (Fr.trans (by first | exact Fr.refl _ _ | exact Fr.drew _ _) hF)); clear hF)
              | (go_at_call 34; (with_reducible refine (HNV.out _).mono ?_); rintro e wb ⟨rfl, hF⟩; have HFd := hid (HFd.out.trans (Fr.trans (by first | exact Fr.refl _ _ | exact Fr.drew _ _) hF)); clear hF)
              | (go_at_call 34; (with_reducible refine (HNS.out _).mono ?_); rintro e wb ⟨rfl, hF⟩; have HFd := hid (HFd.out.trans (Fr.trans (by first | exact Fr.refl _ _ | exact Fr.drew _ _) hF)); clear hF)
              | (go_at_call 36; (with_reducible refine (HNO.out _).mono ?_); rintro e wb ⟨rfl, hF⟩; have HFd := hid (HFd.out.trans (Fr.trans (by first | exact Fr.refl _ _ | exact Fr.drew _ _) hF)); clear hF))
          all_goals
            clear q0 q1 q2 q3 q4 q5 q6 q7 q8 q9 q10 q11 q12 q13 b1 b2 b3 b4 b5 b6 l5
            go_wp2_with fail
            go_roundg (n + 1 - (j + 1))
            case rel => exact ⟨j + 1, by omega, rfl, by rw [HSN.out, HY.out], by go_num, (HF4.out.trans HF5.out).trans HFd.out⟩
            case measure => have := HD.out; omega
      · have hb := HFI.out.len
        have hz : (bs (tabT (l.take j))).size ≤ 131072 := by rw [bs_size, List.take_of_length_le (by rw [HL.out]; omega)]; exact hb
        have HE := hid (show tabT (l.take j) = tabT l by rw [List.take_of_length_le (by rw [HL.out]; omega)])
        obtain ⟨y, hy⟩ : ∃ y, bs (tabT (l.take j)) = y := ⟨_, rfl⟩
        rw [hy] at hz ⊢
        have HYY := hid hy
        clear hb hy
        go_wp2_with fail
        go_ret2
        exact HEN.out _ _ (by rw [← HE.out, HYY.out]; rfl) HF.out
  · have t1 : (x != 0) = true := by simpa using hx0
    have HE := hid (show prV l = [] by unfold prV; rw [if_neg (by rw [HX.out]; exact hx0)])
    clear hx0
    go_wp2_with fail
    go_ret2
    exact ⟨by rw [HE.out, HX.out]; rfl, hF1⟩

end Go.Proofs.YticlnopklpaikaaDoor
