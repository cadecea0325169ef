/-
  What is wrong with an instruction, as the document has it: operations 8, O.
-/
import Derived.Test.YthpkhcompkfcaaaDoorRefWrongA
namespace Go.Proofs.YthpkhcompkfcaaaDoor
open Go.RowKit
set_option linter.unusedVariables false

set_option maxRecDepth 100000 in
set_option maxHeartbeats 8000000 in
theorem rwrong_8 (A : Option Addr) (n c : Nat) (P : List Fn) (f : Fn) (Af : Option Addr) (ln cf i : Nat) (D : Option Addr) (cd : Nat) (H : Option Addr) (ch : Nat) (x : Ins) (w : World) (hn : P.length = n) (hln : f.code.length = ln) (hle : ln ≤ 1000) (hx : f.code[i]? = some x) (hc : chk x = 0)
    (hp : Prg w w.heap.size A P) (hcod : Cod w w.heap.size Af f.code) (hD : Nums w w.heap.size D (dep 0 f.code)) (hH : Nums w w.heap.size H (natsI (heldL f))) (hne : ∀ (k : Nat) g, P[k]? = some g → 0 ≤ g.needs ∧ g.needs ≤ 255) (hop : x.op = 8) :
    Calls Tryd.prog 35 #[.agg #[.slice A n c], .agg #[.int .i64 f.needs, .slice Af ln cf], .int .i64 i, .slice D ln cd, .slice H ln ch] w (WrPost w (wrongAt P f i x)) := by
  have HN := hid hn
  have HLN := hid hln
  have HP := hid hp
  have HX := hid hx
  have HC := hid hc
  have HNE := hid hne
  have hil : i < ln := by have := (List.getElem?_eq_some_iff.1 hx).1; omega
  obtain ⟨W2, hW2⟩ : ∃ W2, W2 = ((w.alloc (.cells #[.slice A n c] 34)).alloc (.cells #[.int .i64 f.needs, .slice Af ln cf] 29)).alloc (.cells #[.int .i64 x.op, .int .i64 x.a, .int .i64 x.b, .int .i64 x.c, .int .i64 x.n] 44) := ⟨_, rfl⟩
  have HF := hid (show Fr (fun _ => False) w W2 by rw [hW2]; exact ((Fr.alloc _ _ _).trans (Fr.alloc _ _ _)).trans (Fr.alloc _ _ _))
  have hb5 : Blk W2 w.heap.size #[.slice A n c] := by rw [hW2]; exact ((Blk.new _ _ _).alloc _).alloc _
  have hb6 : Blk W2 (w.heap.size + 1) #[.int .i64 f.needs, .slice Af ln cf] := by rw [hW2]; exact ((Blk.new _ _ _).at (by simp)).alloc _
  have hb11 : Blk W2 (w.heap.size + 1 + 1) #[.int .i64 x.op, .int .i64 x.a, .int .i64 x.b, .int .i64 x.c, .int .i64 x.n] := by rw [hW2]; exact (Blk.new _ _ _).at (by simp)
  obtain ⟨gf, of, rfl, hgf, hcf⟩ := hcod (by omega)
  obtain ⟨s0, s1, s2, s3, s4⟩ := hcf i x hx
  obtain ⟨gd, od, rfl, hgd, hcd⟩ := hD (by rw [dep_len]; omega)
  obtain ⟨gh, oh, rfl, hgh, hch⟩ := hH (by rw [natsI_len, heldL_len]; omega)
  have HDC := hid (show ∀ (j : Nat), j < ln → ∀ w', Fr (fun _ => False) W2 w' → w'.cell? ⟨gd, od + j, none⟩ = some (.int .i64 (depN f.code j)) from fun j hj w' F => (cell_keep (HF.out.trans F) (p := ⟨gd, od + j, none⟩) hgd (fun h => h)).trans (hcd j _ (depN_at (by omega))))
  have HHC := hid (show ∀ w', Fr (fun _ => False) W2 w' → w'.cell? ⟨gh, oh + i, none⟩ = some (.int .i64 (heldN f i : Nat)) from fun w' F => (cell_keep (HF.out.trans F) (p := ⟨gh, oh + i, none⟩) hgh (fun h => h)).trans (hch i _ (natsI_at (heldL_at f (by omega)))))
  have HHL := hid (heldN_lt f i)
  have h5l := hb5.lt
  have h6l := hb6.lt
  have h11l := hb11.lt
  have hgdl : gd < W2.heap.size := Nat.lt_of_lt_of_le hgd HF.out.size
  have hghl : gh < W2.heap.size := Nat.lt_of_lt_of_le hgh HF.out.size
  have H5 := hid (show ∀ w', Fr (fun _ => False) W2 w' → w'.cell? ⟨w.heap.size, 0, none⟩ = some (.slice A n c) from fun w' F => (hb5.keep F (fun h => h)).cell rfl)
  have H6 := hid (show ∀ w', Fr (fun _ => False) W2 w' → w'.cell? ⟨w.heap.size + 1, 1, none⟩ = some (.slice (some ⟨gf, of, none⟩) ln cf) from fun w' F => (hb6.keep F (fun h => h)).cell rfl)
  have H11 := hid (show ∀ w', Fr (fun _ => False) W2 w' → Blk w' (w.heap.size + 1 + 1) #[.int .i64 x.op, .int .i64 x.a, .int .i64 x.b, .int .i64 x.c, .int .i64 x.n] from fun w' F => hb11.keep F (fun h => h))
  have q5 := H5.out W2 (Fr.refl _ _)
  have q6 := H6.out W2 (Fr.refl _ _)
  have x0 := hb11.cell (i := 0) rfl
  have x1 := hb11.cell (i := 1) rfl
  have x2 := hb11.cell (i := 2) rfl
  have x3 := hb11.cell (i := 3) rfl
  have x4 := hb11.cell (i := 4) rfl
  have d0 := HDC.out i hil W2 (Fr.refl _ _)
  have k0 := HHC.out W2 (Fr.refl _ _)
  simp only [List.getElem_toArray, List.getElem_cons_zero, List.getElem_cons_succ] at x0 x1 x2 x3 x4
  obtain ⟨dd, hdd⟩ : ∃ dd, depN f.code i = dd := ⟨_, rfl⟩
  rw [hdd] at d0
  have HDD := hid hdd
  obtain ⟨hv, hhv⟩ : ∃ hv, heldN f i = hv := ⟨_, rfl⟩
  rw [hhv] at k0 HHL
  have HHV := hid hhv
  have hgfl : gf < w.heap.size := hgf
  obtain ⟨op, a, b, ci, m⟩ := x
  simp only at s0 s1 s2 s3 s4 x0 x1 x2 x3 x4 hW2 H11 hop
  subst hop
  have v1 : (i : Int) < (ln : Int) := by omega
  clear hb5 hb6 hb11 hn hln hp hx hc hne hcod hcf hD hcd hH hch hdd hhv
  go_enter Tryd.func35, Tryd.ntmps35
  go_upto_region 2 with fail
  rw [← hW2]
  clear hW2 s0 s1 s2 s3 s4

  have hm := chk_8 HC.out rfl
  simp only at hm
  obtain ⟨m, rfl⟩ : ∃ m' : Nat, m = m' := ⟨m.toNat, by omega⟩
  obtain ⟨a, rfl⟩ : ∃ a' : Nat, a = a' := ⟨a.toNat, by omega⟩
  by_cases hgo : (n : Int) ≤ (m : Int)
  · have hG : goalW P f ⟨8, (a : Nat), b, ci, (m : Nat)⟩ = true := by unfold goalW isJ; rw [HN.out]; simp; omega
    have HQ := hid (w10 (k := i) hG)
    go_wp2_with fail
    go_ret
    exact WrPost.mk rfl (HF.out) HQ.out
  · have hG : goalW P f ⟨8, (a : Nat), b, ci, (m : Nat)⟩ = false := by unfold goalW isJ; rw [HN.out]; simp; omega
    by_cases hend : i + 1 = ln
    · have he : ((i : Int) == (ln : Int) - 1) = true := by rw [beq_iff_eq]; omega
      have HQ := hid (w11 hG (by unfold endW; rw [HLN.out, decide_eq_true hend]; rfl))
      go_wp2_with fail
      go_ret
      exact WrPost.mk rfl (HF.out) HQ.out
    · have he : ((i : Int) == (ln : Int) - 1) = false := by rw [beq_eq_false_iff_ne]; omega
      have hE : endW f i ⟨8, (a : Nat), b, ci, (m : Nat)⟩ = false := by unfold endW; rw [HLN.out, decide_eq_false hend, Bool.false_and]
      have hS : scopeW f i ⟨8, (a : Nat), b, ci, (m : Nat)⟩ = false := by unfold scopeW isJ; simp
      obtain ⟨⟨gn, gcode⟩, hgk⟩ : ∃ g, P[m]? = some g := ⟨_, List.getElem?_eq_getElem (by rw [HN.out]; omega)⟩
      have hgn := HNE.out m _ hgk
      simp only at hgn
      obtain ⟨N, rfl⟩ : ∃ N : Nat, gn = N := ⟨gn.toNat, by omega⟩
      obtain ⟨gp, opp, rfl, hgp, hcp⟩ := HP.out (by rw [HN.out]; omega)
      obtain ⟨A3, c3, t0, _, _⟩ := hcp m _ hgk
      simp only at t0
      have HT0 := hid (show ∀ w', Fr (fun _ => False) W2 w' → w'.cell? ⟨gp, opp + m * 2, none⟩ = some (.int .i64 (N : Nat)) from fun w' F => (cell_keep (HF.out.trans F) (p := ⟨gp, opp + m * 2, none⟩) hgp (fun h => h)).trans t0)
      have hgpl : gp < W2.heap.size := Nat.lt_of_lt_of_le hgp HF.out.size
      have hN : N < 256 := by omega
      have v2 : (m : Int) < (n : Int) := by omega
      have HTK := hid (show takes P ⟨8, (a : Nat), b, ci, (m : Nat)⟩ = N by unfold takes; simp only [Int.toNat_natCast, hgk]; simp [low_nat hN])
      have HBN := hid (fun (h : Nat) (w' : World) (hh : h < 8) => rbit_any (N : Int) h w' hh)
      have HBH := hid (fun (h : Nat) (w' : World) (hh : h < 8) => rbit_any (hv : Int) h w' hh)
      rw [low_nat hN] at HBN
      rw [low_nat HHL.out] at HBH
      clear hcp hgk t0
      go_wp2_with fail
      go_quiet (fail)
      go_wp2_with fail
      go_quiet (fail)
      go_wp2_with fail
      go_loopg [13] 8 (fun d kv wr => WhRel N hv W2 d kv wr)
      case atStart => exact ⟨0, by omega, rfl, rfl, fun i h => by omega, by first | exact Fr.drewN _ _ _ | exact (Fr.drewN _ _ _).trans (Fr.drewN _ _ _)⟩
      case round =>
        obtain ⟨wo, rfl⟩ : ∃ wo, wo = wr := ⟨_, rfl⟩
        obtain ⟨h, hh, hd, rfl, hall, hFo⟩ := hrel
        have HD := hid hd
        have HFO := hid hFo
        have HALL := hid hall
        have hbo := H11.out wo hFo
        have x0 := hbo.cell (i := 0) rfl
        have x4 := hbo.cell (i := 4) rfl
        have h11l := hbo.lt
        simp only [List.getElem_toArray, List.getElem_cons_zero, List.getElem_cons_succ] at x0 x4
        have q5 := H5.out wo hFo
        have h5l : w.heap.size < wo.heap.size := Nat.lt_of_lt_of_le h5l hFo.size
        have t0 := HT0.out wo hFo
        have hgpl : gp < wo.heap.size := Nat.lt_of_lt_of_le hgpl hFo.size
        have k0 := HHC.out wo hFo
        rw [HHV.out] at k0
        have hghl : gh < wo.heap.size := Nat.lt_of_lt_of_le hghl hFo.size
        clear hd hFo hbo hall
        by_cases h8 : h < 8
        · obtain ⟨tn, htn⟩ : ∃ tn, N.testBit h = tn := ⟨_, rfl⟩
          obtain ⟨tv, htv⟩ : ∃ tv, hv.testBit h = tv := ⟨_, rfl⟩
          have HC1 := hid (HBN.out h wo h8)
          have HC2 := hid (HBH.out h wo h8)
          rw [htn] at HC1
          rw [htv] at HC2
          have HTN := hid htn
          have HTV := hid htv
          clear htn htv
          go_wp2_with fail
          refine HC1.out.mono ?_
          rintro e w5 ⟨rfl, rfl⟩
          cases tn with
          | false =>
            go_wp2_with fail
            go_roundg (8 - (h + 1))
            case rel =>
              have hnew : ∀ j, j < h + 1 → N.testBit j = true → hv.testBit j = true := by
                intro j hj hb
                rcases Nat.lt_or_ge j h with h2 | h2
                · exact HALL.out j h2 hb
                · obtain rfl : j = h := by omega
                  rw [HTN.out] at hb
                  cases hb
              exact ⟨h + 1, by omega, rfl, by go_num, hnew, HFO.out⟩
            case measure => have := HD.out; omega
          | true =>
            go_wp2_with fail
            refine HC2.out.mono ?_
            rintro e w5 ⟨rfl, rfl⟩
            cases tv with
            | false =>
              have hhand : handW P f i ⟨8, (a : Nat), b, ci, (m : Nat)⟩ = true := by
                unfold handW
                rw [HTK.out, HHV.out]
                cases e : (less N hv == 0) with
                | false => rfl
                | true =>
                  have h2 := (less_zero hN).1 (by simpa using e) h h8 HTN.out
                  rw [HTV.out] at h2
                  cases h2
              have HQ := hid (w16 hG hE hS hhand)
              go_wp2_with fail
              go_ret
              exact WrPost.mk rfl (HF.out.trans HFO.out) HQ.out
            | true =>
              go_wp2_with fail
              go_roundg (8 - (h + 1))
              case rel =>
                have hnew : ∀ j, j < h + 1 → N.testBit j = true → hv.testBit j = true := by
                  intro j hj hb
                  rcases Nat.lt_or_ge j h with h2 | h2
                  · exact HALL.out j h2 hb
                  · obtain rfl : j = h := by omega
                    exact HTV.out
                exact ⟨h + 1, by omega, rfl, by go_num, hnew, HFO.out⟩
              case measure => have := HD.out; omega
        · have hhand : handW P f i ⟨8, (a : Nat), b, ci, (m : Nat)⟩ = false := by
            unfold handW
            rw [HTK.out, HHV.out, (less_zero hN).2 (fun j hj hb => HALL.out j (by omega) hb)]
            rfl
          have HQ := hid (w0 hG hE hS hhand)
          go_wp2_with fail
          go_ret
          exact WrPost.mk rfl (HF.out.trans HFO.out) HQ.out

set_option maxRecDepth 100000 in
set_option maxHeartbeats 8000000 in
theorem rwrong_o (A : Option Addr) (n c : Nat) (P : List Fn) (f : Fn) (Af : Option Addr) (ln cf i : Nat) (D : Option Addr) (cd : Nat) (H : Option Addr) (ch : Nat) (x : Ins) (w : World) (hn : P.length = n) (hln : f.code.length = ln) (hle : ln ≤ 1000) (hx : f.code[i]? = some x) (hc : chk x = 0)
    (hp : Prg w w.heap.size A P) (hcod : Cod w w.heap.size Af f.code) (hD : Nums w w.heap.size D (dep 0 f.code)) (hH : Nums w w.heap.size H (natsI (heldL f))) (hne : ∀ (k : Nat) g, P[k]? = some g → 0 ≤ g.needs ∧ g.needs ≤ 255) (h16 : ¬ x.op = 16) (h15 : ¬ x.op = 15) (h12 : ¬ x.op = 12) (h13 : ¬ x.op = 13) (h6 : ¬ x.op = 6) (h7 : ¬ x.op = 7) (h9 : ¬ x.op = 9) (h10 : ¬ x.op = 10) (h8 : ¬ x.op = 8) :
    Calls Tryd.prog 35 #[.agg #[.slice A n c], .agg #[.int .i64 f.needs, .slice Af ln cf], .int .i64 i, .slice D ln cd, .slice H ln ch] w (WrPost w (wrongAt P f i x)) := by
  have HN := hid hn
  have HLN := hid hln
  have HP := hid hp
  have HX := hid hx
  have HC := hid hc
  have HNE := hid hne
  have hil : i < ln := by have := (List.getElem?_eq_some_iff.1 hx).1; omega
  obtain ⟨W2, hW2⟩ : ∃ W2, W2 = ((w.alloc (.cells #[.slice A n c] 34)).alloc (.cells #[.int .i64 f.needs, .slice Af ln cf] 29)).alloc (.cells #[.int .i64 x.op, .int .i64 x.a, .int .i64 x.b, .int .i64 x.c, .int .i64 x.n] 44) := ⟨_, rfl⟩
  have HF := hid (show Fr (fun _ => False) w W2 by rw [hW2]; exact ((Fr.alloc _ _ _).trans (Fr.alloc _ _ _)).trans (Fr.alloc _ _ _))
  have hb5 : Blk W2 w.heap.size #[.slice A n c] := by rw [hW2]; exact ((Blk.new _ _ _).alloc _).alloc _
  have hb6 : Blk W2 (w.heap.size + 1) #[.int .i64 f.needs, .slice Af ln cf] := by rw [hW2]; exact ((Blk.new _ _ _).at (by simp)).alloc _
  have hb11 : Blk W2 (w.heap.size + 1 + 1) #[.int .i64 x.op, .int .i64 x.a, .int .i64 x.b, .int .i64 x.c, .int .i64 x.n] := by rw [hW2]; exact (Blk.new _ _ _).at (by simp)
  obtain ⟨gf, of, rfl, hgf, hcf⟩ := hcod (by omega)
  obtain ⟨s0, s1, s2, s3, s4⟩ := hcf i x hx
  obtain ⟨gd, od, rfl, hgd, hcd⟩ := hD (by rw [dep_len]; omega)
  obtain ⟨gh, oh, rfl, hgh, hch⟩ := hH (by rw [natsI_len, heldL_len]; omega)
  have HDC := hid (show ∀ (j : Nat), j < ln → ∀ w', Fr (fun _ => False) W2 w' → w'.cell? ⟨gd, od + j, none⟩ = some (.int .i64 (depN f.code j)) from fun j hj w' F => (cell_keep (HF.out.trans F) (p := ⟨gd, od + j, none⟩) hgd (fun h => h)).trans (hcd j _ (depN_at (by omega))))
  have HHC := hid (show ∀ w', Fr (fun _ => False) W2 w' → w'.cell? ⟨gh, oh + i, none⟩ = some (.int .i64 (heldN f i : Nat)) from fun w' F => (cell_keep (HF.out.trans F) (p := ⟨gh, oh + i, none⟩) hgh (fun h => h)).trans (hch i _ (natsI_at (heldL_at f (by omega)))))
  have HHL := hid (heldN_lt f i)
  have h5l := hb5.lt
  have h6l := hb6.lt
  have h11l := hb11.lt
  have hgdl : gd < W2.heap.size := Nat.lt_of_lt_of_le hgd HF.out.size
  have hghl : gh < W2.heap.size := Nat.lt_of_lt_of_le hgh HF.out.size
  have H5 := hid (show ∀ w', Fr (fun _ => False) W2 w' → w'.cell? ⟨w.heap.size, 0, none⟩ = some (.slice A n c) from fun w' F => (hb5.keep F (fun h => h)).cell rfl)
  have H6 := hid (show ∀ w', Fr (fun _ => False) W2 w' → w'.cell? ⟨w.heap.size + 1, 1, none⟩ = some (.slice (some ⟨gf, of, none⟩) ln cf) from fun w' F => (hb6.keep F (fun h => h)).cell rfl)
  have H11 := hid (show ∀ w', Fr (fun _ => False) W2 w' → Blk w' (w.heap.size + 1 + 1) #[.int .i64 x.op, .int .i64 x.a, .int .i64 x.b, .int .i64 x.c, .int .i64 x.n] from fun w' F => hb11.keep F (fun h => h))
  have q5 := H5.out W2 (Fr.refl _ _)
  have q6 := H6.out W2 (Fr.refl _ _)
  have x0 := hb11.cell (i := 0) rfl
  have x1 := hb11.cell (i := 1) rfl
  have x2 := hb11.cell (i := 2) rfl
  have x3 := hb11.cell (i := 3) rfl
  have x4 := hb11.cell (i := 4) rfl
  have d0 := HDC.out i hil W2 (Fr.refl _ _)
  have k0 := HHC.out W2 (Fr.refl _ _)
  simp only [List.getElem_toArray, List.getElem_cons_zero, List.getElem_cons_succ] at x0 x1 x2 x3 x4
  obtain ⟨dd, hdd⟩ : ∃ dd, depN f.code i = dd := ⟨_, rfl⟩
  rw [hdd] at d0
  have HDD := hid hdd
  obtain ⟨hv, hhv⟩ : ∃ hv, heldN f i = hv := ⟨_, rfl⟩
  rw [hhv] at k0 HHL
  have HHV := hid hhv
  have hgfl : gf < w.heap.size := hgf
  obtain ⟨op, a, b, ci, m⟩ := x
  simp only at s0 s1 s2 s3 s4 x0 x1 x2 x3 x4 hW2 H11 h16 h15 h12 h13 h6 h7 h9 h10 h8
  have v1 : (i : Int) < (ln : Int) := by omega
  clear hb5 hb6 hb11 hn hln hp hx hc hne hcod hcf hD hcd hH hch hdd hhv
  go_enter Tryd.func35, Tryd.ntmps35
  go_upto_region 2 with fail
  rw [← hW2]
  clear hW2 s0 s1 s2 s3 s4

  have hG : goalW P f ⟨op, a, b, ci, m⟩ = false := by unfold goalW isJ; simp [h6, h7, h8]
  have hHd : handW P f i ⟨op, a, b, ci, m⟩ = false := by unfold handW takes; simp [less, h8, h9, h10]
  have t6 := beq_of_not h6
  have t7 := beq_of_not h7
  have t8 := beq_of_not h8
  have t9 := beq_of_not h9
  have t10 := beq_of_not h10
  have t12 := beq_of_not h12
  have t13 := beq_of_not h13
  have t16 := beq_of_not h16
  have t15 := beq_of_not h15
  have u6 := bne_of_not h6
  have u15 := bne_of_not h15
  have u16 := bne_of_not h16
  by_cases hend : i + 1 = ln
  · have he : ((i : Int) == (ln : Int) - 1) = true := by rw [beq_iff_eq]; omega
    have HQ := hid (w11 hG (by unfold endW; rw [HLN.out, decide_eq_true hend]; unfold isP; simp [h6, h15, h16]))
    go_wp2_with fail
    go_ret
    exact WrPost.mk rfl (HF.out) HQ.out
  · have he : ((i : Int) == (ln : Int) - 1) = false := by rw [beq_eq_false_iff_ne]; omega
    have hE : endW f i ⟨op, a, b, ci, m⟩ = false := by unfold endW; rw [HLN.out, decide_eq_false hend, Bool.false_and]
    have hS : scopeW f i ⟨op, a, b, ci, m⟩ = false := by unfold scopeW isJ; simp [h12, h13, h16, h6, h7]
    go_wp2_with fail
    go_quiet (fail)
    go_wp2_with fail
    go_quiet (fail)
    go_wp2_with fail
    have HQ := hid (w0 hG hE hS hHd)
    go_loopg [13] 8 (fun d kv wr => WlRel W2 d kv wr)
    case atStart => exact ⟨0, by omega, rfl, rfl, by first | exact Fr.drewN _ _ _ | exact (Fr.drewN _ _ _).trans (Fr.drewN _ _ _)⟩
    case round =>
      obtain ⟨wo, rfl⟩ : ∃ wo, wo = wr := ⟨_, rfl⟩
      obtain ⟨h, hh, hd, rfl, hFo⟩ := hrel
      have HD := hid hd
      have HFO := hid hFo
      have hbo := H11.out wo hFo
      have x0 := hbo.cell (i := 0) rfl
      have h11l := hbo.lt
      simp only [List.getElem_toArray, List.getElem_cons_zero] at x0
      clear hd hFo hbo
      by_cases h8 : h < 8
      · go_wp2_with fail
        go_roundg (8 - (h + 1))
        case rel => exact ⟨h + 1, by omega, rfl, by go_num, HFO.out⟩
        case measure => have := HD.out; omega
      · go_wp2_with fail
        go_ret
        exact WrPost.mk rfl (HF.out.trans HFO.out) HQ.out

end Go.Proofs.YthpkhcompkfcaaaDoor
