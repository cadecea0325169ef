/-
  Stage 7: a line's words, one by one: value, closes, parent, kind.
-/
import Derived.Test.YtnlbellbeepkaaaGreatDoorLine
import Derived.Test.YtnlbellbeepkaaaGreatDoorSite
namespace Go.Proofs.YtnlbellbeepkaaaGreatDoor
open Go.RowKit
set_option linter.unusedVariables false
set_option linter.unusedSimpArgs false

theorem ix5_0 (a0 a1 a2 a3 a4 : ByteArray) (W : World) : (Instr.index 57 (.agg #[.string a0, .string a1, .string a2, .string a3, .string a4]) (.int .i64 0)).run Tryz.prog W = .ok (.string a0) W := by
  simp [Instr.index, Sem.run_bind, run_underlying Tryz.underlying57, asIntOf, part, isAgg, go_sem]
theorem ix5_1 (a0 a1 a2 a3 a4 : ByteArray) (W : World) : (Instr.index 57 (.agg #[.string a0, .string a1, .string a2, .string a3, .string a4]) (.int .i64 1)).run Tryz.prog W = .ok (.string a1) W := by
  simp [Instr.index, Sem.run_bind, run_underlying Tryz.underlying57, asIntOf, part, isAgg, go_sem]
theorem ix5_2 (a0 a1 a2 a3 a4 : ByteArray) (W : World) : (Instr.index 57 (.agg #[.string a0, .string a1, .string a2, .string a3, .string a4]) (.int .i64 2)).run Tryz.prog W = .ok (.string a2) W := by
  simp [Instr.index, Sem.run_bind, run_underlying Tryz.underlying57, asIntOf, part, isAgg, go_sem]
theorem ix5_3 (a0 a1 a2 a3 a4 : ByteArray) (W : World) : (Instr.index 57 (.agg #[.string a0, .string a1, .string a2, .string a3, .string a4]) (.int .i64 3)).run Tryz.prog W = .ok (.string a3) W := by
  simp [Instr.index, Sem.run_bind, run_underlying Tryz.underlying57, asIntOf, part, isAgg, go_sem]
theorem ix5_4 (a0 a1 a2 a3 a4 : ByteArray) (W : World) : (Instr.index 57 (.agg #[.string a0, .string a1, .string a2, .string a3, .string a4]) (.int .i64 4)).run Tryz.prog W = .ok (.string a4) W := by
  simp [Instr.index, Sem.run_bind, run_underlying Tryz.underlying57, asIntOf, part, isAgg, go_sem]

theorem bsl_ne {x y : Bs} (h : x ≠ y) : ((bs x).toList == y) = false := by
  rw [beq_eq_false_iff_ne, ByteArray.toList_eq]
  exact h
theorem bsl_eq (x : Bs) : ((bs x).toList == x) = true := by
  rw [beq_iff_eq, ByteArray.toList_eq]
  rfl

set_option maxRecDepth 100000 in
set_option maxHeartbeats 4000000 in
theorem ln4_any (lb wb cap : Nat) (ws : List Bs) (r : Tw) (W : World) (ht : Tabz W) (hl : ws.length = 7) (hx : (ws.getD 4 []).length ≤ 1000000) (h : LnS W lb wb cap ws r) :
    Calls Tryz.prog 47 #[.pointer (some ⟨lb, 0, none⟩)] W (LnPost W lb wb cap ws r 4) := by
  have hw := h.wrd 4 _ (wrd_at hl (by omega))
  have hb := h.blk.cell (i := 0) rfl
  simp only [List.getElem_toArray, List.getElem_cons_zero] at hb
  have hlt := h.blk.lt
  have hwl := h.wlt
  have HS := hid h
  have HT := hid ht
  obtain ⟨x, hxx⟩ : ∃ x, ws.getD 4 [] = x := ⟨_, rfl⟩
  rw [hxx] at hw hx
  have HE := hid (show lnE ws 4 = (numV x).2 by rw [← hxx]; rfl)
  have HR := hid (show setR ws 4 r = { r with v := (numV x).1 } by rw [← hxx]; rfl)
  have HN := hid (numb_any x hx W ht)
  unfold NvPost at HN
  clear ht h hxx hx
  go_enter Tryz.func47, Tryz.ntmps47
  go_wp2_with fail
  refine HN.out.mono ?_
  rintro e w1 ⟨rfl, hF⟩
  have c1 := (HS.out.same hF).blk.cell (i := 5) rfl
  simp only [List.getElem_toArray, List.getElem_cons_zero, List.getElem_cons_succ] at c1
  have c2 := (HS.out.same hF).blk.frozen 5
  have c3 := (HS.out.same hF).blk.lt
  have HF := hid hF
  clear hF hw hb
  go_wp2_with fail
  go_ret
  exact ⟨ret_int HE.out.symm, by
    rw [HR.out]
    exact ⟨(HS.out.same HF.out).blk.set 5 (.int .i64 (numV x).1), Nat.lt_of_lt_of_le (HS.out.same HF.out).wlt (Fr.setCell (S := fun k => k = lb) w1 ⟨lb, 5, none⟩ (.int .i64 (numV x).1) rfl).size, HS.out.ne, fun j y hy => (cell_keep (Fr.setCell (S := fun k => k = lb) w1 ⟨lb, 5, none⟩ (.int .i64 (numV x).1) rfl) (p := ⟨wb, j, none⟩) (HS.out.same HF.out).wlt (fun e => HS.out.ne e)).trans ((HS.out.same HF.out).wrd j y hy)⟩, (Fr.mono HF.out (fun _ h => h.elim)).trans (Fr.setCell (S := fun k => k = lb) w1 ⟨lb, 5, none⟩ (.int .i64 (numV x).1) rfl)⟩

set_option maxRecDepth 100000 in
set_option maxHeartbeats 4000000 in
theorem ln6_any (lb wb cap : Nat) (ws : List Bs) (r : Tw) (W : World) (ht : Tabz W) (hl : ws.length = 7) (hx : (ws.getD 6 []).length ≤ 1000000) (h : LnS W lb wb cap ws r) :
    Calls Tryz.prog 49 #[.pointer (some ⟨lb, 0, none⟩)] W (LnPost W lb wb cap ws r 6) := by
  have hw := h.wrd 6 _ (wrd_at hl (by omega))
  have hb := h.blk.cell (i := 0) rfl
  simp only [List.getElem_toArray, List.getElem_cons_zero] at hb
  have hlt := h.blk.lt
  have hwl := h.wlt
  have HS := hid h
  have HT := hid ht
  obtain ⟨x, hxx⟩ : ∃ x, ws.getD 6 [] = x := ⟨_, rfl⟩
  rw [hxx] at hw hx
  have HE := hid (show lnE ws 6 = 0 from rfl)
  have HR0 := hid (show setR ws 6 r = { r with cl := bs (clW x) } by rw [← hxx]; rfl)
  have c1 := h.blk.cell (i := 7) rfl
  simp only [List.getElem_toArray, List.getElem_cons_zero, List.getElem_cons_succ] at c1
  have c2 := h.blk.frozen 7
  have HF := hid (Fr.refl (fun _ => False) W)
  clear ht h hxx hx
  by_cases h45 : x = [45]
  · subst h45
    have HR := hid (show setR ws 6 r = { r with cl := ⟨#[]⟩ } from HR0.out)
    unfold bs at hw
    go_enter Tryz.func49, Tryz.ntmps49
    go_wp2_with fail
    go_ret
    exact ⟨ret_int HE.out.symm, by
      rw [HR.out]
      exact ⟨(HS.out.same HF.out).blk.set 7 (.string ⟨#[]⟩), Nat.lt_of_lt_of_le (HS.out.same HF.out).wlt (Fr.setCell (S := fun k => k = lb) W ⟨lb, 7, none⟩ (.string ⟨#[]⟩) rfl).size, HS.out.ne, fun j y hy => (cell_keep (Fr.setCell (S := fun k => k = lb) W ⟨lb, 7, none⟩ (.string ⟨#[]⟩) rfl) (p := ⟨wb, j, none⟩) (HS.out.same HF.out).wlt (fun e => HS.out.ne e)).trans ((HS.out.same HF.out).wrd j y hy)⟩, (Fr.mono HF.out (fun _ h => h.elim)).trans (Fr.setCell (S := fun k => k = lb) W ⟨lb, 7, none⟩ (.string ⟨#[]⟩) rfl)⟩
  · by_cases h0 : x = []
    · subst h0
      have HR := hid (show setR ws 6 r = { r with cl := ⟨#[32]⟩ } from HR0.out)
      unfold bs at hw
      go_enter Tryz.func49, Tryz.ntmps49
      go_wp2_with fail
      go_ret
      exact ⟨ret_int HE.out.symm, by
        rw [HR.out]
        exact ⟨(HS.out.same HF.out).blk.set 7 (.string ⟨#[32]⟩), Nat.lt_of_lt_of_le (HS.out.same HF.out).wlt (Fr.setCell (S := fun k => k = lb) W ⟨lb, 7, none⟩ (.string ⟨#[32]⟩) rfl).size, HS.out.ne, fun j y hy => (cell_keep (Fr.setCell (S := fun k => k = lb) W ⟨lb, 7, none⟩ (.string ⟨#[32]⟩) rfl) (p := ⟨wb, j, none⟩) (HS.out.same HF.out).wlt (fun e => HS.out.ne e)).trans ((HS.out.same HF.out).wrd j y hy)⟩, (Fr.mono HF.out (fun _ h => h.elim)).trans (Fr.setCell (S := fun k => k = lb) W ⟨lb, 7, none⟩ (.string ⟨#[32]⟩) rfl)⟩
    · have t1 := bsl_ne h45
      have t2 := bsl_ne h0
      have HR := hid (show setR ws 6 r = { r with cl := bs x } by rw [HR0.out]; unfold clW; rw [if_neg h45, if_neg h0])
      have e1 : (bs x).toList.isEmpty = false := by
        rw [ByteArray.toList_eq]
        cases x with
        | nil => exact absurd rfl h0
        | cons a b => rfl
      obtain ⟨S, hS⟩ : ∃ S, bs x = S := ⟨_, rfl⟩
      rw [hS] at hw t1 t2 e1 HR
      clear hS
      go_enter Tryz.func49, Tryz.ntmps49
      go_wp2_with fail
      go_ret
      exact ⟨ret_int HE.out.symm, by
        rw [HR.out]
        exact ⟨(HS.out.same HF.out).blk.set 7 (.string S), Nat.lt_of_lt_of_le (HS.out.same HF.out).wlt (Fr.setCell (S := fun k => k = lb) W ⟨lb, 7, none⟩ (.string S) rfl).size, HS.out.ne, fun j y hy => (cell_keep (Fr.setCell (S := fun k => k = lb) W ⟨lb, 7, none⟩ (.string S) rfl) (p := ⟨wb, j, none⟩) (HS.out.same HF.out).wlt (fun e => HS.out.ne e)).trans ((HS.out.same HF.out).wrd j y hy)⟩, (Fr.mono HF.out (fun _ h => h.elim)).trans (Fr.setCell (S := fun k => k = lb) W ⟨lb, 7, none⟩ (.string S) rfl)⟩

set_option maxRecDepth 100000 in
set_option maxHeartbeats 4000000 in
theorem ln0_any (lb wb cap : Nat) (ws : List Bs) (r : Tw) (W : World) (ht : Tabz W) (hl : ws.length = 7) (hx : (ws.getD 0 []).length ≤ 1000000) (h : LnS W lb wb cap ws r) :
    Calls Tryz.prog 43 #[.pointer (some ⟨lb, 0, none⟩)] W (LnPost W lb wb cap ws r 0) := by
  have hw := h.wrd 0 _ (wrd_at hl (by omega))
  have hb := h.blk.cell (i := 0) rfl
  simp only [List.getElem_toArray, List.getElem_cons_zero] at hb
  have hlt := h.blk.lt
  have hwl := h.wlt
  have HS := hid h
  have HT := hid ht
  obtain ⟨x, hxx⟩ : ∃ x, ws.getD 0 [] = x := ⟨_, rfl⟩
  rw [hxx] at hw hx
  have HE0 := hid (show lnE ws 0 = parE x by rw [← hxx]; rfl)
  have HR0 := hid (show setR ws 0 r = { r with par := parV x } by rw [← hxx]; rfl)
  have c1 := h.blk.cell (i := 1) rfl
  simp only [List.getElem_toArray, List.getElem_cons_zero, List.getElem_cons_succ] at c1
  have c2 := h.blk.frozen 1
  have HF := hid (Fr.refl (fun _ => False) W)
  by_cases h45 : x = [45]
  · subst h45
    have HR := hid (show setR ws 0 r = { r with par := -1 } from HR0.out)
    have HE := hid (show lnE ws 0 = 0 from HE0.out)
    unfold bs at hw
    clear ht h hxx hx
    go_enter Tryz.func43, Tryz.ntmps43
    go_wp2_with fail
    go_ret
    exact ⟨ret_int HE.out.symm, by
      rw [HR.out]
      exact ⟨(HS.out.same HF.out).blk.set 1 (.int .i64 (-1)), Nat.lt_of_lt_of_le (HS.out.same HF.out).wlt (Fr.setCell (S := fun k => k = lb) W ⟨lb, 1, none⟩ (.int .i64 (-1)) rfl).size, HS.out.ne, fun j y hy => (cell_keep (Fr.setCell (S := fun k => k = lb) W ⟨lb, 1, none⟩ (.int .i64 (-1)) rfl) (p := ⟨wb, j, none⟩) (HS.out.same HF.out).wlt (fun e => HS.out.ne e)).trans ((HS.out.same HF.out).wrd j y hy)⟩, (Fr.mono HF.out (fun _ h => h.elim)).trans (Fr.setCell (S := fun k => k = lb) W ⟨lb, 1, none⟩ (.int .i64 (-1)) rfl)⟩
  · have t1 := bsl_ne h45
    have HR := hid (show setR ws 0 r = { r with par := (numV x).1 } by rw [HR0.out]; unfold parV; rw [if_neg h45])
    have HE := hid (show lnE ws 0 = if (numV x).2 = 0 then (if (numV x).1 < 0 then 11 else 0) else (numV x).2 by rw [HE0.out]; unfold parE; rw [if_neg h45])
    have HFI := hid (fun W' (hW : Fr (fun _ => False) W W') => fill_any x hx lb 1 _ W' (ht.same hW) (fun W2 h2 => ⟨(h.blk.keep (hW.trans h2) (fun h => h)).cell (i := 1) rfl, (h.blk.keep (hW.trans h2) (fun h => h)).frozen 1, (h.blk.keep (hW.trans h2) (fun h => h)).lt⟩))
    have HSS := hid (show ∀ W', Fr (fun k => k = lb) W W' → W'.cell? ⟨wb, 0, none⟩ = some (.string (bs x)) from fun W' hW => (cell_keep hW (p := ⟨wb, 0, none⟩) hwl (fun e => h.ne e)).trans hw)
    obtain ⟨a, ha⟩ : ∃ a, (numV x).1 = a := ⟨_, rfl⟩
    obtain ⟨b, hbb⟩ : ∃ b, (numV x).2 = b := ⟨_, rfl⟩
    rw [ha, hbb] at HFI HE
    rw [ha] at HR
    clear ht h hxx hx HE0 HR0 ha hbb c1 c2
    go_enter Tryz.func43, Tryz.ntmps43
    go_upto_region 4 with fail
    go_region_held3 (fun W' => W'.cell? ⟨lb, 0, none⟩ = some (.slice (some ⟨wb, 0, none⟩) 7 cap) ∧ W'.cell? ⟨wb, 0, none⟩ = some (.string (bs x)))
      (first | exact ⟨hb, hw⟩ | exact ⟨HC2.out, HW2.out⟩)
      (first
        | (go_at_call 62; (with_reducible refine (HFI.out _ (by first | exact Fr.drew _ _ | exact Fr.refl _ _)).mono ?_); rintro e wb2 ⟨rfl, w1, hF1, rfl⟩; have HF1 := hid ((Fr.drew (fun _ => False) W).trans hF1); have HC2 := hid (((HS.out.blk.keep HF1.out (fun h => h)).set 1 (.int .i64 a)).cell (i := 0) rfl); have HW2 := hid (HSS.out _ ((HF1.out.mono (fun _ h => h.elim)).trans (Fr.setCell (S := fun k => k = lb) w1 ⟨lb, 1, none⟩ (.int .i64 a) rfl))); clear hF1))
    all_goals
      have hB2 := (HS.out.blk.keep HF1.out (fun h => h)).set 1 (.int .i64 a)
      obtain ⟨w2, hw2⟩ : ∃ w2, w2 = w1.setCell ⟨lb, 1, none⟩ (.int .i64 a) := ⟨_, rfl⟩
      have HW2 := hid hw2
      rw [← hw2] at hB2 ⊢
      have d1 := hB2.cell (i := 1) rfl
      simp only [List.setIfInBounds_toArray, List.set_cons_zero, List.set_cons_succ, List.getElem_toArray, List.getElem_cons_zero, List.getElem_cons_succ] at d1
      have l2 := hB2.lt
      clear hw2 hB2 hw hb hlt hwl
      have HEN := hid (show ∀ e, e = .returned (.int .i64 (lnE ws 0)) → LnPost W lb wb cap ws r 0 e w2 from fun e he => by
        rw [HW2.out]
        exact ⟨he, by
          rw [HR.out]
          exact ⟨(HS.out.same HF1.out).blk.set 1 (.int .i64 a), Nat.lt_of_lt_of_le (HS.out.same HF1.out).wlt (Fr.setCell (S := fun k => k = lb) w1 ⟨lb, 1, none⟩ (.int .i64 a) rfl).size, HS.out.ne, fun j y hy => (cell_keep (Fr.setCell (S := fun k => k = lb) w1 ⟨lb, 1, none⟩ (.int .i64 a) rfl) (p := ⟨wb, j, none⟩) (HS.out.same HF1.out).wlt (fun e => HS.out.ne e)).trans ((HS.out.same HF1.out).wrd j y hy)⟩, (Fr.mono HF1.out (fun _ h => h.elim)).trans (Fr.setCell (S := fun k => k = lb) w1 ⟨lb, 1, none⟩ (.int .i64 a) rfl)⟩
      )
      by_cases hb0 : b = 0
      · have t2 : (b != 0) = false := by simp [hb0]
        have HB := hid hb0
        clear hb0
        go_wp2_with fail
        refine (told_any _ _ _).mono ?_
        rintro e w3 ⟨rfl, rfl⟩
        go_wp2_with fail
        go_ret
        exact HEN.out _ (by
          rw [HE.out, if_pos HB.out]
          unfold tol
          by_cases hlt : a < 0
          · rw [if_pos hlt, decide_eq_true hlt]; rfl
          · rw [if_neg hlt, decide_eq_false hlt]; rfl)
      · have t2 : (b != 0) = true := by simpa using hb0
        have HB := hid hb0
        clear hb0
        go_wp2_with fail
        go_ret
        exact HEN.out _ (by rw [HE.out, if_neg HB.out]; rfl)

set_option maxRecDepth 100000 in
set_option maxHeartbeats 4000000 in
theorem ln3_any (lb wb cap : Nat) (ws : List Bs) (r : Tw) (W : World) (ht : Tabz W) (hl : ws.length = 7) (hx : (ws.getD 3 []).length ≤ 1000000) (h : LnS W lb wb cap ws r) :
    Calls Tryz.prog 46 #[.pointer (some ⟨lb, 0, none⟩)] W (LnPost W lb wb cap ws r 3) := by
  have hw := h.wrd 3 _ (wrd_at hl (by omega))
  have hb := h.blk.cell (i := 0) rfl
  simp only [List.getElem_toArray, List.getElem_cons_zero] at hb
  have hlt := h.blk.lt
  have hwl := h.wlt
  have HS := hid h
  have HT := hid ht
  obtain ⟨x, hxx⟩ : ∃ x, ws.getD 3 [] = x := ⟨_, rfl⟩
  rw [hxx] at hw hx
  have HE0 := hid (show lnE ws 3 = if (kindN x).isSome then 0 else 14 by rw [← hxx]; rfl)
  have HR0 := hid (show setR ws 3 r = { r with kind := match kindN x with | some k => (k : Int) | none => r.kind } by rw [← hxx]; rfl)
  have c1 := h.blk.cell (i := 4) rfl
  simp only [List.getElem_toArray, List.getElem_cons_zero, List.getElem_cons_succ] at c1
  have c2 := h.blk.frozen 4
  have HF := hid (Fr.refl (fun _ => False) W)
  have k0 := ht.tabs.kds 0 (by omega)
  obtain ⟨K0, hK0⟩ : ∃ K, bs (kindT.getD 0 []) = K := ⟨_, rfl⟩
  rw [hK0] at k0
  have HK0 := hid (show kindT.getD 0 [] = x ∨ (K0.toList == (bs x).toList) = false by
    by_cases h : kindT.getD 0 [] = x
    · exact .inl h
    · right
      rw [← hK0, beq_eq_false_iff_ne, ByteArray.toList_eq, ByteArray.toList_eq]
      exact h)
  have HL0 := hid (show kindT.getD 0 [] = x → K0 = bs x from fun e => by rw [← hK0, e])
  have k1 := ht.tabs.kds 1 (by omega)
  obtain ⟨K1, hK1⟩ : ∃ K, bs (kindT.getD 1 []) = K := ⟨_, rfl⟩
  rw [hK1] at k1
  have HK1 := hid (show kindT.getD 1 [] = x ∨ (K1.toList == (bs x).toList) = false by
    by_cases h : kindT.getD 1 [] = x
    · exact .inl h
    · right
      rw [← hK1, beq_eq_false_iff_ne, ByteArray.toList_eq, ByteArray.toList_eq]
      exact h)
  have HL1 := hid (show kindT.getD 1 [] = x → K1 = bs x from fun e => by rw [← hK1, e])
  have k2 := ht.tabs.kds 2 (by omega)
  obtain ⟨K2, hK2⟩ : ∃ K, bs (kindT.getD 2 []) = K := ⟨_, rfl⟩
  rw [hK2] at k2
  have HK2 := hid (show kindT.getD 2 [] = x ∨ (K2.toList == (bs x).toList) = false by
    by_cases h : kindT.getD 2 [] = x
    · exact .inl h
    · right
      rw [← hK2, beq_eq_false_iff_ne, ByteArray.toList_eq, ByteArray.toList_eq]
      exact h)
  have HL2 := hid (show kindT.getD 2 [] = x → K2 = bs x from fun e => by rw [← hK2, e])
  have k3 := ht.tabs.kds 3 (by omega)
  obtain ⟨K3, hK3⟩ : ∃ K, bs (kindT.getD 3 []) = K := ⟨_, rfl⟩
  rw [hK3] at k3
  have HK3 := hid (show kindT.getD 3 [] = x ∨ (K3.toList == (bs x).toList) = false by
    by_cases h : kindT.getD 3 [] = x
    · exact .inl h
    · right
      rw [← hK3, beq_eq_false_iff_ne, ByteArray.toList_eq, ByteArray.toList_eq]
      exact h)
  have HL3 := hid (show kindT.getD 3 [] = x → K3 = bs x from fun e => by rw [← hK3, e])
  have k4 := ht.tabs.kds 4 (by omega)
  obtain ⟨K4, hK4⟩ : ∃ K, bs (kindT.getD 4 []) = K := ⟨_, rfl⟩
  rw [hK4] at k4
  have HK4 := hid (show kindT.getD 4 [] = x ∨ (K4.toList == (bs x).toList) = false by
    by_cases h : kindT.getD 4 [] = x
    · exact .inl h
    · right
      rw [← hK4, beq_eq_false_iff_ne, ByteArray.toList_eq, ByteArray.toList_eq]
      exact h)
  have HL4 := hid (show kindT.getD 4 [] = x → K4 = bs x from fun e => by rw [← hK4, e])
  obtain ⟨S, hS⟩ : ∃ S, bs x = S := ⟨_, rfl⟩
  rw [hS] at hw HK0 HK1 HK2 HK3 HK4 HL0 HL1 HL2 HL3 HL4
  have tS : (S.toList == S.toList) = true := by simp
  clear ht h hxx hx hS hK0 hK1 hK2 hK3 hK4
  go_enter Tryz.func46, Tryz.ntmps46
  go_wp2_with fail
  clear k0 k1 k2 k3 k4
  go_loopg [6] 6 (fun d kv wr => ∃ (j : Nat) (z : Int), j ≤ 5 ∧ d = 6 - j ∧ kv = .int .i64 z ∧ z = (j : Int) ∧ (∀ i, i < j → kindT.getD i [] ≠ x) ∧ W = wr)
  case atStart => exact ⟨0, 0, by omega, by omega, rfl, rfl, fun i h => by omega, rfl⟩
  case round =>
    obtain ⟨j, z, hj, hd, rfl, hz, hall, rfl⟩ := hrel
    have HA := hid hall
    have HD := hid hd
    clear hall hd
    have hj6 : j = 0 ∨ j = 1 ∨ j = 2 ∨ j = 3 ∨ j = 4 ∨ j = 5 := by omega
    rcases hj6 with rfl | rfl | rfl | rfl | rfl | rfl
    · obtain rfl : z = 0 := by omega
      clear hz
      have ixk := ix5_0 K0 K1 K2 K3 K4
      rcases HK0.out with he | he
      · obtain rfl := HL0.out he
        have HKN := hid (show kindN x = some 0 by rw [← he]; exact kindN_kind 0 (by omega))
        have HR := hid (show setR ws 3 r = { r with kind := 0 } by rw [HR0.out, HKN.out]; rfl)
        clear he
        go_wp2_with fail
        go_ret
        exact ⟨ret_int (by rw [HE0.out, HKN.out]; rfl), by
          rw [HR.out]
          exact ⟨(HS.out.same HF.out).blk.set 4 (.int .i64 0), Nat.lt_of_lt_of_le (HS.out.same HF.out).wlt (Fr.setCell (S := fun k => k = lb) W ⟨lb, 4, none⟩ (.int .i64 0) rfl).size, HS.out.ne, fun j y hy => (cell_keep (Fr.setCell (S := fun k => k = lb) W ⟨lb, 4, none⟩ (.int .i64 0) rfl) (p := ⟨wb, j, none⟩) (HS.out.same HF.out).wlt (fun e => HS.out.ne e)).trans ((HS.out.same HF.out).wrd j y hy)⟩, (Fr.mono HF.out (fun _ h => h.elim)).trans (Fr.setCell (S := fun k => k = lb) W ⟨lb, 4, none⟩ (.int .i64 0) rfl)⟩
      · have HN := hid he
        go_wp2_with fail
        go_roundg (6 - 1)
        case rel => exact ⟨1, 1, by omega, rfl, rfl, rfl, fun i hi => by
          rcases Nat.lt_or_ge i 0 with h | h
          · exact HA.out i h
          · obtain rfl : i = 0 := by omega
            intro hc
            have := HN.out
            rw [HL0.out hc] at this
            simp at this, rfl⟩
        case measure => have := HD.out; omega
    · obtain rfl : z = 1 := by omega
      clear hz
      have ixk := ix5_1 K0 K1 K2 K3 K4
      rcases HK1.out with he | he
      · obtain rfl := HL1.out he
        have HKN := hid (show kindN x = some 1 by rw [← he]; exact kindN_kind 1 (by omega))
        have HR := hid (show setR ws 3 r = { r with kind := 1 } by rw [HR0.out, HKN.out]; rfl)
        clear he
        go_wp2_with fail
        go_ret
        exact ⟨ret_int (by rw [HE0.out, HKN.out]; rfl), by
          rw [HR.out]
          exact ⟨(HS.out.same HF.out).blk.set 4 (.int .i64 1), Nat.lt_of_lt_of_le (HS.out.same HF.out).wlt (Fr.setCell (S := fun k => k = lb) W ⟨lb, 4, none⟩ (.int .i64 1) rfl).size, HS.out.ne, fun j y hy => (cell_keep (Fr.setCell (S := fun k => k = lb) W ⟨lb, 4, none⟩ (.int .i64 1) rfl) (p := ⟨wb, j, none⟩) (HS.out.same HF.out).wlt (fun e => HS.out.ne e)).trans ((HS.out.same HF.out).wrd j y hy)⟩, (Fr.mono HF.out (fun _ h => h.elim)).trans (Fr.setCell (S := fun k => k = lb) W ⟨lb, 4, none⟩ (.int .i64 1) rfl)⟩
      · have HN := hid he
        go_wp2_with fail
        go_roundg (6 - 2)
        case rel => exact ⟨2, 2, by omega, rfl, rfl, rfl, fun i hi => by
          rcases Nat.lt_or_ge i 1 with h | h
          · exact HA.out i h
          · obtain rfl : i = 1 := by omega
            intro hc
            have := HN.out
            rw [HL1.out hc] at this
            simp at this, rfl⟩
        case measure => have := HD.out; omega
    · obtain rfl : z = 2 := by omega
      clear hz
      have ixk := ix5_2 K0 K1 K2 K3 K4
      rcases HK2.out with he | he
      · obtain rfl := HL2.out he
        have HKN := hid (show kindN x = some 2 by rw [← he]; exact kindN_kind 2 (by omega))
        have HR := hid (show setR ws 3 r = { r with kind := 2 } by rw [HR0.out, HKN.out]; rfl)
        clear he
        go_wp2_with fail
        go_ret
        exact ⟨ret_int (by rw [HE0.out, HKN.out]; rfl), by
          rw [HR.out]
          exact ⟨(HS.out.same HF.out).blk.set 4 (.int .i64 2), Nat.lt_of_lt_of_le (HS.out.same HF.out).wlt (Fr.setCell (S := fun k => k = lb) W ⟨lb, 4, none⟩ (.int .i64 2) rfl).size, HS.out.ne, fun j y hy => (cell_keep (Fr.setCell (S := fun k => k = lb) W ⟨lb, 4, none⟩ (.int .i64 2) rfl) (p := ⟨wb, j, none⟩) (HS.out.same HF.out).wlt (fun e => HS.out.ne e)).trans ((HS.out.same HF.out).wrd j y hy)⟩, (Fr.mono HF.out (fun _ h => h.elim)).trans (Fr.setCell (S := fun k => k = lb) W ⟨lb, 4, none⟩ (.int .i64 2) rfl)⟩
      · have HN := hid he
        go_wp2_with fail
        go_roundg (6 - 3)
        case rel => exact ⟨3, 3, by omega, rfl, rfl, rfl, fun i hi => by
          rcases Nat.lt_or_ge i 2 with h | h
          · exact HA.out i h
          · obtain rfl : i = 2 := by omega
            intro hc
            have := HN.out
            rw [HL2.out hc] at this
            simp at this, rfl⟩
        case measure => have := HD.out; omega
    · obtain rfl : z = 3 := by omega
      clear hz
      have ixk := ix5_3 K0 K1 K2 K3 K4
      rcases HK3.out with he | he
      · obtain rfl := HL3.out he
        have HKN := hid (show kindN x = some 3 by rw [← he]; exact kindN_kind 3 (by omega))
        have HR := hid (show setR ws 3 r = { r with kind := 3 } by rw [HR0.out, HKN.out]; rfl)
        clear he
        go_wp2_with fail
        go_ret
        exact ⟨ret_int (by rw [HE0.out, HKN.out]; rfl), by
          rw [HR.out]
          exact ⟨(HS.out.same HF.out).blk.set 4 (.int .i64 3), Nat.lt_of_lt_of_le (HS.out.same HF.out).wlt (Fr.setCell (S := fun k => k = lb) W ⟨lb, 4, none⟩ (.int .i64 3) rfl).size, HS.out.ne, fun j y hy => (cell_keep (Fr.setCell (S := fun k => k = lb) W ⟨lb, 4, none⟩ (.int .i64 3) rfl) (p := ⟨wb, j, none⟩) (HS.out.same HF.out).wlt (fun e => HS.out.ne e)).trans ((HS.out.same HF.out).wrd j y hy)⟩, (Fr.mono HF.out (fun _ h => h.elim)).trans (Fr.setCell (S := fun k => k = lb) W ⟨lb, 4, none⟩ (.int .i64 3) rfl)⟩
      · have HN := hid he
        go_wp2_with fail
        go_roundg (6 - 4)
        case rel => exact ⟨4, 4, by omega, rfl, rfl, rfl, fun i hi => by
          rcases Nat.lt_or_ge i 3 with h | h
          · exact HA.out i h
          · obtain rfl : i = 3 := by omega
            intro hc
            have := HN.out
            rw [HL3.out hc] at this
            simp at this, rfl⟩
        case measure => have := HD.out; omega
    · obtain rfl : z = 4 := by omega
      clear hz
      have ixk := ix5_4 K0 K1 K2 K3 K4
      rcases HK4.out with he | he
      · obtain rfl := HL4.out he
        have HKN := hid (show kindN x = some 4 by rw [← he]; exact kindN_kind 4 (by omega))
        have HR := hid (show setR ws 3 r = { r with kind := 4 } by rw [HR0.out, HKN.out]; rfl)
        clear he
        go_wp2_with fail
        go_ret
        exact ⟨ret_int (by rw [HE0.out, HKN.out]; rfl), by
          rw [HR.out]
          exact ⟨(HS.out.same HF.out).blk.set 4 (.int .i64 4), Nat.lt_of_lt_of_le (HS.out.same HF.out).wlt (Fr.setCell (S := fun k => k = lb) W ⟨lb, 4, none⟩ (.int .i64 4) rfl).size, HS.out.ne, fun j y hy => (cell_keep (Fr.setCell (S := fun k => k = lb) W ⟨lb, 4, none⟩ (.int .i64 4) rfl) (p := ⟨wb, j, none⟩) (HS.out.same HF.out).wlt (fun e => HS.out.ne e)).trans ((HS.out.same HF.out).wrd j y hy)⟩, (Fr.mono HF.out (fun _ h => h.elim)).trans (Fr.setCell (S := fun k => k = lb) W ⟨lb, 4, none⟩ (.int .i64 4) rfl)⟩
      · have HN := hid he
        go_wp2_with fail
        go_roundg (6 - 5)
        case rel => exact ⟨5, 5, by omega, rfl, rfl, rfl, fun i hi => by
          rcases Nat.lt_or_ge i 4 with h | h
          · exact HA.out i h
          · obtain rfl : i = 4 := by omega
            intro hc
            have := HN.out
            rw [HL4.out hc] at this
            simp at this, rfl⟩
        case measure => have := HD.out; omega
    · obtain rfl : z = 5 := by omega
      clear hz
      have HKN := hid (show kindN x = none by
        unfold kindN
        rw [List.findIdx?_eq_none_iff]
        intro y hy
        obtain ⟨i, hi, rfl⟩ := List.getElem_of_mem hy
        have h5 : kindT.length = 5 := rfl
        have := HA.out i (by omega)
        rw [List.getD_eq_getElem?_getD, List.getElem?_eq_getElem hi] at this
        simpa using this)
      go_wp2_with fail
      go_ret
      exact ⟨ret_int (by rw [HE0.out, HKN.out]; rfl), by rw [HR0.out, HKN.out]; exact HS.out, Fr.refl _ _⟩

end Go.Proofs.YtnlbellbeepkaaaGreatDoor
