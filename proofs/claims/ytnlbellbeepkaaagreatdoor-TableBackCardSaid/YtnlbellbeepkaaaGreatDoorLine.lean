/-
  Stage 7: a line's words, one by one.
-/
import Derived.Test.YtnlbellbeepkaaaGreatDoorTabz
namespace Go.Proofs.YtnlbellbeepkaaaGreatDoor
open Go.RowKit
set_option linter.unusedVariables false
set_option linter.unusedSimpArgs false

/-- A line, as far as it is read. -/
structure LnS (W : World) (lb wb cap : Nat) (ws : List Bs) (r : Tw) : Prop where
  blk : Blk W lb #[.slice (some ⟨wb, 0, none⟩) 7 cap, .int .i64 r.par, .int .i64 r.in_, .int .i64 r.fn, .int .i64 r.kind, .int .i64 r.v, .int .i64 r.st, .string r.cl]
  wlt : wb < W.heap.size
  ne : wb ≠ lb
  wrd : ∀ (j : Nat) x, ws[j]? = some x → W.cell? ⟨wb, j, none⟩ = some (.string (bs x))

theorem LnS.keep {W W' : World} {lb wb cap : Nat} {ws : List Bs} {r : Tw} (h : LnS W lb wb cap ws r) {S : Nat → Prop} (f : Fr S W W') (h1 : ¬ S lb) (h2 : ¬ S wb) : LnS W' lb wb cap ws r :=
  ⟨h.blk.keep f h1, Nat.lt_of_lt_of_le h.wlt f.size, h.ne, fun j x hx => (cell_keep f (p := ⟨wb, j, none⟩) h.wlt h2).trans (h.wrd j x hx)⟩
theorem LnS.same {W W' : World} {lb wb cap : Nat} {ws : List Bs} {r : Tw} (h : LnS W lb wb cap ws r) (f : Fr (fun _ => False) W W') : LnS W' lb wb cap ws r := h.keep f (fun h => h) (fun h => h)

/-- What step j puts where it belongs. -/
def setR (ws : List Bs) : Nat → Tw → Tw
  | 0, r => { r with par := parV (ws.getD 0 []) }
  | 1, r => { r with in_ := (numV (ws.getD 1 [])).1 }
  | 2, r => { r with fn := (numV (ws.getD 2 [])).1 }
  | 3, r => { r with kind := match kindN (ws.getD 3 []) with | some k => (k : Int) | none => r.kind }
  | 4, r => { r with v := (numV (ws.getD 4 [])).1 }
  | 5, r => { r with st := (numV (ws.getD 5 [])).1 }
  | _, r => { r with cl := bs (clW (ws.getD 6 [])) }

def LnPost (W : World) (lb wb cap : Nat) (ws : List Bs) (r : Tw) (j : Nat) (e : Ending) (w' : World) : Prop :=
  e = .returned (.int .i64 (lnE ws j)) ∧ LnS w' lb wb cap ws (setR ws j r) ∧ Fr (fun k => k = lb) W w'

theorem wrd_at {ws : List Bs} {j : Nat} (hl : ws.length = 7) (hj : j < 7) : ws[j]? = some (ws.getD j []) := by
  rw [List.getD_eq_getElem?_getD, List.getElem?_eq_getElem (by omega)]
  rfl

set_option maxRecDepth 100000 in
set_option maxHeartbeats 2000000 in
theorem fill_any (x : Bs) (hx : x.length ≤ 1000000) (lb k : Nat) (v0 : Value) (W : World) (ht : Tabz W) (hc : ∀ W', Fr (fun _ => False) W W' → W'.cell? ⟨lb, k, none⟩ = some v0 ∧ W'.frozen? ⟨lb, k, none⟩ = false ∧ lb < W'.heap.size) :
    Calls Tryz.prog 62 #[.pointer (some ⟨lb, k, none⟩), .string (bs x)] W fun e w' => e = .returned (.int .i64 (numV x).2) ∧ ∃ w1, Fr (fun _ => False) W w1 ∧ w' = w1.setCell ⟨lb, k, none⟩ (.int .i64 (numV x).1) := by
  have HN := hid (numb_any x hx W ht)
  have HC := hid hc
  obtain ⟨a, ha⟩ : ∃ a, (numV x).1 = a := ⟨_, rfl⟩
  obtain ⟨b, hb⟩ : ∃ b, (numV x).2 = b := ⟨_, rfl⟩
  unfold NvPost at HN
  rw [ha, hb] at HN
  rw [ha, hb]
  clear ha hb hc
  go_enter Tryz.func62, Tryz.ntmps62
  go_wp2_with fail
  refine HN.out.mono ?_
  rintro e w1 ⟨rfl, hF⟩
  obtain ⟨c1, c2, c3⟩ := HC.out _ hF
  go_wp2_with fail
  go_ret
  exact ⟨rfl, _, hF, rfl⟩

set_option maxRecDepth 100000 in
set_option maxHeartbeats 4000000 in
theorem ln1_any (lb wb cap : Nat) (ws : List Bs) (r : Tw) (W : World) (ht : Tabz W) (hT : (2 : Nat) ≤ 7) (hl : ws.length = 7) (hx : (ws.getD 1 []).length ≤ 1000000) (h : LnS W lb wb cap ws r) :
    Calls Tryz.prog 44 #[.pointer (some ⟨lb, 0, none⟩)] W (LnPost W lb wb cap ws r 1) := by
  have hw := h.wrd 1 _ (wrd_at hl (by omega))
  have hb := h.blk.cell (i := 0) rfl
  simp only [List.getElem_toArray, List.getElem_cons_zero] at hb
  have hlt := h.blk.lt
  have hwl := h.wlt
  obtain ⟨x, hxx⟩ : ∃ x, ws.getD 1 [] = x := ⟨_, rfl⟩
  rw [hxx] at hw hx
  have HE := hid (show lnE ws 1 = (numV x).2 by rw [← hxx]; rfl)
  have HR := hid (show setR ws 1 r = { r with in_ := (numV x).1 } by rw [← hxx]; rfl)
  have HFI := hid (fun W' (hW : Fr (fun _ => False) W W') => fill_any x hx lb 2 _ W' (ht.same hW) (fun W2 h2 => ⟨(h.blk.keep (hW.trans h2) (fun h => h)).cell (i := 2) rfl, (h.blk.keep (hW.trans h2) (fun h => h)).frozen 2, (h.blk.keep (hW.trans h2) (fun h => h)).lt⟩))
  have HS := hid h
  have HSS := hid (show ∀ W', Fr (fun k => k = lb) W W' → W'.cell? ⟨wb, 1, none⟩ = some (.string (bs x)) from fun W' hW => (cell_keep hW (p := ⟨wb, 1, none⟩) hwl (fun e => h.ne e)).trans hw)
  have HNE := hid h.ne
  clear ht h hxx hx
  go_enter Tryz.func44, Tryz.ntmps44
  go_upto_region 1 with fail
  go_region_held3 (fun W' => W'.cell? ⟨lb, 0, none⟩ = some (.slice (some ⟨wb, 0, none⟩) 7 cap) ∧ W'.cell? ⟨wb, 1, none⟩ = some (.string (bs x)))
    (first | exact ⟨hb, hw⟩ | exact ⟨HC2.out, HW2.out⟩)
    (first
      | (go_at_call 62; (with_reducible refine (HFI.out _ (by first | exact Fr.drew _ _ | exact Fr.refl _ _)).mono ?_); rintro e wb2 ⟨rfl, w1, hF1, rfl⟩; have HF1 := hid ((Fr.drew (fun _ => False) W).trans hF1); have HC2 := hid (((HS.out.blk.keep HF1.out (fun h => h)).set 2 (.int .i64 (numV x).1)).cell (i := 0) rfl); have HW2 := hid (HSS.out _ ((HF1.out.mono (fun _ h => h.elim)).trans (Fr.setCell (S := fun k => k = lb) w1 ⟨lb, 2, none⟩ (.int .i64 (numV x).1) rfl))); clear hF1))
  all_goals
    go_wp2_with fail
    go_ret
    have hs := HS.out.same HF1.out
    have hfs := Fr.setCell (S := fun k => k = lb) w1 ⟨lb, 2, none⟩ (.int .i64 (numV x).1) rfl
    refine ⟨ret_int HE.out.symm, ?_, (HF1.out.mono (fun _ h => h.elim)).trans hfs⟩
    rw [HR.out]
    exact ⟨hs.blk.set 2 (.int .i64 (numV x).1), Nat.lt_of_lt_of_le hs.wlt hfs.size, hs.ne, fun j y hy => (cell_keep hfs (p := ⟨wb, j, none⟩) hs.wlt (fun e => hs.ne e)).trans (hs.wrd j y hy)⟩

set_option maxRecDepth 100000 in
set_option maxHeartbeats 4000000 in
theorem ln2_any (lb wb cap : Nat) (ws : List Bs) (r : Tw) (W : World) (ht : Tabz W) (hT : (2 : Nat) ≤ 7) (hl : ws.length = 7) (hx : (ws.getD 2 []).length ≤ 1000000) (h : LnS W lb wb cap ws r) :
    Calls Tryz.prog 45 #[.pointer (some ⟨lb, 0, none⟩)] W (LnPost W lb wb cap ws r 2) := by
  have hw := h.wrd 2 _ (wrd_at hl (by omega))
  have hb := h.blk.cell (i := 0) rfl
  simp only [List.getElem_toArray, List.getElem_cons_zero] at hb
  have hlt := h.blk.lt
  have hwl := h.wlt
  obtain ⟨x, hxx⟩ : ∃ x, ws.getD 2 [] = x := ⟨_, rfl⟩
  rw [hxx] at hw hx
  have HE := hid (show lnE ws 2 = (numV x).2 by rw [← hxx]; rfl)
  have HR := hid (show setR ws 2 r = { r with fn := (numV x).1 } by rw [← hxx]; rfl)
  have HFI := hid (fun W' (hW : Fr (fun _ => False) W W') => fill_any x hx lb 3 _ W' (ht.same hW) (fun W2 h2 => ⟨(h.blk.keep (hW.trans h2) (fun h => h)).cell (i := 3) rfl, (h.blk.keep (hW.trans h2) (fun h => h)).frozen 3, (h.blk.keep (hW.trans h2) (fun h => h)).lt⟩))
  have HS := hid h
  have HSS := hid (show ∀ W', Fr (fun k => k = lb) W W' → W'.cell? ⟨wb, 2, none⟩ = some (.string (bs x)) from fun W' hW => (cell_keep hW (p := ⟨wb, 2, none⟩) hwl (fun e => h.ne e)).trans hw)
  have HNE := hid h.ne
  clear ht h hxx hx
  go_enter Tryz.func45, Tryz.ntmps45
  go_upto_region 1 with fail
  go_region_held3 (fun W' => W'.cell? ⟨lb, 0, none⟩ = some (.slice (some ⟨wb, 0, none⟩) 7 cap) ∧ W'.cell? ⟨wb, 2, none⟩ = some (.string (bs x)))
    (first | exact ⟨hb, hw⟩ | exact ⟨HC2.out, HW2.out⟩)
    (first
      | (go_at_call 62; (with_reducible refine (HFI.out _ (by first | exact Fr.drew _ _ | exact Fr.refl _ _)).mono ?_); rintro e wb2 ⟨rfl, w1, hF1, rfl⟩; have HF1 := hid ((Fr.drew (fun _ => False) W).trans hF1); have HC2 := hid (((HS.out.blk.keep HF1.out (fun h => h)).set 3 (.int .i64 (numV x).1)).cell (i := 0) rfl); have HW2 := hid (HSS.out _ ((HF1.out.mono (fun _ h => h.elim)).trans (Fr.setCell (S := fun k => k = lb) w1 ⟨lb, 3, none⟩ (.int .i64 (numV x).1) rfl))); clear hF1))
  all_goals
    go_wp2_with fail
    go_ret
    have hs := HS.out.same HF1.out
    have hfs := Fr.setCell (S := fun k => k = lb) w1 ⟨lb, 3, none⟩ (.int .i64 (numV x).1) rfl
    refine ⟨ret_int HE.out.symm, ?_, (HF1.out.mono (fun _ h => h.elim)).trans hfs⟩
    rw [HR.out]
    exact ⟨hs.blk.set 3 (.int .i64 (numV x).1), Nat.lt_of_lt_of_le hs.wlt hfs.size, hs.ne, fun j y hy => (cell_keep hfs (p := ⟨wb, j, none⟩) hs.wlt (fun e => hs.ne e)).trans (hs.wrd j y hy)⟩

set_option maxRecDepth 100000 in
set_option maxHeartbeats 4000000 in
theorem ln5_any (lb wb cap : Nat) (ws : List Bs) (r : Tw) (W : World) (ht : Tabz W) (hT : (2 : Nat) ≤ 7) (hl : ws.length = 7) (hx : (ws.getD 5 []).length ≤ 1000000) (h : LnS W lb wb cap ws r) :
    Calls Tryz.prog 48 #[.pointer (some ⟨lb, 0, none⟩)] W (LnPost W lb wb cap ws r 5) := by
  have hw := h.wrd 5 _ (wrd_at hl (by omega))
  have hb := h.blk.cell (i := 0) rfl
  simp only [List.getElem_toArray, List.getElem_cons_zero] at hb
  have hlt := h.blk.lt
  have hwl := h.wlt
  obtain ⟨x, hxx⟩ : ∃ x, ws.getD 5 [] = x := ⟨_, rfl⟩
  rw [hxx] at hw hx
  have HE := hid (show lnE ws 5 = (numV x).2 by rw [← hxx]; rfl)
  have HR := hid (show setR ws 5 r = { r with st := (numV x).1 } by rw [← hxx]; rfl)
  have HFI := hid (fun W' (hW : Fr (fun _ => False) W W') => fill_any x hx lb 6 _ W' (ht.same hW) (fun W2 h2 => ⟨(h.blk.keep (hW.trans h2) (fun h => h)).cell (i := 6) rfl, (h.blk.keep (hW.trans h2) (fun h => h)).frozen 6, (h.blk.keep (hW.trans h2) (fun h => h)).lt⟩))
  have HS := hid h
  have HSS := hid (show ∀ W', Fr (fun k => k = lb) W W' → W'.cell? ⟨wb, 5, none⟩ = some (.string (bs x)) from fun W' hW => (cell_keep hW (p := ⟨wb, 5, none⟩) hwl (fun e => h.ne e)).trans hw)
  have HNE := hid h.ne
  clear ht h hxx hx
  go_enter Tryz.func48, Tryz.ntmps48
  go_upto_region 1 with fail
  go_region_held3 (fun W' => W'.cell? ⟨lb, 0, none⟩ = some (.slice (some ⟨wb, 0, none⟩) 7 cap) ∧ W'.cell? ⟨wb, 5, none⟩ = some (.string (bs x)))
    (first | exact ⟨hb, hw⟩ | exact ⟨HC2.out, HW2.out⟩)
    (first
      | (go_at_call 62; (with_reducible refine (HFI.out _ (by first | exact Fr.drew _ _ | exact Fr.refl _ _)).mono ?_); rintro e wb2 ⟨rfl, w1, hF1, rfl⟩; have HF1 := hid ((Fr.drew (fun _ => False) W).trans hF1); have HC2 := hid (((HS.out.blk.keep HF1.out (fun h => h)).set 6 (.int .i64 (numV x).1)).cell (i := 0) rfl); have HW2 := hid (HSS.out _ ((HF1.out.mono (fun _ h => h.elim)).trans (Fr.setCell (S := fun k => k = lb) w1 ⟨lb, 6, none⟩ (.int .i64 (numV x).1) rfl))); clear hF1))
  all_goals
    go_wp2_with fail
    go_ret
    have hs := HS.out.same HF1.out
    have hfs := Fr.setCell (S := fun k => k = lb) w1 ⟨lb, 6, none⟩ (.int .i64 (numV x).1) rfl
    refine ⟨ret_int HE.out.symm, ?_, (HF1.out.mono (fun _ h => h.elim)).trans hfs⟩
    rw [HR.out]
    exact ⟨hs.blk.set 6 (.int .i64 (numV x).1), Nat.lt_of_lt_of_le hs.wlt hfs.size, hs.ne, fun j y hy => (cell_keep hfs (p := ⟨wb, j, none⟩) hs.wlt (fun e => hs.ne e)).trans (hs.wrd j y hy)⟩

end Go.Proofs.YtnlbellbeepkaaaGreatDoor
