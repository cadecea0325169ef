/-
  Stage 7: read, the walk.
-/
import Derived.Test.YtnlbellbeepkaaaGreatDoorRead
import Derived.Test.YtnlbellbeepkaaaGreatDoorText
namespace Go.Proofs.YtnlbellbeepkaaaGreatDoor
open Go.RowKit
set_option linter.unusedVariables false
set_option linter.unusedSimpArgs false

def RdPost (x : Bs) (w : World) (e : Ending) (w' : World) : Prop := ∃ (r : Tw) (e0 : Int), e = .returned (.tuple #[.agg (rowC r), .int .i64 e0]) ∧ (e0 = 0 → rdG x ∧ r = rdR x) ∧ (rdG x → e0 = 0) ∧ Fr (fun _ => False) w w'

theorem wrds_le {t : Bs} {j : Nat} : ((wrds t).getD j []).length ≤ t.length ∨ (wrds t).length ≠ 7 := by
  by_cases h : (wrds t).length = 7
  · left
    obtain ⟨h1, h2⟩ := wrds_glue h
    rcases Nat.lt_or_ge j 7 with hj | hj
    · have hm : (wrds t).getD j [] ∈ wrds t := by
        rw [List.getD_eq_getElem?_getD, List.getElem?_eq_getElem (by omega)]
        simp
      have : ∀ ws : List Bs, ∀ w ∈ ws, w.length ≤ (glue 32 ws).length := by
        intro ws
        induction ws with
        | nil => intro w hw; simp at hw
        | cons x r ih =>
          intro w hw
          cases r with
          | nil => simp at hw; subst hw; exact Nat.le_refl _
          | cons y r =>
            rw [glue_cons, List.length_append, List.length_cons]
            rcases List.mem_cons.1 hw with rfl | hw
            · omega
            · have := ih w hw
              omega
      have := this _ _ hm
      rw [h2] at this
      exact this
    · rw [List.getD_eq_getElem?_getD, List.getElem?_eq_none (by omega)]
      simp
  · exact .inr h

def zr : Tw := ⟨0, 0, 0, 0, 0, 0, ⟨#[]⟩⟩

/-- A row put into a block of seven cells. -/
theorem store_row {w : World} {b : Nat} {old : Array Value} (hB : Blk w b old) (ho : old.size = 7) (r : Tw) : (storeCells ⟨b, 0, none⟩ (rowC r).toList 0).run Tryz.prog w = .ok () (w.setRow b (rowC r)) := by
  obtain ⟨t, hB⟩ := hB
  exact run_storeCells_from (P := Tryz.prog) b t (rowC r).toList 0 old w hB (by simp [rowC, ho]) (fun v hv => by
    simp [rowC] at hv
    rcases hv with rfl | rfl | rfl | rfl | rfl | rfl | rfl <;> rfl)
theorem load_row {w : World} {lb wb cap : Nat} {ws : List Bs} {r : Tw} (h : LnS w lb wb cap ws r) {M : Nat} (hM : M = 7) : (loadCellsFrom ⟨lb, 1, none⟩ 0 M #[]).run Tryz.prog w = .ok (rowC r) w := by
  subst hM
  have h2 := run_loadCells_list (P := Tryz.prog) w ⟨lb, 1, none⟩ (rowC r).toList (fun j v hv => by
    rw [add_none]
    refine h.blk.cell ?_
    have hj := (List.getElem?_eq_some_iff.1 hv).1
    simp [rowC] at hj
    match j, hj with
    | 0, _ => exact hv
    | 1, _ => exact hv
    | 2, _ => exact hv
    | 3, _ => exact hv
    | 4, _ => exact hv
    | 5, _ => exact hv
    | 6, _ => exact hv)
  have hs : (rowC r).size = 7 := rfl
  simpa [loadCells, hs] using h2

theorem load_at {w : World} {b : Nat} {c : Array Value} (hB : Blk w b c) {M : Nat} (hs : c.size = M) : (loadCellsFrom ⟨b, 0, none⟩ 0 M #[]).run Tryz.prog w = .ok c w := by
  subst hs
  have h := run_loadCells_list (P := Tryz.prog) w ⟨b, 0, none⟩ c.toList (fun j v hv => by
    rw [add_none, Nat.zero_add]
    exact hB.cell (by simpa using hv))
  simpa [loadCells] using h

set_option maxRecDepth 100000 in
set_option maxHeartbeats 4000000 in
theorem read_any (x : Bs) (hx : x.length ≤ 131072) (W : World) (ht : Tabz W) : Calls Tryz.prog 26 #[.string (bs x)] W (RdPost x W) := by
  obtain ⟨t, b, hcs, htl, hbt, hbf⟩ : ∃ (t : Bs) (b : Bool), (∀ W', Calls Tryz.prog 41 #[.string (bs x), .string ⟨#[10]⟩] W' fun e w' => e = .returned (.tuple #[.string (bs t), .bool b]) ∧ w' = W') ∧ t.length ≤ 131072 ∧ (b = true → x = t ++ [10]) ∧ (b = false → ¬ ∃ t, x = t ++ [10]) := by
    have hC := fun W' => Tryz.strings_CutSuffix (bs x) ⟨#[10]⟩ W' (by rw [bs_size]; omega)
    rw [show (bs x).data.toList = x from rfl, show (⟨#[10]⟩ : ByteArray).data.toList = [10] from rfl] at hC
    rcases suffix_cases x with ⟨t, hxt, hs1, hs2⟩ | ⟨hs1, hs2, hno⟩
    · rw [hs1, hs2] at hC
      exact ⟨t, true, hC, by rw [hxt] at hx; simp at hx; omega, fun _ => hxt, (fun h => by cases h)⟩
    · rw [hs1, hs2] at hC
      exact ⟨x, false, hC, hx, (fun h => by cases h), fun _ => hno⟩
  have HCS := hid hcs
  have HSP := hid (fun W' (h : Fr (fun _ => False) W W') => split_ok t (by omega) W' (ht.same h))
  rw [show bs [32] = ⟨#[32]⟩ from rfl] at HSP
  obtain ⟨n, hn⟩ : ∃ n, (wrds t).length = n := ⟨_, rfl⟩
  have HN := hid hn
  have HT := hid ht
  have HBT := hid hbt
  have HBF := hid hbf
  have HTL := hid htl
  obtain ⟨S, hS⟩ : ∃ S, bs t = S := ⟨_, rfl⟩
  obtain ⟨X, hX⟩ : ∃ S, bs x = S := ⟨_, rfl⟩
  rw [hS, hX] at HCS
  rw [hS] at HSP
  rw [hX]
  clear hcs hn ht hbt hbf htl hS hX
  obtain ⟨W1, hW1⟩ : ∃ W1, W1 = W.alloc (.cells #[.int .i64 0, .int .i64 0, .int .i64 0, .int .i64 0, .int .i64 0, .int .i64 0, .string ⟨#[]⟩] 34) := ⟨_, rfl⟩
  have HF1 := hid (show Fr (fun _ => False) W W1 by rw [hW1]; exact Fr.alloc _ _ _)
  have HB1 := hid (show Blk W1 W.heap.size (rowC zr) by rw [hW1]; exact Blk.new _ _ _)
  have HZ1 : Hid (W1.heap.size = W.heap.size + 1) := hid (by rw [hW1]; simp)
  go_enter Tryz.func26, Tryz.ntmps26
  go_upto_region 1 with fail
  rw [← hW1]
  clear hW1
  go_wp2_with fail
  refine (HCS.out W1).mono ?_
  rintro e w0 ⟨rfl, rfl⟩
  go_wp2_with fail
  refine (HSP.out _ HF1.out).mono ?_
  rintro e w2 ⟨cap, o, rfl, hw2, hcells⟩
  rw [HN.out]
  have HF2 := hid (show Fr (fun _ => False) w0 w2 by rw [hw2]; exact Fr.alloc _ _ _)
  have HZ2 : Hid (w2.heap.size = w0.heap.size + 1) := hid (by rw [hw2]; simp)
  rw [← hw2] at hcells
  have HWC := hid hcells
  clear hw2 hcells
  go_upto_region 3 with fail
  obtain ⟨W3, hW3⟩ : ∃ W3, W3 = w2.alloc (.cells #[.slice (some ⟨w0.heap.size, 0, none⟩) n cap, .int .i64 0, .int .i64 0, .int .i64 0, .int .i64 0, .int .i64 0, .int .i64 0, .string ⟨#[]⟩] 80) := ⟨_, rfl⟩
  have hB3 : Blk W3 w2.heap.size #[.slice (some ⟨w0.heap.size, 0, none⟩) n cap, .int .i64 0, .int .i64 0, .int .i64 0, .int .i64 0, .int .i64 0, .int .i64 0, .string ⟨#[]⟩] := by rw [hW3]; exact Blk.new _ _ _
  have hF3 : Fr (fun _ => False) w2 W3 := by rw [hW3]; exact Fr.alloc _ _ _
  have HZ3 : Hid (W3.heap.size = w2.heap.size + 1) := hid (by rw [hW3]; simp)
  rw [← hW3]
  clear hW3
  have HFA := hid ((HF1.out.trans HF2.out).trans hF3)
  have HRB := hid ((HB1.out.keep HF2.out (fun h => h)).keep hF3 (fun h => h))
  have HGO := hid (show n = 7 → LnS W3 w2.heap.size w0.heap.size cap (wrds t) (rowAt (wrds t) 0) from fun h7 => by
    subst h7
    have h2 := HZ2.out
    have h3 := HZ3.out
    exact ⟨hB3, by omega, by omega, fun j y hy => (cell_keep hF3 (p := ⟨w0.heap.size, j, none⟩) (by show w0.heap.size < w2.heap.size; omega) (fun h => h)).trans (HWC.out j y hy)⟩)
  have c0 := hB3.cell (i := 0) rfl
  simp only [List.getElem_toArray, List.getElem_cons_zero] at c0
  have l3 := hB3.lt
  obtain ⟨N, hN, hN1⟩ := sizeRow
  have HNN := hid hN
  have hN0 : ¬ N = 0 := by omega
  obtain ⟨C, hlit⟩ : ∃ C : Array Value, #[.int .i64 0, .int .i64 0, .int .i64 0, .int .i64 0, .int .i64 0, .int .i64 0, .string ⟨#[]⟩] = C := ⟨_, rfl⟩
  have HC := hid (show rowC zr = C from hlit)
  have hsz : C.size = N := by rw [← hlit, hN]; rfl
  clear hN hB3 hF3
  have hbad : (b = false ∨ n ≠ 7) → ¬ rdG x := fun hh hg => by
    obtain ⟨t', hx', hg'⟩ := hg
    rcases hh with rfl | h7
    · exact HBF.out (by simp) ⟨t', hx'⟩
    · cases b with
      | false => exact HBF.out (by simp) ⟨t', hx'⟩
      | true =>
        have h1 := HBT.out (by simp)
        rw [h1] at hx'
        have h2 := (List.append_inj' hx' rfl).1
        rw [← h2] at hg'
        exact h7 (by rw [← HN.out]; exact hg'.len)
  have HBAD := hid hbad
  clear hbad
  have hEND : ∀ (W5 : World) (r : Tw) (e0 : Int), Blk W5 W.heap.size (rowC r) → Fr (fun _ => False) W W5 → (e0 = 0 → rdG x ∧ r = rdR x) → (rdG x → e0 = 0) → RdPost x W (.returned (.tuple #[.agg (rowC r), .int .i64 e0])) W5 := fun W5 r e0 _ h1 h2 h3 => ⟨r, e0, rfl, h2, h3, h1⟩
  have HEND := hid hEND
  clear hEND
  by_cases hgood : b = true ∧ n = 7
  · obtain ⟨rfl, rfl⟩ := hgood
    have HL3 := hid (HGO.out rfl)
    have HFS := hid (fun (g : Nat) (W' : World) (hF : Fr (fun _ => False) W3 W') (hg : g ≠ w2.heap.size) (hB : Blk W' g #[.func (.func 43) #[.pointer (some ⟨w2.heap.size, 0, none⟩)] #[], .func (.func 44) #[.pointer (some ⟨w2.heap.size, 0, none⟩)] #[], .func (.func 45) #[.pointer (some ⟨w2.heap.size, 0, none⟩)] #[], .func (.func 46) #[.pointer (some ⟨w2.heap.size, 0, none⟩)] #[], .func (.func 47) #[.pointer (some ⟨w2.heap.size, 0, none⟩)] #[], .func (.func 48) #[.pointer (some ⟨w2.heap.size, 0, none⟩)] #[], .func (.func 49) #[.pointer (some ⟨w2.heap.size, 0, none⟩)] #[]]) => firsts_any (wrds t) w2.heap.size w0.heap.size cap g W W' HT.out (HFA.out.trans hF) HN.out (fun j hj => by
      rcases wrds_le (t := t) (j := j) with h | h
      · have := HTL.out; omega
      · exact absurd HN.out h) (by have := HZ2.out; have := HZ1.out; omega) hg hB (HL3.out.same hF))
    clear hlit
    go_upto_region 5 with fail
    go_wp2_with fail
    refine (HFS.out W3.heap.size _ (Fr.alloc _ _ _) (by have := HZ3.out; omega) (Blk.new _ _ _)).mono ?_
    rintro e w6 ⟨x', rfl, r, hLn, hF6, h1, h2⟩
    have hrb6 := (HRB.out.alloc _).keep hF6 (fun h => by have := HZ1.out; have := HZ2.out; omega)
    have HFW := hid ((HFA.out.trans (Fr.alloc _ _ _)).since hF6 (fun i hi hl => by have := HZ1.out; have := HZ2.out; show False; omega))
    have hld0 := load_row hLn HNN.out
    have l6 := hLn.blk.lt
    have r0 := hLn.blk.cell (i := 0) rfl
    have r1 := hLn.blk.cell (i := 1) rfl
    simp only [List.getElem_toArray, List.getElem_cons_zero, List.getElem_cons_succ] at r0 r1
    have hst := store_row hrb6 rfl r
    obtain ⟨C2, hC2⟩ : ∃ C2, rowC r = C2 := ⟨_, rfl⟩
    rw [hC2] at hld0 hst
    have hsz2 : C2.size = N := by rw [← hC2, HNN.out]; rfl
    have hld := load_at (setRow_blk hrb6 C2) hsz2
    have HFR := hid (HFW.out.over (setRow_fr w6 W.heap.size C2 rfl) (Nat.le_refl _))
    have HB5 := hid (setRow_blk hrb6 C2)
    have HC2 := hid hC2
    have H1 := hid (show x' = 0 → rdG x ∧ r = rdR x from fun hx0 => by
      obtain ⟨g1, g2⟩ := h1 hx0
      have hxt := HBT.out (by simp)
      refine ⟨⟨t, hxt, HN.out, g1⟩, ?_⟩
      unfold rdR
      rw [hxt, List.dropLast_concat, g2, rowAt_all g1])
    have H2 := hid (show rdG x → x' = 0 from fun ⟨t', hx', hg'⟩ => by
      have hxt := HBT.out (by simp)
      rw [hxt] at hx'
      have h3 := (List.append_inj' hx' rfl).1
      rw [← h3] at hg'
      exact h2 hg'.ok)
    clear hLn hF6 h1 h2 hrb6 hC2 c0 l3
    go_wp2_with fail
    refine bodyPost_ret (v := .tuple #[.agg C2, .int .i64 x']) ?_ rfl ?_
    · (simp [results, Tryz.results26, go_sem, *])
    ·
      rw [← HC2.out]
      exact HEND.out _ r x' (by rw [HC2.out]; exact HB5.out) (by rw [HC2.out]; exact HFR.out) H1.out H2.out
  · have hb2 : b = false ∨ (b = true ∧ ((n : Int) != 7) = true) := by
      cases b with
      | false => exact .inl rfl
      | true => right; exact ⟨rfl, by rw [bne_iff_ne]; intro h; exact hgood ⟨rfl, by omega⟩⟩
    have hb3 : b = false ∨ n ≠ 7 := by
      cases b with
      | false => exact .inl rfl
      | true => right; intro h; exact hgood ⟨rfl, h⟩
    have HNB := hid (HBAD.out hb3)
    have hst := store_row HRB.out rfl zr
    rw [HC.out] at hst
    have hld := load_at (setRow_blk HRB.out C) hsz
    have HFR := hid (HFA.out.over (setRow_fr W3 W.heap.size C rfl) (Nat.le_refl _))
    have HB5 := hid (setRow_blk HRB.out C)
    clear hb3 hgood
    rcases hb2 with rfl | ⟨rfl, hb2⟩
    all_goals
      go_wp2_with fail
      refine bodyPost_ret (v := .tuple #[.agg C, .int .i64 11]) ?_ rfl ?_
      · (simp [results, Tryz.results26, go_sem, *])
      ·
        rw [← HC.out]
        exact HEND.out _ zr 11 (by rw [HC.out]; exact HB5.out) (by rw [HC.out]; exact HFR.out) (fun h => by cases h) (fun h => absurd h HNB.out)

end Go.Proofs.YtnlbellbeepkaaaGreatDoor
