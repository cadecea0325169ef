/-
  The reference's Read.
-/
import Derived.Test.YtepbnneggpcbcaaDoorRefValue
import Derived.Test.YtepbnneggpcbcaaDoorRefLine
namespace Go.Proofs.YtepbnneggpcbcaaDoor
open Go.RowKit

def opTo (x : Bs) (j : Nat) : Int := match nameIx x with
  | none => -1
  | some o => if o < j then (o : Int) else -1

theorem opTo_yes {x : Bs} {j : Nat} (hj : j < 17) (h : names.getD j [] = x) : opTo x (j + 1) = (j : Int) := by
  have := nameIx_some j hj
  rw [h] at this
  unfold opTo
  rw [this]
  exact if_pos (by omega)

theorem opTo_no {x : Bs} {j : Nat} (hj : j < 17) (h : names.getD j [] ≠ x) : opTo x (j + 1) = opTo x j := by
  unfold opTo
  cases hn : nameIx x with
  | none => rfl
  | some o =>
    have : j ≠ o := fun e => h ((names_is hn hj).2 e)
    by_cases hoj : o < j
    · simp only
      rw [if_pos hoj, if_pos (by omega)]
    · simp only
      rw [if_neg hoj, if_neg (by omega)]

theorem opTo_none {x : Bs} (h : nameIx x = none) (j : Nat) : opTo x j = -1 := by unfold opTo; rw [h]
theorem opTo_some {x : Bs} {o : Nat} (h : nameIx x = some o) : opTo x 17 = (o : Int) := by
  unfold opTo
  rw [h]
  exact if_pos (nameIx_lt h).1

def RnRel (W : World) (x : Bs) (d : Nat) (s5 s7 : Value) (wr : World) : Prop :=
  ∃ j : Nat, j ≤ 17 ∧ d = 17 - j ∧ s7 = .int .i64 j ∧ s5 = .int .i64 (opTo x j) ∧ Fr (fun _ => False) W wr

def fcn (o k : Nat) : Nat := (fldsTo o k).length + 1

theorem fcn_no {o k : Nat} (h : ak o k = 0) : fcn o (k + 1) = fcn o k := by unfold fcn; rw [fldsTo_no h]
theorem fcn_yes {o k : Nat} (h : ak o k ≠ 0) : fcn o (k + 1) = fcn o k + 1 := by unfold fcn; rw [fldsTo_yes h]; simp
theorem fcn_le (o k : Nat) (h : k ≤ 4) : fcn o k ≤ 5 := by
  unfold fcn fldsTo
  have := List.length_filter_le (fun k => ak o k != 0) (List.range k)
  rw [List.length_range] at this
  omega
theorem fcn_all (o : Nat) : fcn o 4 = (flds o).length + 1 := rfl

theorem fcn_at : ∀ o, o < 17 → ∀ k, k < 4 → ak o k ≠ 0 → (flds o)[fcn o k - 1]? = some k := by decide

def RfRel (o : Nat) (d : Nat) (s9 s10 : Value) : Prop := ∃ k : Nat, k ≤ 4 ∧ d = 4 - k ∧ s10 = .int .i64 k ∧ s9 = .int .i64 (fcn o k : Nat)

def avV (i : Ins) : Array Value := #[.int .i64 i.a, .int .i64 i.b, .int .i64 i.c, .int .i64 i.n]

theorem avV_set (i : Ins) (k : Nat) (hk : k < 4) (x : Int) : (avV i).setIfInBounds k (.int .i64 x) = avV (i.set k x) := by
  have hm : k = 0 ∨ k = 1 ∨ k = 2 ∨ k = 3 := by omega
  rcases hm with rfl | rfl | rfl | rfl <;> rfl

def RqRel (W : World) (xb o : Nat) (r : List Bs) (d : Nat) (s12 s13 : Value) (wr : World) : Prop :=
  ∃ (k : Nat) (acc : Ins), k ≤ 4 ∧ d = 4 - k ∧ s13 = .int .i64 k ∧ s12 = .int .i64 (fcn o k : Nat) ∧ Blk wr xb (avV acc) ∧ acc.op = o ∧ (∀ j, j < 4 → bad o j (acc.fld j) = false) ∧
    rdOps o (flds o) r ⟨o, 0, 0, 0, 0⟩ = rdOps o ((flds o).drop (fcn o k - 1)) (r.drop (fcn o k - 1)) acc ∧ Fr (fun b => b = xb) W wr

theorem avV_list (i : Ins) (k : Nat) (hk : k < 4) (x : Int) : (([.int .i64 i.a, .int .i64 i.b, .int .i64 i.c, .int .i64 i.n] : List Value).set k (.int .i64 x)).toArray = avV (i.set k x) := by
  have hm : k = 0 ∨ k = 1 ∨ k = 2 ∨ k = 3 := by omega
  rcases hm with rfl | rfl | rfl | rfl <;> rfl

theorem operand_any (kind : Nat) (h1 : 1 ≤ kind) (h4 : kind ≤ 4) (ch : Int) (hch : ch = ((lt kind).toNat : Int)) (l : Bs) (hl : l.length ≤ 1000000) (w : World) :
    Calls Tryd.prog 33 #[.string (bs l), .int .u8 ch] w (OrPost w (opd kind l)) := by
  by_cases h : kind = 4
  · subst h
    rw [hch]
    exact operand_num l hl w
  · exact operand_mark kind h1 (by omega) ch hch l hl w

theorem rd_none {l : Bs} (h : nameIx ((cut 32 l).headD []) = none) : rd l = (Ins.zero, 14) := by unfold rd; rw [h]
theorem rd_count {l : Bs} {o : Nat} (h : nameIx ((cut 32 l).headD []) = some o) (hc : (cut 32 l).length ≠ 1 + (flds o).length) : rd l = (Ins.zero, 11) := by
  unfold rd
  rw [h]
  show (if _ then _ else _ : Ins × Int) = _
  rw [if_pos hc]
theorem rd_ops {l : Bs} {o : Nat} (h : nameIx ((cut 32 l).headD []) = some o) (hc : (cut 32 l).length = 1 + (flds o).length) : rd l = rdOps o (flds o) (cut 32 l).tail ⟨o, 0, 0, 0, 0⟩ := by
  unfold rd
  rw [h]
  show (if _ then _ else _ : Ins × Int) = _
  rw [if_neg (by omega)]

theorem cut_short (l : Bs) : ∀ y ∈ cut 32 l, y.length ≤ l.length := by
  induction l with
  | nil => intro y hy; simp [cut] at hy; subst hy; simp
  | cons b t ih =>
    obtain ⟨h, r, e⟩ := cut_form 32 t
    rw [e] at ih
    intro y hy
    unfold cut at hy
    rw [e] at hy
    split at hy
    · rcases List.mem_cons.1 hy with rfl | hy
      · simp
      · exact Nat.le_succ_of_le (ih y hy)
    · simp only [List.headD_cons, List.tail_cons] at hy
      rcases List.mem_cons.1 hy with rfl | hy
      · rw [List.length_cons, List.length_cons]
        have := ih h (by simp)
        omega
      · exact Nat.le_succ_of_le (ih y (by simp [hy]))

set_option maxRecDepth 100000 in
set_option maxHeartbeats 16000000 in
theorem rread_any (l : Bs) (hl : l.length ≤ 200000) (w : World) : Calls Tryd.prog 15 #[.string (bs l)] w (RdPost w (rd l)) := by
  obtain ⟨x, r, hx⟩ := cut_form 32 l
  obtain ⟨N, hN⟩ : ∃ N, (cut 32 l).length = N := ⟨_, rfl⟩
  have hNl := cut_len_le 32 l
  have hN1 := cut_pos 32 l
  rw [hN] at hNl hN1
  have hN2 : N ≤ 1000000 := by omega
  have hA := Fr.alloc (fun _ => False) w (.cells #[.int .i64 0, .int .i64 0, .int .i64 0, .int .i64 0, .int .i64 0] 23)
  have hR := Blk.new w #[.int .i64 0, .int .i64 0, .int .i64 0, .int .i64 0, .int .i64 0] 23
  have HS := hid (cut_any 32 32 rfl l (by omega))
  have HWL := hid (show ∀ y ∈ r, y.length ≤ 1000000 from fun y hy => Nat.le_trans (cut_short l y (by rw [hx]; simp [hy])) (by omega))
  have HNI := hid (show r.length + 1 = N by rw [← hN, hx]; simp)
  have HHD := hid (show (cut 32 l).headD [] = x by rw [hx]; rfl)
  have HTL := hid (show (cut 32 l).tail = r by rw [hx]; rfl)
  have HN := hid hN
  have HX := hid hx
  clear hl hNl hN hx
  go_enter Tryd.func15, Tryd.ntmps15
  go_wp2_with fail
  refine (HS.out _).mono ?_
  rintro e w1 ⟨A, cap, rfl, how, hF1⟩
  rw [HN.out] at how ⊢
  obtain ⟨g, rfl, hg1, hg2, _, hgc⟩ := OwnR.cell how (by omega)
  have c0 : w1.cell? ⟨g, 0, none⟩ = some (.string (bs x)) := hgc 0 _ (by rw [HX.out]; rfl)
  have HGC := hid (show ∀ j y, r[j]? = some y → w1.cell? ⟨g, j + 1, none⟩ = some (.string (bs y)) from fun j y hy => hgc (j + 1) _ (by
    rw [HX.out]
    simp [strs, hy]))
  have hR1 := hR.keep hF1 (fun h => h)
  have HR1 := hid hR1
  have HC0 := hid c0
  have hs1 := hF1.size
  simp only [size_alloc] at hs1 hg1
  clear how hgc hR hR1 c0
  go_wp2_with fail
  refine (names_any _).mono ?_
  rintro e w2 ⟨rfl, rfl⟩
  obtain ⟨W2, hW2⟩ : ∃ W2, W2 = w1.alloc (.cells (strs names).toArray 9) := ⟨_, rfl⟩
  have hF2 : Fr (fun _ => False) w1 W2 := by rw [hW2]; exact Fr.alloc _ _ _
  have hNB : Blk W2 w1.heap.size (strs names).toArray := by rw [hW2]; exact Blk.new _ _ _
  have HNB := hid hNB
  have HR2 := hid (HR1.out.keep hF2 (fun h => h))
  have hC2 : W2.cell? ⟨g, 0, none⟩ = some (.string (bs x)) := (cell_keep hF2 (p := ⟨g, 0, none⟩) hg2 (fun h => h)).trans HC0.out
  have HC2 := hid hC2
  have hs2 := hF2.size
  have hg3 : g < W2.heap.size := by omega
  have hFB2 : Fr (fun k => w.heap.size ≤ k) w W2 := (((hA.trans hF1).trans hF2).mono (fun _ h => h.elim))
  have hnl := hNB.lt
  rw [← hW2]
  clear hW2 hNB hC2
  go_wp2_with fail
  go_loopg [5, 7] 17 (fun d s5 s7 wr => RnRel W2 x d s5 s7 wr)
  case atStart => exact ⟨0, by omega, rfl, rfl, by unfold opTo; cases nameIx x <;> rfl, Fr.refl _ _⟩
  case round =>
    obtain ⟨j, hj, hd, rfl, rfl, hF⟩ := hrel
    have HD := hid hd
    clear hd
    have hsr := hF.size
    have hg4 : g < wr.heap.size := by omega
    have hnl4 : w1.heap.size < wr.heap.size := by omega
    have c1 : wr.cell? ⟨g, 0, none⟩ = some (.string (bs x)) := (cell_keep hF (p := ⟨g, 0, none⟩) hg3 (fun h => h)).trans HC2.out
    by_cases hlt : j < 17
    · have c2 : wr.cell? ⟨w1.heap.size, j, none⟩ = some (.string (bs (names.getD j []))) := (HNB.out.keep hF (fun h => h)).cell (by
        unfold strs
        rw [List.getElem?_toArray, List.getElem?_map, List.getD_eq_getElem?_getD, List.getElem?_eq_getElem (show j < names.length from hlt)]
        rfl)
      have z0 : (0 : Int) ≤ (j : Int) := by omega
      have z1 : (j : Int) < 17 := by omega
      have z2 : (0 : Int) < (N : Int) := by omega
      by_cases hnm : names.getD j [] = x
      · have HO := hid (opTo_yes hlt hnm)
        have t := bs_yes hnm
        obtain ⟨y, hy⟩ : ∃ y, bs (names.getD j []) = y := ⟨_, rfl⟩
        obtain ⟨y2, hy2⟩ : ∃ y2, bs x = y2 := ⟨_, rfl⟩
        rw [hy] at c2 t
        rw [hy2] at c1 t
        clear hnm hy hy2
        go_wp2_with fail
        go_quiet (fail)
        go_wp2_with fail
        go_roundg (17 - (j + 1))
        case rel => exact ⟨j + 1, by omega, rfl, by go_num, by rw [HO.out], hF.trans (Fr.drewN _ _ _)⟩
        case measure => have := HD.out; omega
      · have HO := hid (opTo_no hlt hnm)
        have t := bs_no hnm
        obtain ⟨y, hy⟩ : ∃ y, bs (names.getD j []) = y := ⟨_, rfl⟩
        obtain ⟨y2, hy2⟩ : ∃ y2, bs x = y2 := ⟨_, rfl⟩
        rw [hy] at c2 t
        rw [hy2] at c1 t
        clear hnm hy hy2
        go_wp2_with fail
        go_quiet (fail)
        go_wp2_with fail
        go_roundg (17 - (j + 1))
        case rel => exact ⟨j + 1, by omega, rfl, by go_num, by rw [HO.out], hF.trans (Fr.drewN _ _ _)⟩
        case measure => have := HD.out; omega
    · obtain rfl : j = 17 := by omega
      have hFB := hFB2.trans (hF.mono (fun _ h => h.elim))
      have HRx := hid (HR2.out.keep hF (fun h => h))
      clear c1
      cases hn : nameIx x with
      | none =>
        have HQ := hid (rd_none (by rw [HHD.out]; exact hn))
        rw [opTo_none hn]
        clear hn
        have p0 : wr.cell? ⟨w.heap.size, 0, none⟩ = some (.int .i64 0) := HRx.out.cell rfl
        have p1 : wr.cell? ⟨w.heap.size, 1, none⟩ = some (.int .i64 0) := HRx.out.cell rfl
        have p2 : wr.cell? ⟨w.heap.size, 2, none⟩ = some (.int .i64 0) := HRx.out.cell rfl
        have p3 : wr.cell? ⟨w.heap.size, 3, none⟩ = some (.int .i64 0) := HRx.out.cell rfl
        have p4 : wr.cell? ⟨w.heap.size, 4, none⟩ = some (.int .i64 0) := HRx.out.cell rfl
        have f0 := HRx.out.frozen 0
        have f1 := HRx.out.frozen 1
        have f2 := HRx.out.frozen 2
        have f3 := HRx.out.frozen 3
        have f4 := HRx.out.frozen 4
        have pl := HRx.out.lt
        go_wp2_with fail
        have hR9 := HRx.out.set5 (.int .i64 0) (.int .i64 0) (.int .i64 0) (.int .i64 0) (.int .i64 0)
        have hF9 : Fr (fun k => k = w.heap.size) wr _ := fr_set5 (fun k => k = w.heap.size) wr w.heap.size rfl (.int .i64 0) (.int .i64 0) (.int .i64 0) (.int .i64 0) (.int .i64 0)
        obtain ⟨w9, hw9⟩ : ∃ w9, w9 = (((((wr.setCell ⟨w.heap.size, 0, none⟩ (.int .i64 0)).setCell ⟨w.heap.size, 1, none⟩ (.int .i64 0)).setCell ⟨w.heap.size, 2, none⟩ (.int .i64 0)).setCell ⟨w.heap.size, 3, none⟩ (.int .i64 0)).setCell ⟨w.heap.size, 4, none⟩ (.int .i64 0)) := ⟨_, rfl⟩
        rw [← hw9] at hR9 hF9 ⊢
        clear hw9 p0 p1 p2 p3 p4
        have p0 : w9.cell? ⟨w.heap.size, 0, none⟩ = some (.int .i64 0) := hR9.cell rfl
        have p1 : w9.cell? ⟨w.heap.size, 1, none⟩ = some (.int .i64 0) := hR9.cell rfl
        have p2 : w9.cell? ⟨w.heap.size, 2, none⟩ = some (.int .i64 0) := hR9.cell rfl
        have p3 : w9.cell? ⟨w.heap.size, 3, none⟩ = some (.int .i64 0) := hR9.cell rfl
        have p4 : w9.cell? ⟨w.heap.size, 4, none⟩ = some (.int .i64 0) := hR9.cell rfl
        refine bodyPost_ret (v := .tuple #[.agg #[.int .i64 0, .int .i64 0, .int .i64 0, .int .i64 0, .int .i64 0], .int .i64 14]) ?hv rfl ?hp
        case hv => (simp [results, Tryd.results15, go_sem, p0, p1, p2, p3, p4]; try rfl)
        case hp => exact ⟨by rw [HQ.out]; rfl, ((hFB).trans (hF9.mono (fun k hk => by show w.heap.size ≤ k; omega))).all⟩
      | some o =>
        rw [opTo_some hn]
        have ho : o < 17 := (nameIx_lt hn).1
        have HNX := hid hn
        clear hn
        have z3 : (0 : Int) ≤ (o : Int) := by omega
        have z4 : (o : Int) < 17 := by omega
        have HFM := hid (forms_any (o : Int) z3 z4)
        rw [show ((o : Int)).toNat = o by omega] at HFM
        obtain ⟨S, hS⟩ : ∃ S, bs (fm o) = S := ⟨_, rfl⟩
        have hS4 : S.size = 4 := by rw [← hS, bs_size]; exact fm_len o ho
        have HSK := hid (show ∀ k (h : k < S.size), S[k] = lt (ak o k) from fun k h => by
          subst hS
          have h2 := fm_at o ho k (by omega)
          have h3 : (bs (fm o))[k] = (fm o)[k]'(by rw [bs_size] at h; exact h) := rfl
          rw [h3]
          rw [List.getElem?_eq_getElem (by rw [bs_size] at h; exact h)] at h2
          exact Option.some.inj h2)
        rw [hS] at HFM
        clear hS
        go_wp2_with fail
        refine (HFM.out wr).mono ?_
        rintro e w3 ⟨rfl, rfl⟩
        go_wp2_with fail
        go_loopg [9, 10] 4 (fun d s9 s10 wx => RfRel o d s9 s10 ∧ wx = wr)
        case atStart => exact ⟨⟨0, by omega, rfl, rfl, rfl⟩, rfl⟩
        case round =>
          obtain ⟨⟨k, hk, hd, rfl, rfl⟩, rfl⟩ := hrel
          have HD2 := hid hd
          clear hd
          by_cases hlt : k < 4
          · have hks : k < S.size := by omega
            have hv := HSK.out k hks
            have hq5 := fcn_le o k hk
            by_cases hA0 : ak o k = 0
            · have t1 : S[k].toNat = 32 := by rw [hv, hA0]; rfl
              have HQ := hid (fcn_no hA0)
              generalize fcn o k = q at hq5 HQ
              clear hv hA0
              go_wp2_with fail
              go_roundg (4 - (k + 1))
              case rel => exact ⟨⟨k + 1, by omega, rfl, by go_num, by rw [HQ.out]⟩, rfl⟩
              case measure => have := HD2.out; omega
            · have t1 : S[k].toNat ≠ 32 := by
                rw [hv]
                have h5 := (kinds_fit o ho k hlt).1
                intro h
                by_cases h4 : ak o k = 4
                · rw [h4] at h
                  exact absurd h (by decide)
                · exact (lt_mk (ak o k) (Nat.pos_of_ne_zero hA0) (by omega)).2.1 (UInt8.toNat_inj.1 (by rw [h]; rfl))
              have t4 : ((S[k].toNat : Int) != 32) = true := by simp; omega
              have HQ := hid (fcn_yes hA0)
              generalize fcn o k = q at hq5 HQ
              clear hv hA0
              go_wp2_with fail
              go_roundg (4 - (k + 1))
              case rel => exact ⟨⟨k + 1, by omega, rfl, by go_num, by rw [HQ.out]; go_num⟩, rfl⟩
              case measure => have := HD2.out; omega
          · obtain rfl : k = 4 := by omega
            rw [fcn_all o]
            obtain ⟨m, hm⟩ : ∃ m, (flds o).length = m := ⟨_, rfl⟩
            have hm3 : m ≤ 3 := by rw [← hm]; exact (show ∀ op, op < 17 → (flds op).length ≤ 3 by decide) o ho
            have HM := hid hm
            rw [hm]
            clear hm
            by_cases hc : N = 1 + m
            · have HQ := hid (rd_ops (by rw [HHD.out]; exact HNX.out) (by rw [HN.out, HM.out]; exact hc))
              rw [HTL.out] at HQ
              have hrl : r.length = m := by have := HNI.out; omega
              have HRL := hid hrl
              have t1 : ((N : Int) != ((m + 1 : Nat) : Int)) = false := by simp; omega
              have t2 : ((N : Int) != (m : Int) + 1) = false := by simp; omega
              have hmN : m < N := by omega
              clear hc hrl
              obtain ⟨wo, rfl⟩ : ∃ wo, wo = wr := ⟨_, rfl⟩
              go_wp2_with fail
              obtain ⟨W4, hW4⟩ : ∃ W4, W4 = wo.alloc (.cells #[.int .i64 0, .int .i64 0, .int .i64 0, .int .i64 0] 46) := ⟨_, rfl⟩
              have hF4 : Fr (fun _ => False) wo W4 := by rw [hW4]; exact Fr.alloc _ _ _
              have h11 : Blk W4 wo.heap.size (avV ⟨o, 0, 0, 0, 0⟩) := by rw [hW4]; exact Blk.new _ _ _
              have HR4 := hid (HRx.out.keep hF4 (fun h => h))
              have hFB4 := hFB.trans (hF4.mono (fun _ h => h.elim))
              have hs4 : W4.heap.size = wo.heap.size + 1 := by rw [hW4]; simp
              have HS4 := hid hs4
              have hs3 := hF4.size
              have HC4 := hid (show ∀ j y, r[j]? = some y → W4.cell? ⟨g, j + 1, none⟩ = some (.string (bs y)) from fun j y hy =>
                (cell_keep (hF2.trans (hF.trans hF4)) (p := ⟨g, j + 1, none⟩) hg2 (fun h => h)).trans (HGC.out j y hy))
              rw [← hW4]
              clear hW4 hs4 t1 t2
              go_loopg [12, 13] 4 (fun d s12 s13 wy => RqRel W4 wo.heap.size o r d s12 s13 wy)
              case atStart => exact ⟨0, ⟨o, 0, 0, 0, 0⟩, by omega, by omega, rfl, rfl, h11, rfl, zero_good o ho, rfl, Fr.refl _ _⟩
              case round =>
                obtain ⟨k, acc, hk, hd, rfl, rfl, hb11, hop, hgood, hrest, hF5⟩ := hrel
                have HD3 := hid hd
                have HB11 := hid hb11
                have HOP := hid hop
                have HGD := hid hgood
                have HRE := hid hrest
                clear hd hb11 hop hgood hrest h11
                have hs5 := hF5.size
                have hg6 : g < wr.heap.size := by omega
                have hFB5 := hFB4.trans (hF5.mono (fun b (hb : b = wo.heap.size) => by show w.heap.size ≤ b; omega))
                have HR5 := hid (HR4.out.keep hF5 (show ¬ w.heap.size = wo.heap.size by omega))
                by_cases hlt : k < 4
                · have hks : k < S.size := by omega
                  have hv := HSK.out k hks
                  by_cases hA0 : ak o k = 0
                  · have t1 : S[k].toNat = 32 := by rw [hv, hA0]; rfl
                    have HQ2 := hid (fcn_no hA0)
                    clear hv hA0
                    go_wp2_with fail
                    go_roundg (4 - (k + 1))
                    case rel => exact ⟨k + 1, acc, by omega, rfl, by go_num, by rw [HQ2.out], HB11.out, HOP.out, HGD.out, by rw [HQ2.out]; exact HRE.out, hF5⟩
                    case measure => have := HD3.out; omega
                  · obtain ⟨kf1, _⟩ := kinds_fit o ho k hlt
                    have hlt4 : lt (ak o k) ≠ 32 := by
                      by_cases h4 : ak o k = 4
                      · rw [h4]; decide
                      · exact (lt_mk (ak o k) (Nat.pos_of_ne_zero hA0) (by omega)).2.1
                    have t1 : S[k].toNat ≠ 32 := by
                      rw [hv]
                      exact fun h => hlt4 (UInt8.toNat_inj.1 (by rw [h]; rfl))
                    have t4 : ((S[k].toNat : Int) == 32) = false := beq_eq_false_iff_ne.2 (by omega)
                    have hfa := fcn_at o ho k hlt hA0
                    obtain ⟨p, hp⟩ : ∃ p, fcn o k = p + 1 := ⟨(fldsTo o k).length, rfl⟩
                    have HQ2 := hid (fcn_yes hA0)
                    rw [hp] at hfa HQ2
                    rw [show p + 1 - 1 = p by omega] at hfa
                    have HRE2 := hid HRE.out
                    rw [hp, show p + 1 - 1 = p by omega] at HRE2
                    rw [hp]
                    have hpm : p < m := by have := (List.getElem?_eq_some_iff.1 hfa).1; rw [HM.out] at this; exact this
                    obtain ⟨y, hy⟩ : ∃ y, r[p]? = some y := ⟨_, List.getElem?_eq_getElem (by rw [HRL.out]; exact hpm)⟩
                    obtain ⟨q, hq⟩ : ∃ q, p + 1 = q := ⟨_, rfl⟩
                    have c3 : wr.cell? ⟨g, q, none⟩ = some (.string (bs y)) := by
                      rw [← hq]
                      exact (cell_keep hF5 (p := ⟨g, p + 1, none⟩) (by show g < W4.heap.size; omega) (by show ¬ g = wo.heap.size; omega)).trans (HC4.out p y hy)
                    have HC := hid (operand_any (ak o k) (Nat.pos_of_ne_zero hA0) kf1 (S[k].toNat : Int) (by rw [hv]) y (HWL.out y (List.mem_of_getElem? hy)))
                    have HDR := hid (show rdOps o ((flds o).drop p) (r.drop p) acc = match opd (ak o k) y with | none => (Ins.zero, 11) | some v => if bad o k v then (Ins.zero, 10) else rdOps o ((flds o).drop (p + 1)) (r.drop (p + 1)) (acc.set k v) by
                      rw [List.drop_eq_getElem_cons (l := flds o) (by rw [HM.out]; exact hpm), List.drop_eq_getElem_cons (l := r) (by rw [HRL.out]; exact hpm)]
                      rw [(List.getElem?_eq_some_iff.1 hfa).2, (List.getElem?_eq_some_iff.1 hy).2]
                      rfl)
                    have HP := hid hq
                    have z6 : (0 : Int) ≤ (q : Int) := by omega
                    have z7 : (q : Int) < (N : Int) := by omega
                    have z8 : (0 : Int) ≤ (k : Int) := by omega
                    have z9 : (k : Int) < 4 := by omega
                    have z10 : (k : Int) < (S.size : Int) := by omega
                    have hq5 : q ≤ 5 := by omega
                    rw [hq]
                    rw [hq] at HQ2
                    clear hv hA0 hfa hp hy hlt4 hq
                    obtain ⟨od, hod⟩ : ∃ od, opd (ak o k) y = od := ⟨_, rfl⟩
                    rw [hod] at HC HDR
                    clear hod
                    have HC3 := hid c3
                    go_wp2_with fail
                    go_region_held3 (fun W => W.cell? ⟨g, q, none⟩ = some (.string (bs y)))
                      (first | exact HC3.out)
                      (first
                        | (go_at_call 33; refine (HC.out _).mono ?_; rintro e w5 ⟨x5, b5, rfl, hp5, hp6, rfl⟩; have HP5 := hid hp5; have HP6 := hid hp6; clear hp5 hp6))
                    obtain ⟨w6, hw6⟩ : ∃ w6, w6 = wr.drew := ⟨_, rfl⟩
                    have hF6 : Fr (fun _ => False) wr w6 := by rw [hw6]; exact Fr.drew _ _
                    rw [← hw6]
                    clear hw6
                    have hFB6 := hFB5.trans (hF6.mono (fun _ h => h.elim))
                    have HR6 := hid (HR5.out.keep hF6 (fun h => h))
                    cases od with
                    | none =>
                      have hb5 := HP5.out
                      simp only [Option.isSome_none] at hb5
                      subst hb5
                      have HRX2 := hid (show rd l = (Ins.zero, 11) by rw [HQ.out, HRE2.out, HDR.out])
                      have p0 : w6.cell? ⟨w.heap.size, 0, none⟩ = some (.int .i64 0) := HR6.out.cell rfl
                      have p1 : w6.cell? ⟨w.heap.size, 1, none⟩ = some (.int .i64 0) := HR6.out.cell rfl
                      have p2 : w6.cell? ⟨w.heap.size, 2, none⟩ = some (.int .i64 0) := HR6.out.cell rfl
                      have p3 : w6.cell? ⟨w.heap.size, 3, none⟩ = some (.int .i64 0) := HR6.out.cell rfl
                      have p4 : w6.cell? ⟨w.heap.size, 4, none⟩ = some (.int .i64 0) := HR6.out.cell rfl
                      have f0 := HR6.out.frozen 0
                      have f1 := HR6.out.frozen 1
                      have f2 := HR6.out.frozen 2
                      have f3 := HR6.out.frozen 3
                      have f4 := HR6.out.frozen 4
                      have pl := HR6.out.lt
                      go_wp2_with fail
                      have hR9 := HR6.out.set5 (.int .i64 0) (.int .i64 0) (.int .i64 0) (.int .i64 0) (.int .i64 0)
                      have hF9 : Fr (fun k => k = w.heap.size) w6 _ := fr_set5 (fun k => k = w.heap.size) w6 w.heap.size rfl (.int .i64 0) (.int .i64 0) (.int .i64 0) (.int .i64 0) (.int .i64 0)
                      obtain ⟨w9, hw9⟩ : ∃ w9, w9 = (((((w6.setCell ⟨w.heap.size, 0, none⟩ (.int .i64 0)).setCell ⟨w.heap.size, 1, none⟩ (.int .i64 0)).setCell ⟨w.heap.size, 2, none⟩ (.int .i64 0)).setCell ⟨w.heap.size, 3, none⟩ (.int .i64 0)).setCell ⟨w.heap.size, 4, none⟩ (.int .i64 0)) := ⟨_, rfl⟩
                      rw [← hw9] at hR9 hF9 ⊢
                      clear hw9 p0 p1 p2 p3 p4
                      have p0 : w9.cell? ⟨w.heap.size, 0, none⟩ = some (.int .i64 0) := hR9.cell rfl
                      have p1 : w9.cell? ⟨w.heap.size, 1, none⟩ = some (.int .i64 0) := hR9.cell rfl
                      have p2 : w9.cell? ⟨w.heap.size, 2, none⟩ = some (.int .i64 0) := hR9.cell rfl
                      have p3 : w9.cell? ⟨w.heap.size, 3, none⟩ = some (.int .i64 0) := hR9.cell rfl
                      have p4 : w9.cell? ⟨w.heap.size, 4, none⟩ = some (.int .i64 0) := hR9.cell rfl
                      refine bodyPost_ret (v := .tuple #[.agg #[.int .i64 0, .int .i64 0, .int .i64 0, .int .i64 0, .int .i64 0], .int .i64 11]) ?hv rfl ?hp
                      case hv => (simp [results, Tryd.results15, go_sem, p0, p1, p2, p3, p4]; try rfl)
                      case hp => exact ⟨by rw [HRX2.out]; rfl, ((hFB6).trans (hF9.mono (fun k hk => by show w.heap.size ≤ k; omega))).all⟩
                    | some v =>
                      have hb5 := HP5.out
                      simp only [Option.isSome_some] at hb5
                      subst hb5
                      obtain rfl : x5 = capI v := HP6.out v rfl
                      go_upto_region 31 with fail
                      rw [avV_list ⟨o, 0, 0, 0, 0⟩ k hlt (capI v)]
                      have hck := chk_set (i := ⟨o, 0, 0, 0, 0⟩) ho hlt rfl (zero_good o ho) (capI v)
                      rw [bad_cap ho hlt v] at hck
                      have hop7 : ((⟨o, 0, 0, 0, 0⟩ : Ins).set k (capI v)).op = (o : Int) := set_op _ _ _
                      obtain ⟨⟨o7, a7, b7, c7, n7⟩, hi7⟩ : ∃ i7, (⟨o, 0, 0, 0, 0⟩ : Ins).set k (capI v) = i7 := ⟨_, rfl⟩
                      rw [hi7] at hck hop7 ⊢
                      obtain rfl : o7 = (o : Int) := hop7
                      have hCK := rcheck_any ⟨o, a7, b7, c7, n7⟩
                      rw [hck] at hCK
                      unfold avV
                      have h7 := Blk.new w6 #[.int .i64 a7, .int .i64 b7, .int .i64 c7, .int .i64 n7] 46
                      have hF7 := Fr.alloc (fun _ => False) w6 (.cells #[.int .i64 a7, .int .i64 b7, .int .i64 c7, .int .i64 n7] 46)
                      obtain ⟨w7, hw7⟩ : ∃ w7, w7 = w6.alloc (.cells #[.int .i64 a7, .int .i64 b7, .int .i64 c7, .int .i64 n7] 46) := ⟨_, rfl⟩
                      rw [← hw7] at h7 hF7 ⊢
                      have hFB7 := hFB6.trans (hF7.mono (fun _ h => h.elim))
                      have HR7 := hid (HR6.out.keep hF7 (fun h => h))
                      have HB7 := hid ((HB11.out.keep hF6 (fun h => h)).keep hF7 (fun h => h))
                      have q0 : w7.cell? ⟨w6.heap.size, 0, none⟩ = some (.int .i64 a7) := h7.cell rfl
                      have q1 : w7.cell? ⟨w6.heap.size, 1, none⟩ = some (.int .i64 b7) := h7.cell rfl
                      have q2 : w7.cell? ⟨w6.heap.size, 2, none⟩ = some (.int .i64 c7) := h7.cell rfl
                      have q3 : w7.cell? ⟨w6.heap.size, 3, none⟩ = some (.int .i64 n7) := h7.cell rfl
                      have ql := h7.lt
                      clear hw7 h7 hi7 hck
                      cases hbad : bad o k v with
                      | true =>
                        rw [hbad] at hCK
                        simp only [if_true] at hCK
                        unfold Ins.val at hCK
                        have HCK := hid hCK
                        have HRX2 := hid (show rd l = (Ins.zero, 10) by
                          rw [HQ.out, HRE2.out, HDR.out]
                          simp only [hbad, if_true])
                        clear hbad hCK
                        go_wp2_with fail
                        refine (HCK.out _).mono ?_
                        rintro e w8 ⟨rfl, hF8⟩
                        have HR8 := hid (HR7.out.keep hF8 (fun h => h))
                        have hFB8 := hFB7.trans (hF8.mono (fun _ h => h.elim))
                        clear q0 q1 q2 q3
                        have p0 : w8.cell? ⟨w.heap.size, 0, none⟩ = some (.int .i64 0) := HR8.out.cell rfl
                        have p1 : w8.cell? ⟨w.heap.size, 1, none⟩ = some (.int .i64 0) := HR8.out.cell rfl
                        have p2 : w8.cell? ⟨w.heap.size, 2, none⟩ = some (.int .i64 0) := HR8.out.cell rfl
                        have p3 : w8.cell? ⟨w.heap.size, 3, none⟩ = some (.int .i64 0) := HR8.out.cell rfl
                        have p4 : w8.cell? ⟨w.heap.size, 4, none⟩ = some (.int .i64 0) := HR8.out.cell rfl
                        have f0 := HR8.out.frozen 0
                        have f1 := HR8.out.frozen 1
                        have f2 := HR8.out.frozen 2
                        have f3 := HR8.out.frozen 3
                        have f4 := HR8.out.frozen 4
                        have pl := HR8.out.lt
                        go_wp2_with fail
                        have hR9 := HR8.out.set5 (.int .i64 0) (.int .i64 0) (.int .i64 0) (.int .i64 0) (.int .i64 0)
                        have hF9 : Fr (fun k => k = w.heap.size) w8 _ := fr_set5 (fun k => k = w.heap.size) w8 w.heap.size rfl (.int .i64 0) (.int .i64 0) (.int .i64 0) (.int .i64 0) (.int .i64 0)
                        obtain ⟨w9, hw9⟩ : ∃ w9, w9 = (((((w8.setCell ⟨w.heap.size, 0, none⟩ (.int .i64 0)).setCell ⟨w.heap.size, 1, none⟩ (.int .i64 0)).setCell ⟨w.heap.size, 2, none⟩ (.int .i64 0)).setCell ⟨w.heap.size, 3, none⟩ (.int .i64 0)).setCell ⟨w.heap.size, 4, none⟩ (.int .i64 0)) := ⟨_, rfl⟩
                        rw [← hw9] at hR9 hF9 ⊢
                        clear hw9 p0 p1 p2 p3 p4
                        have p0 : w9.cell? ⟨w.heap.size, 0, none⟩ = some (.int .i64 0) := hR9.cell rfl
                        have p1 : w9.cell? ⟨w.heap.size, 1, none⟩ = some (.int .i64 0) := hR9.cell rfl
                        have p2 : w9.cell? ⟨w.heap.size, 2, none⟩ = some (.int .i64 0) := hR9.cell rfl
                        have p3 : w9.cell? ⟨w.heap.size, 3, none⟩ = some (.int .i64 0) := hR9.cell rfl
                        have p4 : w9.cell? ⟨w.heap.size, 4, none⟩ = some (.int .i64 0) := hR9.cell rfl
                        refine bodyPost_ret (v := .tuple #[.agg #[.int .i64 0, .int .i64 0, .int .i64 0, .int .i64 0, .int .i64 0], .int .i64 10]) ?hv rfl ?hp
                        case hv => (simp [results, Tryd.results15, go_sem, p0, p1, p2, p3, p4]; try rfl)
                        case hp => exact ⟨by rw [HRX2.out]; rfl, ((hFB8).trans (hF9.mono (fun k hk => by show w.heap.size ≤ k; omega))).all⟩
                      | false =>
                        rw [hbad] at hCK
                        simp only [Bool.false_eq_true, if_false] at hCK
                        unfold Ins.val at hCK
                        have HCK := hid hCK
                        have HNX2 := hid (show rdOps o (flds o) r ⟨o, 0, 0, 0, 0⟩ = rdOps o ((flds o).drop (p + 1)) (r.drop (p + 1)) (acc.set k v) by
                          rw [HRE2.out, HDR.out]
                          simp only [hbad, Bool.false_eq_true, if_false])
                        have HCV := hid (cap_good ho hlt hbad)
                        have HBV := hid hbad
                        clear hbad hCK
                        go_wp2_with fail
                        refine (HCK.out _).mono ?_
                        rintro e w8 ⟨rfl, hF8⟩
                        have hB8 := HB7.out.keep hF8 (fun h => h)
                        have HB8 := hid hB8
                        have c11 : ∃ u, w8.cell? ⟨wo.heap.size, k, none⟩ = some u := by
                          have hm : k = 0 ∨ k = 1 ∨ k = 2 ∨ k = 3 := by omega
                          rcases hm with rfl | rfl | rfl | rfl
                          · exact ⟨_, hB8.cell rfl⟩
                          · exact ⟨_, hB8.cell rfl⟩
                          · exact ⟨_, hB8.cell rfl⟩
                          · exact ⟨_, hB8.cell rfl⟩
                        obtain ⟨u, c11⟩ := c11
                        have f11 := hB8.frozen k
                        have l11 := hB8.lt
                        clear q0 q1 q2 q3 hB8
                        go_wp2_with fail
                        go_roundg (4 - (k + 1))
                        case rel =>
                          have hB9 := HB8.out.set k (.int .i64 (capI v))
                          rw [avV_set acc k hlt] at hB9
                          refine ⟨k + 1, acc.set k v, by omega, rfl, by go_num, by rw [HQ2.out]; go_num, blk_of_eq hB9 (by rw [HCV.out]), by rw [set_op, HOP.out], fun j hj => ?_, ?_, hF5.trans (((hF6.trans hF7).trans hF8).mono (fun _ h => h.elim) |>.trans (Fr.setCell _ _ _ rfl))⟩
                          · rw [set_fld acc k j v hlt hj]
                            split
                            · rename_i e
                              rw [e]
                              exact HBV.out
                            · exact HGD.out j hj
                          · rw [HQ2.out, show q + 1 - 1 = p + 1 by have := HP.out; omega]
                            exact HNX2.out
                        case measure => have := HD3.out; omega
                · obtain rfl : k = 4 := by omega
                  have hf4 : fcn o 4 - 1 = m := by rw [fcn_all, HM.out]; omega
                  have HRX2 := hid (show rd l = (acc, 0) by
                    rw [HQ.out, HRE.out, hf4, List.drop_of_length_le (by rw [HM.out]; omega)]
                    rfl)
                  clear hf4
                  have hB := HB11.out
                  have hop := HOP.out
                  clear HOP HGD HRE HB11
                  obtain ⟨o6, a6, b6, c6, n6⟩ := acc
                  obtain rfl : o6 = (o : Int) := hop
                  unfold avV at hB
                  have HB := hid hB
                  clear hB
                  have q1 : wr.cell? ⟨wo.heap.size, 0, none⟩ = some (.int .i64 a6) := HB.out.cell rfl
                  have q2 : wr.cell? ⟨wo.heap.size, 1, none⟩ = some (.int .i64 b6) := HB.out.cell rfl
                  have q3 : wr.cell? ⟨wo.heap.size, 2, none⟩ = some (.int .i64 c6) := HB.out.cell rfl
                  have q4 : wr.cell? ⟨wo.heap.size, 3, none⟩ = some (.int .i64 n6) := HB.out.cell rfl
                  have ql := HB.out.lt
                  have p0 : wr.cell? ⟨w.heap.size, 0, none⟩ = some (.int .i64 0) := HR5.out.cell rfl
                  have p1 : wr.cell? ⟨w.heap.size, 1, none⟩ = some (.int .i64 0) := HR5.out.cell rfl
                  have p2 : wr.cell? ⟨w.heap.size, 2, none⟩ = some (.int .i64 0) := HR5.out.cell rfl
                  have p3 : wr.cell? ⟨w.heap.size, 3, none⟩ = some (.int .i64 0) := HR5.out.cell rfl
                  have p4 : wr.cell? ⟨w.heap.size, 4, none⟩ = some (.int .i64 0) := HR5.out.cell rfl
                  have f0 := HR5.out.frozen 0
                  have f1 := HR5.out.frozen 1
                  have f2 := HR5.out.frozen 2
                  have f3 := HR5.out.frozen 3
                  have f4 := HR5.out.frozen 4
                  have pl := HR5.out.lt
                  go_wp2_with fail
                  have hR9 := HR5.out.set5 (.int .i64 (o : Int)) (.int .i64 a6) (.int .i64 b6) (.int .i64 c6) (.int .i64 n6)
                  have hF9 : Fr (fun k => k = w.heap.size) wr _ := fr_set5 (fun k => k = w.heap.size) wr w.heap.size rfl (.int .i64 (o : Int)) (.int .i64 a6) (.int .i64 b6) (.int .i64 c6) (.int .i64 n6)
                  obtain ⟨w9, hw9⟩ : ∃ w9, w9 = (((((wr.setCell ⟨w.heap.size, 0, none⟩ (.int .i64 (o : Int))).setCell ⟨w.heap.size, 1, none⟩ (.int .i64 a6)).setCell ⟨w.heap.size, 2, none⟩ (.int .i64 b6)).setCell ⟨w.heap.size, 3, none⟩ (.int .i64 c6)).setCell ⟨w.heap.size, 4, none⟩ (.int .i64 n6)) := ⟨_, rfl⟩
                  rw [← hw9] at hR9 hF9 ⊢
                  clear hw9 p0 p1 p2 p3 p4
                  have p0 : w9.cell? ⟨w.heap.size, 0, none⟩ = some (.int .i64 (o : Int)) := hR9.cell rfl
                  have p1 : w9.cell? ⟨w.heap.size, 1, none⟩ = some (.int .i64 a6) := hR9.cell rfl
                  have p2 : w9.cell? ⟨w.heap.size, 2, none⟩ = some (.int .i64 b6) := hR9.cell rfl
                  have p3 : w9.cell? ⟨w.heap.size, 3, none⟩ = some (.int .i64 c6) := hR9.cell rfl
                  have p4 : w9.cell? ⟨w.heap.size, 4, none⟩ = some (.int .i64 n6) := hR9.cell rfl
                  refine bodyPost_ret (v := .tuple #[.agg #[.int .i64 (o : Int), .int .i64 a6, .int .i64 b6, .int .i64 c6, .int .i64 n6], .int .i64 0]) ?hv rfl ?hp
                  case hv => (simp [results, Tryd.results15, go_sem, p0, p1, p2, p3, p4]; try rfl)
                  case hp => exact ⟨by rw [HRX2.out]; rfl, ((hFB5).trans (hF9.mono (fun k hk => by show w.heap.size ≤ k; omega))).all⟩
            · have HQ := hid (rd_count (by rw [HHD.out]; exact HNX.out) (by rw [HN.out, HM.out]; exact hc))
              have t1 : ((N : Int) != ((m + 1 : Nat) : Int)) = true := by simp; omega
              have t2 : ((N : Int) != (m : Int) + 1) = true := by simp; omega
              clear hc
              have p0 : wr.cell? ⟨w.heap.size, 0, none⟩ = some (.int .i64 0) := HRx.out.cell rfl
              have p1 : wr.cell? ⟨w.heap.size, 1, none⟩ = some (.int .i64 0) := HRx.out.cell rfl
              have p2 : wr.cell? ⟨w.heap.size, 2, none⟩ = some (.int .i64 0) := HRx.out.cell rfl
              have p3 : wr.cell? ⟨w.heap.size, 3, none⟩ = some (.int .i64 0) := HRx.out.cell rfl
              have p4 : wr.cell? ⟨w.heap.size, 4, none⟩ = some (.int .i64 0) := HRx.out.cell rfl
              have f0 := HRx.out.frozen 0
              have f1 := HRx.out.frozen 1
              have f2 := HRx.out.frozen 2
              have f3 := HRx.out.frozen 3
              have f4 := HRx.out.frozen 4
              have pl := HRx.out.lt
              go_wp2_with fail
              have hR9 := HRx.out.set5 (.int .i64 0) (.int .i64 0) (.int .i64 0) (.int .i64 0) (.int .i64 0)
              have hF9 : Fr (fun k => k = w.heap.size) wr _ := fr_set5 (fun k => k = w.heap.size) wr w.heap.size rfl (.int .i64 0) (.int .i64 0) (.int .i64 0) (.int .i64 0) (.int .i64 0)
              obtain ⟨w9, hw9⟩ : ∃ w9, w9 = (((((wr.setCell ⟨w.heap.size, 0, none⟩ (.int .i64 0)).setCell ⟨w.heap.size, 1, none⟩ (.int .i64 0)).setCell ⟨w.heap.size, 2, none⟩ (.int .i64 0)).setCell ⟨w.heap.size, 3, none⟩ (.int .i64 0)).setCell ⟨w.heap.size, 4, none⟩ (.int .i64 0)) := ⟨_, rfl⟩
              rw [← hw9] at hR9 hF9 ⊢
              clear hw9 p0 p1 p2 p3 p4
              have p0 : w9.cell? ⟨w.heap.size, 0, none⟩ = some (.int .i64 0) := hR9.cell rfl
              have p1 : w9.cell? ⟨w.heap.size, 1, none⟩ = some (.int .i64 0) := hR9.cell rfl
              have p2 : w9.cell? ⟨w.heap.size, 2, none⟩ = some (.int .i64 0) := hR9.cell rfl
              have p3 : w9.cell? ⟨w.heap.size, 3, none⟩ = some (.int .i64 0) := hR9.cell rfl
              have p4 : w9.cell? ⟨w.heap.size, 4, none⟩ = some (.int .i64 0) := hR9.cell rfl
              refine bodyPost_ret (v := .tuple #[.agg #[.int .i64 0, .int .i64 0, .int .i64 0, .int .i64 0, .int .i64 0], .int .i64 11]) ?hv rfl ?hp
              case hv => (simp [results, Tryd.results15, go_sem, p0, p1, p2, p3, p4]; try rfl)
              case hp => exact ⟨by rw [HQ.out]; rfl, ((hFB).trans (hF9.mono (fun k hk => by show w.heap.size ≤ k; omega))).all⟩

end Go.Proofs.YtepbnneggpcbcaaDoor
