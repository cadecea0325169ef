/-
  Stage 7: Print, the program's.
-/
import Derived.Test.YtnlbellbeepkaaaGreatDoorText
import Derived.Test.YtnlbellbeepkaaaGreatDoorWrong
import Derived.Test.YtnlbellbeepkaaaGreatDoorGrw
namespace Go.Proofs.YtnlbellbeepkaaaGreatDoor
open Go.RowKit Go.Shelf
set_option linter.unusedVariables false

def Bld (w : World) (b : Nat) (l : Bs) : Prop := Lib.IsBuilderF 38 5 b b (Lib.byteCells l) w

theorem bldAt_keep {p : Value} {w w' : World} {b : Nat} {l : List Value} (h : Lib.BuilderAtF 38 5 b b p l w) (f : Fr (fun _ => False) w w') : Lib.BuilderAtF 38 5 b b p l w' := by
  obtain ⟨hB, v, hb, ho, hn⟩ := h
  have hlt := ho.lt
  refine ⟨hB, v, (f.block b (Array.getElem?_eq_some_iff.1 hb).1 (fun h => h)).trans hb, ?_, hn⟩
  obtain ⟨h1, h2⟩ := ho
  refine ⟨h1, ?_⟩
  rcases h2 with h2 | ⟨g, c, cur, fz, hv, hg, hh, r⟩
  · exact .inl h2
  · refine .inr ⟨g, c, cur, fz, hv, hg, ?_, r⟩
    rw [f.block g (hlt g (by rw [hv]; rfl)).2 (fun h => h)]
    exact hh

theorem Bld.keep {w w' : World} {b : Nat} {l : Bs} (h : Bld w b l) (f : Fr (fun _ => False) w w') : Bld w' b l :=
  Or.imp (fun h => bldAt_keep h f) (fun h => bldAt_keep h f) h

theorem heap_new (w : World) (o : Obj) : (w.alloc o).heap[w.heap.size]? = some o := by
  show (w.heap.push o)[w.heap.size]? = some o
  simp

theorem Bld.new (w : World) : Bld (w.alloc (.cells #[.pointer none, .slice none 0 0] 38)) w.heap.size [] :=
  .inl ⟨Nat.le_refl _, .slice none 0 0, heap_new _ _, World.ownsRowF_nil _ _ _ _, by simp [Value.ownBlock]⟩

theorem Bld.lt {w : World} {b : Nat} {l : Bs} (h : Bld w b l) : b < w.heap.size := h.elim (fun h => h.lt) (fun h => h.lt)

/-- WriteString onto a builder of the call's own. -/
theorem write_ok (b : Nat) (l s : Bs) (w : World) (h : Bld w b l) (hl : l.length + s.length ≤ 1000000) :
    Calls Tryz.prog 11 #[.pointer (some ⟨b, 0, none⟩), .string (bs s)] w fun e w' => (∃ v, e = .returned v) ∧ Bld w' b (l ++ s) ∧ Below b w w' := by
  have := Any.Builder_WriteString_k (P := Tryz.prog) (ρ := Tryz.lays156_ren) { Tryz.lays156 with } Tryz.Builder_Extra_156 b b (Lib.byteCells l) (bs s) w h (by rw [Lib.byteCells_length, bs_size]; omega) (Nat.le_of_lt h.lt)
  refine this.mono ?_
  rintro e w' ⟨rfl, h1, h2, h3⟩
  refine ⟨⟨_, rfl⟩, .inr ?_, h2⟩
  have e : Lib.byteCells (l ++ s) = Lib.byteCells l ++ Lib.strCells (bs s) := by
    unfold Lib.byteCells Lib.strCells bs
    simp
  rw [e]
  exact h1

theorem Fr.byBelow {w W W' : World} {B : Nat} (h : Fr (fun _ => False) w W) (hb : Below B W W') (hB : w.heap.size ≤ B) : Fr (fun _ => False) w W' :=
  ⟨hb.os.trans h.os, hb.tape.trans h.tape, hb.output.trans h.output, Nat.le_trans h.size hb.size, fun k hk hn => (hb.block k (by omega)).trans (h.block k hk hn)⟩

/-- Rows whose numbers and texts are as Go's are, and whose text isn't too long. -/
structure Fits (l : List Tw) : Prop where
  bnd : ∀ (i : Nat) r, l[i]? = some r → Bnd r
  cls : ∀ (i : Nat) r, l[i]? = some r → r.cl.size ≤ 200000
  len : (tabT l).length ≤ 131072

theorem Fits.few {l : List Tw} (h : Fits l) : FewT l := fun i r hr => by have := h.cls i r hr; omega

theorem tabT_part {l : List Tw} {j : Nat} {r : Tw} (h : l[j]? = some r) : (tabT (l.take j)).length + (rowT r).length ≤ (tabT l).length := by
  have e : tabT l = tabT (l.take (j + 1)) ++ tabT (l.drop (j + 1)) := by unfold tabT; rw [← List.flatMap_append, List.take_append_drop]
  rw [e, tabT_snoc h]
  simp only [List.length_append]
  omega

def prV (l : List Tw) : Bs := if chk l = 0 then tabT l else []
def PrPost (l : List Tw) (w : World) (e : Ending) (w' : World) : Prop := e = .returned (.tuple #[.string (bs (prV l)), .int .i64 (chk l)]) ∧ Fr (fun _ => False) w w'

def PrRel (l : List Tw) (n B : Nat) (w : World) (d : Nat) (i : Value) (wr : World) : Prop :=
  ∃ j : Nat, j ≤ n ∧ d = n + 1 - j ∧ i = .int .i64 j ∧ Bld wr B (tabT (l.take j)) ∧ Fr (fun _ => False) w wr

set_option maxRecDepth 100000 in
set_option maxHeartbeats 4000000 in
theorem print_any (A : Option Addr) (n c : Nat) (l : List Tw) (w : World) (ht : Tabs w) (hA : RdT w A l) (hl : l.length = n) (hn : n ≤ 4000000) (hc : n ≤ c) (hf : chk l = 0 → Fits l) (hf2 : FewT l) :
    Calls Tryz.prog 6 #[.slice A n c] w (PrPost l w) := by
  have HCK := hid (check_any A n c l w hA hl hn hc hf2)
  have HL := hid hl
  have HCE := hid (fun (W : World) (hW : Fr (fun _ => False) w W) (j : Nat) (r : Tw) (hr : l[j]? = some r) => (hA.same hW).cell hr)
  obtain ⟨x, hx⟩ : ∃ x, chk l = x := ⟨_, rfl⟩
  unfold CkPost at HCK
  rw [hx] at HCK
  have HX := hid hx
  have HFT := hid hf
  have HT := hid ht
  clear hl hf hf2 hA hx ht
  go_enter Tryz.func6, Tryz.ntmps6
  go_wp2_with fail
  refine HCK.out.mono ?_
  rintro e w1 ⟨rfl, hF1⟩
  by_cases hx0 : x = 0
  · have t1 : (x != 0) = false := by simp [hx0]
    have HX0 := hid (HX.out.trans hx0)
    have HFI := hid (HFT.out HX0.out)
    have hB1 := Bld.new w1
    have hF1' := hF1.trans (Fr.alloc (fun _ => False) w1 (.cells #[.pointer none, .slice none 0 0] 38))
    have HB1 := hid hB1
    have HF1 := hid hF1'
    have l0 : w.heap.size ≤ w1.heap.size := hF1.size
    have HEN := hid (fun (e : Ending) (wx : World) (he : e = .returned (.tuple #[.string (bs (tabT l)), .int .i64 0])) (hF : Fr (fun _ => False) w wx) => (show PrPost l w e wx from ⟨by rw [he]; unfold prV; rw [if_pos HX0.out, HX0.out], hF⟩))
    clear hx0 HX hB1 hF1' hF1
    go_wp2_with fail
    go_loopg [15] (n + 1) (fun d i wr => PrRel l n w1.heap.size w d i wr)
    case atStart => exact ⟨0, by omega, by omega, rfl, HB1.out, HF1.out⟩
    case round =>
      obtain ⟨j, hj, hd, rfl, hb, hF⟩ := hrel
      have HB := hid hb
      have HD := hid hd
      have HF := hid hF
      clear hb hd hF
      by_cases hlt : j < n
      · obtain ⟨r, hr⟩ : ∃ r, l[j]? = some r := ⟨_, List.getElem?_eq_getElem (by rw [HL.out]; omega)⟩
        obtain ⟨ga, oga, rfl, hga, hcc⟩ := HCE.out wr HF.out j r hr
        have q0 : wr.cell? ⟨ga, oga + j * 7, none⟩ = some (.int .i64 r.par) := hcc 0 _ rfl
        have q1 := hcc 1 _ rfl
        have q2 := hcc 2 _ rfl
        have q3 := hcc 3 _ rfl
        have q4 := hcc 4 _ rfl
        have q5 := hcc 5 _ rfl
        have q6 := hcc 6 _ rfl
        have hk := kind_ok HX0.out hr
        have HTX := hid (fun (W : World) (hW : Fr (fun _ => False) w W) => text_any r W (HT.out.same hW) (HFI.out.bnd j r hr) ⟨hk.1, hk.2.1⟩ (HFI.out.cls j r hr))
        unfold rowC at HTX
        have HSN := hid (tabT_snoc hr)
        have hpl := tabT_part hr
        have hpl2 := HFI.out.len
        have HPL := hid (show (tabT (l.take j)).length + (rowT r).length ≤ 131072 by omega)
        have hj0 : (0 : Int) ≤ j ∧ (j : Int) < n := by omega
        clear hr hcc hk hpl hpl2
        go_upto_region 8 with fail
        have hB4 := Blk.new wr #[.int .i64 r.par, .int .i64 r.in_, .int .i64 r.fn, .int .i64 r.kind, .int .i64 r.v, .int .i64 r.st, .string r.cl] 34
        have hF4 := Fr.alloc (fun _ => False) wr (.cells #[.int .i64 r.par, .int .i64 r.in_, .int .i64 r.fn, .int .i64 r.kind, .int .i64 r.v, .int .i64 r.st, .string r.cl] 34)
        have hBd4 := HB.out.keep hF4
        obtain ⟨w4, hw4⟩ : ∃ w4, w4 = wr.alloc (.cells #[.int .i64 r.par, .int .i64 r.in_, .int .i64 r.fn, .int .i64 r.kind, .int .i64 r.v, .int .i64 r.st, .string r.cl] 34) := ⟨_, rfl⟩
        rw [← hw4] at hB4 hF4 hBd4 ⊢
        clear hw4 q0 q1 q2 q3 q4 q5 q6
        have b0 := hB4.cell (i := 0) rfl
        have b1 := hB4.cell (i := 1) rfl
        have b2 := hB4.cell (i := 2) rfl
        have b3 := hB4.cell (i := 3) rfl
        have b4 := hB4.cell (i := 4) rfl
        have b5 := hB4.cell (i := 5) rfl
        have b6 := hB4.cell (i := 6) rfl
        simp only [List.getElem_toArray, List.getElem_cons_zero, List.getElem_cons_succ] at b0 b1 b2 b3 b4 b5 b6
        have l4 := hB4.lt
        have HF4 := hid (HF.out.trans hF4)
        have HBD := hid hBd4
        clear hB4 hF4 hBd4
        go_wp2_with fail
        refine (HTX.out _ HF4.out).mono ?_
        rintro e w5 ⟨rfl, hF5⟩
        have HBD5 := hid (HBD.out.keep hF5)
        have HF5 := hid (HF4.out.trans hF5)
        clear hF5 b0 b1 b2 b3 b4 b5 b6 l4
        go_wp2_with fail
        refine (write_ok w1.heap.size _ _ w5 HBD5.out (by have := HPL.out; omega)).mono ?_
        rintro e w6 ⟨⟨v6, rfl⟩, hb6, hbel6⟩
        have HB6 := hid hb6
        have HF6 := hid (Fr.byBelow HF5.out hbel6 l0)
        have HLE := hid (Tryz.Builder_Len_f w1.heap.size w1.heap.size (Lib.byteCells (tabT (l.take j) ++ rowT r)) w6 hb6)
        rw [Lib.byteCells_length, List.length_append] at HLE
        obtain ⟨N, hN⟩ : ∃ N, (tabT (l.take j)).length + (rowT r).length = N := ⟨_, rfl⟩
        rw [hN] at HLE
        have hNb : N ≤ 131072 := by rw [← hN]; exact HPL.out
        clear hb6 hbel6 hN
        go_wp2_with fail
        refine HLE.out.mono ?_
        rintro e w7 ⟨rfl, rfl⟩
        go_wp2_with fail
        go_roundg (n + 1 - (j + 1))
        case rel => exact ⟨j + 1, by omega, rfl, by go_num, by rw [HSN.out]; exact HB6.out, HF6.out⟩
        case measure => have := HD.out; omega
      · have hb := HB.out
        rw [List.take_of_length_le (by rw [HL.out]; omega)] at hb
        have HSTR := hid (Tryz.Builder_String_any_f w1.heap.size w1.heap.size (tabT l) wr hb (Nat.le_of_lt hb.lt))
        clear hb
        go_wp2_with fail
        refine HSTR.out.mono ?_
        rintro e w9 ⟨rfl, _, hbel9⟩
        go_wp2_with fail
        go_ret2
        exact HEN.out _ _ rfl (Fr.byBelow HF.out hbel9 l0)
  · have t1 : (x != 0) = true := by simpa using hx0
    have HE := hid (show prV l = [] by unfold prV; rw [if_neg (by rw [HX.out]; exact hx0)])
    clear hx0
    go_wp2_with fail
    go_ret2
    exact ⟨by rw [HE.out, HX.out]; rfl, hF1⟩

end Go.Proofs.YtnlbellbeepkaaaGreatDoor
