/-
  asm.Print.
-/
import Derived.Test.YtepbnneggpcbcaaGreatDoorLine
import Derived.Test.YtepbnneggpcbcaaGreatDoorFew
import Derived.Deep.RegionHeld3
import Derived.RangeFuncRecord
namespace Go.Proofs.YtepbnneggpcbcaaGreatDoor
open Go.RowKit Go.Shelf

def Bld (w : World) (b : Nat) (l : Bs) : Prop := Lib.IsBuilderF 45 5 b b (Lib.byteCells l) w

theorem bldAt_keep {p : Value} {w w' : World} {b : Nat} {l : List Value} (h : Lib.BuilderAtF 45 5 b b p l w) (f : Fr (fun _ => False) w w') : Lib.BuilderAtF 45 5 b b p l w' := by
  obtain ⟨hB, v, hb, ho, hn⟩ := h
  have hlt := ho.lt
  refine ⟨hB, v, (f.block b (Array.getElem?_eq_some_iff.1 hb).1 (fun h => h)).trans hb, ?_, hn⟩
  obtain ⟨h1, h2⟩ := ho
  refine ⟨h1, ?_⟩
  rcases h2 with h2 | ⟨g, c, cur, fz, hv, hg, hh, r⟩
  · exact .inl h2
  · refine .inr ⟨g, c, cur, fz, hv, hg, ?_, r⟩
    rw [f.block g (hlt g (by rw [hv]; rfl)).2 (fun h => h)]
    exact hh

theorem Bld.keep {w w' : World} {b : Nat} {l : Bs} (h : Bld w b l) (f : Fr (fun _ => False) w w') : Bld w' b l :=
  Or.imp (fun h => bldAt_keep h f) (fun h => bldAt_keep h f) h

theorem Bld.new (w : World) : Bld (w.alloc (.cells #[.pointer none, .slice none 0 0] 45)) w.heap.size [] :=
  .inl ⟨Nat.le_refl _, .slice none 0 0, World.alloc_heap_new _ _, World.ownsRowF_nil _ _ _ _, by simp [Value.ownBlock]⟩

theorem Bld.lt {w : World} {b : Nat} {l : Bs} (h : Bld w b l) : b < w.heap.size := h.elim (fun h => h.lt) (fun h => h.lt)

/-- WriteString onto a builder of the call's own. -/
theorem write_ok (b : Nat) (l s : Bs) (w : World) (h : Bld w b l) (hl : l.length + s.length ≤ 1000000) :
    Calls Tryz.prog 12 #[.pointer (some ⟨b, 0, none⟩), .string (bs s)] w fun e w' => (∃ v, e = .returned v) ∧ Bld w' b (l ++ s) ∧ Below b w w' ∧ Lib.OthersKept 5 (some b) w w' := by
  have := Any.Builder_WriteString_k (P := Tryz.prog) (ρ := Tryz.lays156_ren) { Tryz.lays156 with } Tryz.Builder_Extra_156 b b (Lib.byteCells l) (bs s) w h (by rw [Lib.byteCells_length, bs_size]; omega) (Nat.le_of_lt h.lt)
  refine this.mono ?_
  rintro e w' ⟨rfl, h1, h2, h3⟩
  refine ⟨⟨_, rfl⟩, .inr ?_, h2, h3⟩
  have e : Lib.byteCells (l ++ s) = Lib.byteCells l ++ Lib.strCells (bs s) := by
    unfold Lib.byteCells Lib.strCells bs
    simp
  rw [e]
  exact h1

theorem Fr.byBelow {w W W' : World} {B : Nat} (h : Fr (fun _ => False) w W) (hb : Below B W W') (hB : w.heap.size ≤ B) : Fr (fun _ => False) w W' :=
  ⟨hb.os.trans h.os, hb.tape.trans h.tape, hb.output.trans h.output, Nat.le_trans h.size hb.size, fun k hk hn => (hb.block k (by omega)).trans (h.block k hk hn)⟩

def PrPost (w : World) (q : Bs × Int) (e : Ending) (w' : World) : Prop := e = .returned (.tuple #[.string (bs q.1), .int .i64 q.2]) ∧ Fr (fun _ => False) w w'
def prV (P : List Fn) : Bs × Int := if packErr P = 0 then (prTxt P, 0) else ([], packErr P)

set_option maxRecDepth 100000 in
set_option maxHeartbeats 2000000 in
theorem print_bad (A : Option Addr) (c : Nat) (P : List Fn) (w : World) (ht : Tabs w) (hp : Prg w w.heap.size A P) (h : packErr P ≠ 0) :
    Calls Tryz.prog 6 #[.agg #[.slice A P.length c]] w (PrPost w (prV P)) := by
  have hA := Fr.alloc (fun _ => False) w (.cells #[.slice A P.length c] 24)
  have HP := hid (pack_any A c P _ (ht.same hA) ((hp.same hA (Nat.le_refl _)).more hA.size))
  have HQ := hid (show prV P = ([], packErr P) by unfold prV; rw [if_neg h])
  obtain ⟨x, hx⟩ : ∃ x, packErr P = x := ⟨_, rfl⟩
  rw [hx] at HQ h
  have HX := hid hx
  have t1 : (x != 0) = true := by simpa using h
  clear hx h hp
  go_enter Tryz.func6, Tryz.ntmps6
  go_wp2_with fail
  refine HP.out.mono ?_
  intro e w1 hpk
  obtain ⟨A1, n1, c1, rfl, _, _, hF1⟩ := hpk.own
  rw [HX.out]
  clear hpk
  go_wp2_with fail
  go_ret2
  rw [HQ.out]
  exact ⟨rfl, hA.trans hF1⟩

def ln10 (l : List Bs) : Bs := l.flatMap (· ++ [10])

def PrRel (w : World) (B : Nat) (P : List Fn) (d : Nat) (i : Value) (wr : World) : Prop :=
  ∃ k : Nat, k ≤ P.length ∧ d = P.length - k ∧ i = .int .i64 k ∧ Bld wr B (prTxt (P.take k)) ∧ Fr (fun _ => False) w wr

def PrRel2 (w : World) (B : Nat) (T : Bs) (l : List Ins) (d : Nat) (i : Value) (wr : World) : Prop :=
  ∃ j : Nat, j ≤ l.length ∧ d = l.length - j ∧ i = .int .i64 j ∧ Bld wr B (T ++ ln10 ((l.take j).map txt)) ∧ Fr (fun _ => False) w wr

theorem prg_at {l : List Fn} (h : prgErr l = 0) : ∀ x ∈ l, fnErr x = 0 := by
  induction l with
  | nil => intro x hx; simp at hx
  | cons a r ih =>
    intro x hx
    simp only [prgErr] at h
    split at h
    · rcases List.mem_cons.1 hx with rfl | hx
      · assumption
      · exact ih h x hx
    · contradiction

theorem pack_at {P : List Fn} (h : packErr P = 0) {k : Nat} {f : Fn} (hk : P[k]? = some f) : fnErr f = 0 := prg_at (pack_zero h).2.2 f (List.mem_of_getElem? hk)

theorem code_at {l : List Ins} (h : codeErr l = 0) : ∀ x ∈ l, chk x = 0 := by
  induction l with
  | nil => intro x hx; simp at hx
  | cons a r ih =>
    intro x hx
    simp only [codeErr] at h
    split at h
    · rcases List.mem_cons.1 hx with rfl | hx
      · assumption
      · exact ih h x hx
    · contradiction

theorem prTxt_snoc (P : List Fn) (k : Nat) (f : Fn) (h : P[k]? = some f) : prTxt (P.take (k + 1)) = prTxt (P.take k) ++ (header k f.needs ++ [10]) ++ ln10 (f.code.map txt) := by
  have hl := (List.getElem?_eq_some_iff.1 h).1
  have e : P.take (k + 1) = P.take k ++ [f] := by
    rw [List.take_add_one, h]
    rfl
  unfold prTxt ln10
  rw [e, prLines_app, List.flatMap_append, prLines, prLines, List.length_take, show min k P.length = k by omega]
  simp

theorem prTxt_part (P : List Fn) (k : Nat) (f : Fn) (h : P[k]? = some f) {b : Nat} (hb : (prTxt P).length ≤ b) : (prTxt (P.take k)).length + (header k f.needs).length + 1 + (ln10 (f.code.map txt)).length ≤ b := by
  have e : prTxt P = prTxt (P.take (k + 1)) ++ ln10 (prLines (0 + (P.take (k + 1)).length) (P.drop (k + 1))) := by
    unfold prTxt ln10
    rw [← List.flatMap_append, ← prLines_app, List.take_append_drop]
  rw [e, prTxt_snoc P k f h] at hb
  simp only [List.length_append, List.length_cons, List.length_nil] at hb
  omega

theorem ln10_snoc (l : List Ins) (j : Nat) (i : Ins) (h : l[j]? = some i) : ln10 ((l.take (j + 1)).map txt) = ln10 ((l.take j).map txt) ++ (txt i ++ [10]) := by
  rw [List.take_add_one, h]
  simp [ln10]

theorem ln10_take (l : List Ins) (j : Nat) : (ln10 ((l.take j).map txt)).length ≤ (ln10 (l.map txt)).length := by
  have e : ln10 (l.map txt) = ln10 ((l.take j).map txt) ++ ln10 ((l.drop j).map txt) := by
    unfold ln10
    rw [← List.flatMap_append, ← List.map_append, List.take_append_drop]
  rw [e, List.length_append]
  omega

theorem add_nl (l : Bs) (h : l.length ≤ 1000) : ∀ W, (Op.stringOp .add (bs l) ⟨#[10]⟩).run Tryz.prog W = .ok (.string (bs (l ++ [10]))) W := by
  intro W
  have e : bs (l ++ [10]) = bs l ++ ⟨#[10]⟩ := by
    unfold bs
    apply ByteArray.ext
    simp
  have h2 : (bs l).size ≤ 1000 := by rw [bs_size]; exact h
  have h3 : (⟨#[10]⟩ : ByteArray).size = 1 := rfl
  rw [e]
  exact run_string_add_sum W _ _ (Nat.le_trans (Nat.add_le_add h2 (Nat.le_of_eq h3)) (by decide))

theorem join4 (a b : Bs) (W : World) (h : (glue 32 [wFunc, a, wNeeds, b]).length ≤ 30) :
    Calls Tryz.prog 13 #[.slice (some ⟨W.heap.size, 0, none⟩) 4 4] (W.alloc (.cells #[.string (bs wFunc), .string (bs a), .string (bs wNeeds), .string (bs b)] 9)) (JnPost (W.alloc (.cells #[.string (bs wFunc), .string (bs a), .string (bs wNeeds), .string (bs b)] 9)) [wFunc, a, wNeeds, b]) := by
  have hB := Blk.new W #[.string (bs wFunc), .string (bs a), .string (bs wNeeds), .string (bs b)] 9
  refine join_any W.heap.size 0 4 [wFunc, a, wNeeds, b] _ (fun j x hx => ?_) hB.lt (by simp) (by simp) (Nat.le_trans h (by decide))
  rw [Nat.zero_add]
  match j, hx with
  | 0, hx => simp at hx; subst hx; exact hB.cell rfl
  | 1, hx => simp at hx; subst hx; exact hB.cell rfl
  | 2, hx => simp at hx; subst hx; exact hB.cell rfl
  | 3, hx => simp at hx; subst hx; exact hB.cell rfl
  | j + 4, hx => simp at hx

theorem box_kept {w w' : World} {B b : Nat} {c : Array Value} {t : TypeId} (h : TBlk w b c t) (hk : Lib.OthersKept 5 (some B) w w') (hne : B < b) (ht : t ≠ 5) : TBlk w' b c t :=
  hk b _ h (fun e => by injection e with e; omega) (fun c' fz e => by injection e with _ e _; exact ht e)

set_option maxRecDepth 100000 in
set_option maxHeartbeats 8000000 in
theorem print_ok (A : Option Addr) (c n : Nat) (P : List Fn) (w : World) (ht : Tabs w) (hp : Prg w w.heap.size A P) (hn : P.length = n) (h : packErr P = 0) :
    Calls Tryz.prog 6 #[.agg #[.slice A n c]] w (PrPost w (prTxt P, 0)) := by
  have hA := Fr.alloc (fun _ => False) w (.cells #[.slice A n c] 24)
  have hb0 := Blk.new w #[.slice A n c] 24
  have hpk := pack_any A c P _ (ht.same hA) ((hp.same hA (Nat.le_refl _)).more hA.size)
  rw [hn] at hpk
  have HP := hid hpk
  have HZ := hid h
  have HN := hid hn
  have HPR := hid hp
  have HT := hid ht
  have hn32 : n ≤ 32 := by have := (pack_zero h).2.1; omega
  clear h hp hpk hn ht
  go_enter Tryz.func6, Tryz.ntmps6
  go_wp2_with fail
  refine HP.out.mono ?_
  intro e w1 hpk
  obtain ⟨A1, n1, c1, rfl, _, _, hF1⟩ := hpk.own
  rw [HZ.out]
  have hb1 := hb0.keep hF1 (fun h => h)
  have c0 : w1.cell? ⟨w.heap.size, 0, none⟩ = some (.slice A n c) := hb1.cell rfl
  have l0 := hb1.lt
  have HB := hid (Bld.new w1)
  have HF1 := hid ((hA.trans hF1).trans (Fr.alloc _ w1 (.cells #[.pointer none, .slice none 0 0] 45)))
  clear hpk hb0 hb1 hF1 HP
  go_wp2_with fail
  go_loopg [22] n (fun d i wr => PrRel w w1.heap.size P d i wr)
  case atStart => exact ⟨0, by omega, by rw [HN.out, Nat.sub_zero], rfl, HB.out, HF1.out⟩
  case round =>
    obtain ⟨k, hk, hd, rfl, hb, hF⟩ := hrel
    rw [HN.out] at hk hd
    have HB := hid hb
    have HD := hid hd
    clear hb hd
    by_cases hlt : k < n
    · obtain ⟨⟨needs, code⟩, hi⟩ : ∃ f, P[k]? = some f := ⟨_, List.getElem?_eq_getElem (by rw [HN.out]; exact hlt)⟩
      obtain ⟨g, o, rfl, hg, hcell⟩ := HPR.out (by rw [HN.out]; omega)
      obtain ⟨A2, c2, p0w, p1w, hcod⟩ := hcell k _ hi
      have p0 := (cell_keep hF (p := ⟨g, o + k * 2, none⟩) hg (fun h => h)).trans p0w
      have p1 := (cell_keep hF (p := ⟨g, o + k * 2 + 1, none⟩) hg (fun h => h)).trans p1w
      clear p0w p1w
      simp only at p0 p1 hcod
      obtain ⟨hn0, hn1, hm0, hm1, hce⟩ := fnErr_zero' (pack_at HZ.out hi)
      simp only at hn0 hn1 hm0 hm1 hce
      have HS := hid (prTxt_snoc P k _ hi)
      have HLL := hid (prTxt_part P k _ hi (prTxt_len P HZ.out))
      have hhl := header_len k needs (by omega) hn0 (by omega)
      have hgl : g < wr.heap.size := Nat.lt_of_lt_of_le hg hF.size
      obtain ⟨m, hm⟩ : ∃ m, code.length = m := ⟨_, rfl⟩
      rw [hm] at p1 hm0 hm1
      have HM := hid hm
      have HC := hid hcod
      have HI := hid hi
      have HCE := hid hce
      clear hi hcell hcod hm hce
      have hV := Fr.alloc (fun _ => False) wr (.cells #[.int .i64 needs, .slice A2 m c2] 32)
      have hbx := TBlk.new wr #[.int .i64 needs, .slice A2 m c2] 32
      have HI1 := hid (fun W (hW : Fr (fun _ => False) (wr.alloc (.cells #[.int .i64 needs, .slice A2 m c2] 32)) W) => itoa_ok (k : Int) (by omega) (by omega) W (HT.out.same ((hF.trans hV).trans hW)))
      have HI2 := hid (fun W (hW : Fr (fun _ => False) (wr.alloc (.cells #[.int .i64 needs, .slice A2 m c2] 32)) W) => itoa_ok needs (by omega) (by omega) W (HT.out.same ((hF.trans hV).trans hW)))
      have HJ := hid (fun W => join4 (Lib.itoa k) (Lib.itoa needs) W hhl)
      have q5 : ∀ W, (Op.stringOp .add (bs (glue 32 [wFunc, Lib.itoa k, wNeeds, Lib.itoa needs])) ⟨#[10]⟩).run Tryz.prog W = .ok (.string (bs (header k needs ++ [10]))) W := add_nl (header k needs) (Nat.le_trans hhl (by decide))
      have HW := hid (fun W (hW : Fr (fun _ => False) wr W) => write_ok w1.heap.size (prTxt (P.take k)) (header k needs ++ [10]) W (HB.out.keep hW) (by have := HLL.out; rw [List.length_append]; simp at *; omega))
      have HH := hid hhl
      clear hhl
      go_wp2_with fail
      go_region_held3 (fun W => W.cell? ⟨wr.heap.size, 0, none⟩ = some (.int .i64 needs) ∧ W.cell? ⟨wr.heap.size, 1, none⟩ = some (.slice A2 m c2))
        (first
          | exact ⟨hbx.blk.cell rfl, hbx.blk.cell rfl⟩
          | exact ⟨hbx.blk.drew.cell rfl, hbx.blk.drew.cell rfl⟩
          | exact ⟨hbx2.blk.cell rfl, hbx2.blk.cell rfl⟩
          | exact ⟨hbx3.blk.cell rfl, hbx3.blk.cell rfl⟩
          | exact ⟨(hbx3.blk.alloc _).cell rfl, (hbx3.blk.alloc _).cell rfl⟩
          | exact ⟨hbx4.blk.cell rfl, hbx4.blk.cell rfl⟩
          | exact ⟨hbx5.blk.cell rfl, hbx5.blk.cell rfl⟩)
        (first
          | (go_at_call 14; refine (HI1.out _ (Fr.drew _ _)).mono ?_; rintro e w2 ⟨rfl, hF2⟩; have hbx2 := hbx.keep ((Fr.drew (fun _ => False) _).trans hF2) (fun h => h))
          | (go_at_call 14; refine (HI2.out w2 ((Fr.drew _ _).trans hF2)).mono ?_; rintro e w3 ⟨rfl, hF3⟩; have hbx3 := hbx2.keep hF3 (fun h => h))
          | (go_at_call 13; refine (HJ.out w3).mono ?_; rintro e w4 ⟨rfl, hF4⟩; have hbx4 := hbx3.keep ((Fr.alloc (fun _ => False) w3 _).trans hF4) (fun h => h))
          | (go_at_call 12; refine (HW.out w4 ((((hV.trans (Fr.drew _ _)).trans hF2).trans hF3).trans ((Fr.alloc _ _ _).trans hF4))).mono ?_; rintro e w5 ⟨⟨v5, rfl⟩, hb5, hbel5, hoth5⟩; have hbx5 := box_kept hbx4 hoth5 (by have := HB.out.lt; omega) (by decide)))
      have hF5 := Fr.byBelow ((((hF.trans hV).trans (Fr.drew _ _)).trans hF2).trans (hF3.trans ((Fr.alloc _ _ _).trans hF4))) hbel5 (Nat.le_of_lt l0)
      obtain ⟨T, hT⟩ : ∃ T, prTxt (P.take k) ++ (header k needs ++ [10]) = T := ⟨_, rfl⟩
      rw [hT] at hb5
      have HST := hid hT
      have hTl : T.length + (ln10 (code.map txt)).length ≤ 131072 := by
        have := HLL.out
        rw [← hT]
        simp only [List.length_append, List.length_cons, List.length_nil] at this ⊢
        omega
      have HTL := hid hTl
      have HB5 := hid hb5
      have HF5 := hid hF5
      clear hT hTl hb5 hF5 hbel5 hoth5 hbx5 hbx4 hbx3 hbx2 hbx hF4 hF3 hF2 hV HI1 HI2 HJ HW q5 HLL HH
      go_wp2_with fail
      go_loopg [39] m (fun d i wr => PrRel2 w w1.heap.size T code d i wr)
      case atStart => exact ⟨0, by omega, by rw [HM.out, Nat.sub_zero], rfl, by simpa [ln10] using HB5.out, HF5.out⟩
      case round =>
        obtain ⟨j, hj, hd2, rfl, hb2, hFF⟩ := hrel
        rw [HM.out] at hj hd2
        have HB2 := hid hb2
        have HD2 := hid hd2
        clear hb2 hd2
        by_cases hjm : j < m
        · obtain ⟨⟨op, a, b, c', x⟩, hi⟩ : ∃ i, code[j]? = some i := ⟨_, List.getElem?_eq_getElem (by rw [HM.out]; exact hjm)⟩
          obtain ⟨g2, o2, rfl, hg2, hcell2⟩ := (HC.out.same hFF (Nat.le_refl _)) (by rw [HM.out]; omega)
          obtain ⟨r0, r1, r2, r3, r4⟩ := hcell2 j _ hi
          simp only at r0 r1 r2 r3 r4
          have hch := codeErr_mem HCE.out _ (List.mem_of_getElem? hi)
          have htl := txt_len _ hch
          have hln : (ln10 ((code.take j).map txt)).length ≤ (ln10 (code.map txt)).length := ln10_take code j
          have HTX := hid (text_any ⟨op, a, b, c', x⟩ hch)
          have q6 := add_nl (txt ⟨op, a, b, c', x⟩) (Nat.le_trans htl (by decide))
          have HW := hid (fun W (hW : Fr (fun _ => False) wr W) => write_ok w1.heap.size (T ++ ln10 ((code.take j).map txt)) (txt ⟨op, a, b, c', x⟩ ++ [10]) W (HB2.out.keep hW) (by have := HTL.out; simp only [List.length_append, List.length_cons, List.length_nil]; omega))
          have hV := Fr.alloc (fun _ => False) wr (.cells #[.int .i64 op, .int .i64 a, .int .i64 b, .int .i64 c', .int .i64 x] 35)
          have HSN := hid (ln10_snoc code j _ hi)
          unfold Ins.val at HTX
          simp only at HTX
          clear hi hcell2 hch htl hln
          go_wp2_with fail
          refine (HTX.out _ (HT.out.same (hFF.trans hV))).mono ?_
          rintro e w6 ⟨rfl, hF6⟩
          go_wp2_with fail
          refine (HW.out _ (hV.trans hF6)).mono ?_
          rintro e w7 ⟨⟨v7, rfl⟩, hb7, hbel7, _⟩
          have hF7 := Fr.byBelow ((hFF.trans hV).trans hF6) hbel7 (Nat.le_of_lt l0)
          go_wp2_with fail
          go_roundg (m - (j + 1))
          case rel => exact ⟨j + 1, by rw [HM.out]; omega, by rw [HM.out], by go_num, by rw [HSN.out, ← List.append_assoc]; exact hb7, hF7⟩
          case measure => have := HD2.out; omega
        · obtain rfl : j = m := by omega
          have hb8 : Bld wr w1.heap.size (prTxt (P.take (k + 1))) := by
            have := HB2.out
            rw [List.take_of_length_le (by rw [HM.out]; exact Nat.le_refl _)] at this
            rw [HS.out, HST.out]
            exact this
          have HB8 := hid hb8
          clear hb8
          go_wp2_with fail
          go_roundg (n - (k + 1))
          case rel => exact ⟨k + 1, by rw [HN.out]; omega, by rw [HN.out], by go_num, HB8.out, hFF⟩
          case measure => have := HD.out; omega
    · obtain rfl : k = n := by omega
      have hb := HB.out
      rw [List.take_of_length_le (by rw [HN.out]; exact Nat.le_refl _)] at hb
      have HSTR := hid (Tryz.Builder_String_any_f w1.heap.size w1.heap.size (prTxt P) wr hb (Nat.le_of_lt hb.lt))
      clear hb
      go_wp2_with fail
      refine HSTR.out.mono ?_
      rintro e w9 ⟨rfl, _, hbel9⟩
      go_wp2_with fail
      go_ret2
      exact ⟨rfl, Fr.byBelow hF hbel9 (Nat.le_of_lt l0)⟩

theorem print_any (A : Option Addr) (c : Nat) (P : List Fn) (w : World) (ht : Tabs w) (hp : Prg w w.heap.size A P) :
    Calls Tryz.prog 6 #[.agg #[.slice A P.length c]] w (PrPost w (prV P)) := by
  by_cases h : packErr P = 0
  · have := print_ok A c P.length P w ht hp rfl h
    rwa [show prV P = (prTxt P, 0) by unfold prV; rw [if_pos h]]
  · exact print_bad A c P w ht hp h

end Go.Proofs.YtepbnneggpcbcaaGreatDoor
