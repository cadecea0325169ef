/-
  asm.text and asm.Line.
-/
import Derived.Test.YtepbnneggpcbcaaGreatDoorSplit
import Derived.Test.YtepbnneggpcbcaaGreatDoorRuns
import Derived.Deep.RegionHeld3
import Derived.Deep.AppendLies
import Derived.StillTactics
namespace Go.Proofs.YtepbnneggpcbcaaGreatDoor
open Go.RowKit

theorem OwnR.lit (w : World) (B : Nat) (e : TypeId) (k : Nat) (cs : List Value) (n : Nat) (hB : B ≤ w.heap.size) (hn : cs.length = n * k) (hm : n ≤ 1000000) : OwnR (w.alloc (.cells cs.toArray e)) B e k (some ⟨w.heap.size, 0, none⟩) n n cs := by
  refine ⟨hn, .inr ⟨w.heap.size, n, cs.toArray, rfl, hB, ?_, Nat.le_refl _, by unfold maxLen; omega, by simpa using hn, ?_⟩⟩
  · show (w.heap.push _)[w.heap.size]? = _
    simp
  · rw [List.take_of_length_le (by simp; omega)]

theorem Tryz.infos : (Tryz.prog.info? 9).map (fun i => (i.zero, i.size, i.bytes)) = some (some (.string ⟨#[]⟩), 1, 16) := by kernel_rfl

def strs (l : List Bs) : List Value := l.map fun x => .string (bs x)

theorem bs_app (a b : Bs) : bs a ++ bs b = bs (a ++ b) := by
  unfold bs
  apply ByteArray.ext
  simp

theorem fld_cell (a b c n : Int) (op : Int) (k : Nat) (hk : k < 4) : (#[Value.int .i64 a, .int .i64 b, .int .i64 c, .int .i64 n] : Array Value)[k]? = some (.int .i64 ((⟨op, a, b, c, n⟩ : Ins).fld k)) := by
  have hm : k = 0 ∨ k = 1 ∨ k = 2 ∨ k = 3 := by omega
  rcases hm with rfl | rfl | rfl | rfl <;> rfl

def TxRel (w : World) (b1 b3 : Nat) (ws : List Bs) (m : Nat) (s3 s26 : Value) (d : Nat) (wr : World) : Prop :=
  ∃ (j : Nat) (A : Option Addr) (cap : Nat), j ≤ m ∧ d = m - j ∧ s26 = .int .i64 j ∧ s3 = .slice A (j + 1) cap ∧ OwnR wr b1 9 1 A (j + 1) cap (strs (ws.take (j + 1))) ∧ (∀ k, ownB A k → k = b1 ∨ b3 ≤ k) ∧ Fr (fun k => k = b1 ∨ b3 ≤ k) w wr

def TxPost (w : World) (l : Bs) (e : Ending) (w' : World) : Prop := e = .returned (.string (bs l)) ∧ Fr (fun _ => False) w w'

set_option maxRecDepth 100000 in
set_option maxHeartbeats 2000000 in
theorem text_any (i : Ins) (h : chk i = 0) (w : World) (ht : Tabs w) : Calls Tryz.prog 15 #[i.val] w (TxPost w (txt i)) := by
  obtain ⟨i0, hi, hz⟩ := Option.map_eq_some_iff.1 Tryz.infos
  simp only [Prod.mk.injEq] at hz
  obtain ⟨hz0, hz1, hz2⟩ := hz
  have HI := hid hi
  have HZ0 := hid hz0
  have HZ1 := hid hz1
  have HZ2 := hid hz2
  clear hi hz0 hz1 hz2
  obtain ⟨ho, hop, hb⟩ := chk_zero h
  have HBD := hid hb
  clear hb
  obtain ⟨op, a, b, c, n⟩ := i
  obtain ⟨o, rfl⟩ : ∃ o : Nat, op = o := ⟨op.toNat, hop.symm⟩
  simp only [Int.toNat_natCast] at ho HBD
  have HTX := hid (show txt ⟨o, a, b, c, n⟩ = glue 32 (wordsOf o (⟨o, a, b, c, n⟩ : Ins).fld) by unfold txt; rw [Int.toNat_natCast])
  have HLEN := hid (txt_len _ h)
  clear hop h
  have H0 := ht.two
  have q0 := (ht.same (Fr.alloc (fun _ => False) w (.cells #[.int .i64 o, .int .i64 a, .int .i64 b, .int .i64 c, .int .i64 n] 35))).nms o ho
  obtain ⟨f, hf⟩ : ∃ f, (⟨o, a, b, c, n⟩ : Ins).fld = f := ⟨_, rfl⟩
  have HF := hid hf
  rw [hf] at HBD HTX
  clear hf
  obtain ⟨nm, hnm⟩ : ∃ nm, names.getD o [] = nm := ⟨_, rfl⟩
  rw [hnm] at q0
  have HNM := hid hnm
  clear hnm
  have h1 : Fr (fun _ => False) w (((w.alloc (.cells #[.int .i64 o, .int .i64 a, .int .i64 b, .int .i64 c, .int .i64 n] 35)).alloc (.cells #[.string (bs nm)] 9)).alloc (.cells #[.int .i64 a, .int .i64 b, .int .i64 c, .int .i64 n] 66)) := ((Fr.alloc _ _ _).trans (Fr.alloc _ _ _)).trans (Fr.alloc _ _ _)
  have HFL := hid (fields_any o ho _ (ht.same h1))
  unfold Ins.val
  go_enter Tryz.func15, Tryz.ntmps15
  go_wp2_with fail
  refine HFL.out.mono ?_
  rintro e w1 ⟨Af, cf, rfl, hfl, hF1⟩
  obtain ⟨m, hm⟩ : ∃ m, (flds o).length = m := ⟨_, rfl⟩
  rw [hm] at hfl ⊢
  have HM := hid hm
  have HFD := hid hfl
  have hm3 : m ≤ 3 := by
    have : ∀ op, op < 17 → (flds op).length ≤ 3 := by decide
    rw [← hm]
    exact this o ho
  clear hm hfl
  have hs1 := hF1.size
  have hB0 := (((Blk.new w #[.int .i64 o, .int .i64 a, .int .i64 b, .int .i64 c, .int .i64 n] 35).alloc (.cells #[.string (bs nm)] 9)).alloc (.cells #[.int .i64 a, .int .i64 b, .int .i64 c, .int .i64 n] 66)).keep hF1 (fun h => h)
  have hB2 := ((Blk.new ((w.alloc (.cells #[.int .i64 o, .int .i64 a, .int .i64 b, .int .i64 c, .int .i64 n] 35)).alloc (.cells #[.string (bs nm)] 9)) #[.int .i64 a, .int .i64 b, .int .i64 c, .int .i64 n] 66).at (show _ = w.heap.size + 2 by simp)).keep hF1 (fun h => h)
  have hO1 : OwnR w1 (w.heap.size + 1) 9 1 (some ⟨w.heap.size + 1, 0, none⟩) 1 1 [.string (bs nm)] := by
    have h := OwnR.lit (w.alloc (.cells #[.int .i64 o, .int .i64 a, .int .i64 b, .int .i64 c, .int .i64 n] 35)) (w.heap.size + 1) 9 1 [.string (bs nm)] 1 (by simp) rfl (by omega)
    rw [size_alloc] at h
    exact (h.same (Fr.alloc _ _ _)).same hF1
  have HB0 := hid hB0
  have HB2 := hid hB2
  have HO1 := hid hO1
  clear hB0 hB2 hO1
  have hT1 := (ht.same h1).same hF1
  have hs3 : w.heap.size + 3 ≤ w1.heap.size := by simp at hs1; omega
  go_wp2_with fail
  go_loopg [3, 26] m (fun d s3 s26 wr => TxRel w1 (w.heap.size + 1) w1.heap.size (wordsOf o f) m s3 s26 d wr)
  case atStart =>
    refine ⟨0, _, 1, by omega, by omega, rfl, rfl, ?_, ?_, Fr.refl _ _⟩
    · have := HO1.out
      unfold wordsOf
      rw [HNM.out]
      exact this
    · rintro k ⟨a', e1, e2⟩
      injection e1 with e1
      subst e1
      exact .inl e2.symm
  case round =>
    obtain ⟨j, A, cap, hj, hd, rfl, rfl, hown, hob, hF⟩ := hrel
    have HD := hid hd
    have HO := hid hown
    have HOB := hid hob
    clear hd hown hob
    by_cases hlt : j < m
    · obtain ⟨k, hk⟩ : ∃ k, (flds o)[j]? = some k := ⟨_, List.getElem?_eq_getElem (by rw [HM.out]; exact hlt)⟩
      obtain ⟨k4, _⟩ := flds_lt (List.mem_of_getElem? hk)
      obtain ⟨kf1, _, _, _, _, _, kf7, kf8⟩ := kinds_fit o ho k k4
      have hbk := HBD.out k k4
      simp only [bad, Bool.or_eq_false_iff, decide_eq_false_iff_not] at hbk
      obtain ⟨gf, rfl, hg1, hg2, _, hgc⟩ := OwnR.cell HFD.out (by omega)
      simp only [size_alloc] at hg1
      have hT := hT1.keep hF (fun k hk => by omega)
      have c0 : wr.cell? ⟨gf, j, none⟩ = some (.int .i64 (k : Int)) := (cell_keep hF (p := ⟨gf, j, none⟩) hg2 (by show ¬ (gf = w.heap.size + 1 ∨ w1.heap.size ≤ gf); omega)).trans (hgc j _ (by simp [nats, hk]))
      have c1 : wr.cell? ⟨w.heap.size, 0, none⟩ = some (.int .i64 (o : Int)) := (HB0.out.keep hF (by omega)).cell rfl
      have c2 := hT.kds o k ho k4
      have c3 := hT.mks (ak o k) (by omega)
      have c4 : wr.cell? ⟨w.heap.size + 2, k, none⟩ = some (.int .i64 (f k)) := (HB2.out.keep hF (by omega)).cell (by rw [fld_cell a b c n o k k4, HF.out])
      have HW := hid (show (wordsOf o f).take (j + 1 + 1) = (wordsOf o f).take (j + 1) ++ [wrOpd (ak o k) (f k)] by
        rw [List.take_add_one (i := j + 1)]
        congr 1
        unfold wordsOf
        rw [List.getElem?_cons_succ, List.getElem?_map, hk]
        rfl)
      have hml : (mk (ak o k)).length ≤ 1 := (show ∀ kind, kind ≤ 4 → (mk kind).length ≤ 1 by decide) _ kf1
      have hil := itoa_short (f k) (by omega) (by omega)
      have hx0 : -9223372036854775808 ≤ f k := by omega
      have hx1 : f k ≤ 9223372036854775807 := by omega
      unfold wrOpd at HW
      have HGC := hid hgc
      have HKK := hid hk
      clear hgc hk hbk kf7 kf8
      generalize mk (ak o k) = p at c3 hml HW
      generalize ak o k = kd at c2 c3 kf1
      generalize f k = x at c4 hil hx0 hx1 HW
      have hsp : (bs p).size ≤ 100 := by rw [bs_size]; omega
      have hsq : (bs (Lib.itoa x)).size ≤ 100 := by rw [bs_size]; omega
      have q5 : ∀ W, (Op.stringOp .add (bs p) (bs (Lib.itoa x))).run Tryz.prog W = .ok (.string (bs p ++ bs (Lib.itoa x))) W := fun W => run_string_add_sum W (bs p) (bs (Lib.itoa x)) (by omega)
      have HIT := hid (fun (W : World) (hW : Fr (fun _ => False) wr W) => itoa_ok x hx0 hx1 W (hT.same hW))
      have hwr := hF.size
      have HKP := hid (show ∀ W, Fr (fun k => k = w.heap.size + 1 ∨ w1.heap.size ≤ k) wr W → W.cell? ⟨w.heap.size, 0, none⟩ = some (.int .i64 (o : Int)) ∧ W.cell? ⟨0, o * 5 + 1 + k, none⟩ = some (.int .i64 (kd : Int)) ∧ W.cell? ⟨1, kd, none⟩ = some (.string (bs p)) ∧ W.cell? ⟨w.heap.size + 2, k, none⟩ = some (.int .i64 x) from fun W hW =>
        ⟨(cell_keep hW (p := ⟨w.heap.size, 0, none⟩) (by show w.heap.size < wr.heap.size; omega) (by show ¬ (w.heap.size = w.heap.size + 1 ∨ w1.heap.size ≤ w.heap.size); omega)).trans c1, (cell_keep hW (p := ⟨0, o * 5 + 1 + k, none⟩) (by show 0 < wr.heap.size; omega) (by show ¬ (0 = w.heap.size + 1 ∨ w1.heap.size ≤ 0); omega)).trans c2, (cell_keep hW (p := ⟨1, kd, none⟩) (by show 1 < wr.heap.size; omega) (by show ¬ (1 = w.heap.size + 1 ∨ w1.heap.size ≤ 1); omega)).trans c3, (cell_keep hW (p := ⟨w.heap.size + 2, k, none⟩) (by show w.heap.size + 2 < wr.heap.size; omega) (by show ¬ (w.heap.size + 2 = w.heap.size + 1 ∨ w1.heap.size ≤ w.heap.size + 2); omega)).trans c4⟩)
      clear hT c1 c2 c3 c4 hx0 hx1 hml hil
      have z0 : (0 : Int) ≤ (k : Int) := by omega
      have z1 : (k : Int) < 4 := by omega
      have z2 : (0 : Int) ≤ (kd : Int) := by omega
      have z3 : (kd : Int) < 5 := by omega
      have z4 : (o : Int) < 17 := by omega
      go_wp2_with fail
      go_region_held3 (fun W => W.cell? ⟨w.heap.size, 0, none⟩ = some (.int .i64 (o : Int)) ∧ W.cell? ⟨0, o * 5 + 1 + k, none⟩ = some (.int .i64 (kd : Int)) ∧ W.cell? ⟨1, kd, none⟩ = some (.string (bs p)) ∧ W.cell? ⟨w.heap.size + 2, k, none⟩ = some (.int .i64 x))
        (first | exact HKP.out _ (Fr.refl _ _) | exact HKP.out _ (Fr.drew _ _) | exact HKP.out _ HF2.out | exact HKP.out _ (HF2.out.trans (Fr.alloc _ _ _)) | exact HKP.out _ HF3.out)
        (first
          | (go_at_call 14; refine (HIT.out _ (Fr.drew _ _)).mono ?_; rintro e w2 ⟨rfl, hF2⟩; have HF2 := hid (((Fr.drew (fun k => k = w.heap.size + 1 ∨ w1.heap.size ≤ k) wr).trans (hF2.mono (fun _ h => h.elim)))); have HO2 := hid ((OwnR.same HO.out ((Fr.drew _ _).trans hF2)).same (Fr.alloc _ w2 (.cells #[.string (bs p ++ bs (Lib.itoa x))] 9))); have HN2 := hid (news8 w2 9 [.string (bs p ++ bs (Lib.itoa x))]); have hs2 : w.heap.size + 3 ≤ w2.heap.size := Nat.le_trans (by have := HF2.out.size; omega) (Nat.le_refl _))
          | (refine step_append_lies _ (by rfl) _ _ _ (by rfl) (w.heap.size + 1) 9 i0 _ 1 16 Tryz.underlying55 HI.out HZ0.out HZ1.out HZ2.out rfl (by omega) (.slice A (j + 1) cap) (j + 1) _ (by rfl) HO2.out ⟨w2.heap.size, 0, none⟩ 1 1 [.string (bs p ++ bs (Lib.itoa x))] (by rfl) (by rfl) HN2.out (by simp [Value.oneCell']) (by omega) (by unfold maxLen; omega) (by omega) (by simp; omega) (w2.heap.size + 1) (by simp) ?_; intro gg cp w3 hown3 hgrow3 hat3 hlt3; have HO3 := hid hown3; have HF3 := hid ((HF2.out.trans (Fr.alloc _ w2 (.cells #[.string (bs p ++ bs (Lib.itoa x))] 9))).trans ((Fr.of_grown' hgrow3).mono HOB.out)); have HAT := hid hat3; clear hown3 hgrow3 hat3))
      go_wp2_with fail
      go_roundg (m - (j + 1))
      case rel =>
        refine ⟨j + 1, some ⟨gg, 0, none⟩, cp, by omega, rfl, by go_num, rfl, ?_, ?_, hF.trans HF3.out⟩
        · refine OwnR.eq HO3.out ?_
          rw [HW.out, bs_app]
          simp [strs]
        · rintro k' ⟨a', e1, e2⟩
          injection e1 with e1
          subst e1
          have e2 : gg = k' := e2
          subst e2
          rcases HAT.out with h | h
          · exact HOB.out _ (by
              cases A with
              | none => simp [Value.ownBlock] at h
              | some a0 => exact ⟨a0, rfl, by simpa [Value.ownBlock] using h⟩)
          · right
            have := HF2.out.size
            omega
      case measure => have := HD.out; omega
    · obtain rfl : j = m := by omega
      obtain ⟨g, rfl, hg1, hg2, _, hgc⟩ := OwnR.cell HO.out (by omega)
      have hall : (wordsOf o f).take (j + 1) = wordsOf o f := by
        refine List.take_of_length_le ?_
        unfold wordsOf
        rw [List.length_cons, List.length_map, HM.out]
        omega
      rw [hall] at hgc
      have hlen : (wordsOf o f).length = j + 1 := by
        unfold wordsOf
        rw [List.length_cons, List.length_map, HM.out]
      have hcap : j + 1 ≤ cap := by
        rcases HO.out.2 with ⟨_, h2⟩ | ⟨g', c', cur, hv, _, _, h3, _⟩
        · omega
        · injection hv with _ _ hv
          omega
      have hJ := join_any g 0 cap (wordsOf o f) wr (fun j x hx => by
        rw [Nat.zero_add]
        exact hgc j _ (by simp [strs, hx])) hg2 (by omega) (by omega) (by rw [← HTX.out]; have := HLEN.out; omega)
      rw [hlen] at hJ
      have HJ := hid hJ
      clear hJ hgc hall hlen
      go_wp2_with fail
      refine HJ.out.mono ?_
      rintro e w2 ⟨rfl, hF2⟩
      go_wp2_with fail
      go_ret
      refine ⟨by rw [HTX.out]; rfl, ?_⟩
      exact (h1.mono (fun _ h => h)).since ((hF1.mono (fun _ h => h.elim)).trans (hF.trans (hF2.mono (fun _ h => h.elim))) : Fr (fun k => k = w.heap.size + 1 ∨ w1.heap.size ≤ k) _ w2) (fun k hk hkl => by rcases hk with hk | hk <;> omega)

/-- What Line answers. -/
def lnV (i : Ins) : Bs × Int := if chk i = 0 then (txt i, 0) else ([], chk i)

def LnPost (w : World) (q : Bs × Int) (e : Ending) (w' : World) : Prop := e = .returned (.tuple #[.string (bs q.1), .int .i64 q.2]) ∧ Fr (fun _ => False) w w'

set_option maxRecDepth 100000 in
set_option maxHeartbeats 1000000 in
theorem line_any (i : Ins) (w : World) (ht : Tabs w) : Calls Tryz.prog 8 #[i.val] w (LnPost w (lnV i)) := by
  have hA := Fr.alloc (fun _ => False) w (.cells #[.int .i64 i.op, .int .i64 i.a, .int .i64 i.b, .int .i64 i.c, .int .i64 i.n] 35)
  have hT := ht.same hA
  have hB := Blk.new w #[.int .i64 i.op, .int .i64 i.a, .int .i64 i.b, .int .i64 i.c, .int .i64 i.n] 35
  have HC := hid (check_any i _ hT)
  by_cases h : chk i = 0
  · have HTX := hid (fun W hW => text_any i h W hW)
    have HV := hid (show lnV i = (txt i, 0) by unfold lnV; rw [if_pos h])
    rw [h] at HC
    clear h
    unfold Ins.val at *
    go_enter Tryz.func8, Tryz.ntmps8
    go_wp2_with fail
    refine HC.out.mono ?_
    rintro e w1 ⟨rfl, hF1⟩
    have hB1 := hB.keep hF1 (fun h => h)
    have p0 : w1.cell? ⟨w.heap.size, 0, none⟩ = some (.int .i64 i.op) := hB1.cell rfl
    have p1 : w1.cell? ⟨w.heap.size, 1, none⟩ = some (.int .i64 i.a) := hB1.cell rfl
    have p2 : w1.cell? ⟨w.heap.size, 2, none⟩ = some (.int .i64 i.b) := hB1.cell rfl
    have p3 : w1.cell? ⟨w.heap.size, 3, none⟩ = some (.int .i64 i.c) := hB1.cell rfl
    have p4 : w1.cell? ⟨w.heap.size, 4, none⟩ = some (.int .i64 i.n) := hB1.cell rfl
    have pl := hB1.lt
    go_wp2_with fail
    refine (HTX.out _ (hT.same hF1)).mono ?_
    rintro e w2 ⟨rfl, hF2⟩
    go_wp2_with fail
    go_ret2
    exact ⟨by rw [HV.out]; rfl, hA.trans (hF1.trans hF2)⟩
  · have HV := hid (show lnV i = ([], chk i) by unfold lnV; rw [if_neg h])
    obtain ⟨x, hx⟩ : ∃ x, chk i = x := ⟨_, rfl⟩
    rw [hx] at HC HV h
    have q1 : (x != 0) = true := by simpa using h
    clear hx h
    unfold Ins.val at *
    go_enter Tryz.func8, Tryz.ntmps8
    go_wp2_with fail
    refine HC.out.mono ?_
    rintro e w1 ⟨rfl, hF1⟩
    go_wp2_with fail
    go_ret2
    exact ⟨by rw [HV.out]; rfl, hA.trans hF1⟩

end Go.Proofs.YtepbnneggpcbcaaGreatDoor
