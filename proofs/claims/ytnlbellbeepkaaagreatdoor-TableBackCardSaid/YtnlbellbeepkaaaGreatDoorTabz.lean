/-
  Stage 7, for TableBack: the tables that Parse reads besides.
-/
import Derived.Test.YtnlbellbeepkaaaGreatDoorTabs
import Derived.Test.YtnlbellbeepkaaaGreatDoorPInt
namespace Go.Proofs.YtnlbellbeepkaaaGreatDoor
open Go.RowKit
set_option linter.unusedVariables false

structure Tabz (w : World) : Prop where
  tabs : Tabs w
  big : (8 : Nat) < w.heap.size ∧ (2 : Nat) < w.heap.size
  most : ∃ m, w.cell? ⟨2, 0, none⟩ = some (.int .i64 m)
  rng : ∃ t fz u v, w.heap[(8 : Nat)]? = some (.cells #[.iface u v] t fz)

theorem Tabz.same {w w' : World} (h : Tabz w) (f : Fr (fun _ => False) w w') : Tabz w' := by
  obtain ⟨h1, h2, ⟨m, h3⟩, t, fz, u, v, h4⟩ := h
  refine ⟨h1.same f, ⟨Nat.lt_of_lt_of_le h2.1 f.size, Nat.lt_of_lt_of_le h2.2 f.size⟩, ⟨m, ?_⟩, t, fz, u, v, ?_⟩
  · rw [cell_keep f (p := ⟨2, 0, none⟩) h2.2 (fun h => h)]
    exact h3
  · rw [f.block _ h2.1 (fun h => h)]
    exact h4

theorem Tabz.var {w : World} (h : Tabz w) : ∃ u v, w.var? Tryz.prog "strconv.ErrRange" = some #[.iface u v] := by
  obtain ⟨t, fz, u, v, hb⟩ := h.rng
  refine ⟨u, v, ?_⟩
  unfold World.var?
  rw [show Tryz.prog.globalNamed "strconv.ErrRange" = some 8 by kernel_rfl]
  simp [hb]

theorem bytes_fr (w : World) (e : TypeId) (s : ByteArray) : Fr (fun _ => False) w (Lib.bytesWorld w e s) := by
  have h1 : Fr (fun _ => False) w (w.drew.alloc (.cells (Lib.bytesCells w e s) e)) := (Fr.drew _ _).trans (Fr.alloc _ _ _)
  have h2 : Fr (fun k => k = w.heap.size) (w.drew.alloc (.cells (Lib.bytesCells w e s) e)) (Lib.bytesWorld w e s) :=
    ⟨rfl, rfl, rfl, by simp [Lib.bytesWorld, World.freeze], fun k _ hn => by
      have hne : ¬ w.heap.size = k := fun e => hn e.symm
      simp [Lib.bytesWorld, World.freeze, Array.getElem?_modify, hne]⟩
  exact h1.since h2 (fun i hi hl => absurd hl (by omega))

def WrRel (d : Bs) (n : Nat) (w : World) (dd : Nat) (k : Value) (wr : World) : Prop :=
  ∃ j : Nat, j ≤ n ∧ dd = n + 1 - j ∧ k = .int .i64 j ∧ (∀ (i : Nat) b, i < j → d[i]? = some b → isDig b = true) ∧ w = wr

set_option maxRecDepth 100000 in
set_option maxHeartbeats 2000000 in
theorem written_any (x : Bs) (hx : x.length ≤ 1000000) (w : World) :
    Calls Tryz.prog 81 #[.string (bs x)] w fun e w' => e = .returned (.bool (wrtn x)) ∧ w = w' := by
  have hTP := Tryz.strings_TrimPrefix (bs x) ⟨#[45]⟩ w
  rw [show (bs x).data.toList = x from rfl, show (⟨#[45]⟩ : ByteArray).data.toList = [45] from rfl, trim_digs] at hTP
  obtain ⟨d, hd⟩ : ∃ d, digs x = d := ⟨_, rfl⟩
  rw [hd] at hTP
  have hdl : d.length ≤ 1000000 := by
    rw [← hd]
    unfold digs
    split
    · rw [List.length_tail]; omega
    · exact hx
  obtain ⟨D, hD⟩ : ∃ D, (⟨d.toArray⟩ : ByteArray) = D := ⟨_, rfl⟩
  rw [hD] at hTP
  have HTP := hid hTP
  have HD := hid hD
  have hsz : D.size = d.length := by rw [← hD]; rfl
  have HDX := hid hd
  have HDL : Hid (D.data.toList = d) := hid (by rw [← hD])
  obtain ⟨S, hS⟩ : ∃ S, bs x = S := ⟨_, rfl⟩
  have HS := hid hS
  rw [hS] at HTP ⊢
  clear hTP hD hd hS
  rcases Nat.eq_zero_or_pos d.length with h0 | h0
  · have hW := hid (show wrtn x = false by
      unfold wrtn
      rw [HDX.out, List.eq_nil_of_length_eq_zero h0]
      rfl)
    obtain rfl : D = ⟨#[]⟩ := empty_of (by omega)
    clear hsz h0
    go_enter Tryz.func81, Tryz.ntmps81
    go_wp2_with fail
    refine HTP.out.mono ?_
    rintro e w1 ⟨rfl, rfl⟩
    go_wp2_with fail
    go_ret
    exact ⟨ret_bool hW.out.symm, rfl⟩
  · have e0 := not_empty (cl := D) (by omega)
    have e1 : D.toList.isEmpty = false := by cases hh : D.toList with | nil => exact absurd hh e0 | cons a b => rfl
    have e2 : (D.toList == []) = false := by rw [beq_eq_false_iff_ne]; exact e0
    have hs0 : 0 < D.size := by omega
    have hs1 : D.size ≤ 1000000 := by omega
    have HB0 := hid (byte_at D hs0)
    obtain ⟨b8, hb8⟩ : ∃ b : Bool, (((D[0].toNat : Int) == 48) && !(S.toList == [48])) = b := ⟨_, rfl⟩
    have HW := hid (show wrtn x = (!b8 && d.all isDig) by
      unfold wrtn
      rw [HDX.out]
      have g1 : d.isEmpty = false := by cases d with | nil => simp at h0 | cons a b => rfl
      have g2 : (d.headD 0 == 48) = ((D[0].toNat : Int) == 48) := by
        have := HB0.out
        rw [HDL.out] at this
        cases d with
        | nil => simp at h0
        | cons a r =>
          simp at this
          rw [← this, Bool.eq_iff_iff, beq_iff_eq, beq_iff_eq]
          simp only [List.headD_cons]
          constructor
          · rintro rfl; rfl
          · intro hh
            exact UInt8.toNat.inj (by simpa using (by omega : a.toNat = 48))
      have g3 : (x != [48]) = !(S.toList == [48]) := by
        rw [← HS.out, ByteArray.toList_eq]
        rfl
      rw [g1, g2, g3, hb8]
      rfl)
    clear e0 h0
    have hq : ((D[0].toNat : Int) == 48) = false ∧ b8 = false ∨ ((D[0].toNat : Int) == 48) = true ∧ (S.toList == [48]) = true ∧ b8 = false ∨ ((D[0].toNat : Int) == 48) = true ∧ (S.toList == [48]) = false ∧ b8 = true := by
      rw [← hb8]
      cases ((D[0].toNat : Int) == 48) <;> cases (S.toList == [48]) <;> simp
    clear hb8
    have HSZ := hid hsz
    clear hsz
    have hrest : b8 = true ∨ b8 = false := by cases b8 <;> simp
    rcases hq with ⟨t1, rfl⟩ | ⟨t1, t2, rfl⟩ | ⟨t1, t2, rfl⟩
    rotate_right
    · go_enter Tryz.func81, Tryz.ntmps81
      go_wp2_with fail
      refine HTP.out.mono ?_
      rintro e w1 ⟨rfl, rfl⟩
      go_wp2_with fail
      go_ret
      exact ⟨ret_bool (by rw [HW.out]; rfl), rfl⟩
    all_goals
      clear hrest
      go_enter Tryz.func81, Tryz.ntmps81
      go_wp2_with fail
      refine HTP.out.mono ?_
      rintro e w1 ⟨rfl, rfl⟩
      go_wp2_with fail
      go_loopg [20] (D.size + 1) (fun dd k wr => WrRel d D.size w1 dd k wr)
      case atStart => exact ⟨0, by omega, by omega, rfl, fun i b h => by omega, rfl⟩
      case round =>
        obtain ⟨j, hj, hd, rfl, hall, rfl⟩ := hrel
        have HA := hid hall
        have HDD := hid hd
        clear hall hd
        by_cases hlt : j < D.size
        · have HB := hid (byte_at D hlt)
          have HV := hid (show d[j]? = some D[j] by rw [← HDL.out]; exact HB.out)
          by_cases g1 : (D[j].toNat : Int) < 48
          · have HN := hid (show d.all isDig = false by
              rw [List.all_eq_false]
              exact ⟨_, List.mem_of_getElem? HV.out, by unfold isDig; simp; omega⟩)
            go_wp2_with fail
            go_ret
            exact ⟨ret_bool (by rw [HW.out, HN.out]; rfl), rfl⟩
          · by_cases g2 : 57 < (D[j].toNat : Int)
            · have HN := hid (show d.all isDig = false by
                rw [List.all_eq_false]
                exact ⟨_, List.mem_of_getElem? HV.out, by unfold isDig; simp; omega⟩)
              go_wp2_with fail
              go_ret
              exact ⟨ret_bool (by rw [HW.out, HN.out]; rfl), rfl⟩
            · have HG := hid (show isDig D[j] = true by unfold isDig; simp; omega)
              clear g1 g2
              have g1 : ¬ (D[j].toNat : Int) < 48 := by have := dig_of HG.out; omega
              have g2 : ¬ 57 < (D[j].toNat : Int) := by have := dig_of HG.out; omega
              go_wp2_with fail
              go_roundg (D.size + 1 - (j + 1))
              case rel => exact ⟨j + 1, by omega, rfl, by go_num, fun i b hi hb => by
                rcases Nat.lt_or_ge i j with h | h
                · exact HA.out i b h hb
                · obtain rfl : i = j := by omega
                  rw [HV.out] at hb
                  injection hb with hb
                  rw [← hb]
                  exact HG.out, rfl⟩
              case measure => have := HDD.out; omega
        · have HN := hid (show d.all isDig = true by
            rw [List.all_eq_true]
            intro b hb
            obtain ⟨i, hi, rfl⟩ := List.getElem_of_mem hb
            exact HA.out i _ (by have := HSZ.out; omega) (List.getElem?_eq_getElem hi))
          go_wp2_with fail
          go_ret
          exact ⟨ret_bool (by rw [HW.out, HN.out]; rfl), rfl⟩

def NvPost (x : Bs) (w : World) (e : Ending) (w' : World) : Prop := e = .returned (.tuple #[.int .i64 (numV x).1, .int .i64 (numV x).2]) ∧ Fr (fun _ => False) w w'

set_option maxRecDepth 100000 in
set_option maxHeartbeats 2000000 in
theorem numb_any (x : Bs) (hx : x.length ≤ 1000000) (w : World) (ht : Tabz w) :
    Calls Tryz.prog 63 #[.string (bs x)] w (NvPost x w) := by
  have HWR := hid (written_any x hx w)
  obtain ⟨q, hq⟩ : ∃ q, numV x = q := ⟨_, rfl⟩
  unfold NvPost
  rw [hq]
  obtain ⟨b, hb⟩ : ∃ b, wrtn x = b := ⟨_, rfl⟩
  rw [hb] at HWR
  cases b with
  | false =>
    obtain rfl : q = (0, 11) := by rw [← hq]; unfold numV; rw [if_neg (by rw [hb]; simp)]
    clear hq hb
    go_enter Tryz.func63, Tryz.ntmps63
    go_wp2_with fail
    refine HWR.out.mono ?_
    rintro e w1 ⟨rfl, rfl⟩
    go_wp2_with fail
    go_ret2
    exact ⟨rfl, Fr.refl _ _⟩
  | true =>
    have hpi := parse_wrtn hb
    by_cases hi : inI (numX x)
    · rw [if_pos hi] at hpi
      obtain rfl : q = (numX x, 0) := by rw [← hq]; unfold numV; rw [if_pos hb, if_pos hi]
      have HPI := hid (Tryz.strconv_ParseInt_10_at64_ok (bs x) (by rw [bs_size]; omega) (numX x) hpi w)
      clear hq hb hpi
      go_enter Tryz.func63, Tryz.ntmps63
      go_wp2_with fail
      refine HWR.out.mono ?_
      rintro e w1 ⟨rfl, rfl⟩
      go_wp2_with fail
      refine HPI.out.mono ?_
      rintro e w2 ⟨rfl, hw2⟩
      have HF := hid (show Fr (fun _ => False) w w2 by
        rcases hw2 with rfl | ⟨t, rfl⟩
        · exact Fr.refl _ _
        · exact bytes_fr _ _ _)
      clear hw2
      go_wp2_with fail
      go_ret2
      exact ⟨rfl, HF.out⟩
    · rw [if_neg hi] at hpi
      obtain rfl : q = (0, 10) := by rw [← hq]; unfold numV; rw [if_pos hb, if_neg hi]
      obtain ⟨u, v, hv⟩ := ht.var
      have HPI := hid (Tryz.strconv_ParseInt_10_at64_range_var (bs x) (by rw [bs_size]; omega) hpi u v w hv)
      clear hq hb hpi hv
      go_enter Tryz.func63, Tryz.ntmps63
      go_wp2_with fail
      refine HWR.out.mono ?_
      rintro e w1 ⟨rfl, rfl⟩
      go_wp2_with fail
      refine HPI.out.mono ?_
      rintro e w2 ⟨N, rfl, _, _, hb2⟩
      have HF := hid (Fr.ofBelow hb2)
      clear hb2
      go_wp2_with fail
      go_ret2
      exact ⟨rfl, HF.out⟩

end Go.Proofs.YtnlbellbeepkaaaGreatDoor
