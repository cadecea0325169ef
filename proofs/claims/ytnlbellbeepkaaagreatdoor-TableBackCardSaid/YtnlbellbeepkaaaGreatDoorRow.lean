/-
  Stage 7: rows in memory, and whether two tables are one.
-/
import Derived.Test.YtnlbellbeepkaaaGreatDoorHeap
import Derived.Test.YtnlbellbeepkaaaGreatDoorTab
import Derived.Test.YtnlbellbeepkaaaGreatDoorProg
import Derived.Test.YtnlbellbeepkaaaGreatDoorChecked
import Derived.Deep.LoopGhost
import Derived.Deep.RegionHeld3
import Derived.Deep.DeepCutAuto
import Derived.Laws.StructEq
namespace Go.Proofs.YtnlbellbeepkaaaGreatDoor
open Go.RowKit
set_option linter.unusedVariables false

theorem flat_at {α : Type} (g : α → List Value) (k : Nat) (hg : ∀ x, (g x).length = k) {l : List α} {i : Nat} {x : α} (hi : l[i]? = some x) {j : Nat} (hj : j < k) : (l.flatMap g)[i * k + j]? = (g x)[j]? := by
  induction l generalizing i with
  | nil => simp at hi
  | cons a r ih =>
    rw [List.flatMap_cons]
    cases i with
    | zero =>
      simp at hi
      subst hi
      rw [Nat.zero_mul, Nat.zero_add, List.getElem?_append_left (by rw [hg]; exact hj)]
    | succ i =>
      simp only [List.getElem?_cons_succ] at hi
      rw [List.getElem?_append_right (by rw [hg, Nat.succ_mul]; omega), hg, show (i + 1) * k + j - k = i * k + j by rw [Nat.succ_mul]; omega]
      exact ih hi

def Tw.cells (r : Tw) : List Value := [.int .i64 r.par, .int .i64 r.in_, .int .i64 r.fn, .int .i64 r.kind, .int .i64 r.v, .int .i64 r.st, .string r.cl]
theorem Tw.cells_len (r : Tw) : r.cells.length = 7 := rfl
def flatT (l : List Tw) : List Value := l.flatMap Tw.cells
theorem sizeRow : ∃ M : Nat, M = 7 ∧ ∀ w, (sizeOf 34).run Tryz.prog w = .ok M w := ⟨7, rfl, fun _ => by kernel_rfl⟩

/-- Two rows are one. -/
def Tw.same (r s : Tw) : Bool := r.par == s.par && (r.in_ == s.in_ && (r.fn == s.fn && (r.kind == s.kind && (r.v == s.v && (r.st == s.st && (r.cl.toList == s.cl.toList))))))

theorem bytes_inj {a b : ByteArray} (h : a.toList = b.toList) : a = b := by
  rw [ByteArray.toList_eq, ByteArray.toList_eq] at h
  exact ByteArray.ext (Array.ext' h)

theorem Tw.same_iff {r s : Tw} : r.same s = true ↔ r = s := by
  unfold Tw.same
  constructor
  · intro h
    simp only [Bool.and_eq_true, beq_iff_eq] at h
    obtain ⟨h1, h2, h3, h4, h5, h6, h7⟩ := h
    have := bytes_inj h7
    cases r
    cases s
    simp_all
  · rintro rfl
    simp

theorem row_fields : Tryz.prog.underlying 34 = some (.struct (Tryz.prog.fieldsOf 34)) := by kernel_rfl
theorem row_plain : Tryz.prog.stoodInHeld 34 = false := by kernel_rfl

theorem eqTw (r s : Tw) (w : World) : (Op.equalIn 10000 34 (.agg r.cells.toArray) (.agg s.cells.toArray)).run Tryz.prog w = .ok (r.same s) w := by
  rw [run_equalIn_struct w 9999 _ _ _ row_fields row_plain]
  have hf : (Tryz.prog.fieldsOf 34).toList.map (fun f => (f.name, f.type, f.offset)) = [("Parent", 3, 0), ("In", 3, 1), ("Func", 3, 2), ("Kind", 3, 3), ("V", 2, 4), ("Steps", 3, 5), ("Closes", 9, 6)] := by kernel_rfl
  generalize (Tryz.prog.fieldsOf 34).toList = L at hf
  have hL : L.length = 7 := by
    have := congrArg List.length hf
    simpa using this
  match L, hL with
  | [f0, f1, f2, f3, f4, f5, f6], _ =>
    obtain ⟨n0, t0, o0⟩ : f0.name = "Parent" ∧ f0.type = 3 ∧ f0.offset = 0 := by simp at hf; simp [hf]
    obtain ⟨n1, t1, o1⟩ : f1.name = "In" ∧ f1.type = 3 ∧ f1.offset = 1 := by simp at hf; simp [hf]
    obtain ⟨n2, t2, o2⟩ : f2.name = "Func" ∧ f2.type = 3 ∧ f2.offset = 2 := by simp at hf; simp [hf]
    obtain ⟨n3, t3, o3⟩ : f3.name = "Kind" ∧ f3.type = 3 ∧ f3.offset = 3 := by simp at hf; simp [hf]
    obtain ⟨n4, t4, o4⟩ : f4.name = "V" ∧ f4.type = 2 ∧ f4.offset = 4 := by simp at hf; simp [hf]
    obtain ⟨n5, t5, o5⟩ : f5.name = "Steps" ∧ f5.type = 3 ∧ f5.offset = 5 := by simp at hf; simp [hf]
    obtain ⟨n6, t6, o6⟩ : f6.name = "Closes" ∧ f6.type = 9 ∧ f6.offset = 6 := by simp at hf; simp [hf]
    have ei := fun (x y : Int) => run_equalIn_int (P := Tryz.prog) w 9998 3 .i64 .i64 x y Tryz.underlying3
    have e6 := fun (x y : Int) => run_equalIn_int (P := Tryz.prog) w 9998 2 .i64 .i64 x y Tryz.underlying2
    have es := fun (x y : ByteArray) => run_equalIn_string (P := Tryz.prog) w 9998 9 x y Tryz.underlying9
    simp only [Nat.reduceAdd] at ei e6 es
    have pi : ∀ (r : Tw) (k : Nat) (x : Int), r.cells.toArray[k]? = some (.int .i64 x) → (part 3 r.cells.toArray k).run Tryz.prog w = .ok (.int .i64 x) w := fun r k x h => by
      simp [part, isAgg, run_underlying Tryz.underlying3, h]
    have p4 : ∀ (r : Tw), (part 2 r.cells.toArray 4).run Tryz.prog w = .ok (.int .i64 r.v) w := fun r => by
      simp [part, isAgg, run_underlying Tryz.underlying2, Tw.cells]
    have p6 : ∀ (r : Tw), (part 9 r.cells.toArray 6).run Tryz.prog w = .ok (.string r.cl) w := fun r => by
      simp [part, isAgg, run_underlying Tryz.underlying9, Tw.cells]
    have a0 := pi r 0 r.par rfl
    have a1 := pi r 1 r.in_ rfl
    have a2 := pi r 2 r.fn rfl
    have a3 := pi r 3 r.kind rfl
    have a5 := pi r 5 r.st rfl
    have b0 := pi s 0 s.par rfl
    have b1 := pi s 1 s.in_ rfl
    have b2 := pi s 2 s.fn rfl
    have b3 := pi s 3 s.kind rfl
    have b5 := pi s 5 s.st rfl
    simp only [Op.eqFields, n0, n1, n2, n3, n4, n5, n6, t0, t1, t2, t3, t4, t5, t6, o0, o1, o2, o3, o4, o5, o6, ne_eq, String.reduceEq, not_false_eq_true, if_true, Sem.run_bind, a0, b0, Result.andThen_ok, ei]
    unfold Tw.same
    cases r.par == s.par
    · simp
    · simp only [Bool.not_true, Bool.false_eq_true, if_false, Sem.run_bind, a1, b1, Result.andThen_ok, ei, Bool.true_and]
      cases r.in_ == s.in_
      · simp
      · simp only [Bool.not_true, Bool.false_eq_true, if_false, Sem.run_bind, a2, b2, Result.andThen_ok, ei, Bool.true_and]
        cases r.fn == s.fn
        · simp
        · simp only [Bool.not_true, Bool.false_eq_true, if_false, Sem.run_bind, a3, b3, Result.andThen_ok, ei, Bool.true_and]
          cases r.kind == s.kind
          · simp
          · simp only [Bool.not_true, Bool.false_eq_true, if_false, Sem.run_bind, p4, Result.andThen_ok, e6, Bool.true_and]
            cases r.v == s.v
            · simp
            · simp only [Bool.not_true, Bool.false_eq_true, if_false, Sem.run_bind, a5, b5, Result.andThen_ok, ei, Bool.true_and]
              cases r.st == s.st
              · simp
              · simp only [Bool.not_true, Bool.false_eq_true, if_false, Sem.run_bind, p6, Result.andThen_ok, es, Bool.true_and]
                cases r.cl.toList == s.cl.toList <;> simp

theorem eqlTw (r s : Tw) (w : World) : (binOp .eql 34 (.agg r.cells.toArray) (.agg s.cells.toArray)).run Tryz.prog w = .ok (.bool (r.same s)) w := by
  rw [run_eql_struct, eqTw r s w]
  rfl
theorem neqTw (r s : Tw) (w : World) : (binOp .neq 34 (.agg r.cells.toArray) (.agg s.cells.toArray)).run Tryz.prog w = .ok (.bool (!r.same s)) w := by
  rw [run_neq_struct, eqTw r s w]
  rfl

/-- Rows that are read. -/
def RdT (w : World) (A : Option Addr) (l : List Tw) : Prop := 0 < l.length → ∃ g o, A = some ⟨g, o, none⟩ ∧ g < w.heap.size ∧ ∀ (j : Nat) v, (flatT l)[j]? = some v → w.cell? ⟨g, o + j, none⟩ = some v

theorem RdT.same {w w' : World} {A : Option Addr} {l : List Tw} (h : RdT w A l) (f : Fr (fun _ => False) w w') : RdT w' A l := fun hl => by
  obtain ⟨g, o, rfl, hg, hc⟩ := h hl
  exact ⟨g, o, rfl, Nat.lt_of_lt_of_le hg f.size, fun j v hv => (cell_keep f (p := ⟨g, o + j, none⟩) hg (fun h => h)).trans (hc j v hv)⟩

theorem tw_at {l : List Tw} {j : Nat} {r : Tw} (hj : l[j]? = some r) {i : Nat} (hi : i < 7) : (flatT l)[j * 7 + i]? = r.cells[i]? := flat_at Tw.cells 7 (fun _ => rfl) hj hi

theorem RdT.load {w : World} {A : Option Addr} {l : List Tw} (h : RdT w A l) {j : Nat} {r : Tw} (hj : l[j]? = some r) {g o : Nat} (hA : A = some ⟨g, o, none⟩) {M : Nat} (hM : M = 7) : (loadCellsFrom ⟨g, o + j * M, none⟩ 0 M #[]).run Tryz.prog w = .ok r.cells.toArray w := by
  subst hM
  have hjl := (List.getElem?_eq_some_iff.1 hj).1
  obtain ⟨g', o', hA', hg, hc⟩ := h (by omega)
  rw [hA] at hA'
  injection hA' with hA'
  injection hA' with hA' hO'
  subst hA' hO'
  have h2 := run_loadCells_list (P := Tryz.prog) w ⟨g, o + j * 7, none⟩ r.cells (fun i v hv => by
    rw [add_none, Nat.add_assoc]
    have hi := (List.getElem?_eq_some_iff.1 hv).1
    rw [Tw.cells_len] at hi
    exact hc _ v ((tw_at hj hi).trans hv))
  have hs : r.cells.length = 7 := rfl
  simpa [loadCells, hs] using h2

theorem RdT.cell {w : World} {A : Option Addr} {l : List Tw} (h : RdT w A l) {j : Nat} {r : Tw} (hj : l[j]? = some r) : ∃ g o, A = some ⟨g, o, none⟩ ∧ g < w.heap.size ∧ ∀ (i : Nat) v, r.cells[i]? = some v → w.cell? ⟨g, o + j * 7 + i, none⟩ = some v := by
  have hjl := (List.getElem?_eq_some_iff.1 hj).1
  obtain ⟨g, o, hA, hg, hc⟩ := h (by omega)
  refine ⟨g, o, hA, hg, fun i v hv => ?_⟩
  have hi := (List.getElem?_eq_some_iff.1 hv).1
  rw [Tw.cells_len] at hi
  rw [Nat.add_assoc]
  exact hc _ v ((tw_at hj hi).trans hv)

/-- Where the loop stands. -/
def RwRel (l m : List Tw) (n : Nat) (w : World) (d : Nat) (k : Value) (wr : World) : Prop := ∃ j : Nat, j ≤ n ∧ d = n + 1 - j ∧ k = .int .i64 j ∧ (∀ i, i < j → l[i]? = m[i]?) ∧ Fr (fun _ => False) w wr

set_option maxRecDepth 100000 in
set_option maxHeartbeats 1000000 in
theorem rows_any (A B : Option Addr) (n c k d : Nat) (l m : List Tw) (w : World) (hA : RdT w A l) (hB : RdT w B m) (hl : l.length = n) (hm : m.length = k) (hn : n ≤ 4000000) (hk : k ≤ 4000000) :
    Calls Tryz.prog 8 #[.slice A n c, .slice B k d] w fun e w' => e = .returned (.bool (decide (l = m))) ∧ Fr (fun _ => False) w w' := by
  have HL := hid hl
  have HM := hid hm
  clear hl hm
  go_enter Tryz.func8, Tryz.ntmps8
  by_cases hnk : n = k
  · have t0 : ((n : Int) == (k : Int)) = true := beq_iff_eq.2 (by omega)
    have HNK := hid hnk
    clear hnk
    go_wp2_with fail
    go_loopg [5] (n + 1) (fun e i wr => RwRel l m n w e i wr)
    case atStart => exact ⟨0, by omega, by omega, rfl, fun i h => by omega, Fr.refl _ _⟩
    case round =>
      obtain ⟨j, hj, he, rfl, hall, hF⟩ := hrel
      have HALL := hid hall
      have HE := hid he
      have HF := hid hF
      clear hall he hF
      by_cases hlt : j < n
      · obtain ⟨r, hr⟩ : ∃ r, l[j]? = some r := ⟨_, List.getElem?_eq_getElem (by rw [HL.out]; exact hlt)⟩
        obtain ⟨s, hs⟩ : ∃ s, m[j]? = some s := ⟨_, List.getElem?_eq_getElem (by rw [HM.out, ← HNK.out]; exact hlt)⟩
        obtain ⟨g1, o1, hg1, hgl1, _⟩ := (hA.same HF.out).cell hr
        obtain ⟨g2, o2, hg2, hgl2, _⟩ := (hB.same HF.out).cell hs
        subst hg1 hg2
        obtain ⟨M, hM, hM1⟩ := sizeRow
        have hM0 : ¬ M = 0 := by omega
        obtain ⟨rc, hrc⟩ : ∃ rc, r.cells.toArray = rc := ⟨_, rfl⟩
        obtain ⟨sc, hsc⟩ : ∃ sc, s.cells.toArray = sc := ⟨_, rfl⟩
        obtain ⟨b, hb⟩ : ∃ b, r.same s = b := ⟨_, rfl⟩
        have hne := neqTw r s
        have h1 := (hA.same HF.out).load hr rfl hM
        have h2 := (hB.same HF.out).load hs rfl hM
        have h1' := (hA.same (HF.out.trans (Fr.drew _ _))).load hr rfl hM
        have h2' := (hB.same (HF.out.trans (Fr.drew _ _))).load hs rfl hM
        rw [hrc] at h1 h1' hne
        rw [hsc] at h2 h2' hne
        rw [hb] at hne
        have HR := hid hr
        have HS := hid hs
        have HB := hid hb
        have hj0 : (0 : Int) ≤ j ∧ (j : Int) < n ∧ (j : Int) < k := by have := HNK.out; omega
        clear hr hs hb hrc hsc hM
        cases b with
        | false =>
          go_upto_region 6 with fail
          go_region_held3 (fun W => (loadCellsFrom ⟨g1, o1 + j * M, none⟩ 0 M #[]).run Tryz.prog W = .ok rc W ∧ (loadCellsFrom ⟨g2, o2 + j * M, none⟩ 0 M #[]).run Tryz.prog W = .ok sc W)
            (first | exact ⟨h1, h2⟩ | exact ⟨h1', h2'⟩)
            (fail)
          all_goals
            go_wp2_with fail
            go_ret
            have hd : decide (l = m) = false := decide_eq_false (by
              rintro rfl
              have e1 := HR.out
              have e2 := HS.out
              rw [e1] at e2
              injection e2 with e2
              have := HB.out
              rw [Tw.same_iff.2 e2] at this
              cases this)
            exact ⟨by rw [hd]; rfl, HF.out.trans (Fr.drew _ _)⟩
        | true =>
          go_upto_region 6 with fail
          go_region_held3 (fun W => (loadCellsFrom ⟨g1, o1 + j * M, none⟩ 0 M #[]).run Tryz.prog W = .ok rc W ∧ (loadCellsFrom ⟨g2, o2 + j * M, none⟩ 0 M #[]).run Tryz.prog W = .ok sc W)
            (first | exact ⟨h1, h2⟩ | exact ⟨h1', h2'⟩)
            (fail)
          all_goals
            go_wp2_with fail
            go_roundg (n + 1 - (j + 1))
            case rel => exact ⟨j + 1, by omega, rfl, by go_num, fun i hi => by
              rcases Nat.lt_or_ge i j with h | h
              · exact HALL.out i h
              · obtain rfl : i = j := by omega
                rw [HR.out, HS.out, Tw.same_iff.1 HB.out], HF.out.trans (Fr.drew _ _)⟩
            case measure => have := HE.out; omega
      · go_wp2_with fail
        go_ret
        have hd : decide (l = m) = true := decide_eq_true (List.ext_getElem? fun i => by
          rcases Nat.lt_or_ge i j with h | h
          · exact HALL.out i h
          · rw [List.getElem?_eq_none (by rw [HL.out]; omega), List.getElem?_eq_none (by rw [HM.out, ← HNK.out]; omega)])
        exact ⟨by rw [hd]; rfl, HF.out⟩
  · have t0 : ((n : Int) == (k : Int)) = false := beq_eq_false_iff_ne.2 (by omega)
    have HNK := hid hnk
    clear hnk
    go_wp2_with fail
    go_ret
    have hd : decide (l = m) = false := decide_eq_false (by
      rintro rfl
      exact HNK.out (HL.out.symm.trans HM.out))
    exact ⟨by rw [hd]; rfl, Fr.refl _ _⟩

end Go.Proofs.YtnlbellbeepkaaaGreatDoor
