/-
  What the listed tables give: their cells.
-/
import Derived.Test.YtepbnneggpcbcaaGreatDoorRows
import Derived.Test.YtepbnneggpcbcaaGreatDoorTabs
import Derived.ProofKit
import Derived.LaidMore
import Derived.LaidLaws
import Derived.Lay
import Derived.Shelf.Vars
import Derived.HandedShaped
import Derived.OpenShut
import Derived.Deep.Fields
import Derived.Stop.Joined
namespace Go.Proofs.YtepbnneggpcbcaaGreatDoor
open Go.ChangeShapes Go.WideShapes Go.ChangeAt Go.RowKit Go.Deep

section
variable {H : Type} {enc : TypeId × Value → H} {P : Program} {w : World} {base : Nat} {spare : Nat → Bool} {held : Bool}

/-- An element of an array. -/
theorem arr_elem {n c : Nat} {t e : TypeId} {fuel : Nat} {cs : List Value} {p : List MemPlace} {g : List (DataW H)} (ht : P.underlying t = some (.array n e)) (hc : P.cellsOf e = c)
    (h : DataW.trod enc P w base spare held fuel t cs = some (.agg g, p)) {i : Nat} {d : DataW H} (hi : g[i]? = some d) : ∃ m q, DataW.trod enc P w base spare held m e ((cs.drop (i * c)).take c) = some (d, q) := by
  obtain ⟨ys, m, _, hx, _, hl, hel⟩ := DataW.trod_array ht h
  simp only [Prod.mk.injEq, DataW.agg.injEq] at hx
  rw [hx.1, List.getElem?_map] at hi
  have hin : i < n := by
    rcases Nat.lt_or_ge i n with h | h
    · exact h
    · rw [List.getElem?_eq_none (by omega)] at hi
      cases hi
  have hy : ys[i]? = some (ys[i]'(by omega)) := List.getElem?_eq_getElem (by omega)
  have h1 := hel i hin
  rw [hy, hc] at h1
  rw [hy] at hi
  simp only [Option.map_some, Option.some.injEq] at hi
  exact ⟨m, _, by rw [h1, ← hi]⟩

/-- A field of a struct. -/
theorem struct_elem {fs : Array Field} {t : TypeId} {fuel : Nat} {cs : List Value} {p : List MemPlace} {g : List (DataW H)} (ht : P.underlying t = some (.struct fs))
    (h : DataW.trod enc P w base spare held fuel t cs = some (.agg g, p)) {i : Nat} {f : Field} {d : DataW H} (hf : fs[i]? = some f) (hi : g[i]? = some d) : ∃ m q, DataW.trod enc P w base spare held m f.type ((cs.drop f.offset).take (P.cellsOf f.type)) = some (d, q) := by
  obtain ⟨ys, m, _, hx, _, hl, hel⟩ := DataW.trod_struct ht h
  simp only [Prod.mk.injEq, DataW.agg.injEq] at hx
  rw [hx.1, List.getElem?_map] at hi
  have hy := hel i f hf
  cases hh : ys[i]? with
  | none => rw [hh] at hi; cases hi
  | some y =>
    rw [hh] at hi hy
    simp only [Option.map_some, Option.some.injEq] at hi
    exact ⟨m, _, by rw [hy, ← hi]⟩

theorem field_elem {fs : Array Field} {t ty : TypeId} {o c fuel : Nat} {cs : List Value} {p : List MemPlace} {g : List (DataW H)} (ht : P.underlying t = some (.struct fs))
    (h : DataW.trod enc P w base spare held fuel t cs = some (.agg g, p)) {i : Nat} {f : Field} {d : DataW H} (hf : fs[i]? = some f) (hi : g[i]? = some d) (ho : f.offset = o) (hy : f.type = ty) (hc : P.cellsOf ty = c) :
    ∃ m q, DataW.trod enc P w base spare held m ty ((cs.drop o).take c) = some (d, q) := by
  subst ho
  subst hy
  subst hc
  exact struct_elem ht h hf hi

theorem int_elem {fuel : Nat} {t : TypeId} {k : IntKind} {cs : List Value} {n : Int} {q : List MemPlace} (ht : P.underlying t = some (.int k)) (h : DataW.trod enc P w base spare held fuel t cs = some (.lit (.int k n), q)) : cs = [.int k n] := by
  obtain ⟨m, rfl, e, _⟩ := DataW.trod_int ht h
  simp only [Prod.mk.injEq, DataW.lit.injEq, Lit.int.injEq, true_and] at e
  rw [e.1]

theorem str_elem {fuel : Nat} {t : TypeId} {cs : List Value} {b : List UInt8} {q : List MemPlace} (ht : P.underlying t = some .string) (h : DataW.trod enc P w base spare held fuel t cs = some (.lit (.string b), q)) : cs = [.string (bs b)] := by
  obtain ⟨s, rfl, e, _⟩ := DataW.trod_string ht h
  simp only [Prod.mk.injEq, DataW.lit.injEq, Lit.string.injEq] at e
  rw [e.1]
  unfold bs
  simp
end

theorem one_at {l : List Value} {j : Nat} {v : Value} (h : (l.drop j).take 1 = [v]) : l[j]? = some v := by
  have : ((l.drop j).take 1)[0]? = some v := by rw [h]; rfl
  rw [List.getElem?_take] at this
  simpa using this

theorem in_row {l : List Value} {a c j : Nat} {v : Value} (h : ((l.drop a).take c)[j]? = some v) : l[a + j]? = some v := by
  rw [List.getElem?_take] at h
  split at h
  · rwa [List.getElem?_drop] at h
  · cases h

/-! ### The tables as data -/

def num {H : Type} (k : Int) : DataW H := .lit (.int .i64 k)
def row4 {H : Type} (f : Nat → Int) (n : Nat) : List (DataW H) := (List.range n).map fun k => num (f k)
def opsD : DataW Unit := .agg ((List.range 17).map fun i => .agg (row4 (fun k => ((kinds.getD (i * 4 + k) 0 : Nat) : Int)) 4))
def endsD : DataW Unit := .agg ((List.range 7).map fun i => .agg (row4 (fun k => ends.getD (i * 2 + k) 0) 2))
def marksD : DataW Unit := .agg ((List.range 5).map fun k => .lit (.string (mk k)))
def shapesD : DataW Unit := .agg ((List.range 17).map fun i => .agg [.lit (.string (names.getD i [])), .agg (row4 (fun k => ((ak i k : Nat) : Int)) 4)])
def powD : DataW Unit := .agg ((List.range 20).map fun i => .lit (.int .u64 ((10 ^ i : Nat) : Int)))

theorem ops_is : (Rows.laid_peloton_code_operands : DataW Unit) = opsD := by kernel_rfl
theorem ends_is : (Rows.laid_peloton_code_spans : DataW Unit) = endsD := by kernel_rfl
theorem marks_is : (Rows.laid_peloton_asm_marks : DataW Unit) = marksD := by kernel_rfl
theorem shapes_is : (Rows.laid_peloton_asm_shapes : DataW Unit) = shapesD := by kernel_rfl
theorem pow_is : (Rows.laid_internal_strconv_uint64pow10 : DataW Unit) = powD := by kernel_rfl

theorem range_at {α : Type} (n : Nat) (f : Nat → α) {i : Nat} (h : i < n) : ((List.range n).map f)[i]? = some (f i) := by
  rw [List.getElem?_map, List.getElem?_range h]
  rfl

theorem gOps : Tryz.prog.globalNamed "peloton/code.operands" = some 2 := by kernel_rfl
theorem gSpans : Tryz.prog.globalNamed "peloton/code.spans" = some 3 := by kernel_rfl
theorem gMarks : Tryz.prog.globalNamed "peloton/asm.marks" = some 1 := by kernel_rfl
theorem gShapes : Tryz.prog.globalNamed "peloton/asm.shapes" = some 0 := by kernel_rfl
theorem gPow : Tryz.prog.globalNamed "internal/strconv.uint64pow10" = some 4 := by kernel_rfl
theorem gRng : Tryz.prog.globalNamed "strconv.ErrRange" = some 11 := by kernel_rfl
theorem gBru : Tryz.prog.globalNamed "strconv.ErrRange" = some 11 := by kernel_rfl
theorem tOps : (Tryz.prog.globals[(2 : Nat)]?).map (·.type) = some 85 := by kernel_rfl
theorem tSpans : (Tryz.prog.globals[(3 : Nat)]?).map (·.type) = some 88 := by kernel_rfl
theorem tMarks : (Tryz.prog.globals[(1 : Nat)]?).map (·.type) = some 81 := by kernel_rfl
theorem tShapes : (Tryz.prog.globals[(0 : Nat)]?).map (·.type) = some 69 := by kernel_rfl
theorem tPow : (Tryz.prog.globals[(4 : Nat)]?).map (·.type) = some 119 := by kernel_rfl
theorem tRng : (Tryz.prog.globals[(11 : Nat)]?).map (·.type) = some 47 := by kernel_rfl

theorem cRow : Tryz.prog.cellsOf 66 = 4 := by kernel_rfl
theorem cSpan : Tryz.prog.cellsOf 87 = 2 := by kernel_rfl
theorem cShape : Tryz.prog.cellsOf 68 = 5 := by kernel_rfl
theorem cInt : Tryz.prog.cellsOf 3 = 1 := by kernel_rfl
theorem cStr : Tryz.prog.cellsOf 9 = 1 := by kernel_rfl
theorem cU64 : Tryz.prog.cellsOf 108 = 1 := by kernel_rfl

def laidL : List (String × DataW Unit) := [("math/bits.deBruijn32tab", Rows.laid_math_bits_deBruijn32tab), ("math/bits.deBruijn64tab", Rows.laid_math_bits_deBruijn64tab), ("internal/strconv.uint64pow10", Rows.laid_internal_strconv_uint64pow10), ("unicode/utf8.acceptRanges", Rows.laid_unicode_utf8_acceptRanges), ("strconv.ErrRange", Rows.laid_strconv_ErrRange), ("strconv.ErrSyntax", Rows.laid_strconv_ErrSyntax), ("peloton/code.operands", Rows.laid_peloton_code_operands), ("peloton/code.spans", Rows.laid_peloton_code_spans), ("peloton/asm.marks", Rows.laid_peloton_asm_marks), ("peloton/asm.shapes", Rows.laid_peloton_asm_shapes), ("unicode/utf8.first", Rows.laid_unicode_utf8_first)]

/-- What a listed variable holds. -/
def LaidAt (W : World) (n : String) (d : DataW Unit) : Prop :=
  ∃ g t cs fuel p, Tryz.prog.globalNamed n = some g ∧ (Tryz.prog.globals[g]?).map (·.type) = some t ∧ W.var? Tryz.prog n = some cs ∧ DataW.trod (fun _ => ()) Tryz.prog W 0 (fun _ => true) false fuel t cs.toList = some (d, p)

theorem laid_all {W : World} : ∀ (l : List (String × DataW Unit)) (ps : List MemPlace), DataW.LaidVars Tryz.prog W l ps → ∀ x ∈ l, LaidAt W x.1 x.2
  | [], _, _, x, hx => absurd hx (by simp)
  | (n, d) :: r, ps, h, x, hx => by
    obtain ⟨g, t, cs, fuel, p, q, h1, h2, h3, h4, h5, _⟩ := h
    rcases List.mem_cons.1 hx with rfl | hx
    · exact ⟨g, t, cs, fuel, p, h1, h2, h3, h4⟩
    · exact laid_all r q h5 x hx

theorem LaidAt.at {W : World} {n : String} {d : DataW Unit} {g : Nat} {t : TypeId} (h : LaidAt W n d) (hg : Tryz.prog.globalNamed n = some g) (ht : (Tryz.prog.globals[g]?).map (·.type) = some t) :
    ∃ cs ty fz, W.heap[g]? = some (.cells cs ty fz) ∧ ∃ fuel p, DataW.trod (fun _ => ()) Tryz.prog W 0 (fun _ => true) false fuel t cs.toList = some (d, p) := by
  obtain ⟨g', t', cs, fuel, p, h1, h2, h3, h4⟩ := h
  obtain rfl := Option.some.inj (hg.symm.trans h1)
  obtain rfl := Option.some.inj (ht.symm.trans h2)
  unfold World.var? at h3
  rw [hg] at h3
  simp only [Option.bind_some] at h3
  split at h3
  · rename_i cs' ty fz hb
    simp only [Option.some.injEq] at h3
    subst h3
    exact ⟨_, ty, fz, hb, fuel, p, h4⟩
  · cases h3

theorem LaidAt.lt {W : World} {n : String} {d : DataW Unit} {g : Nat} (h : LaidAt W n d) (hg : Tryz.prog.globalNamed n = some g) : g < W.heap.size := by
  obtain ⟨g', t', cs, fuel, p, h1, h2, h3, h4⟩ := h
  unfold World.var? at h3
  rw [hg] at h3
  simp only [Option.bind_some] at h3
  split at h3
  · rename_i cs' ty fz hb
    exact (Array.getElem?_eq_some_iff.1 hb).1
  · cases h3

theorem cell_of_heap {W : World} {g j : Nat} {cs : Array Value} {t : TypeId} {fz : Nat × Nat} {v : Value} (h : W.heap[g]? = some (.cells cs t fz)) (hv : cs.toList[j]? = some v) : W.cell? ⟨g, j, none⟩ = some v := by
  unfold World.cell?
  rw [h]
  simpa using hv

theorem tabs_of_laid {W : World} (h : laidMetH Tryz.prog laidL W) (hm : W.ShapedOpen Tryz.prog) : Tabs W := by
  rw [MakeChecks.laidMetH_plain _ _ _ (by kernel_rfl)] at h
  obtain ⟨ps, hv, _, _⟩ := h
  have hall := laid_all _ _ hv
  obtain ⟨csO, tyO, fzO, hO, fO, pO, dO⟩ := (hall ("peloton/code.operands", Rows.laid_peloton_code_operands) (by unfold laidL; simp only [List.mem_cons, true_or, or_true])).at gOps tOps
  obtain ⟨csE, tyE, fzE, hE, fE, pE, dE⟩ := (hall ("peloton/code.spans", Rows.laid_peloton_code_spans) (by unfold laidL; simp only [List.mem_cons, true_or, or_true])).at gSpans tSpans
  obtain ⟨csM, tyM, fzM, hM, fM, pM, dM⟩ := (hall ("peloton/asm.marks", Rows.laid_peloton_asm_marks) (by unfold laidL; simp only [List.mem_cons, true_or, or_true])).at gMarks tMarks
  obtain ⟨csS, tyS, fzS, hS, fS, pS, dS⟩ := (hall ("peloton/asm.shapes", Rows.laid_peloton_asm_shapes) (by unfold laidL; simp only [List.mem_cons, true_or, or_true])).at gShapes tShapes
  obtain ⟨csP, tyP, fzP, hP, fP, pP, dP⟩ := (hall ("internal/strconv.uint64pow10", Rows.laid_internal_strconv_uint64pow10) (by unfold laidL; simp only [List.mem_cons, true_or, or_true])).at gPow tPow
  obtain ⟨csR, tyR, fzR, hR, fR, pR, dR⟩ := (hall ("strconv.ErrRange", Rows.laid_strconv_ErrRange) (by unfold laidL; simp only [List.mem_cons, true_or, or_true])).at gRng tRng
  rw [ops_is] at dO
  rw [ends_is] at dE
  rw [marks_is] at dM
  rw [shapes_is] at dS
  rw [pow_is] at dP
  unfold opsD at dO
  unfold endsD at dE
  unfold marksD at dM
  unfold shapesD at dS
  unfold powD at dP
  refine ⟨?two, ?ops, ?ends, ?nms, ?kds, ?mks, ?pow, ?rng, ?most⟩
  case two =>
    have := (hall ("strconv.ErrRange", Rows.laid_strconv_ErrRange) (by unfold laidL; simp only [List.mem_cons, true_or, or_true])).lt gBru
    have h2 : 11 ≤ (11 : Nat) := by decide
    omega
  case ops =>
    intro j hj
    obtain ⟨m, q, d1⟩ := arr_elem Tryz.underlying85 cRow dO (i := j / 4) (range_at 17 _ (by omega))
    obtain ⟨m', q', d2⟩ := arr_elem Tryz.underlying66 cInt d1 (i := j % 4) (range_at 4 _ (by omega))
    have := in_row (one_at (int_elem Tryz.underlying3 d2))
    exact cell_of_heap hO (by rw [show j = j / 4 * 4 + j % 4 * 1 by omega]; simpa using this)
  case ends =>
    intro j hj
    obtain ⟨m, q, d1⟩ := arr_elem Tryz.underlying88 cSpan dE (i := j / 2) (range_at 7 _ (by omega))
    rcases Nat.mod_two_eq_zero_or_one j with e | e
    · obtain ⟨m', q', d2⟩ := field_elem Tryz.underlying87 d1 (i := 0) rfl (range_at 2 _ (by omega)) (o := 0) rfl (ty := 3) rfl cInt
      have := in_row (one_at (int_elem Tryz.underlying3 d2))
      exact cell_of_heap hE (by rw [show j = j / 2 * 2 + 0 by omega]; simpa using this)
    · obtain ⟨m', q', d2⟩ := field_elem Tryz.underlying87 d1 (i := 1) rfl (range_at 2 _ (by omega)) (o := 1) rfl (ty := 3) rfl cInt
      have := in_row (one_at (int_elem Tryz.underlying3 d2))
      exact cell_of_heap hE (by rw [show j = j / 2 * 2 + 1 by omega]; simpa [show (j / 2 * 2 + 1) / 2 = j / 2 by omega] using this)
  case nms =>
    intro op ho
    obtain ⟨m, q, d1⟩ := arr_elem Tryz.underlying69 cShape dS (i := op) (range_at 17 _ ho)
    obtain ⟨m', q', d2⟩ := field_elem Tryz.underlying68 d1 (i := 0) rfl rfl (o := 0) rfl (ty := 9) rfl cStr
    have := in_row (one_at (str_elem Tryz.underlying9 d2))
    exact cell_of_heap hS (by rw [show op * 5 = op * 5 + 0 by rfl]; exact this)
  case kds =>
    intro op k ho hk
    obtain ⟨m, q, d1⟩ := arr_elem Tryz.underlying69 cShape dS (i := op) (range_at 17 _ ho)
    obtain ⟨m', q', d2⟩ := field_elem Tryz.underlying68 d1 (i := 1) rfl rfl (o := 1) rfl (ty := 66) rfl cRow
    obtain ⟨m2, q2, d3⟩ := arr_elem Tryz.underlying66 cInt d2 (i := k) (range_at 4 _ hk)
    have := in_row (in_row (one_at (int_elem Tryz.underlying3 d3)))
    exact cell_of_heap hS (by rw [show op * 5 + 1 + k = op * 5 + (1 + k * 1) by omega]; exact this)
  case mks =>
    intro k hk
    obtain ⟨m, q, d1⟩ := arr_elem Tryz.underlying81 cStr dM (i := k) (range_at 5 _ hk)
    have := one_at (str_elem Tryz.underlying9 d1)
    exact cell_of_heap hM (by rw [Nat.mul_one] at this; exact this)
  case pow =>
    have hl : csP.toList.length = 20 := by
      obtain ⟨_, _, _, _, h, _, _⟩ := DataW.trod_array Tryz.underlying119 dP
      rw [h]
      kernel_rfl
    refine ⟨tyP, fzP, ?_⟩
    suffices h : csP = (Lib.pow10Tab.map fun z => Value.int .u64 z).toArray by rw [hP, h]
    apply Array.ext'
    apply List.ext_getElem?
    intro i
    rcases Nat.lt_or_ge i 20 with h | h
    · obtain ⟨m, q, d1⟩ := arr_elem Tryz.underlying119 cU64 dP (i := i) (range_at 20 _ h)
      have := one_at (int_elem Tryz.underlying108 d1)
      rw [Nat.mul_one] at this
      have e : (Lib.pow10Tab.map fun z => Value.int .u64 z)[i]? = some (.int .u64 ((10 ^ i : Nat) : Int)) := by
        unfold Lib.pow10Tab
        rw [List.map_map]
        exact range_at 20 _ h
      rw [this]
      exact e.symm
    · rw [List.getElem?_eq_none (by omega), List.getElem?_eq_none (by simp [Lib.pow10Tab]; omega)]
  case rng =>
    unfold Rows.laid_strconv_ErrRange at dR
    obtain ⟨_, u, v, e, _, _⟩ := iface_of_trod Tryz.underlying47 dR
    refine ⟨tyR, fzR, u, v, ?_⟩
    rw [hR, show csR = #[.iface u v] from Array.ext' e]
  case most =>
    exact cell_of_shapedOpen_int (t := 3) (zero := #[.int .i64 0]) hm (of_decide_eq_true (by kernel_rfl)) (by kernel_rfl) rfl (by kernel_rfl) (by kernel_rfl) Tryz.underlying3

theorem laid_met (os : Os) (args : Array Value) : laidMetH Tryz.prog laidL ((World.laidAll Tryz.prog os laidL).forCall (fun _ _ => 0) ⟨#[], args, []⟩).memory := by
  rw [MakeChecks.laidMetH_plain _ _ _ (by kernel_rfl)]
  exact laidMet_laidAll _ (by kernel_rfl) (by kernel_rfl)

theorem own : ownKnob Tryz.prog.godebug = none := by kernel_rfl
theorem laidOut : laidOutB Tryz.prog = true := by kernel_rfl

end Go.Proofs.YtepbnneggpcbcaaGreatDoor
