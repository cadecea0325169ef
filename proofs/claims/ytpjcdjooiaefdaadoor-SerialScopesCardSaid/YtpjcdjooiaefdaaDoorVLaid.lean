/-
  What the two listed tables give: their cells.
-/
import Derived.Test.YtpjcdjooiaefdaaDoorRows
import Derived.Test.YtpjcdjooiaefdaaDoorVHeap
import Derived.ProofKit
import Derived.LaidMore
import Derived.OpenShut
import Derived.Deep.Fields
import Derived.Stop.Joined
namespace Go.Proofs.YtpjcdjooiaefdaaDoor
open Go.ChangeShapes Go.WideShapes Go.ChangeAt Go.RowKit Go.Deep

theorem gOps : Tryd.prog.globalNamed "peloton/code.operands" = some 0 := by kernel_rfl
theorem gSpans : Tryd.prog.globalNamed "peloton/code.spans" = some 1 := by kernel_rfl
theorem tOps : (Tryd.prog.globals[0]?).map (·.type) = some 96 := by kernel_rfl
theorem tSpans : (Tryd.prog.globals[1]?).map (·.type) = some 99 := by kernel_rfl

def want : List (List Int) := [[1, 0, 0, 3], [1, 1, 0, 0], [1, 1, 1, 0], [1, 1, 1, 0], [1, 1, 1, 0], [1, 1, 1, 0], [0, 0, 0, 4], [1, 0, 0, 4], [2, 0, 0, 5], [1, 2, 0, 0], [1, 1, 2, 0], [0, 0, 0, 6], [1, 0, 0, 0], [0, 0, 0, 0], [0, 0, 0, 0], [1, 0, 0, 0], [1, 0, 0, 0]]
def wantE : List (List Int) := [[0, 0], [0, 7], [0, 7], [-2147483648, 2147483647], [0, 127], [0, 31], [0, 65535]]

def nums {H : Type} (l : List (List Int)) : DataW H := .agg (l.map fun r => .agg (r.map fun k => .lit (.int .i64 k)))

theorem want_is : (Rows.laid_peloton_code_operands : DataW Unit) = nums want := rfl
theorem wantE_is : (Rows.laid_peloton_code_spans : DataW Unit) = nums wantE := rfl

section
variable {H : Type} {enc : TypeId × Value → H} {P : Program} {w : World} {base : Nat} {spare : Nat → Bool} {held : Bool}

theorem arr_num {n : Nat} {t e : TypeId} {fuel : Nat} {cs : List Value} {p : List MemPlace} {r : List Int} (ht : P.underlying t = some (.array n e)) (he : P.underlying e = some (.int .i64)) (hc : P.cellsOf e = 1)
    (h : DataW.trod enc P w base spare held fuel t cs = some (.agg (r.map fun k => .lit (.int .i64 k)), p)) {j : Nat} {k : Int} (hj : r[j]? = some k) : cs[j]? = some (.int .i64 k) := by
  obtain ⟨ys, m, _, hx, _, hl, hel⟩ := DataW.trod_array ht h
  simp only [Prod.mk.injEq, DataW.agg.injEq] at hx
  have hm : (ys.map (·.1))[j]? = some (.lit (.int .i64 k)) := by rw [← hx.1]; simp [hj]
  have hjn : j < n := by
    have := (List.getElem?_eq_some_iff.1 hm).1
    simpa [hl] using this
  have hy : ys[j]? = some (ys[j]'(by omega)) := List.getElem?_eq_getElem (by omega)
  have h1 := hel j hjn
  rw [hy, hc] at h1
  obtain ⟨q, hq, hq2, _⟩ := DataW.trod_int he h1
  rw [List.getElem?_map, hy] at hm
  simp only [Option.map_some, Option.some.injEq] at hm
  rw [hq2] at hm
  simp only [DataW.lit.injEq, Lit.int.injEq, true_and] at hm
  subst hm
  have : ((cs.drop (j * 1)).take 1)[0]? = some (.int .i64 q) := by rw [hq]; rfl
  rw [List.getElem?_take] at this
  simpa using this

theorem struct_num {fs : Array Field} {t : TypeId} {fuel : Nat} {cs : List Value} {p : List MemPlace} {r : List Int} (ht : P.underlying t = some (.struct fs)) (hone : oneCellFields P fs = true) (hint : ∀ (j : Nat) (f : Field), fs[j]? = some f → P.underlying f.type = some (.int .i64))
    (h : DataW.trod enc P w base spare held fuel t cs = some (.agg (r.map fun k => .lit (.int .i64 k)), p)) {j : Nat} {k : Int} (hj : r[j]? = some k) : cs[j]? = some (.int .i64 k) := by
  obtain ⟨ys, m, _, hx, _, hl, hel⟩ := DataW.trod_struct ht h
  simp only [Prod.mk.injEq, DataW.agg.injEq] at hx
  have hm : (ys.map (·.1))[j]? = some (.lit (.int .i64 k)) := by rw [← hx.1]; simp [hj]
  have hjn : j < fs.size := by
    have := (List.getElem?_eq_some_iff.1 hm).1
    simpa [hl] using this
  have hy : ys[j]? = some (ys[j]'(by omega)) := List.getElem?_eq_getElem (by omega)
  obtain ⟨f, hf⟩ : ∃ f, fs[j]? = some f := ⟨_, Array.getElem?_eq_getElem hjn⟩
  obtain ⟨ho, hk⟩ := hone_of hone j f hf
  have h1 := hel j f hf
  rw [hy, ho, hk] at h1
  obtain ⟨q, hq, hq2, _⟩ := DataW.trod_int (hint j f hf) h1
  rw [List.getElem?_map, hy] at hm
  simp only [Option.map_some, Option.some.injEq] at hm
  rw [hq2] at hm
  simp only [DataW.lit.injEq, Lit.int.injEq, true_and] at hm
  subst hm
  have : ((cs.drop j).take 1)[0]? = some (.int .i64 q) := by rw [hq]; rfl
  rw [List.getElem?_take] at this
  simpa using this

/-- A table of rows of c numbers each. -/
theorem grid {n c : Nat} {t e : TypeId} {fuel : Nat} {cs : List Value} {p : List MemPlace} {g : List (List Int)} (ht : P.underlying t = some (.array n e)) (hc : P.cellsOf e = c)
    (hrow : ∀ (fuel : Nat) (cs : List Value) (p : List MemPlace) (r : List Int), DataW.trod enc P w base spare held fuel e cs = some (.agg (r.map fun k => .lit (.int .i64 k)), p) → ∀ (j : Nat) (k : Int), r[j]? = some k → cs[j]? = some (.int .i64 k))
    (h : DataW.trod enc P w base spare held fuel t cs = some (nums g, p)) {i j : Nat} {r : List Int} {k : Int} (hi : g[i]? = some r) (hj : r[j]? = some k) (hjc : j < c) : cs[i * c + j]? = some (.int .i64 k) := by
  obtain ⟨ys, m, _, hx, _, hl, hel⟩ := DataW.trod_array ht h
  simp only [nums, Prod.mk.injEq, DataW.agg.injEq] at hx
  have hm : (ys.map (·.1))[i]? = some (.agg (r.map fun k => .lit (.int .i64 k))) := by rw [← hx.1]; simp [hi]
  have hin : i < n := by
    have := (List.getElem?_eq_some_iff.1 hm).1
    simpa [hl] using this
  have hy : ys[i]? = some (ys[i]'(by omega)) := List.getElem?_eq_getElem (by omega)
  have h1 := hel i hin
  rw [hy, hc] at h1
  rw [List.getElem?_map, hy] at hm
  simp only [Option.map_some, Option.some.injEq] at hm
  have h2 := hrow m _ (ys[i]'(by omega)).2 r (by rw [h1, ← hm]) j k hj
  rw [List.getElem?_take, if_pos hjc, List.getElem?_drop] at h2
  exact h2
end

def laid2 : List (String × DataW Unit) := [("peloton/code.operands", Rows.laid_peloton_code_operands), ("peloton/code.spans", Rows.laid_peloton_code_spans)]

theorem cellsRow : Tryd.prog.cellsOf 95 = 4 := by kernel_rfl
theorem cellsSpan : Tryd.prog.cellsOf 98 = 2 := by kernel_rfl
theorem oneSpan : ∀ fs, Tryd.prog.underlying 98 = some (.struct fs) → oneCellFields Tryd.prog fs = true ∧ ∀ (j : Nat) (f : Field), fs[j]? = some f → Tryd.prog.underlying f.type = some (.int .i64) := by
  intro fs h
  rw [Tryd.underlying98] at h
  simp only [Option.some.injEq, TypeDesc.struct.injEq] at h
  subst h
  refine ⟨by kernel_rfl, fun j f hf => ?_⟩
  rcases j with _ | _ | j
  · simp at hf
    subst hf
    exact Tryd.underlying3
  · simp at hf
    subst hf
    exact Tryd.underlying3
  · simp at hf

theorem kinds_want : ∀ j, j < 68 → ∃ r, want[j / 4]? = some r ∧ r[j % 4]? = some ((kinds.getD j 0 : Nat) : Int) := by
  have h : ∀ j, j < 68 → (want.getD (j / 4) [])[j % 4]? = some ((kinds.getD j 0 : Nat) : Int) := by decide
  intro j hj
  refine ⟨want.getD (j / 4) [], ?_, h j hj⟩
  rw [List.getD_eq_getElem?_getD, List.getElem?_eq_getElem (show j / 4 < want.length by simp [want]; omega)]
  rfl

theorem ends_want : ∀ j, j < 14 → ∃ r, wantE[j / 2]? = some r ∧ r[j % 2]? = some (ends.getD j 0) := by
  have h : ∀ j, j < 14 → (wantE.getD (j / 2) [])[j % 2]? = some (ends.getD j 0) := by decide
  intro j hj
  refine ⟨wantE.getD (j / 2) [], ?_, h j hj⟩
  rw [List.getD_eq_getElem?_getD, List.getElem?_eq_getElem (show j / 2 < wantE.length by simp [wantE]; omega)]
  rfl

theorem tabs_of_laid {W : World} (h : laidMetH Tryd.prog laid2 W) : Tabs W := by
  rw [MakeChecks.laidMetH_plain _ _ _ (by kernel_rfl)] at h
  obtain ⟨ps, ⟨g0, t0, cs0, f0, p0, q0, hg0, ht0, hv0, hd0, ⟨g1, t1, cs1, f1, p1, q1, hg1, ht1, hv1, hd1, _, _⟩, _⟩, _, _⟩ := h
  obtain rfl := Option.some.inj (gOps.symm.trans hg0)
  obtain rfl := Option.some.inj (gSpans.symm.trans hg1)
  obtain rfl := Option.some.inj (tOps.symm.trans ht0)
  obtain rfl := Option.some.inj (tSpans.symm.trans ht1)
  rw [want_is] at hd0
  rw [wantE_is] at hd1
  obtain ⟨o1, o2⟩ := oneSpan _ Tryd.underlying98
  have c0 : ∀ j, j < 68 → W.cell? ⟨0, j, none⟩ = some (.int .i64 (kinds.getD j 0 : Nat)) := fun j hj => by
    obtain ⟨r, h1, h2⟩ := kinds_want j hj
    have := grid Tryd.underlying96 cellsRow (fun _ _ _ _ h _ _ hj => arr_num Tryd.underlying95 Tryd.underlying3 cells_int h hj) hd0 h1 h2 (by omega)
    rw [World.var?_cell hg0 hv0 j, ← this, show j / 4 * 4 + j % 4 = j by omega]
    simp
  have c1 : ∀ j, j < 14 → W.cell? ⟨1, j, none⟩ = some (.int .i64 (ends.getD j 0)) := fun j hj => by
    obtain ⟨r, h1, h2⟩ := ends_want j hj
    have := grid Tryd.underlying99 cellsSpan (fun _ _ _ _ h _ _ hj => struct_num Tryd.underlying98 o1 o2 h hj) hd1 h1 h2 (by omega)
    rw [World.var?_cell hg1 hv1 j, ← this, show j / 2 * 2 + j % 2 = j by omega]
    simp
  refine ⟨?_, c0, c1⟩
  have := c1 0 (by omega)
  unfold World.cell? at this
  rcases Nat.lt_or_ge 1 W.heap.size with hl | hl
  · omega
  · rw [Array.getElem?_eq_none (by simpa using hl)] at this
    cases this

theorem door_met (os : Os) (args : Array Value) : laidMetH Tryd.prog laid2 ((World.doorLaid Tryd.prog 400 os).forCall (fun _ _ => 0) ⟨#[], args, []⟩).memory :=
  laidMetH_of_parts3 (fuel := 8) (laidMet_of_run' 8 (by kernel_rfl) (by kernel_rfl)) (by kernel_rfl) (by kernel_rfl)

theorem own : ownKnob Tryd.prog.godebug = none := by kernel_rfl
theorem laidOut : laidOutB Tryd.prog = true := by kernel_rfl

end Go.Proofs.YtpjcdjooiaefdaaDoor
