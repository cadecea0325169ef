/-
  What the listed tables give: their cells.
-/
import Derived.Test.YtnlbellbeepkaaaGreatDoorRows
import Derived.Test.YtnlbellbeepkaaaGreatDoorTabz
import Derived.ProofKit
import Derived.LaidMore
import Derived.LaidLaws
import Derived.Lay
import Derived.Shelf.Vars
import Derived.HandedShaped
import Derived.OpenShut
import Derived.Deep.Fields
import Derived.Stop.Joined
namespace Go.Proofs.YtnlbellbeepkaaaGreatDoor
open Go.ChangeShapes Go.WideShapes Go.ChangeAt Go.RowKit Go.Deep

section
variable {H : Type} {enc : TypeId × Value → H} {P : Program} {w : World} {base : Nat} {spare : Nat → Bool} {held : Bool}

/-- An element of an array. -/
theorem arr_elem {n c : Nat} {t e : TypeId} {fuel : Nat} {cs : List Value} {p : List MemPlace} {g : List (DataW H)} (ht : P.underlying t = some (.array n e)) (hc : P.cellsOf e = c)
    (h : DataW.trod enc P w base spare held fuel t cs = some (.agg g, p)) {i : Nat} {d : DataW H} (hi : g[i]? = some d) : ∃ m q, DataW.trod enc P w base spare held m e ((cs.drop (i * c)).take c) = some (d, q) := by
  obtain ⟨ys, m, _, hx, _, hl, hel⟩ := DataW.trod_array ht h
  simp only [Prod.mk.injEq, DataW.agg.injEq] at hx
  rw [hx.1, List.getElem?_map] at hi
  have hin : i < n := by
    rcases Nat.lt_or_ge i n with h | h
    · exact h
    · rw [List.getElem?_eq_none (by omega)] at hi
      cases hi
  have hy : ys[i]? = some (ys[i]'(by omega)) := List.getElem?_eq_getElem (by omega)
  have h1 := hel i hin
  rw [hy, hc] at h1
  rw [hy] at hi
  simp only [Option.map_some, Option.some.injEq] at hi
  exact ⟨m, _, by rw [h1, ← hi]⟩

/-- A field of a struct. -/
theorem struct_elem {fs : Array Field} {t : TypeId} {fuel : Nat} {cs : List Value} {p : List MemPlace} {g : List (DataW H)} (ht : P.underlying t = some (.struct fs))
    (h : DataW.trod enc P w base spare held fuel t cs = some (.agg g, p)) {i : Nat} {f : Field} {d : DataW H} (hf : fs[i]? = some f) (hi : g[i]? = some d) : ∃ m q, DataW.trod enc P w base spare held m f.type ((cs.drop f.offset).take (P.cellsOf f.type)) = some (d, q) := by
  obtain ⟨ys, m, _, hx, _, hl, hel⟩ := DataW.trod_struct ht h
  simp only [Prod.mk.injEq, DataW.agg.injEq] at hx
  rw [hx.1, List.getElem?_map] at hi
  have hy := hel i f hf
  cases hh : ys[i]? with
  | none => rw [hh] at hi; cases hi
  | some y =>
    rw [hh] at hi hy
    simp only [Option.map_some, Option.some.injEq] at hi
    exact ⟨m, _, by rw [hy, ← hi]⟩

theorem field_elem {fs : Array Field} {t ty : TypeId} {o c fuel : Nat} {cs : List Value} {p : List MemPlace} {g : List (DataW H)} (ht : P.underlying t = some (.struct fs))
    (h : DataW.trod enc P w base spare held fuel t cs = some (.agg g, p)) {i : Nat} {f : Field} {d : DataW H} (hf : fs[i]? = some f) (hi : g[i]? = some d) (ho : f.offset = o) (hy : f.type = ty) (hc : P.cellsOf ty = c) :
    ∃ m q, DataW.trod enc P w base spare held m ty ((cs.drop o).take c) = some (d, q) := by
  subst ho
  subst hy
  subst hc
  exact struct_elem ht h hf hi

theorem int_elem {fuel : Nat} {t : TypeId} {k : IntKind} {cs : List Value} {n : Int} {q : List MemPlace} (ht : P.underlying t = some (.int k)) (h : DataW.trod enc P w base spare held fuel t cs = some (.lit (.int k n), q)) : cs = [.int k n] := by
  obtain ⟨m, rfl, e, _⟩ := DataW.trod_int ht h
  simp only [Prod.mk.injEq, DataW.lit.injEq, Lit.int.injEq, true_and] at e
  rw [e.1]

theorem str_elem {fuel : Nat} {t : TypeId} {cs : List Value} {b : List UInt8} {q : List MemPlace} (ht : P.underlying t = some .string) (h : DataW.trod enc P w base spare held fuel t cs = some (.lit (.string b), q)) : cs = [.string (bs b)] := by
  obtain ⟨s, rfl, e, _⟩ := DataW.trod_string ht h
  simp only [Prod.mk.injEq, DataW.lit.injEq, Lit.string.injEq] at e
  rw [e.1]
  unfold bs
  simp
end

theorem one_at {l : List Value} {j : Nat} {v : Value} (h : (l.drop j).take 1 = [v]) : l[j]? = some v := by
  have : ((l.drop j).take 1)[0]? = some v := by rw [h]; rfl
  rw [List.getElem?_take] at this
  simpa using this

theorem in_row {l : List Value} {a c j : Nat} {v : Value} (h : ((l.drop a).take c)[j]? = some v) : l[a + j]? = some v := by
  rw [List.getElem?_take] at h
  split at h
  · rwa [List.getElem?_drop] at h
  · cases h

/-! ### The tables as data -/

def kindsD : DataW Unit := .agg ((List.range 5).map fun k => .lit (.string (kindT.getD k [])))
def powD : DataW Unit := .agg ((List.range 20).map fun i => .lit (.int .u64 ((10 ^ i : Nat) : Int)))
theorem kinds_is : (Rows.laid_peloton_table_kinds : DataW Unit) = kindsD := by kernel_rfl
theorem pow_is : (Rows.laid_internal_strconv_uint64pow10 : DataW Unit) = powD := by kernel_rfl

theorem range_at {α : Type} (n : Nat) (f : Nat → α) {i : Nat} (h : i < n) : ((List.range n).map f)[i]? = some (f i) := by
  rw [List.getElem?_map, List.getElem?_range h]
  rfl

theorem gKinds : Tryz.prog.globalNamed "peloton/table.kinds" = some 0 := by kernel_rfl
theorem gPow : Tryz.prog.globalNamed "internal/strconv.uint64pow10" = some 1 := by kernel_rfl
theorem tKinds : (Tryz.prog.globals[(0 : Nat)]?).map (·.type) = some 57 := by kernel_rfl
theorem tPow : (Tryz.prog.globals[(1 : Nat)]?).map (·.type) = some 106 := by kernel_rfl
theorem gRng : Tryz.prog.globalNamed "strconv.ErrRange" = some 8 := by kernel_rfl
theorem tRng : (Tryz.prog.globals[(8 : Nat)]?).map (·.type) = some 40 := by kernel_rfl
theorem cStr : Tryz.prog.cellsOf 9 = 1 := by kernel_rfl
theorem cU64 : Tryz.prog.cellsOf 86 = 1 := by kernel_rfl

def laidL : List (String × DataW Unit) := [("math/bits.deBruijn32tab", Rows.laid_math_bits_deBruijn32tab), ("math/bits.deBruijn64tab", Rows.laid_math_bits_deBruijn64tab), ("internal/strconv.uint64pow10", Rows.laid_internal_strconv_uint64pow10), ("unicode/utf8.acceptRanges", Rows.laid_unicode_utf8_acceptRanges), ("strconv.ErrRange", Rows.laid_strconv_ErrRange), ("strconv.ErrSyntax", Rows.laid_strconv_ErrSyntax), ("peloton/table.kinds", Rows.laid_peloton_table_kinds), ("unicode/utf8.first", Rows.laid_unicode_utf8_first)]

/-- What a listed variable holds. -/
def LaidAt (W : World) (n : String) (d : DataW Unit) : Prop :=
  ∃ g t cs fuel p, Tryz.prog.globalNamed n = some g ∧ (Tryz.prog.globals[g]?).map (·.type) = some t ∧ W.var? Tryz.prog n = some cs ∧ DataW.trod (fun _ => ()) Tryz.prog W 0 (fun _ => true) false fuel t cs.toList = some (d, p)

theorem laid_all {W : World} : ∀ (l : List (String × DataW Unit)) (ps : List MemPlace), DataW.LaidVars Tryz.prog W l ps → ∀ x ∈ l, LaidAt W x.1 x.2
  | [], _, _, x, hx => absurd hx (by simp)
  | (n, d) :: r, ps, h, x, hx => by
    obtain ⟨g, t, cs, fuel, p, q, h1, h2, h3, h4, h5, _⟩ := h
    rcases List.mem_cons.1 hx with rfl | hx
    · exact ⟨g, t, cs, fuel, p, h1, h2, h3, h4⟩
    · exact laid_all r q h5 x hx

theorem LaidAt.at {W : World} {n : String} {d : DataW Unit} {g : Nat} {t : TypeId} (h : LaidAt W n d) (hg : Tryz.prog.globalNamed n = some g) (ht : (Tryz.prog.globals[g]?).map (·.type) = some t) :
    ∃ cs ty fz, W.heap[g]? = some (.cells cs ty fz) ∧ ∃ fuel p, DataW.trod (fun _ => ()) Tryz.prog W 0 (fun _ => true) false fuel t cs.toList = some (d, p) := by
  obtain ⟨g', t', cs, fuel, p, h1, h2, h3, h4⟩ := h
  obtain rfl := Option.some.inj (hg.symm.trans h1)
  obtain rfl := Option.some.inj (ht.symm.trans h2)
  unfold World.var? at h3
  rw [hg] at h3
  simp only [Option.bind_some] at h3
  split at h3
  · rename_i cs' ty fz hb
    simp only [Option.some.injEq] at h3
    subst h3
    exact ⟨_, ty, fz, hb, fuel, p, h4⟩
  · cases h3

theorem LaidAt.lt {W : World} {n : String} {d : DataW Unit} {g : Nat} (h : LaidAt W n d) (hg : Tryz.prog.globalNamed n = some g) : g < W.heap.size := by
  obtain ⟨g', t', cs, fuel, p, h1, h2, h3, h4⟩ := h
  unfold World.var? at h3
  rw [hg] at h3
  simp only [Option.bind_some] at h3
  split at h3
  · rename_i cs' ty fz hb
    exact (Array.getElem?_eq_some_iff.1 hb).1
  · cases h3

theorem cell_of_heap {W : World} {g j : Nat} {cs : Array Value} {t : TypeId} {fz : Nat × Nat} {v : Value} (h : W.heap[g]? = some (.cells cs t fz)) (hv : cs.toList[j]? = some v) : W.cell? ⟨g, j, none⟩ = some v := by
  unfold World.cell?
  rw [h]
  simpa using hv

theorem tabs_of_laid {W : World} (h : laidMetH Tryz.prog laidL W) (hm : W.ShapedOpen Tryz.prog) : Tabz W := by
  rw [MakeChecks.laidMetH_plain _ _ _ (by kernel_rfl)] at h
  obtain ⟨ps, hv, _, _⟩ := h
  have hall := laid_all _ _ hv
  have hK := hall ("peloton/table.kinds", Rows.laid_peloton_table_kinds) (by unfold laidL; simp only [List.mem_cons, true_or, or_true])
  have hW := hall ("internal/strconv.uint64pow10", Rows.laid_internal_strconv_uint64pow10) (by unfold laidL; simp only [List.mem_cons, true_or, or_true])
  have hR := hall ("strconv.ErrRange", Rows.laid_strconv_ErrRange) (by unfold laidL; simp only [List.mem_cons, true_or, or_true])
  obtain ⟨csR, tyR, fzR, hRR, fR, pR, dR⟩ := hR.at gRng tRng
  have hmost : ∃ m, W.cell? ⟨2, 0, none⟩ = some (.int .i64 m) := cell_of_shapedOpen_int (t := 3) (zero := #[.int .i64 0]) hm (of_decide_eq_true (by kernel_rfl)) (by kernel_rfl) rfl (by kernel_rfl) (by kernel_rfl) Tryz.underlying3
  obtain ⟨csO, tyO, fzO, hO, fO, pO, dO⟩ := hK.at gKinds tKinds
  obtain ⟨csP, tyP, fzP, hP, fP, pP, dP⟩ := hW.at gPow tPow
  rw [kinds_is] at dO
  rw [pow_is] at dP
  unfold kindsD at dO
  unfold powD at dP
  refine ⟨⟨?two, ?kds, ?pow⟩, ⟨hR.lt gRng, ?big⟩, hmost, ?rng⟩
  case big =>
    obtain ⟨m, h⟩ := hmost
    exact World.block_lt_of_cell? W _ h
  case rng =>
    unfold Rows.laid_strconv_ErrRange at dR
    obtain ⟨_, u, v, e, _, _⟩ := iface_of_trod Tryz.underlying40 dR
    refine ⟨tyR, fzR, u, v, ?_⟩
    rw [hRR, show csR = #[.iface u v] from Array.ext' e]
  case two =>
    have h1 := hK.lt gKinds
    have h2 := hW.lt gPow
    have h3 : 1 ≤ (1 : Nat) := by decide
    omega
  case kds =>
    intro k hk
    obtain ⟨m, q, d1⟩ := arr_elem Tryz.underlying57 cStr dO (i := k) (range_at 5 _ hk)
    have := one_at (str_elem Tryz.underlying9 d1)
    exact cell_of_heap hO (by rw [Nat.mul_one] at this; exact this)
  case pow =>
    have hl : csP.toList.length = 20 := by
      obtain ⟨_, _, _, _, h, _, _⟩ := DataW.trod_array Tryz.underlying106 dP
      rw [h]
      kernel_rfl
    refine ⟨tyP, fzP, ?_⟩
    suffices h : csP = (Lib.pow10Tab.map fun z => Value.int .u64 z).toArray by rw [hP, h]
    apply Array.ext'
    apply List.ext_getElem?
    intro i
    rcases Nat.lt_or_ge i 20 with h | h
    · obtain ⟨m, q, d1⟩ := arr_elem Tryz.underlying106 cU64 dP (i := i) (range_at 20 _ h)
      have := one_at (int_elem Tryz.underlying86 d1)
      rw [Nat.mul_one] at this
      have e : (Lib.pow10Tab.map fun z => Value.int .u64 z)[i]? = some (.int .u64 ((10 ^ i : Nat) : Int)) := by
        unfold Lib.pow10Tab
        rw [List.map_map]
        exact range_at 20 _ h
      rw [this]
      exact e.symm
    · rw [List.getElem?_eq_none (by omega), List.getElem?_eq_none (by simp [Lib.pow10Tab]; omega)]

theorem laid_met (os : Os) (args : Array Value) : laidMetH Tryz.prog laidL ((World.laidAll Tryz.prog os laidL).forCall (fun _ _ => 0) ⟨#[], args, []⟩).memory := by
  rw [MakeChecks.laidMetH_plain _ _ _ (by kernel_rfl)]
  exact laidMet_laidAll _ (by kernel_rfl) (by kernel_rfl)

theorem own : ownKnob Tryz.prog.godebug = none := by kernel_rfl
theorem laidOut : laidOutB Tryz.prog = true := by kernel_rfl

end Go.Proofs.YtnlbellbeepkaaaGreatDoor
