/-
  Arguments opened to the numbers that they hold: arrays of two, structs of numbers, slices of numbers and of such structs.
-/
import Derived.ProofKit
import Derived.OpenShut
import Derived.Below
import Derived.Deep.Slices
import Derived.Deep.Fields
import Derived.ChangeSame
namespace Go.Proofs.Ytoajdknhllaoeaa
open Go.ChangeShapes Go.WideShapes Go.ChangeAt Go.RowKit Go.Deep

/-- The number in a cell. -/
def numAt (w : World) (a : Addr) : Int := match w.cell? a with
  | some (.int _ n) => n
  | _ => 0

/-- A number fits 64 bits. -/
def Fits (n : Int) : Prop := -9223372036854775808 ≤ n ∧ n ≤ 9223372036854775807

theorem fits_of_wf {n : Int} (h : (Lit.int .i64 n).wf = true) : Fits n := by
  simp [Lit.wf, IntKind.min, IntKind.max, IntKind.signed, IntKind.bits] at h
  exact ⟨by omega, by omega⟩

/-- A slice that is read: the j-th number of its i-th element, of k numbers each. -/
def Row (w : World) (a : Option Addr) (len k : Nat) (f : Nat → Nat → Int) : Prop :=
  0 < len → ∃ b off, a = some ⟨b, off, none⟩ ∧ b < w.heap.size ∧ ∀ i j, i < len → j < k → w.cell? ⟨b, off + (i * k + j), none⟩ = some (.int .i64 (f i j)) ∧ Fits (f i j)

def isI64 (P : Program) (t : TypeId) : Bool := match P.underlying t with
  | some (.int .i64) => true
  | _ => false

theorem isI64_of {P : Program} {t : TypeId} (h : isI64 P t = true) : P.underlying t = some (.int .i64) := by
  unfold isI64 at h
  split at h
  · assumption
  · cases h

def intFields (P : Program) (fs : Array Field) : Bool := fs.toList.all fun f => isI64 P f.type

theorem intFields_of {P : Program} {fs : Array Field} (h : intFields P fs = true) {j : Nat} {f : Field} (hj : fs[j]? = some f) : P.underlying f.type = some (.int .i64) := by
  refine isI64_of (List.all_eq_true.1 h f ?_)
  have := Array.getElem?_eq_some_iff.1 hj
  obtain ⟨h1, h2⟩ := this
  rw [← h2]
  exact Array.getElem_mem_toList h1

section
variable {H : Type} {enc : TypeId × Value → H} {P : Program} {w : World} {base : Nat} {spare : Nat → Bool} {held : Bool}

/-- A struct of numbers, read: each of its cells holds one. -/
theorem struct_nums {e : TypeId} {fs : Array Field} {n : Nat} {cs : List Value} {x : DataW H × List MemPlace} (he : P.underlying e = some (.struct fs)) (hone : oneCellFields P fs = true) (hint : intFields P fs = true)
    (h : DataW.trod enc P w base spare held n e cs = some x) (hC : P.cellsOf e = fs.size) : cs.length = fs.size ∧ ∀ j, j < fs.size → ∃ q, cs[j]? = some (.int .i64 q) ∧ Fits q := by
  obtain ⟨xs, m, _, _, hlen, hxl, hf⟩ := DataW.trod_struct he h
  refine ⟨hlen.trans hC, fun j hj => ?_⟩
  obtain ⟨f, hfj⟩ : ∃ f, fs[j]? = some f := ⟨fs[j], Array.getElem?_eq_getElem hj⟩
  obtain ⟨ho, hk⟩ := hone_of hone j f hfj
  have hg := hf j f hfj
  rw [ho, hk] at hg
  have hx : xs[j]? = some (xs[j]'(by omega)) := List.getElem?_eq_getElem (by omega)
  rw [hx] at hg
  obtain ⟨q, hq, _, hw⟩ := DataW.trod_int (intFields_of hint hfj) hg
  refine ⟨q, ?_, fits_of_wf hw⟩
  have hd : (cs.drop j).take 1 = [cs[j]'(by omega)] := by
    rw [List.drop_eq_getElem_cons (by omega)]
    rfl
  rw [hd] at hq
  simp only [List.cons.injEq, and_true] at hq
  rw [List.getElem?_eq_getElem (by omega), hq]

/-- An array of two numbers. -/
theorem open_two {r : Reach} {b0 : Nat} {t e : TypeId} {v : Value} {d : DataW H} {p : List MemPlace} (ht : P.underlying t = some (.array 2 e)) (he : P.underlying e = some (.int .i64)) (hC : P.cellsOf t = 2) (hE : P.cellsOf e = 1)
    (hv : Value.okWide P w r b0 t v) (h : DataW.Trod enc P w base spare held t v d p) : ∃ x y : Int, Fits x ∧ Fits y ∧ v = .agg #[.int .i64 x, .int .i64 y] := by
  unfold Value.okWide at hv
  rw [ht] at hv
  obtain ⟨cs, rfl, hsz, _⟩ := hv
  obtain ⟨fuel, hf⟩ := h
  obtain ⟨xs, m, _, _, _, hxl, hi⟩ := DataW.trod_array ht hf
  obtain ⟨l⟩ := cs
  match l, hsz.trans hC with
  | [c0, c1], _ =>
    have h0 := hi 0 (by omega)
    have h1 := hi 1 (by omega)
    rw [hE] at h0 h1
    rw [List.getElem?_eq_getElem (by omega)] at h0 h1
    obtain ⟨x, hx, _, wx⟩ := DataW.trod_int he h0
    obtain ⟨y, hy, _, wy⟩ := DataW.trod_int he h1
    simp [Value.cells] at hx hy
    exact ⟨x, y, fits_of_wf wx, fits_of_wf wy, by rw [hx, hy]⟩

/-- A struct of two numbers, by value. -/
theorem open_pair {r : Reach} {b0 : Nat} {t : TypeId} {fs : Array Field} {v : Value} {d : DataW H} {p : List MemPlace} (ht : P.underlying t = some (.struct fs)) (hone : oneCellFields P fs = true) (hint : intFields P fs = true) (hC : P.cellsOf t = fs.size) (h2 : fs.size = 2)
    (hv : Value.okWide P w r b0 t v) (h : DataW.Trod enc P w base spare held t v d p) : ∃ x y : Int, Fits x ∧ Fits y ∧ v = .agg #[.int .i64 x, .int .i64 y] := by
  obtain ⟨cs, rfl, hsz⟩ := okWide_struct ht hv
  obtain ⟨fuel, hf⟩ := h
  obtain ⟨hl, hj⟩ := struct_nums ht hone hint hf hC
  obtain ⟨l⟩ := cs
  match l, hsz.trans (hC.trans h2) with
  | [c0, c1], _ =>
    obtain ⟨x, hx, wx⟩ := hj 0 (by omega)
    obtain ⟨y, hy, wy⟩ := hj 1 (by omega)
    simp [Value.cells] at hx hy
    exact ⟨x, y, wx, wy, by rw [hx, hy]⟩

theorem add_spot (a : Addr) (n : Nat) (ha : a.spot = none) : a.add n = ⟨a.block, a.off + n, none⟩ := by
  unfold Addr.add
  obtain ⟨b, o, s⟩ := a
  simp only at ha
  subst ha
  split
  · subst_vars; rfl
  · rfl

theorem cell_spot {w : World} {a : Addr} {v : Value} (h : w.cell? a = some v) : a.spot = none ∧ a.block < w.heap.size := by
  unfold World.cell? at h
  split at h
  · rename_i c t fz hb
    refine ⟨?_, (Array.getElem?_eq_some_iff.1 hb).1⟩
    split at h
    · cases h
    · rename_i hs
      simpa using hs
  · cases h

theorem row_of {a : Addr} {len k : Nat} (hk : 0 < k) (hc : ∀ i, i < len → ∃ cs, w.cells? base (a.add (i * k)) k = some cs ∧ ∀ j, j < k → ∃ q, cs[j]? = some (Value.int .i64 q) ∧ Fits q) :
    ∃ f, Row w (some a) len k f := by
  have hcell : ∀ i j, i < len → j < k → ∃ q, w.cell? (a.add (i * k + j)) = some (.int .i64 q) ∧ Fits q := by
    intro i j hi hj
    obtain ⟨cs, hcs, hq⟩ := hc i hi
    obtain ⟨_, hl, hat⟩ := World.cells?_some hcs
    obtain ⟨q, hq1, hq2⟩ := hq j hj
    exact ⟨q, by rw [← add_add, hat j hj, hq1], hq2⟩
  refine ⟨fun i j => numAt w (a.add (i * k + j)), fun hlen => ?_⟩
  obtain ⟨q0, h0, _⟩ := hcell 0 0 hlen hk
  have e0 : a.add (0 * k + 0) = a := by simp [Addr.add]
  rw [e0] at h0
  obtain ⟨hs, hb⟩ := cell_spot h0
  refine ⟨a.block, a.off, by obtain ⟨b, o, s⟩ := a; simp only at hs; subst hs; rfl, hb, fun i j hi hj => ?_⟩
  obtain ⟨q, hq1, hq2⟩ := hcell i j hi hj
  have e : numAt w (a.add (i * k + j)) = q := by simp [numAt, hq1]
  simp only [e]
  rw [← add_spot a _ hs]
  exact ⟨hq1, hq2⟩

/-- A slice of numbers. -/
theorem open_nums {t e : TypeId} {a : Option Addr} {len cap : Nat} {d : DataW H} {p : List MemPlace} (ht : P.underlying t = some (.slice e)) (he : P.underlying e = some (.int .i64)) (hE : P.cellsOf e = 1)
    (hsp : ∀ b, spare b = true) (h : DataW.Trod enc P w base spare held t (.slice a len cap) d p) : len ≤ maxLen ∧ ∃ f, Row w a len 1 f := by
  obtain ⟨fuel, hf⟩ := h
  rcases open_slice ht hf with ⟨hcs, _⟩ | ⟨a', l, c, m, n, D, Pl, hcs, _, hl, hm, hmm, _, hi⟩
  · simp [Value.cells] at hcs
    obtain ⟨rfl, rfl, rfl⟩ := hcs
    exact ⟨Nat.zero_le _, fun _ _ => 0, fun hh => absurd hh (by omega)⟩
  · simp [Value.cells] at hcs
    obtain ⟨rfl, rfl, rfl⟩ := hcs
    refine ⟨by omega, row_of (base := base) (by omega) fun i hil => ?_⟩
    rw [if_pos (hsp _)] at hmm
    obtain ⟨cs', hc, ht'⟩ := hi i (by omega)
    rw [hE] at hc
    obtain ⟨q, hq, _, wq⟩ := DataW.trod_int he ht'
    refine ⟨cs', hc, fun j hj => ⟨q, ?_, fits_of_wf wq⟩⟩
    obtain rfl : j = 0 := by omega
    rw [hq]
    rfl

/-- A slice of structs of numbers. -/
theorem open_structs {t e : TypeId} {fs : Array Field} {a : Option Addr} {len cap : Nat} {d : DataW H} {p : List MemPlace} (ht : P.underlying t = some (.slice e)) (he : P.underlying e = some (.struct fs))
    (hone : oneCellFields P fs = true) (hint : intFields P fs = true) (hC : P.cellsOf e = fs.size) (hk : 0 < fs.size)
    (hsp : ∀ b, spare b = true) (h : DataW.Trod enc P w base spare held t (.slice a len cap) d p) : len ≤ maxLen ∧ ∃ f, Row w a len fs.size f := by
  obtain ⟨fuel, hf⟩ := h
  rcases open_slice ht hf with ⟨hcs, _⟩ | ⟨a', l, c, m, n, D, Pl, hcs, _, hl, hm, hmm, _, hi⟩
  · simp [Value.cells] at hcs
    obtain ⟨rfl, rfl, rfl⟩ := hcs
    exact ⟨Nat.zero_le _, fun _ _ => 0, fun hh => absurd hh (by omega)⟩
  · simp [Value.cells] at hcs
    obtain ⟨rfl, rfl, rfl⟩ := hcs
    refine ⟨by omega, row_of (base := base) hk fun i hil => ?_⟩
    rw [if_pos (hsp _)] at hmm
    obtain ⟨cs', hc, ht'⟩ := hi i (by omega)
    rw [hC] at hc
    obtain ⟨_, hj⟩ := struct_nums he hone hint ht' hC
    exact ⟨cs', hc, hj⟩
/-- An array of two structs of two numbers. -/
theorem open_spots {r : Reach} {b0 : Nat} {t e : TypeId} {fs : Array Field} {v : Value} {d : DataW H} {p : List MemPlace} (ht : P.underlying t = some (.array 2 e)) (he : P.underlying e = some (.struct fs))
    (hone : oneCellFields P fs = true) (hint : intFields P fs = true) (h2 : fs.size = 2) (hC : P.cellsOf t = 4) (hE : P.cellsOf e = 2)
    (hv : Value.okWide P w r b0 t v) (h : DataW.Trod enc P w base spare held t v d p) : ∃ x y z u : Int, v = .agg #[.int .i64 x, .int .i64 y, .int .i64 z, .int .i64 u] := by
  unfold Value.okWide at hv
  rw [ht] at hv
  obtain ⟨cs, rfl, hsz, _⟩ := hv
  obtain ⟨fuel, hf⟩ := h
  obtain ⟨xs, m, _, _, _, hxl, hi⟩ := DataW.trod_array ht hf
  obtain ⟨l⟩ := cs
  match l, hsz.trans hC with
  | [c0, c1, c2, c3], _ =>
    have g0 := hi 0 (by omega)
    have g1 := hi 1 (by omega)
    rw [hE] at g0 g1
    rw [List.getElem?_eq_getElem (by omega)] at g0 g1
    obtain ⟨_, q0⟩ := struct_nums he hone hint g0 (hE.trans h2.symm)
    obtain ⟨_, q1⟩ := struct_nums he hone hint g1 (hE.trans h2.symm)
    obtain ⟨x, hx, _⟩ := q0 0 (by omega)
    obtain ⟨y, hy, _⟩ := q0 1 (by omega)
    obtain ⟨z, hz, _⟩ := q1 0 (by omega)
    obtain ⟨u, hu, _⟩ := q1 1 (by omega)
    simp [Value.cells] at hx hy hz hu
    exact ⟨x, y, z, u, by rw [hx, hy, hz, hu]⟩
end

end Go.Proofs.Ytoajdknhllaoeaa
