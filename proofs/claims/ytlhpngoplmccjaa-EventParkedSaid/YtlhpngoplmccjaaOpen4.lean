/-
  An array of four numbers, opened.
-/
import Derived.Test.YtlhpngoplmccjaaOpen
namespace Go.Proofs.Ytlhpngoplmccjaa
open Go.ChangeShapes Go.WideShapes Go.ChangeAt Go.RowKit Go.Deep

section
variable {H : Type} {enc : TypeId × Value → H} {P : Program} {w : World} {base : Nat} {spare : Nat → Bool} {held : Bool}

theorem open_four {r : Reach} {b0 : Nat} {t e : TypeId} {v : Value} {d : DataW H} {p : List MemPlace} (ht : P.underlying t = some (.array 4 e)) (he : P.underlying e = some (.int .i64)) (hC : P.cellsOf t = 4) (hE : P.cellsOf e = 1)
    (hv : Value.okWide P w r b0 t v) (h : DataW.Trod enc P w base spare held t v d p) : ∃ x y z u : Int, (Fits x ∧ Fits y ∧ Fits z ∧ Fits u) ∧ v = .agg #[.int .i64 x, .int .i64 y, .int .i64 z, .int .i64 u] := by
  unfold Value.okWide at hv
  rw [ht] at hv
  obtain ⟨cs, rfl, hsz, _⟩ := hv
  obtain ⟨fuel, hf⟩ := h
  obtain ⟨xs, m, _, _, _, hxl, hi⟩ := DataW.trod_array ht hf
  obtain ⟨l⟩ := cs
  match l, hsz.trans hC with
  | [c0, c1, c2, c3], _ =>
    have h0 := hi 0 (by omega)
    have h1 := hi 1 (by omega)
    have h2 := hi 2 (by omega)
    have h3 := hi 3 (by omega)
    rw [hE] at h0 h1 h2 h3
    rw [List.getElem?_eq_getElem (by omega)] at h0 h1 h2 h3
    obtain ⟨x, hx, _, wx⟩ := DataW.trod_int he h0
    obtain ⟨y, hy, _, wy⟩ := DataW.trod_int he h1
    obtain ⟨z, hz, _, wz⟩ := DataW.trod_int he h2
    obtain ⟨u, hu, _, wu⟩ := DataW.trod_int he h3
    simp [Value.cells] at hx hy hz hu
    exact ⟨x, y, z, u, ⟨fits_of_wf wx, fits_of_wf wy, fits_of_wf wz, fits_of_wf wu⟩, by rw [hx, hy, hz, hu]⟩
end

end Go.Proofs.Ytlhpngoplmccjaa
