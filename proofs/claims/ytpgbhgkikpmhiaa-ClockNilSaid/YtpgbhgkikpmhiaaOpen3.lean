/-
  A struct of three numbers, by value, opened.
-/
import Derived.Test.YtpgbhgkikpmhiaaOpen
namespace Go.Proofs.Ytpgbhgkikpmhiaa
open Go.ChangeShapes Go.WideShapes Go.ChangeAt Go.RowKit Go.Deep

section
variable {H : Type} {enc : TypeId × Value → H} {P : Program} {w : World} {base : Nat} {spare : Nat → Bool} {held : Bool}

theorem open_triple {r : Reach} {b0 : Nat} {t : TypeId} {fs : Array Field} {v : Value} {d : DataW H} {p : List MemPlace} (ht : P.underlying t = some (.struct fs)) (hone : oneCellFields P fs = true) (hint : intFields P fs = true) (hC : P.cellsOf t = fs.size) (h2 : fs.size = 3)
    (hv : Value.okWide P w r b0 t v) (h : DataW.Trod enc P w base spare held t v d p) : ∃ x y z : Int, (Fits x ∧ Fits y ∧ Fits z) ∧ v = .agg #[.int .i64 x, .int .i64 y, .int .i64 z] := by
  obtain ⟨cs, rfl, hsz⟩ := okWide_struct ht hv
  obtain ⟨fuel, hf⟩ := h
  obtain ⟨hl, hj⟩ := struct_nums ht hone hint hf hC
  obtain ⟨l⟩ := cs
  match l, hsz.trans (hC.trans h2) with
  | [c0, c1, c2], _ =>
    obtain ⟨x, hx, wx⟩ := hj 0 (by omega)
    obtain ⟨y, hy, wy⟩ := hj 1 (by omega)
    obtain ⟨z, hz, wz⟩ := hj 2 (by omega)
    simp [Value.cells] at hx hy hz
    exact ⟨x, y, z, ⟨wx, wy, wz⟩, by rw [hx, hy, hz]⟩
end
end Go.Proofs.Ytpgbhgkikpmhiaa
