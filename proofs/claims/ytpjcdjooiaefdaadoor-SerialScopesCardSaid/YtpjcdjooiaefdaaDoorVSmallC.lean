/-
  Whether a program, and its fuel, are not too great.
-/
import Derived.Test.YtpjcdjooiaefdaaDoorVFew
namespace Go.Proofs.YtpjcdjooiaefdaaDoor
open Go.RowKit
set_option linter.unusedVariables false

def SmallPost (P : List Fn) (fuel : Int) (w : World) (e : Ending) (w' : World) : Prop := ∃ b : Bool, e = .returned (.bool b) ∧ (b = true → P.length ≤ 40 ∧ fuel ≤ 3000 ∧ ∀ (k : Nat) f, P[k]? = some f → f.code.length ≤ 140) ∧ Fr (fun _ => False) w w'

set_option maxHeartbeats 400000 in
theorem small_any (A : Option Addr) (n c : Nat) (P : List Fn) (fuel : Int) (w : World) (hp : Prg w w.heap.size A P) (hn : P.length = n) :
    Calls Tryd.prog 7 #[.agg #[.slice A n c], .int .i64 fuel] w (SmallPost P fuel w) := by
  have hA := Fr.alloc (fun _ => False) w (.cells #[.slice A n c] 24)
  have HFW := hid (few_any A n c P _ ((hp.same hA (Nat.le_refl _)).more hA.size) hn)
  have HA := hid hA
  clear hA hp
  go_enter Tryd.func7, Tryd.ntmps7
  go_wp2_with fail
  refine HFW.out.mono ?_
  rintro e w2 ⟨b, rfl, hb, hF⟩
  have HF := hid hF
  have HB := hid hb
  clear hF hb
  cases b with
  | false =>
    go_wp2_with fail
    go_ret
    exact ⟨false, rfl, fun h => (by cases h), HA.out.trans HF.out⟩
  | true =>
    go_wp2_with fail
    go_ret
    exact ⟨decide (fuel ≤ 3000), rfl, fun h => ⟨(HB.out trivial).1, of_decide_eq_true h, (HB.out trivial).2⟩, HA.out.trans HF.out⟩

end Go.Proofs.YtpjcdjooiaefdaaDoor
