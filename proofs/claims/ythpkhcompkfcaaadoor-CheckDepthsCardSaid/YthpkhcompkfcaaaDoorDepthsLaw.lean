/-
  CheckDepths.
-/
import Derived.Test.YthpkhcompkfcaaaDoorRefDepths
import Derived.Test.YthpkhcompkfcaaaDoorAwake
namespace Go.Proofs.YthpkhcompkfcaaaDoor
open Go.RowKit

set_option maxHeartbeats 1000000 in
theorem depthsLaw (A : Option Addr) (n c : Nat) (l : List Ins) (W : World) (ht : Tabs W) (hl : l.length = n) (hp : Cod W W.heap.size A l ∧ (A = none → c = 0)) : Calls Tryd.prog 3 #[.slice A n c] W (LawPost W) := by
  have HL := hid hl
  have HP := hid hp.1
  clear hl hp
  by_cases hn : 300 < n
  · go_enter Tryd.func3, Tryd.ntmps3
    go_wp2_with fail
    refine (awake_any W ht).mono ?_
    rintro e w' ⟨rfl, hF⟩
    have HF := hid hF
    clear hF
    go_wp2_with fail
    go_ret
    exact ⟨rfl, HF.out⟩
  · go_enter Tryd.func3, Tryd.ntmps3
    go_wp2_with fail
    refine (depths_any A n c l W HL.out (by omega) HP.out).mono ?_
    rintro e w1 ⟨A1, n1, c1, rfl, h1, h2, hF1⟩
    obtain rfl : n = n1 := by rw [dep_len, HL.out] at h1; exact h1
    have H2 := hid h2
    have HF1 := hid hF1
    clear h1 h2 hF1
    go_wp2_with fail
    refine (rdepths_any A n c l w1 HL.out (by omega) ((HP.out.same HF1.out (Nat.le_refl _)).more HF1.out.size)).mono ?_
    rintro e w2 ⟨A2, n2, c2, rfl, h1, h2, hF2⟩
    obtain rfl : n = n2 := by rw [dep_len, HL.out] at h1; exact h1
    have H3 := hid h2
    have HF2 := hid hF2
    clear h1 h2 hF2
    go_wp2_with fail
    refine (ints_same A1 A2 n c1 c2 (dep 0 l) w2 (by rw [dep_len]; exact HL.out) (by omega) ((H2.out.same HF2.out (Nat.le_refl _)).more HF2.out.size) H3.out).mono ?_
    rintro e w3 ⟨rfl, hF3⟩
    have HF3 := hid (HF1.out.trans (HF2.out.trans hF3))
    clear hF3
    go_wp2_with fail
    refine (awake_any w3 (ht.same HF3.out)).mono ?_
    rintro e w4 ⟨rfl, hF4⟩
    have HF4 := hid (HF3.out.trans hF4)
    clear hF4
    go_wp2_with fail
    go_ret
    exact ⟨rfl, HF4.out⟩

end Go.Proofs.YthpkhcompkfcaaaDoor
