/-
  Stage 7: the first error that is told.
-/
import Derived.Test.YtnlbellbeepkaaaGreatDoorWay
import Derived.Test.YtnlbellbeepkaaaGreatDoorSite
namespace Go.Proofs.YtnlbellbeepkaaaGreatDoor
open Go.RowKit
set_option linter.unusedVariables false

def FsRel (n : Nat) (J : Nat → World → Prop) (d : Nat) (k : Value) (wr : World) : Prop := ∃ j : Nat, j ≤ n ∧ d = n + 1 - j ∧ k = .int .i64 j ∧ J j wr

def FsPost (R : Int → World → Prop) (e : Ending) (w' : World) : Prop := ∃ x : Int, e = .returned (.int .i64 x) ∧ R x w'
def FsOne (J : Nat → World → Prop) (R : Int → World → Prop) (j : Nat) (e : Ending) (w' : World) : Prop := ∃ x : Int, e = .returned (.int .i64 x) ∧ (x = 0 → J (j + 1) w') ∧ (x ≠ 0 → R x w')

set_option maxRecDepth 100000 in
set_option maxHeartbeats 2000000 in
theorem first_any (g n : Nat) (fs : List Nat) (b : Value) (w : World) (J : Nat → World → Prop) (R : Int → World → Prop) (hn : fs.length = n) (hn2 : n ≤ 1000)
    (hcell : ∀ (j f : Nat) (W : World), fs[j]? = some f → J j W → W.cell? ⟨g, j, none⟩ = some (.func (.func f) #[b] #[]) ∧ g < W.heap.size)
    (hcall : ∀ (j f : Nat) (W : World), fs[j]? = some f → J j W → Calls Tryz.prog f #[b] W (FsOne J R j))
    (hcf : ∀ (j f : Nat) (W : World), fs[j]? = some f → (callFunc f #[b]).run Tryz.prog W = .ok (.enter f #[b]) W)
    (h0 : J 0 w) (hR : ∀ W, J n W → R 0 W) :
    Calls Tryz.prog 27 #[.slice (some ⟨g, 0, none⟩) n n] w (FsPost R) := by
  have HN := hid hn
  have HC := hid hcell
  have HK := hid hcall
  have HF := hid hcf
  have H0 := hid h0
  have HR := hid hR
  clear hn hcell hcall hcf h0 hR
  go_enter Tryz.func27, Tryz.ntmps27
  go_wp2_with fail
  go_loopg [8] (n + 1) (fun d k wr => FsRel n J d k wr)
  case atStart => exact ⟨0, by omega, by omega, rfl, H0.out⟩
  case round =>
    obtain ⟨j, hj, hd, rfl, hJ⟩ := hrel
    have HD := hid hd
    have HJ := hid hJ
    clear hd hJ
    by_cases hlt : j < n
    · obtain ⟨f, hf⟩ : ∃ f, fs[j]? = some f := ⟨_, List.getElem?_eq_getElem (by rw [HN.out]; omega)⟩
      obtain ⟨c0, l0⟩ := HC.out j f wr hf HJ.out
      have hcl := HF.out j f
      have HK1 := hid (HK.out j f wr hf HJ.out)
      have HG := hid hf
      have hcl2 := fun W => hcl W hf
      have hj0 : (0 : Int) ≤ j ∧ (j : Int) < n := by omega
      clear hcl hf
      go_wp2_with fail
      refine HK1.out.mono ?_
      rintro e w2 ⟨x, rfl, hx0, hx1⟩
      by_cases hx : x = 0
      · have t1 : (x != 0) = false := by simp [hx]
        have HJ2 := hid (hx0 hx)
        clear hx0 hx1 hx c0 l0
        go_wp2_with fail
        go_roundg (n + 1 - (j + 1))
        case rel => exact ⟨j + 1, by omega, rfl, by go_num, HJ2.out⟩
        case measure => have := HD.out; omega
      · have t1 : (x != 0) = true := by simpa using hx
        have HR2 := hid (hx1 hx)
        clear hx0 hx1 hx c0 l0
        go_wp2_with fail
        go_ret
        exact ⟨x, rfl, HR2.out⟩
    · have hjn : j = n := by omega
      have HJ2 := hid (show J n wr by rw [← hjn]; exact HJ.out)
      clear hjn
      go_wp2_with fail
      go_ret
      exact ⟨0, rfl, HR.out _ HJ2.out⟩

end Go.Proofs.YtnlbellbeepkaaaGreatDoor
