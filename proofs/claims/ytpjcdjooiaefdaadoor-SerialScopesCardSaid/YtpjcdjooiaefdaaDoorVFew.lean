/-
  Few.
-/
import Derived.Test.YtpjcdjooiaefdaaDoorVSmall
import Derived.Deep.LoopGhost
namespace Go.Proofs.YtpjcdjooiaefdaaDoor
open Go.RowKit

def FwRel (P : List Fn) (w1 : World) (d : Nat) (k : Value) (wr : World) : Prop := ∃ j : Nat, j ≤ P.length ∧ j ≤ 41 ∧ d = 41 - j ∧ k = .int .i64 j ∧ (∀ (i : Nat) f, i < j → P[i]? = some f → f.code.length ≤ 140) ∧ Fr (fun _ => False) w1 wr

def FewPost (P : List Fn) (w : World) (e : Ending) (w' : World) : Prop := ∃ b : Bool, e = .returned (.bool b) ∧ (b = true → P.length ≤ 40 ∧ ∀ (k : Nat) f, P[k]? = some f → f.code.length ≤ 140) ∧ Fr (fun _ => False) w w'
theorem FewPost.mk {P : List Fn} {w w' : World} {b : Bool} {e : Ending} (h : e = .returned (.bool b)) (hb : b = true → P.length ≤ 40 ∧ ∀ (k : Nat) f, P[k]? = some f → f.code.length ≤ 140) (f : Fr (fun _ => False) w w') : FewPost P w e w' := ⟨b, h, hb, f⟩

set_option maxRecDepth 100000 in
set_option maxHeartbeats 1000000 in
theorem few_any (A : Option Addr) (n c : Nat) (P : List Fn) (w : World) (hp : Prg w w.heap.size A P) (hn : P.length = n) :
    Calls Tryd.prog 14 #[.agg #[.slice A n c]] w (FewPost P w) := by
  have HN := hid hn
  clear hn
  have hA := Fr.alloc (fun _ => False) w (.cells #[.slice A n c] 24)
  have hBx := Blk.new w #[.slice A n c] 24
  go_enter Tryd.func14, Tryd.ntmps14
  go_wp2_with fail
  go_loopg [3] 41 (fun d k wr => FwRel P (w.alloc (.cells #[.slice A n c] 24)) d k wr)
  case atStart => exact ⟨0, by omega, by omega, rfl, rfl, fun i f h => by omega, Fr.refl _ _⟩
  case round =>
    obtain ⟨k, hk, hk2, hd, rfl, hall, hF⟩ := hrel
    have HALL := hid hall
    clear hall
    rw [HN.out] at hk
    have HD := hid hd
    clear hd
    have hB := hBx.keep hF (fun h => h)
    have q0 : wr.cell? ⟨w.heap.size, 0, none⟩ = some (.slice A n c) := hB.cell rfl
    have ql := hB.lt
    by_cases hlt : k < n
    · by_cases h41 : k < 41
      · obtain ⟨⟨needs, l⟩, hfk⟩ : ∃ f, P[k]? = some f := ⟨_, List.getElem?_eq_getElem (by rw [HN.out]; exact hlt)⟩
        obtain ⟨g, o, rfl, hg, hcell⟩ := (hp.same (hA.trans hF) (Nat.le_refl _)) (by rw [HN.out]; omega)
        obtain ⟨A', c', p0, p1, _⟩ := hcell k _ hfk
        simp only at p0 p1
        obtain ⟨ln, hln⟩ : ∃ ln, l.length = ln := ⟨_, rfl⟩
        rw [hln] at p1
        have hgl : g < wr.heap.size := Nat.lt_of_lt_of_le hg (hA.trans hF).size
        have HFK := hid hfk
        have HLN := hid hln
        clear hcell hfk hln
        by_cases h140 : 140 < ln
        · go_wp2_with fail
          go_ret
          exact FewPost.mk rfl (fun h => by cases h) (hA.trans hF)
        · go_wp2_with fail
          go_roundg (41 - (k + 1))
          case rel => exact ⟨k + 1, by rw [HN.out]; omega, by omega, rfl, by go_num, fun i f hi hf => by
            rcases Nat.lt_or_ge i k with h | h
            · exact HALL.out i f h hf
            · obtain rfl : i = k := by omega
              have := HFK.out
              rw [hf] at this
              cases this
              show l.length ≤ 140
              rw [HLN.out]
              omega, hF⟩
          case measure => have := HD.out; omega
      · go_wp2_with fail
        go_ret
        exact FewPost.mk rfl (fun h => by have := of_decide_eq_true h; omega) (hA.trans hF)
    · go_wp2_with fail
      go_ret
      exact FewPost.mk rfl (fun h => ⟨by have := of_decide_eq_true h; rw [HN.out]; omega, fun i f hf => HALL.out i f (by have := (List.getElem?_eq_some_iff.1 hf).1; rw [HN.out] at this; omega) hf⟩) (hA.trans hF)

end Go.Proofs.YtpjcdjooiaefdaaDoor
