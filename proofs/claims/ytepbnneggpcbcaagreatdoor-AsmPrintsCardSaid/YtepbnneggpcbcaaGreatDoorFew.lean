/-
  Few.
-/
import Derived.Test.YtepbnneggpcbcaaGreatDoorPack
namespace Go.Proofs.YtepbnneggpcbcaaGreatDoor
open Go.RowKit

def FwRel (P : List Fn) (w1 : World) (d : Nat) (k : Value) (wr : World) : Prop := ∃ j : Nat, j ≤ P.length ∧ j ≤ 41 ∧ d = 41 - j ∧ k = .int .i64 j ∧ Fr (fun _ => False) w1 wr

def FewPost (w : World) (e : Ending) (w' : World) : Prop := ∃ b : Bool, e = .returned (.bool b) ∧ Fr (fun _ => False) w w'
theorem FewPost.mk {w w' : World} {b : Bool} {e : Ending} (h : e = .returned (.bool b)) (f : Fr (fun _ => False) w w') : FewPost w e w' := ⟨b, h, f⟩

set_option maxRecDepth 100000 in
set_option maxHeartbeats 1000000 in
theorem few_any (A : Option Addr) (n c : Nat) (P : List Fn) (w : World) (hp : Prg w w.heap.size A P) (hn : P.length = n) :
    Calls Tryz.prog 4 #[.agg #[.slice A n c]] w (FewPost w) := by
  have HN := hid hn
  clear hn
  have hA := Fr.alloc (fun _ => False) w (.cells #[.slice A n c] 24)
  have hBx := Blk.new w #[.slice A n c] 24
  go_enter Tryz.func4, Tryz.ntmps4
  go_wp2_with fail
  go_loopg [3] 41 (fun d k wr => FwRel P (w.alloc (.cells #[.slice A n c] 24)) d k wr)
  case atStart => exact ⟨0, by omega, by omega, rfl, rfl, Fr.refl _ _⟩
  case round =>
    obtain ⟨k, hk, hk2, hd, rfl, hF⟩ := hrel
    rw [HN.out] at hk
    have HD := hid hd
    clear hd
    have hB := hBx.keep hF (fun h => h)
    have q0 : wr.cell? ⟨w.heap.size, 0, none⟩ = some (.slice A n c) := hB.cell rfl
    have ql := hB.lt
    by_cases hlt : k < n
    · by_cases h41 : k < 41
      · obtain ⟨⟨needs, l⟩, hfk⟩ : ∃ f, P[k]? = some f := ⟨_, List.getElem?_eq_getElem (by rw [HN.out]; exact hlt)⟩
        obtain ⟨g, o, rfl, hg, hcell⟩ := (hp.same (hA.trans hF) (Nat.le_refl _)) (by rw [HN.out]; omega)
        obtain ⟨A', c', p0, p1, _⟩ := hcell k _ hfk
        simp only at p0 p1
        obtain ⟨ln, hln⟩ : ∃ ln, l.length = ln := ⟨_, rfl⟩
        rw [hln] at p1
        have hgl : g < wr.heap.size := Nat.lt_of_lt_of_le hg (hA.trans hF).size
        clear hcell hfk hln
        by_cases h140 : 140 < ln
        · go_wp2_with fail
          go_ret
          exact FewPost.mk rfl (hA.trans hF)
        · go_wp2_with fail
          go_roundg (41 - (k + 1))
          case rel => exact ⟨k + 1, by rw [HN.out]; omega, by omega, rfl, by go_num, hF⟩
          case measure => have := HD.out; omega
      · go_wp2_with fail
        go_ret
        exact FewPost.mk rfl (hA.trans hF)
    · go_wp2_with fail
      go_ret
      exact FewPost.mk rfl (hA.trans hF)

theorem PackAny.own {w : World} {P : List Fn} {e : Ending} {w' : World} (h : PackAny w P e w') : ∃ A n cap, e = .returned (.tuple #[.slice A n cap, .int .i64 (packErr P)]) ∧ n ≤ 33000 ∧ OwnB w' w.heap.size A n cap (if packErr P = 0 then packBytes P else []) ∧ Fr (fun _ => False) w w' := by
  rcases h with ⟨h0, A, n, cap, rfl, hn, ho, hF⟩ | ⟨h0, rfl, hF⟩
  · refine ⟨A, n, cap, by rw [h0], hn, ?_, hF⟩
    rw [if_pos h0]
    exact ho
  · refine ⟨none, 0, 0, rfl, by omega, ?_, hF⟩
    rw [if_neg h0]
    exact OwnB.nil _ _

end Go.Proofs.YtepbnneggpcbcaaGreatDoor
