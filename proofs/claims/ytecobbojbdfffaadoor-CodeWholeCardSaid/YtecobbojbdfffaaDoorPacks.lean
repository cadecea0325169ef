/-
  CodePacks' walk.
-/
import Derived.Test.YtecobbojbdfffaaDoorRefPack
namespace Go.Proofs.YtecobbojbdfffaaDoor
open Go.RowKit

def FwRel (P : List Fn) (w1 : World) (d : Nat) (k : Value) (wr : World) : Prop := ∃ j : Nat, j ≤ P.length ∧ j ≤ 41 ∧ d = 41 - j ∧ k = .int .i64 j ∧ Fr (fun _ => False) w1 wr

def FewPost (w : World) (e : Ending) (w' : World) : Prop := ∃ b : Bool, e = .returned (.bool b) ∧ Fr (fun _ => False) w w'
theorem FewPost.mk {w w' : World} {b : Bool} {e : Ending} (h : e = .returned (.bool b)) (f : Fr (fun _ => False) w w') : FewPost w e w' := ⟨b, h, f⟩

set_option maxRecDepth 100000 in
set_option maxHeartbeats 1000000 in
theorem few_any (A : Option Addr) (n c : Nat) (P : List Fn) (w : World) (hp : Prg w w.heap.size A P) (hn : P.length = n) :
    Calls Tryd.prog 21 #[.agg #[.slice A n c]] w (FewPost w) := by
  have HN := hid hn
  clear hn
  have hA := Fr.alloc (fun _ => False) w (.cells #[.slice A n c] 42)
  have hBx := Blk.new w #[.slice A n c] 42
  go_enter Tryd.func21, Tryd.ntmps21
  go_wp2_with fail
  go_loopg [3] 41 (fun d k wr => FwRel P (w.alloc (.cells #[.slice A n c] 42)) d k wr)
  case atStart => exact ⟨0, by omega, by omega, rfl, rfl, Fr.refl _ _⟩
  case round =>
    obtain ⟨k, hk, hk2, hd, rfl, hF⟩ := hrel
    rw [HN.out] at hk
    have HD := hid hd
    clear hd
    have hB := hBx.keep hF (fun h => h)
    have q0 : wr.cell? ⟨w.heap.size, 0, none⟩ = some (.slice A n c) := hB.cell rfl
    have ql := hB.lt
    by_cases hlt : k < n
    · by_cases h41 : k < 41
      · obtain ⟨⟨needs, l⟩, hfk⟩ : ∃ f, P[k]? = some f := ⟨_, List.getElem?_eq_getElem (by rw [HN.out]; exact hlt)⟩
        obtain ⟨g, o, rfl, hg, hcell⟩ := (hp.same (hA.trans hF) (Nat.le_refl _)) (by rw [HN.out]; omega)
        obtain ⟨A', c', p0, p1, _⟩ := hcell k _ hfk
        simp only at p0 p1
        obtain ⟨ln, hln⟩ : ∃ ln, l.length = ln := ⟨_, rfl⟩
        rw [hln] at p1
        have hgl : g < wr.heap.size := Nat.lt_of_lt_of_le hg (hA.trans hF).size
        clear hcell hfk hln
        by_cases h140 : 140 < ln
        · go_wp2_with fail
          go_ret
          exact FewPost.mk rfl (hA.trans hF)
        · go_wp2_with fail
          go_roundg (41 - (k + 1))
          case rel => exact ⟨k + 1, by rw [HN.out]; omega, by omega, rfl, by go_num, hF⟩
          case measure => have := HD.out; omega
      · go_wp2_with fail
        go_ret
        exact FewPost.mk rfl (hA.trans hF)
    · go_wp2_with fail
      go_ret
      exact FewPost.mk rfl (hA.trans hF)

theorem PackAny.own {w : World} {P : List Fn} {e : Ending} {w' : World} (h : PackAny w P e w') : ∃ A n cap, e = .returned (.tuple #[.slice A n cap, .int .i64 (packErr P)]) ∧ n ≤ 33000 ∧ OwnB w' w.heap.size A n cap (if packErr P = 0 then packBytes P else []) ∧ Fr (fun _ => False) w w' := by
  rcases h with ⟨h0, A, n, cap, rfl, hn, ho, hF⟩ | ⟨h0, rfl, hF⟩
  · refine ⟨A, n, cap, by rw [h0], hn, ?_, hF⟩
    rw [if_pos h0]
    exact ho
  · refine ⟨none, 0, 0, rfl, by omega, ?_, hF⟩
    rw [if_neg h0]
    exact OwnB.nil _ _

set_option maxRecDepth 100000 in
set_option maxHeartbeats 1000000 in
theorem packsWalk (A : Option Addr) (n c : Nat) (P : List Fn) (w : World) (ht : Tabs w) (hp : Prg w w.heap.size A P) (hn : P.length = n) :
    Calls Tryd.prog 7 #[.agg #[.slice A n c]] w fun e w' => e = .returned (.bool true) ∧ Fr (fun _ => False) w w' := by
  subst hn
  have HA := hid awake_ok
  have hA := Fr.alloc (fun _ => False) w (.cells #[.slice A P.length c] 42)
  have hBx := Blk.new w #[.slice A P.length c] 42
  have HPK := hid (fun (W : World) (f : Fr (fun _ => False) w W) => pack_any A c P W (ht.same f) ((hp.same f (Nat.le_refl _)).more f.size))
  have HRP := hid (fun (W : World) (f : Fr (fun _ => False) w W) => rpack_any A c P W ((hp.same f (Nat.le_refl _)).more f.size))
  have HFW := hid (few_any A P.length c P _ ((hp.same hA (Nat.le_refl _)).more hA.size) rfl)
  obtain ⟨n, hn⟩ : ∃ n, P.length = n := ⟨_, rfl⟩
  rw [hn] at hA hBx HPK HRP HFW ⊢
  clear hn hp
  go_enter Tryd.func7, Tryd.ntmps7
  go_wp2_with fail
  refine HFW.out.mono ?_
  rintro e w1 ⟨fb, rfl, hF1⟩
  cases fb with
  | false =>
    go_wp2_with fail
    refine (HA.out w1 (ht.same (hA.trans hF1))).mono ?_
    rintro e w2 ⟨rfl, hF2⟩
    go_wp2_with fail
    go_ret
    exact ⟨rfl, hA.trans (hF1.trans hF2)⟩
  | true =>
    have hB1 := hBx.keep hF1 (fun h => h)
    have q0 : w1.cell? ⟨w.heap.size, 0, none⟩ = some (.slice A n c) := hB1.cell rfl
    have ql := hB1.lt
    go_wp2_with fail
    refine (HPK.out w1 (hA.trans hF1)).mono ?_
    intro e w2 hpa
    obtain ⟨A2, n2, c2, rfl, hn2, ho2, hF2⟩ := hpa.own
    have HO2 := hid ho2
    clear hpa ho2 q0 ql
    have hB2 := hB1.keep hF2 (fun h => h)
    have q0 : w2.cell? ⟨w.heap.size, 0, none⟩ = some (.slice A n c) := hB2.cell rfl
    have ql := hB2.lt
    go_wp2_with fail
    refine (HRP.out w2 (hA.trans (hF1.trans hF2))).mono ?_
    intro e w3 hpa
    obtain ⟨A3, n3, c3, rfl, hn3, ho3, hF3⟩ := hpa.own
    have HBB := hid (bytes_any _ _ A2 A3 n2 n3 c2 c3 _ _ w3 (HO2.out.same hF3).bys ho3.bys HO2.out.len ho3.len (by omega) (by omega))
    rw [show SameB (if packErr P = 0 then packBytes P else []) (if packErr P = 0 then packBytes P else []) = true by simp [SameB]] at HBB
    obtain ⟨x, hx⟩ : ∃ x, packErr P = x := ⟨_, rfl⟩
    rw [hx]
    clear hpa ho3 q0 ql hx HO2
    go_wp2_with fail
    refine HBB.out.mono ?_
    rintro e w4 ⟨rfl, hF4⟩
    go_wp2_with fail
    refine (HA.out w4 (ht.same (hA.trans (hF1.trans (hF2.trans (hF3.trans hF4)))))).mono ?_
    rintro e w5 ⟨rfl, hF5⟩
    go_wp2_with fail
    go_ret
    exact ⟨rfl, hA.trans (hF1.trans (hF2.trans (hF3.trans (hF4.trans hF5))))⟩

end Go.Proofs.YtecobbojbdfffaaDoor
