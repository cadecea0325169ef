/-
  The document's shape of a function, and its Plain.
-/
import Derived.Test.YthpkhcompkfcaaaDoorRefCheck
import Derived.Test.YthpkhcompkfcaaaDoorPlainF
import Derived.Test.YthpkhcompkfcaaaDoorParts
import Derived.Deep.RegionHeld3
import Derived.Deep.DeepCutAuto
namespace Go.Proofs.YthpkhcompkfcaaaDoor
open Go.RowKit
set_option linter.unusedVariables false

def ShPost (w : World) (x : Flt) (e : Ending) (w' : World) : Prop := e = .returned (.tuple #[.int .i64 x.at_, .int .i64 x.code]) ∧ Fr (fun _ => False) w w'

def ShRel (k : Nat) (l : List Ins) (W0 : World) (d : Nat) (kv : Value) (wr : World) : Prop :=
  ∃ j : Nat, j ≤ l.length ∧ d = l.length - j ∧ kv = .int .i64 j ∧ firstW (fun j i => flt k j (chk i)) 0 (l.take j) = Flt.none ∧ Fr (fun _ => False) W0 wr

set_option maxRecDepth 100000 in
set_option maxHeartbeats 2000000 in
theorem rshape_any (k : Nat) (f : Fn) (A : Option Addr) (n c : Nat) (w : World) (hn : f.code.length = n) (hp : Cod w w.heap.size A f.code) :
    Calls Tryd.prog 34 #[.agg #[.int .i64 f.needs, .slice A n c]] w (ShPost w (shapeF k f)) := by
  obtain ⟨needs, l⟩ := f
  simp only at hn hp ⊢
  have HN := hid hn
  have HP := hid hp
  clear hn hp
  obtain ⟨W0, hW0⟩ : ∃ W0, W0 = w.alloc (.cells #[.int .i64 needs, .slice A n c] 29) := ⟨_, rfl⟩
  have HA := hid (show Fr (fun _ => False) w W0 by rw [hW0]; exact Fr.alloc _ _ _)
  have hb : Blk W0 w.heap.size #[.int .i64 needs, .slice A n c] := by rw [hW0]; exact Blk.new _ _ _
  have HB := hid hb
  have b0 := hb.cell (i := 0) rfl
  have b1 := hb.cell (i := 1) rfl
  have bl := hb.lt
  simp only [List.getElem_toArray, List.getElem_cons_zero, List.getElem_cons_succ] at b0 b1
  clear hb
  go_enter Tryd.func34, Tryd.ntmps34
  go_upto_region 1 with fail
  rw [← hW0]
  clear hW0
  by_cases hneeds : needs < 0 ∨ 255 < needs
  · have HQ := hid (show shapeF k ⟨needs, l⟩ = ⟨k, -1, 10⟩ by unfold shapeF; rw [if_pos hneeds])
    rcases hneeds with h | h
    · go_wp2_with fail
      refine bodyPost_ret (v := .tuple #[.int .i64 (-1), .int .i64 10]) (by simp [results, Tryd.results34, go_sem]; try rfl) rfl ⟨by rw [HQ.out], HA.out⟩
    · have h0 : ¬ needs < 0 := by omega
      go_wp2_with fail
      refine bodyPost_ret (v := .tuple #[.int .i64 (-1), .int .i64 10]) (by simp [results, Tryd.results34, go_sem]; try rfl) rfl ⟨by rw [HQ.out], HA.out⟩
  · have n0 : ¬ needs < 0 := by omega
    have n1 : ¬ 255 < needs := by omega
    by_cases hlen : n < 1 ∨ 128 < n
    · have HQ := hid (show shapeF k ⟨needs, l⟩ = ⟨k, -1, 12⟩ by unfold shapeF; rw [if_neg hneeds, HN.out, if_pos hlen])
      rcases hlen with h | h
      · go_wp2_with fail
        refine bodyPost_ret (v := .tuple #[.int .i64 (-1), .int .i64 12]) (by simp [results, Tryd.results34, go_sem]; try rfl) rfl ⟨by rw [HQ.out], HA.out⟩
      · have h0 : ¬ n < 1 := by omega
        go_wp2_with fail
        refine bodyPost_ret (v := .tuple #[.int .i64 (-1), .int .i64 12]) (by simp [results, Tryd.results34, go_sem]; try rfl) rfl ⟨by rw [HQ.out], HA.out⟩
    · have l0 : ¬ n < 1 := by omega
      have l1 : ¬ 128 < n := by omega
      have HS := hid (show shapeF k ⟨needs, l⟩ = firstW (fun j i => flt k j (chk i)) 0 l by unfold shapeF; rw [if_neg hneeds, HN.out, if_neg hlen])
      go_upto_region 5 with fail
      go_cut [4] from 6 to 23 (fun u wx => u = .int .i64 0 ∧ wx = W0)
      case first =>
        go_wp2_with fail
        go_meet
        exact ⟨rfl, rfl⟩
      case rest =>
      obtain ⟨rfl, rfl⟩ := hcut
      clear hneeds hlen n0 n1 l0 b0 b1
      go_wp2_with fail
      go_loopg [4] n (fun d kv wr => ShRel k l wc d kv wr)
      case atStart => exact ⟨0, by omega, by rw [HN.out, Nat.sub_zero], rfl, rfl, Fr.refl _ _⟩
      case round =>
        obtain ⟨wo, rfl⟩ : ∃ wo, wo = wr := ⟨_, rfl⟩
        obtain ⟨j, hj, hd, rfl, he, hF⟩ := hrel
        rw [HN.out] at hj hd
        have HD := hid hd
        have HE := hid he
        have HF := hid hF
        have HFW := hid (HA.out.trans hF)
        have hb := HB.out.keep hF (fun h => h)
        have b1 := hb.cell (i := 1) rfl
        have bl := hb.lt
        simp only [List.getElem_toArray, List.getElem_cons_zero, List.getElem_cons_succ] at b1
        clear hd he hb hF
        by_cases hlt : j < n
        · obtain ⟨⟨op, a, b, ci, m⟩, hik⟩ : ∃ i, l[j]? = some i := ⟨_, List.getElem?_eq_getElem (by rw [HN.out]; exact hlt)⟩
          obtain ⟨g2, o2, rfl, hg2, hcell2⟩ := (HP.out.same HFW.out (Nat.le_refl _)) (by rw [HN.out]; omega)
          obtain ⟨s0, s1, s2, s3, s4⟩ := hcell2 j _ hik
          simp only at s0 s1 s2 s3 s4
          have hgl2 : g2 < wo.heap.size := Nat.lt_of_lt_of_le hg2 HFW.out.size
          have HX := hid hik
          have HC := hid (rcheck_any ⟨op, a, b, ci, m⟩ wo)
          unfold Ins.val at HC
          simp only at HC
          obtain ⟨x, hx⟩ : ∃ x, chk ⟨op, a, b, ci, m⟩ = x := ⟨_, rfl⟩
          rw [hx] at HC
          have HXX := hid hx
          clear hcell2 hik hx
          go_wp2_with fail
          refine HC.out.mono ?_
          rintro e w4 ⟨rfl, hF4⟩
          have HF4 := hid (HF.out.trans hF4)
          clear hF4
          by_cases hx0 : x = 0
          · subst hx0
            go_wp2_with fail
            go_roundg (n - (j + 1))
            case rel => exact ⟨j + 1, by rw [HN.out]; omega, by rw [HN.out], by go_num, firstW_snoc HE.out HX.out (flt_none.2 HXX.out), HF4.out⟩
            case measure => have := HD.out; omega
          · have t1 : (x != 0) = true := by simpa using hx0
            have e1 : (fun (j : Nat) i => flt k j (chk i)) (0 + j) ⟨op, a, b, ci, m⟩ = ⟨k, j, x⟩ := by
              simp only [Nat.zero_add]
              unfold flt
              rw [HXX.out, if_neg hx0]
            have HQ := hid (show shapeF k ⟨needs, l⟩ = ⟨k, j, x⟩ from HS.out.trans ((firstW_stop HE.out HX.out (fun h => by have h2 := e1.symm.trans h; injection h2 with _ _ h2; exact hx0 h2)).trans e1))
            clear e1
            go_wp2_with fail
            refine bodyPost_ret (v := .tuple #[.int .i64 j, .int .i64 x]) (by simp [results, Tryd.results34, go_sem]; try rfl) rfl ⟨by rw [HQ.out], HA.out.trans HF4.out⟩
        · have HQ := hid (show shapeF k ⟨needs, l⟩ = Flt.none by
            have h := HE.out
            rw [List.take_of_length_le (by rw [HN.out]; omega)] at h
            exact HS.out.trans h)
          go_wp2_with fail
          refine bodyPost_ret (v := .tuple #[.int .i64 0, .int .i64 0]) (by simp [results, Tryd.results34, go_sem]; try rfl) rfl ⟨by rw [HQ.out]; rfl, HFW.out⟩

end Go.Proofs.YthpkhcompkfcaaaDoor
