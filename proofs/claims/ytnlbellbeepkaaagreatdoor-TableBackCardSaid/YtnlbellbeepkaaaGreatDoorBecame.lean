/-
  Stage 7: may a row have become another one.
-/
import Derived.Test.YtnlbellbeepkaaaGreatDoorRRight
import Derived.Test.YtnlbellbeepkaaaGreatDoorShelf
import Derived.Test.YtnlbellbeepkaaaGreatDoorGrw
namespace Go.Proofs.YtnlbellbeepkaaaGreatDoor
open Go.RowKit
set_option linter.unusedVariables false
set_option linter.unusedSimpArgs false

/-- The program's answer. -/
def becB (r s : Tw) (more : Int) : Bool :=
  if 2 ≤ r.kind then (decide ({ s with par := r.par } = r) && decide (more = 0))
  else if s.in_ ≠ r.in_ ∨ s.fn ≠ r.fn ∨ more < 0 then false
  else (decide (r.kind = 0) || (decide (s.kind ≠ 0) && decide (r.st ≤ s.st) && decide (r.cl.data.toList <+: s.cl.data.toList)))

theorem prefix_any (s p : ByteArray) (w : World) : Calls Tryz.prog 35 #[.string s, .string p] w fun e w' => e = .returned (.bool (decide (p.data.toList <+: s.data.toList))) ∧ w = w' :=
  (Tryz.strings_HasPrefix s p w).mono fun e w' ⟨he, hw⟩ => ⟨by
    rw [he]
    unfold Lib.hasPrefix
    congr 2
    rw [Bool.eq_iff_iff, List.isPrefixOf_iff_prefix, decide_eq_true_eq], hw.symm⟩

theorem becB_came {r s : Tw} {more : Int} (h : 2 ≤ r.kind) : becB r s more = (({ s with par := r.par } : Tw).same r && (more == 0)) := by
  unfold becB
  rw [if_pos h]
  congr 1
  rw [Bool.eq_iff_iff, Tw.same_iff, decide_eq_true_eq]
theorem becB_no {r s : Tw} {more : Int} (h : ¬ 2 ≤ r.kind) (h2 : s.in_ ≠ r.in_ ∨ s.fn ≠ r.fn ∨ more < 0) : becB r s more = false := by
  unfold becB
  rw [if_neg h, if_pos h2]
theorem becB_on {r s : Tw} {more : Int} (h : ¬ 2 ≤ r.kind) (h2 : ¬ (s.in_ ≠ r.in_ ∨ s.fn ≠ r.fn ∨ more < 0)) : becB r s more = (decide (r.kind = 0) || (decide (s.kind ≠ 0) && decide (r.st ≤ s.st) && decide (r.cl.data.toList <+: s.cl.data.toList))) := by
  unfold becB
  rw [if_neg h, if_neg h2]

set_option maxRecDepth 100000 in
set_option maxHeartbeats 8000000 in
theorem became_any (r s : Tw) (more : Int) (w : World) : Calls Tryz.prog 19 #[.agg (rowC r), .agg (rowC s), .int .i64 more] w fun e w' => e = .returned (.bool (becB r s more)) ∧ Fr (fun _ => False) w w' := by
  have HCR := hid (came_any r)
  obtain ⟨x, hx⟩ : ∃ x, becB r s more = x := ⟨_, rfl⟩
  have HX := hid hx
  rw [hx]
  have HPF := hid (fun W => prefix_any s.cl r.cl W)
  have HEQ := hid (fun W => eqlTw { s with par := r.par } r W)
  obtain ⟨bc, hbc⟩ : ∃ b, cameB r = b := ⟨_, rfl⟩
  rw [hbc] at HCR
  have HBC := hid hbc
  clear hx hbc
  obtain ⟨p1, i1, f1, k1, v1, s1, c1⟩ := r
  obtain ⟨p2, i2, f2, k2, v2, s2, c2⟩ := s
  unfold rowC
  simp only at HX HCR HPF HEQ HBC ⊢
  obtain ⟨w1, hw1⟩ : ∃ w1, w1 = (w.alloc (.cells #[.int .i64 p1, .int .i64 i1, .int .i64 f1, .int .i64 k1, .int .i64 v1, .int .i64 s1, .string c1] 34)).alloc (.cells #[.int .i64 p1, .int .i64 i2, .int .i64 f2, .int .i64 k2, .int .i64 v2, .int .i64 s2, .string c2] 34) := ⟨_, rfl⟩
  have HF1 := hid (show Fr (fun _ => False) w w1 by rw [hw1]; exact (Fr.alloc _ _ _).trans (Fr.alloc _ _ _))
  have HB1 := hid (show Blk w1 w.heap.size #[.int .i64 p1, .int .i64 i1, .int .i64 f1, .int .i64 k1, .int .i64 v1, .int .i64 s1, .string c1] by rw [hw1]; exact (Blk.new _ _ _).alloc _)
  have HB2 := hid (show Blk w1 (w.heap.size + 1) #[.int .i64 p1, .int .i64 i2, .int .i64 f2, .int .i64 k2, .int .i64 v2, .int .i64 s2, .string c2] by rw [hw1]; exact (Blk.new _ _ _).at (by simp))
  have HCL := hid (show ∀ W, Fr (fun _ => False) w1 W → (W.cell? ⟨w.heap.size, 0, none⟩ = some (.int .i64 p1) ∧ W.cell? ⟨w.heap.size, 1, none⟩ = some (.int .i64 i1) ∧ W.cell? ⟨w.heap.size, 2, none⟩ = some (.int .i64 f1) ∧ W.cell? ⟨w.heap.size, 3, none⟩ = some (.int .i64 k1) ∧ W.cell? ⟨w.heap.size, 4, none⟩ = some (.int .i64 v1) ∧ W.cell? ⟨w.heap.size, 5, none⟩ = some (.int .i64 s1) ∧ W.cell? ⟨w.heap.size, 6, none⟩ = some (.string c1)) ∧
    (W.cell? ⟨w.heap.size + 1, 0, none⟩ = some (.int .i64 p1) ∧ W.cell? ⟨w.heap.size + 1, 1, none⟩ = some (.int .i64 i2) ∧ W.cell? ⟨w.heap.size + 1, 2, none⟩ = some (.int .i64 f2) ∧ W.cell? ⟨w.heap.size + 1, 3, none⟩ = some (.int .i64 k2) ∧ W.cell? ⟨w.heap.size + 1, 4, none⟩ = some (.int .i64 v2) ∧ W.cell? ⟨w.heap.size + 1, 5, none⟩ = some (.int .i64 s2) ∧ W.cell? ⟨w.heap.size + 1, 6, none⟩ = some (.string c2)) ∧ w.heap.size < W.heap.size ∧ w.heap.size + 1 < W.heap.size from fun W hW => by
    have a := HB1.out.keep hW (fun h => h)
    have b := HB2.out.keep hW (fun h => h)
    exact ⟨⟨a.cell rfl, a.cell rfl, a.cell rfl, a.cell rfl, a.cell rfl, a.cell rfl, a.cell rfl⟩, ⟨b.cell rfl, b.cell rfl, b.cell rfl, b.cell rfl, b.cell rfl, b.cell rfl, b.cell rfl⟩, a.lt, b.lt⟩)
  clear HB1 HB2
  go_enter Tryz.func19, Tryz.ntmps19
  go_upto_region 2 with fail
  rw [← hw1]
  clear hw1
  obtain ⟨⟨a0, a1, a2, a3, a4, a5, a6⟩, ⟨b0, b1, b2, b3, b4, b5, b6⟩, l1, l2⟩ := HCL.out _ (Fr.refl _ _)
  go_wp2_with fail
  refine (HCR.out _).mono ?_
  rintro e w2 ⟨rfl, hF2⟩
  clear a0 a1 a2 a3 a4 a5 a6 b0 b1 b2 b3 b4 b5 b6 l1 l2
  obtain ⟨⟨a0, a1, a2, a3, a4, a5, a6⟩, ⟨b0, b1, b2, b3, b4, b5, b6⟩, l1, l2⟩ := HCL.out _ hF2
  have HF2 := hid (HF1.out.trans hF2)
  clear HCL hF2
  cases bc with
  | true =>
    have hk : 2 ≤ k1 := of_decide_eq_true HBC.out
    have hxx := HX.out
    rw [becB_came hk] at hxx
    obtain ⟨y, hy⟩ : ∃ y, Tw.same ⟨p1, i2, f2, k2, v2, s2, c2⟩ ⟨p1, i1, f1, k1, v1, s1, c1⟩ = y := ⟨_, rfl⟩
    have hq : ∀ W, (binOp .eql 34 (.agg #[.int .i64 p1, .int .i64 i2, .int .i64 f2, .int .i64 k2, .int .i64 v2, .int .i64 s2, .string c2]) (.agg #[.int .i64 p1, .int .i64 i1, .int .i64 f1, .int .i64 k1, .int .i64 v1, .int .i64 s1, .string c1])).run Tryz.prog W = .ok (.bool y) W := fun W => by rw [← hy]; exact HEQ.out W
    rw [show ({ par := p1, in_ := i2, fn := f2, kind := k2, v := v2, st := s2, cl := c2 } : Tw).same ⟨p1, i1, f1, k1, v1, s1, c1⟩ = y from hy] at hxx
    have HXX := hid hxx
    clear hxx hy HEQ hk
    cases y with
    | false =>
      go_wp2_with fail
      go_ret
      exact ⟨ret_bool (by rw [← HXX.out]; rfl), HF2.out⟩
    | true =>
      go_wp2_with fail
      go_ret
      exact ⟨ret_bool (by rw [← HXX.out]; rfl), HF2.out⟩
  | false =>
    have hk : ¬ 2 ≤ k1 := of_decide_eq_false HBC.out
    have HK := hid hk
    clear hk HEQ
    by_cases e1 : i2 = i1
    · have t1 : (i2 != i1) = false := by simp [e1]
      have E1 := hid e1
      clear e1
      by_cases e2 : f2 = f1
      · have t2 : (f2 != f1) = false := by simp [e2]
        have E2 := hid e2
        clear e2
        by_cases e3 : more < 0
        · have HN := hid (becB_no (r := ⟨p1, i1, f1, k1, v1, s1, c1⟩) (s := ⟨p2, i2, f2, k2, v2, s2, c2⟩) (more := more) HK.out (.inr (.inr e3)))
          go_wp2_with fail
          go_ret
          exact ⟨ret_bool (by rw [← HX.out, HN.out]), HF2.out⟩
        · have HN := hid (becB_on (r := ⟨p1, i1, f1, k1, v1, s1, c1⟩) (s := ⟨p2, i2, f2, k2, v2, s2, c2⟩) (more := more) HK.out (by
            rintro (h | h | h)
            · exact h E1.out
            · exact h E2.out
            · exact e3 h))
          simp only at HN
          obtain ⟨y1, hy1⟩ : ∃ y, decide (k1 = 0) = y := ⟨_, rfl⟩
          obtain ⟨y2, hy2⟩ : ∃ y, decide (k2 ≠ 0) = y := ⟨_, rfl⟩
          obtain ⟨y3, hy3⟩ : ∃ y, decide (s1 ≤ s2) = y := ⟨_, rfl⟩
          obtain ⟨y4, hy4⟩ : ∃ y, decide (c1.data.toList <+: c2.data.toList) = y := ⟨_, rfl⟩
          have t3 : (k1 == 0) = y1 := by rw [← hy1]; rfl
          have t4 : (k2 != 0) = y2 := by rw [← hy2]; simp [bne, BEq.beq]
          rw [hy4] at HPF
          have HN2 := hid (show x = (y1 || (y2 && y3 && y4)) by rw [← HX.out, HN.out, hy1, hy2, hy3, hy4])
          clear hy1 hy2 hy4 HN
          cases y2 with
          | false =>
            cases y1 with
            | false =>
              go_wp2_with fail
              go_ret
              exact ⟨ret_bool (by rw [HN2.out]; rfl), HF2.out⟩
            | true =>
              go_wp2_with fail
              go_ret
              exact ⟨ret_bool (by rw [HN2.out]; rfl), HF2.out⟩
          | true =>
            cases y3 with
            | false =>
              have h3 : ¬ s1 ≤ s2 := of_decide_eq_false hy3
              cases y1 with
              | false =>
                go_wp2_with fail
                go_ret
                exact ⟨ret_bool (by rw [HN2.out]; rfl), HF2.out⟩
              | true =>
                go_wp2_with fail
                go_ret
                exact ⟨ret_bool (by rw [HN2.out]; rfl), HF2.out⟩
            | true =>
              have h3 : s1 ≤ s2 := of_decide_eq_true hy3
              go_wp2_with fail
              refine (HPF.out _).mono ?_
              rintro e w3 ⟨rfl, rfl⟩
              cases y1 with
              | false =>
                go_wp2_with fail
                go_ret
                exact ⟨ret_bool (by rw [HN2.out]; cases y4 <;> rfl), HF2.out⟩
              | true =>
                go_wp2_with fail
                go_ret
                exact ⟨ret_bool (by rw [HN2.out]; cases y4 <;> rfl), HF2.out⟩
      · have t2 : (f2 != f1) = true := by simpa using e2
        have HN := hid (becB_no (r := ⟨p1, i1, f1, k1, v1, s1, c1⟩) (s := ⟨p2, i2, f2, k2, v2, s2, c2⟩) (more := more) HK.out (.inr (.inl e2)))
        go_wp2_with fail
        go_ret
        exact ⟨ret_bool (by rw [← HX.out, HN.out]), HF2.out⟩
    · have t1 : (i2 != i1) = true := by simpa using e1
      have HN := hid (becB_no (r := ⟨p1, i1, f1, k1, v1, s1, c1⟩) (s := ⟨p2, i2, f2, k2, v2, s2, c2⟩) (more := more) HK.out (.inl e1))
      go_wp2_with fail
      go_ret
      exact ⟨ret_bool (by rw [← HX.out, HN.out]), HF2.out⟩

end Go.Proofs.YtnlbellbeepkaaaGreatDoor
