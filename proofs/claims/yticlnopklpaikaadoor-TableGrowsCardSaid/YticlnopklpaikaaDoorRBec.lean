/-
  Stage 7: may a row have become another one: the document's.
-/
import Derived.Test.YticlnopklpaikaaDoorBecame
import Derived.Deep.QuietTactic
import Derived.BigQuiet
namespace Go.Proofs.YticlnopklpaikaaDoor
open Go.RowKit
set_option linter.unusedVariables false
set_option linter.unusedSimpArgs false

/-- The document's answer. -/
def rbecB (r s : Tw) (first : Bool) : Bool :=
  if (first = false ∧ r.in_ ≠ s.in_) ∨ r.fn ≠ s.fn then false
  else if 2 ≤ r.kind then (decide (r.kind = s.kind) && (decide (r.v = s.v) && (decide (r.st = s.st) && decide (r.cl.toList = s.cl.toList))))
  else if r.kind = 1 then (decide (s.kind ≠ 0) && (decide (r.st ≤ s.st) && (decide (r.cl.size ≤ s.cl.size) && decide ((s.cl.extract 0 r.cl.size).toList = r.cl.toList))))
  else true

theorem rbec_no {r s : Tw} {first : Bool} (h : (first = false ∧ r.in_ ≠ s.in_) ∨ r.fn ≠ s.fn) : rbecB r s first = false := by unfold rbecB; rw [if_pos h]
theorem rbec_came {r s : Tw} {first : Bool} (h : ¬ ((first = false ∧ r.in_ ≠ s.in_) ∨ r.fn ≠ s.fn)) (h2 : 2 ≤ r.kind) : rbecB r s first = (decide (r.kind = s.kind) && (decide (r.v = s.v) && (decide (r.st = s.st) && decide (r.cl.toList = s.cl.toList)))) := by unfold rbecB; rw [if_neg h, if_pos h2]
theorem rbec_run {r s : Tw} {first : Bool} (h : ¬ ((first = false ∧ r.in_ ≠ s.in_) ∨ r.fn ≠ s.fn)) (h2 : ¬ 2 ≤ r.kind) (h3 : r.kind = 1) : rbecB r s first = (decide (s.kind ≠ 0) && (decide (r.st ≤ s.st) && (decide (r.cl.size ≤ s.cl.size) && decide ((s.cl.extract 0 r.cl.size).toList = r.cl.toList)))) := by unfold rbecB; rw [if_neg h, if_neg h2, if_pos h3]
theorem rbec_pen {r s : Tw} {first : Bool} (h : ¬ ((first = false ∧ r.in_ ≠ s.in_) ∨ r.fn ≠ s.fn)) (h2 : ¬ 2 ≤ r.kind) (h3 : ¬ r.kind = 1) : rbecB r s first = true := by unfold rbecB; rw [if_neg h, if_neg h2, if_neg h3]

set_option maxRecDepth 100000 in
set_option maxHeartbeats 8000000 in
theorem rbecame_any (r s : Tw) (first : Bool) (w : World) (hc1 : r.cl.size ≤ 4000000) (hc2 : s.cl.size ≤ 4000000) : Calls Tryd.prog 41 #[.agg (rowC r), .agg (rowC s), .bool first] w fun e w' => e = .returned (.bool (rbecB r s first)) ∧ Fr (fun _ => False) w w' := by
  have HCR := hid (rcame_any r)
  obtain ⟨x, hx⟩ : ∃ x, rbecB r s first = x := ⟨_, rfl⟩
  have HX := hid hx
  rw [hx]
  obtain ⟨bc, hbc⟩ : ∃ b, cameB r = b := ⟨_, rfl⟩
  rw [hbc] at HCR
  have HBC := hid hbc
  clear hx hbc
  obtain ⟨p1, i1, f1, k1, v1, s1, c1⟩ := r
  obtain ⟨p2, i2, f2, k2, v2, s2, c2⟩ := s
  unfold rowC
  simp only at HX HCR HBC hc1 hc2 ⊢
  obtain ⟨w1, hw1⟩ : ∃ w1, w1 = (w.alloc (.cells #[.int .i64 p1, .int .i64 i1, .int .i64 f1, .int .i64 k1, .int .i64 v1, .int .i64 s1, .string c1] 40)).alloc (.cells #[.int .i64 p2, .int .i64 i2, .int .i64 f2, .int .i64 k2, .int .i64 v2, .int .i64 s2, .string c2] 40) := ⟨_, rfl⟩
  have HF1 := hid (show Fr (fun _ => False) w w1 by rw [hw1]; exact (Fr.alloc _ _ _).trans (Fr.alloc _ _ _))
  have HB1 := hid (show Blk w1 w.heap.size #[.int .i64 p1, .int .i64 i1, .int .i64 f1, .int .i64 k1, .int .i64 v1, .int .i64 s1, .string c1] by rw [hw1]; exact (Blk.new _ _ _).alloc _)
  have HB2 := hid (show Blk w1 (w.heap.size + 1) #[.int .i64 p2, .int .i64 i2, .int .i64 f2, .int .i64 k2, .int .i64 v2, .int .i64 s2, .string c2] by rw [hw1]; exact (Blk.new _ _ _).at (by simp))
  have HCL := hid (show ∀ W, Fr (fun _ => False) w1 W → (W.cell? ⟨w.heap.size, 0, none⟩ = some (.int .i64 p1) ∧ W.cell? ⟨w.heap.size, 1, none⟩ = some (.int .i64 i1) ∧ W.cell? ⟨w.heap.size, 2, none⟩ = some (.int .i64 f1) ∧ W.cell? ⟨w.heap.size, 3, none⟩ = some (.int .i64 k1) ∧ W.cell? ⟨w.heap.size, 4, none⟩ = some (.int .i64 v1) ∧ W.cell? ⟨w.heap.size, 5, none⟩ = some (.int .i64 s1) ∧ W.cell? ⟨w.heap.size, 6, none⟩ = some (.string c1)) ∧
    (W.cell? ⟨w.heap.size + 1, 1, none⟩ = some (.int .i64 i2) ∧ W.cell? ⟨w.heap.size + 1, 2, none⟩ = some (.int .i64 f2) ∧ W.cell? ⟨w.heap.size + 1, 3, none⟩ = some (.int .i64 k2) ∧ W.cell? ⟨w.heap.size + 1, 4, none⟩ = some (.int .i64 v2) ∧ W.cell? ⟨w.heap.size + 1, 5, none⟩ = some (.int .i64 s2) ∧ W.cell? ⟨w.heap.size + 1, 6, none⟩ = some (.string c2)) ∧ w.heap.size < W.heap.size ∧ w.heap.size + 1 < W.heap.size from fun W hW => by
    have a := HB1.out.keep hW (fun h => h)
    have b := HB2.out.keep hW (fun h => h)
    exact ⟨⟨a.cell rfl, a.cell rfl, a.cell rfl, a.cell rfl, a.cell rfl, a.cell rfl, a.cell rfl⟩, ⟨b.cell rfl, b.cell rfl, b.cell rfl, b.cell rfl, b.cell rfl, b.cell rfl⟩, a.lt, b.lt⟩)
  clear HB1 HB2
  go_enter Tryd.func41, Tryd.ntmps41
  go_upto_region 1 with fail
  rw [← hw1]
  clear hw1
  obtain ⟨⟨a0, a1, a2, a3, a4, a5, a6⟩, ⟨b1, b2, b3, b4, b5, b6⟩, l1, l2⟩ := HCL.out _ (Fr.refl _ _)
  obtain ⟨z1, hz1⟩ : ∃ z, decide (i1 = i2) = z := ⟨_, rfl⟩
  obtain ⟨z2, hz2⟩ : ∃ z, decide (f1 = f2) = z := ⟨_, rfl⟩
  have t1 : (i1 != i2) = !z1 := by rw [← hz1]; simp [bne, BEq.beq]
  have t2 : (f1 != f2) = !z2 := by rw [← hz2]; simp [bne, BEq.beq]
  have HZ1 := hid hz1
  have HZ2 := hid hz2
  clear hz1 hz2
  by_cases hno : (first = false ∧ z1 = false) ∨ z2 = false
  · have HN := hid (rbec_no (r := ⟨p1, i1, f1, k1, v1, s1, c1⟩) (s := ⟨p2, i2, f2, k2, v2, s2, c2⟩) (first := first) (by
      rcases hno with ⟨h1, h2⟩ | h2
      · exact .inl ⟨h1, of_decide_eq_false (HZ1.out.trans h2)⟩
      · exact .inr (of_decide_eq_false (HZ2.out.trans h2))))
    have hw : (first = false ∧ z1 = false) ∨ ((first = true ∨ z1 = true) ∧ z2 = false) := by
      cases first <;> cases z1 <;> cases z2 <;> simp_all
    clear hno
    rcases hw with ⟨h1, h2⟩ | ⟨h1, h2⟩
    · subst h1 h2
      go_wp2_with fail
      go_ret
      exact ⟨ret_bool (by rw [← HX.out, HN.out]), HF1.out⟩
    · subst h2
      rcases h1 with h1 | h1
      · subst h1
        go_wp2_with fail
        go_ret
        exact ⟨ret_bool (by rw [← HX.out, HN.out]), HF1.out⟩
      · subst h1
        cases first with
        | false =>
          go_wp2_with fail
          go_ret
          exact ⟨ret_bool (by rw [← HX.out, HN.out]), HF1.out⟩
        | true =>
          go_wp2_with fail
          go_ret
          exact ⟨ret_bool (by rw [← HX.out, HN.out]), HF1.out⟩
  · have HNO := hid (show ¬ ((first = false ∧ i1 ≠ i2) ∨ f1 ≠ f2) from fun h => by
      apply hno
      rcases h with ⟨h1, h2⟩ | h2
      · exact .inl ⟨h1, by rw [← HZ1.out]; exact decide_eq_false h2⟩
      · exact .inr (by rw [← HZ2.out]; exact decide_eq_false h2))
    have hw : z2 = true ∧ (first = true ∨ (first = false ∧ z1 = true)) := by
      cases first <;> cases z1 <;> cases z2 <;> simp_all
    clear hno
    obtain ⟨h2, h1⟩ := hw
    subst h2
    go_cut [22] from 7 to 22 (fun u wx => u = .bool false ∧ wx = w1)
    case first =>
      rcases h1 with h1 | ⟨h1, h3⟩
      · subst h1
        go_wp2_with fail
        go_meet
        case rel => exact ⟨rfl, rfl⟩
      · subst h1 h3
        go_wp2_with fail
        go_meet
        case rel => exact ⟨rfl, rfl⟩
    case rest =>
      obtain ⟨rfl, hwc⟩ := hcut
      subst hwc
      clear h1 t1 t2
      go_wp2_with fail
      refine (HCR.out _).mono ?_
      rintro e w2 ⟨rfl, hF2⟩
      clear a0 a1 a2 a3 a4 a5 a6 b1 b2 b3 b4 b5 b6 l1 l2
      obtain ⟨⟨a0, a1, a2, a3, a4, a5, a6⟩, ⟨b1, b2, b3, b4, b5, b6⟩, l1, l2⟩ := HCL.out _ hF2
      have HF2 := hid (HF1.out.trans hF2)
      clear HCL hF2
      cases bc with
      | true =>
        have HN := hid (rbec_came (r := ⟨p1, i1, f1, k1, v1, s1, c1⟩) (s := ⟨p2, i2, f2, k2, v2, s2, c2⟩) (first := first) HNO.out (of_decide_eq_true HBC.out))
        obtain ⟨y1, hy1⟩ : ∃ y, decide (k1 = k2) = y := ⟨_, rfl⟩
        obtain ⟨y2, hy2⟩ : ∃ y, decide (v1 = v2) = y := ⟨_, rfl⟩
        obtain ⟨y3, hy3⟩ : ∃ y, decide (s1 = s2) = y := ⟨_, rfl⟩
        obtain ⟨y4, hy4⟩ : ∃ y, decide (c1.toList = c2.toList) = y := ⟨_, rfl⟩
        have t1 : (k1 == k2) = y1 := by rw [← hy1]; rfl
        have t2 : (v1 == v2) = y2 := by rw [← hy2]; rfl
        have t3 : (s1 == s2) = y3 := by rw [← hy3]; rfl
        have t4 : (c1.toList == c2.toList) = y4 := by rw [← hy4, Bool.eq_iff_iff, beq_iff_eq, decide_eq_true_eq]
        have HXX := hid (show x = (y1 && (y2 && (y3 && y4))) by rw [← HX.out, HN.out, ← hy1, ← hy2, ← hy3, ← hy4])
        clear hy1 hy2 hy3 hy4 HN
        cases y1 with
        | false =>
          go_wp2_with fail
          go_ret
          exact ⟨ret_bool (by rw [HXX.out]; rfl), HF2.out⟩
        | true =>
          cases y2 with
          | false =>
            go_wp2_with fail
            go_ret
            exact ⟨ret_bool (by rw [HXX.out]; rfl), HF2.out⟩
          | true =>
            cases y3 with
            | false =>
              go_wp2_with fail
              go_ret
              exact ⟨ret_bool (by rw [HXX.out]; rfl), HF2.out⟩
            | true =>
              cases y4 with
              | false =>
                go_wp2_with fail
                go_ret
                exact ⟨ret_bool (by rw [HXX.out]; rfl), HF2.out⟩
              | true =>
                go_wp2_with fail
                go_ret
                exact ⟨ret_bool (by rw [HXX.out]; rfl), HF2.out⟩
      | false =>
        have hk : ¬ 2 ≤ k1 := of_decide_eq_false HBC.out
        by_cases hk1 : k1 = 1
        · have t0 : (k1 == 1) = true := beq_iff_eq.2 hk1
          have HN := hid (rbec_run (r := ⟨p1, i1, f1, k1, v1, s1, c1⟩) (s := ⟨p2, i2, f2, k2, v2, s2, c2⟩) (first := first) HNO.out hk hk1)
          clear hk hk1
          obtain ⟨y1, hy1⟩ : ∃ y, decide (k2 ≠ 0) = y := ⟨_, rfl⟩
          have t1 : (k2 != 0) = y1 := by rw [← hy1]; simp [bne, BEq.beq]
          obtain ⟨y4, hy4⟩ : ∃ y, decide ((c2.extract 0 c1.size).toList = c1.toList) = y := ⟨_, rfl⟩
          have t4 : ((c2.extract 0 c1.size).toList == c1.toList) = y4 := by rw [← hy4, Bool.eq_iff_iff, beq_iff_eq, decide_eq_true_eq]
          have HXX := hid (show x = (y1 && (decide (s1 ≤ s2) && (decide (c1.size ≤ c2.size) && y4))) by rw [← HX.out, HN.out, ← hy1, ← hy4])
          clear hy1 hy4 HN
          go_upto_region 6 with fail
          cases y1 with
          | false =>
            go_quiet (fail)
            go_wp2_with fail
            go_ret
            exact ⟨ret_bool (by rw [HXX.out]; rfl), HF2.out.trans (by first | exact Fr.drew _ _ | exact Fr.drewN _ _ _)⟩
          | true =>
            by_cases h2 : s1 ≤ s2
            · by_cases h3 : c1.size ≤ c2.size
              · have h4 : (0 : Int) ≤ (c1.size : Int) ∧ (c1.size : Int) ≤ (c2.size : Int) := by omega
                have HD := hid (And.intro (decide_eq_true h2) (decide_eq_true h3))
                cases y4 with
                | false =>
                  go_quiet (fail)
                  go_wp2_with fail
                  go_ret
                  exact ⟨ret_bool (by rw [HXX.out, HD.out.1, HD.out.2]; rfl), HF2.out.trans (by first | exact Fr.drew _ _ | exact Fr.drewN _ _ _)⟩
                | true =>
                  go_quiet (fail)
                  go_wp2_with fail
                  go_ret
                  exact ⟨ret_bool (by rw [HXX.out, HD.out.1, HD.out.2]; rfl), HF2.out.trans (by first | exact Fr.drew _ _ | exact Fr.drewN _ _ _)⟩
              · have HD := hid (And.intro (decide_eq_true h2) (decide_eq_false h3))
                go_quiet (fail)
                go_wp2_with fail
                go_ret
                exact ⟨ret_bool (by rw [HXX.out, HD.out.1, HD.out.2]; rfl), HF2.out.trans (by first | exact Fr.drew _ _ | exact Fr.drewN _ _ _)⟩
            · have HD := hid (decide_eq_false h2)
              go_quiet (fail)
              go_wp2_with fail
              go_ret
              exact ⟨ret_bool (by rw [HXX.out, HD.out]; rfl), HF2.out.trans (by first | exact Fr.drew _ _ | exact Fr.drewN _ _ _)⟩
        · have t0 : (k1 == 1) = false := beq_eq_false_iff_ne.2 hk1
          have HN := hid (rbec_pen (r := ⟨p1, i1, f1, k1, v1, s1, c1⟩) (s := ⟨p2, i2, f2, k2, v2, s2, c2⟩) (first := first) HNO.out hk hk1)
          clear hk hk1
          go_wp2_with fail
          go_ret
          exact ⟨ret_bool (by rw [← HX.out, HN.out]), HF2.out⟩

/-- Both answers agree on rows of tables. -/
theorem rbec_iff {l : List Tw} (hl : chk l = 0) {i : Nat} {r s : Tw} (hr : l[i]? = some r) (h0 : i = 0 → s.in_ = 0) : rbecB r s (i == 0) = true ↔ becP r s := by
  have ha := kind_ok hl hr
  have hin : ((i == 0) = false ∧ r.in_ ≠ s.in_) ↔ r.in_ ≠ s.in_ := by
    constructor
    · exact fun h => h.2
    · intro h
      refine ⟨?_, h⟩
      rw [beq_eq_false_iff_ne]
      intro h1
      exact h ((ha.2.2.2.2.2 h1).trans (h0 h1).symm)
  have hpre : (r.cl.size ≤ s.cl.size ∧ (s.cl.extract 0 r.cl.size).toList = r.cl.toList) ↔ r.cl.data.toList <+: s.cl.data.toList := by
    rw [ByteArray.toList_eq, ByteArray.toList_eq, List.prefix_iff_eq_take]
    have e : (s.cl.extract 0 r.cl.size).data.toList = s.cl.data.toList.take r.cl.size := by simp
    have e2 : r.cl.data.toList.length = r.cl.size := by simp
    rw [e, e2]
    constructor
    · exact fun h => h.2.symm
    · intro h
      refine ⟨?_, h.symm⟩
      have h2 := congrArg List.length h
      rw [List.length_take, e2] at h2
      have e3 : s.cl.data.toList.length = s.cl.size := by simp
      omega
  by_cases hno : ((i == 0) = false ∧ r.in_ ≠ s.in_) ∨ r.fn ≠ s.fn
  · rw [rbec_no hno]
    rw [hin] at hno
    constructor
    · intro h; cases h
    · rintro ⟨h1, h2, _⟩
      rcases hno with h | h
      · exact absurd h1 h
      · exact absurd h2 h
  · have h1 : r.in_ = s.in_ := by
      by_cases h : r.in_ = s.in_
      · exact h
      · exact absurd (.inl (hin.2 h)) hno
    have h2 : r.fn = s.fn := by
      by_cases h : r.fn = s.fn
      · exact h
      · exact absurd (.inr h) hno
    by_cases hk : 2 ≤ r.kind
    · rw [rbec_came hno hk]
      simp only [Bool.and_eq_true, decide_eq_true_eq]
      constructor
      · rintro ⟨a, b, c, d⟩
        exact ⟨h1, h2, fun _ => ⟨a, b, c, bytes_inj d⟩, fun h => by omega⟩
      · rintro ⟨_, _, h3, _⟩
        obtain ⟨a, b, c, d⟩ := h3 hk
        exact ⟨a, b, c, by rw [d]⟩
    · by_cases hk1 : r.kind = 1
      · rw [rbec_run hno hk hk1]
        simp only [Bool.and_eq_true, decide_eq_true_eq]
        constructor
        · rintro ⟨a, b, c⟩
          exact ⟨h1, h2, fun h => absurd h hk, fun _ => ⟨a, b, hpre.1 c⟩⟩
        · rintro ⟨_, _, _, h4⟩
          obtain ⟨a, b, c⟩ := h4 hk1
          exact ⟨a, b, hpre.2 c⟩
      · rw [rbec_pen hno hk hk1]
        exact ⟨fun _ => ⟨h1, h2, fun h => absurd h hk, fun h => absurd h hk1⟩, fun _ => rfl⟩

end Go.Proofs.YticlnopklpaikaaDoor
