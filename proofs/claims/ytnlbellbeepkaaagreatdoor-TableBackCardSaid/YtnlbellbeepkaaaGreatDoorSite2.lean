/-
  Stage 7: what is wrong with a row: the program's questions, value, begun, kin.
-/
import Derived.Test.YtnlbellbeepkaaaGreatDoorSite
namespace Go.Proofs.YtnlbellbeepkaaaGreatDoor
open Go.RowKit
set_option linter.unusedVariables false
set_option linter.unusedSimpArgs false

set_option maxRecDepth 100000 in
set_option maxHeartbeats 2000000 in
theorem value_any (A : Option Addr) (n c : Nat) (r : Tw) (w : World) :
    Calls Tryz.prog 31 #[.agg (sitC A n c r)] w fun e w' => e = .returned (.int .i64 (tol (!valB r) 19)) ∧ Fr (fun _ => False) w w' := by
  obtain ⟨x, hx⟩ : ∃ x, valB r = x := ⟨_, rfl⟩
  have hx2 : ((r.v != 0) = false ∧ x = true) ∨ ((r.v != 0) = true ∧ (r.kind != 2) = false ∧ x = true) ∨ ((r.v != 0) = true ∧ (r.kind != 2) = true ∧ (r.kind != 3) = false ∧ x = true) ∨ ((r.v != 0) = true ∧ (r.kind != 2) = true ∧ (r.kind != 3) = true ∧ x = false) := by
    unfold valB at hx
    subst hx
    simp only [decide_eq_true_eq, decide_eq_false_iff_not, bne_iff_ne, beq_iff_eq, bne_eq_false_iff_eq, beq_eq_false_iff_ne]
    omega
  rw [hx]
  clear hx
  have hF0 := Fr.alloc (fun _ => False) w (.cells (sitC A n c r) 68)
  have hB0 := Blk.new w (sitC A n c r) 68
  obtain ⟨p, i, f, k, v, s, cl⟩ := r
  unfold sitC at *
  simp only at hx2 hF0 hB0 ⊢
  obtain ⟨w1, hw1⟩ : ∃ w1, w1 = w.alloc (.cells #[.slice A n c, .int .i64 p, .int .i64 i, .int .i64 f, .int .i64 k, .int .i64 v, .int .i64 s, .string cl] 68) := ⟨_, rfl⟩
  rw [← hw1] at hF0 hB0
  have HF0 := hid hF0
  have b0 := hB0.cell (i := 0) rfl
  have b1 := hB0.cell (i := 1) rfl
  have b2 := hB0.cell (i := 2) rfl
  have b3 := hB0.cell (i := 3) rfl
  have b4 := hB0.cell (i := 4) rfl
  have b5 := hB0.cell (i := 5) rfl
  have b6 := hB0.cell (i := 6) rfl
  have b7 := hB0.cell (i := 7) rfl
  simp only [List.getElem_toArray, List.getElem_cons_zero, List.getElem_cons_succ] at b0 b1 b2 b3 b4 b5 b6 b7
  have l0 := hB0.lt
  have HBB := hid hB0
  clear hB0 hF0
  rcases hx2 with ⟨h1, hx⟩ | ⟨h1, h2, hx⟩ | ⟨h1, h2, h3, hx⟩ | ⟨h1, h2, h3, hx⟩
  all_goals
    subst hx
    go_enter Tryz.func31, Tryz.ntmps31
    go_upto_region 1 with fail
    rw [← hw1]
    clear hw1
    go_wp2_with fail
    refine (told_any _ _ _).mono ?_
    rintro e w' ⟨rfl, rfl⟩
    go_wp2_with fail
    go_ret
    exact ⟨ret_int (by first | rfl | (simp [*]; done)), HF0.out.trans (Fr.alloc _ _ _)⟩

theorem empty_of {c : ByteArray} (h : c.size = 0) : c = ⟨#[]⟩ := by
  apply ByteArray.ext
  exact Array.eq_empty_of_size_eq_zero h

set_option maxRecDepth 100000 in
set_option maxHeartbeats 2000000 in
theorem begun_any (A : Option Addr) (n c : Nat) (r : Tw) (w : World) :
    Calls Tryz.prog 32 #[.agg (sitC A n c r)] w fun e w' => e = .returned (.int .i64 (tol (!begB r) 19)) ∧ Fr (fun _ => False) w w' := by
  obtain ⟨x, hx⟩ : ∃ x, begB r = x := ⟨_, rfl⟩
  have hx2 : ((r.kind == 0) = false ∧ x = true) ∨ ((r.kind == 0) = true ∧ (r.st != 0) = true ∧ x = false) ∨ ((r.kind == 0) = true ∧ (r.st != 0) = false ∧ r.cl.size = 0 ∧ x = true) ∨ ((r.kind == 0) = true ∧ (r.st != 0) = false ∧ 0 < r.cl.size ∧ x = false) := by
    unfold begB at hx
    subst hx
    simp only [decide_eq_true_eq, decide_eq_false_iff_not, bne_iff_ne, beq_iff_eq, bne_eq_false_iff_eq, beq_eq_false_iff_ne]
    omega
  rw [hx]
  clear hx
  have hF0 := Fr.alloc (fun _ => False) w (.cells (sitC A n c r) 68)
  have hB0 := Blk.new w (sitC A n c r) 68
  obtain ⟨p, i, f, k, v, s, cl⟩ := r
  unfold sitC at *
  simp only at hx2 hF0 hB0 ⊢
  obtain ⟨w1, hw1⟩ : ∃ w1, w1 = w.alloc (.cells #[.slice A n c, .int .i64 p, .int .i64 i, .int .i64 f, .int .i64 k, .int .i64 v, .int .i64 s, .string cl] 68) := ⟨_, rfl⟩
  rw [← hw1] at hF0 hB0
  have HF0 := hid hF0
  have b0 := hB0.cell (i := 0) rfl
  have b1 := hB0.cell (i := 1) rfl
  have b2 := hB0.cell (i := 2) rfl
  have b3 := hB0.cell (i := 3) rfl
  have b4 := hB0.cell (i := 4) rfl
  have b5 := hB0.cell (i := 5) rfl
  have b6 := hB0.cell (i := 6) rfl
  have b7 := hB0.cell (i := 7) rfl
  simp only [List.getElem_toArray, List.getElem_cons_zero, List.getElem_cons_succ] at b0 b1 b2 b3 b4 b5 b6 b7
  have l0 := hB0.lt
  have HBB := hid hB0
  clear hB0 hF0
  rcases hx2 with ⟨h1, hx⟩ | ⟨h1, h2, hx⟩ | ⟨h1, h2, h3, hx⟩ | ⟨h1, h2, h3, hx⟩
  · subst hx
    go_enter Tryz.func32, Tryz.ntmps32
    go_upto_region 1 with fail
    rw [← hw1]
    clear hw1
    go_wp2_with fail
    refine (told_any _ _ _).mono ?_
    rintro e w' ⟨rfl, rfl⟩
    go_wp2_with fail
    go_ret
    exact ⟨ret_int (by first | rfl | (simp [*]; done)), HF0.out.trans (Fr.alloc _ _ _)⟩
  · subst hx
    go_enter Tryz.func32, Tryz.ntmps32
    go_upto_region 1 with fail
    rw [← hw1]
    clear hw1
    go_wp2_with fail
    refine (told_any _ _ _).mono ?_
    rintro e w' ⟨rfl, rfl⟩
    go_wp2_with fail
    go_ret
    exact ⟨ret_int (by first | rfl | (simp [*]; done)), HF0.out.trans (Fr.alloc _ _ _)⟩
  · subst hx
    obtain rfl := empty_of h3
    clear h3
    go_enter Tryz.func32, Tryz.ntmps32
    go_upto_region 1 with fail
    rw [← hw1]
    clear hw1
    go_wp2_with fail
    refine (told_any _ _ _).mono ?_
    rintro e w' ⟨rfl, rfl⟩
    go_wp2_with fail
    go_ret
    exact ⟨ret_int (by first | rfl | (simp [*]; done)), HF0.out.trans (Fr.alloc _ _ _)⟩
  · subst hx
    have e0 : cl.toList ≠ [] := fun hh => by
      rw [ByteArray.toList_eq] at hh
      have := congrArg List.length hh
      simp at this
      have h4 : cl.size = cl.data.size := rfl
      rw [h4, this] at h3
      simp at h3
    have e1 : cl.toList.isEmpty = false := by cases hh : cl.toList with | nil => exact absurd hh e0 | cons a b => rfl
    have e2 : (cl.toList == []) = false := by rw [beq_eq_false_iff_ne]; exact e0
    go_enter Tryz.func32, Tryz.ntmps32
    go_upto_region 1 with fail
    rw [← hw1]
    clear hw1
    go_wp2_with fail
    refine (told_any _ _ _).mono ?_
    rintro e w' ⟨rfl, rfl⟩
    go_wp2_with fail
    go_ret
    exact ⟨ret_int (by first | rfl | (simp [*]; done)), HF0.out.trans (Fr.alloc _ _ _)⟩

set_option maxRecDepth 100000 in
set_option maxHeartbeats 2000000 in
theorem kin_any (A : Option Addr) (n c : Nat) (a : List Tw) (r : Tw) (w : World) (hA : RdT w A a) (hl : a.length = n) (hn : n ≤ 4000000) (hp : 0 < n → 0 ≤ r.par ∧ r.par < n) :
    Calls Tryz.prog 33 #[.agg (sitC A n c r)] w fun e w' => e = .returned (.int .i64 (tol (!kinB a r) 19)) ∧ Fr (fun _ => False) w w' := by
  obtain ⟨x, hx⟩ : ∃ x, kinB a r = x := ⟨_, rfl⟩
  rcases Nat.eq_zero_or_pos n with h0 | h0
  · have hx2 : x = true := by
      rw [← hx]
      exact decide_eq_true (fun hh => by omega)
    rw [hx]
    clear hx hl hp
    subst h0 hx2
    have hF0 := Fr.alloc (fun _ => False) w (.cells (sitC A 0 c r) 68)
    have hB0 := Blk.new w (sitC A 0 c r) 68
    obtain ⟨p, i, f, k, v, s, cl⟩ := r
    unfold sitC at *
    simp only at hF0 hB0 ⊢
    obtain ⟨w1, hw1⟩ : ∃ w1, w1 = w.alloc (.cells #[.slice A 0 c, .int .i64 p, .int .i64 i, .int .i64 f, .int .i64 k, .int .i64 v, .int .i64 s, .string cl] 68) := ⟨_, rfl⟩
    rw [← hw1] at hF0 hB0
    have HF0 := hid hF0
    have b0 := hB0.cell (i := 0) rfl
    have b1 := hB0.cell (i := 1) rfl
    have b2 := hB0.cell (i := 2) rfl
    have b3 := hB0.cell (i := 3) rfl
    have b4 := hB0.cell (i := 4) rfl
    have b5 := hB0.cell (i := 5) rfl
    have b6 := hB0.cell (i := 6) rfl
    have b7 := hB0.cell (i := 7) rfl
    simp only [List.getElem_toArray, List.getElem_cons_zero, List.getElem_cons_succ] at b0 b1 b2 b3 b4 b5 b6 b7
    have l0 := hB0.lt
    have HBB := hid hB0
    clear hB0 hF0
    go_enter Tryz.func33, Tryz.ntmps33
    go_upto_region 1 with fail
    rw [← hw1]
    clear hw1
    go_wp2_with fail
    go_ret
    exact ⟨ret_int rfl, HF0.out⟩
  · obtain ⟨hp0, hp1⟩ := hp h0
    obtain ⟨z, hz⟩ : ∃ z : Nat, r.par = z := ⟨r.par.toNat, by omega⟩
    have hz1 : (0 : Int) ≤ z ∧ (z : Int) < n := by omega
    obtain ⟨q, hq⟩ : ∃ q, a[z]? = some q := ⟨_, List.getElem?_eq_getElem (by rw [hl]; omega)⟩
    have hx2 : ((q.kind == 0) = true ∧ x = false) ∨ ((q.kind == 0) = false ∧ cameB q = false ∧ x = true) ∨ ((q.kind == 0) = false ∧ cameB q = true ∧ x = cameB r) := by
      unfold kinB at hx
      subst hx
      rw [hz, kindAt_of hq, hl]
      by_cases k0 : q.kind = 0
      · exact .inl ⟨beq_iff_eq.2 k0, decide_eq_false (fun hh => (hh h0).1 k0)⟩
      · by_cases k1 : 2 ≤ q.kind
        · refine .inr (.inr ⟨beq_eq_false_iff_ne.2 k0, decide_eq_true k1, ?_⟩)
          unfold cameB
          rw [Bool.eq_iff_iff]
          simp only [decide_eq_true_eq]
          exact ⟨fun hh => (hh h0).2 k1, fun hh _ => ⟨k0, fun _ => hh⟩⟩
        · exact .inr (.inl ⟨beq_eq_false_iff_ne.2 k0, decide_eq_false k1, decide_eq_true (fun _ => ⟨k0, fun hh => absurd hh k1⟩)⟩)
    rw [hx]
    have HCR := hid (came_any r)
    have HCQ := hid (came_any q)
    have HC := hid (fun (W : World) (hW : Fr (fun _ => False) w W) => (hA.same hW).cell hq)
    obtain ⟨bq, hbq⟩ : ∃ b, cameB q = b := ⟨_, rfl⟩
    obtain ⟨br, hbr⟩ : ∃ b, cameB r = b := ⟨_, rfl⟩
    rw [hbq] at HCQ hx2
    rw [hbr] at HCR hx2
    clear hx hq hl hp0 hp1 hbq hbr hA hp
    have hF0 := Fr.alloc (fun _ => False) w (.cells (sitC A n c r) 68)
    have hB0 := Blk.new w (sitC A n c r) 68
    obtain ⟨p, i, f, k, v, s, cl⟩ := r
    unfold sitC at *
    simp only at hx2 hz HCR hF0 hB0 ⊢
    obtain ⟨w1, hw1⟩ : ∃ w1, w1 = w.alloc (.cells #[.slice A n c, .int .i64 p, .int .i64 i, .int .i64 f, .int .i64 k, .int .i64 v, .int .i64 s, .string cl] 68) := ⟨_, rfl⟩
    rw [← hw1] at hF0 hB0
    have HF0 := hid hF0
    have b0 := hB0.cell (i := 0) rfl
    have b1 := hB0.cell (i := 1) rfl
    have b2 := hB0.cell (i := 2) rfl
    have b3 := hB0.cell (i := 3) rfl
    have b4 := hB0.cell (i := 4) rfl
    have b5 := hB0.cell (i := 5) rfl
    have b6 := hB0.cell (i := 6) rfl
    have b7 := hB0.cell (i := 7) rfl
    simp only [List.getElem_toArray, List.getElem_cons_zero, List.getElem_cons_succ] at b0 b1 b2 b3 b4 b5 b6 b7
    have l0 := hB0.lt
    have HBB := hid hB0
    clear hB0 hF0
    subst hz
    obtain ⟨qp, qi, qf, qk, qv, qs, qc⟩ := q
    simp only at hx2 HCQ
    rcases hx2 with ⟨h1, hx⟩ | ⟨h1, h2, hx⟩ | ⟨h1, h2, hx⟩
    · subst hx
      obtain ⟨ga, oga, rfl, hga, hcc⟩ := HC.out _ HF0.out
      have c0 := hcc 0 _ rfl
      have c1 := hcc 1 _ rfl
      have c2 := hcc 2 _ rfl
      have c3 := hcc 3 _ rfl
      have c4 := hcc 4 _ rfl
      have c5 := hcc 5 _ rfl
      have c6 := hcc 6 _ rfl
      simp only [Nat.add_zero] at c0
      clear hcc
      go_enter Tryz.func33, Tryz.ntmps33
      go_upto_region 1 with fail
      rw [← hw1]
      clear hw1
      go_wp2_with fail
      refine (told_any _ _ _).mono ?_
      rintro e w' ⟨rfl, rfl⟩
      go_wp2_with fail
      go_ret
      exact ⟨ret_int (by first | rfl | (simp [*]; done)), HF0.out.trans (Fr.alloc _ _ _)⟩
    · subst hx
      subst h2
      obtain ⟨ga, oga, rfl, hga, hcc⟩ := HC.out _ HF0.out
      have c0 := hcc 0 _ rfl
      have c1 := hcc 1 _ rfl
      have c2 := hcc 2 _ rfl
      have c3 := hcc 3 _ rfl
      have c4 := hcc 4 _ rfl
      have c5 := hcc 5 _ rfl
      have c6 := hcc 6 _ rfl
      simp only [Nat.add_zero] at c0
      clear hcc
      go_enter Tryz.func33, Tryz.ntmps33
      go_upto_region 1 with fail
      rw [← hw1]
      clear hw1
      go_wp2_with fail
      refine (HCQ.out _).mono ?_
      rintro e w3 ⟨rfl, hF3⟩
      go_wp2_with fail
      refine (told_any _ _ _).mono ?_
      rintro e w' ⟨rfl, rfl⟩
      go_wp2_with fail
      go_ret
      exact ⟨ret_int (by first | rfl | (simp [*]; done)), (HF0.out.trans (Fr.alloc _ _ _)).trans hF3⟩
    · subst hx
      subst h2
      obtain ⟨ga, oga, rfl, hga, hcc⟩ := HC.out _ HF0.out
      have c0 := hcc 0 _ rfl
      have c1 := hcc 1 _ rfl
      have c2 := hcc 2 _ rfl
      have c3 := hcc 3 _ rfl
      have c4 := hcc 4 _ rfl
      have c5 := hcc 5 _ rfl
      have c6 := hcc 6 _ rfl
      simp only [Nat.add_zero] at c0
      clear hcc
      go_enter Tryz.func33, Tryz.ntmps33
      go_upto_region 1 with fail
      rw [← hw1]
      clear hw1
      go_wp2_with fail
      refine (HCQ.out _).mono ?_
      rintro e w3 ⟨rfl, hF3⟩
      have hB3 := (HBB.out.alloc (.cells #[.int .i64 qp, .int .i64 qi, .int .i64 qf, .int .i64 qk, .int .i64 qv, .int .i64 qs, .string qc] 34)).keep hF3 (fun h => h)
      have d1 := hB3.cell (i := 1) rfl
      have d2 := hB3.cell (i := 2) rfl
      have d3 := hB3.cell (i := 3) rfl
      have d4 := hB3.cell (i := 4) rfl
      have d5 := hB3.cell (i := 5) rfl
      have d6 := hB3.cell (i := 6) rfl
      have d7 := hB3.cell (i := 7) rfl
      simp only [List.getElem_toArray, List.getElem_cons_zero, List.getElem_cons_succ] at d1 d2 d3 d4 d5 d6 d7
      have l3 := hB3.lt
      go_wp2_with fail
      refine (HCR.out _).mono ?_
      rintro e w4 ⟨rfl, hF4⟩
      go_wp2_with fail
      refine (told_any _ _ _).mono ?_
      rintro e w' ⟨rfl, rfl⟩
      go_wp2_with fail
      go_ret
      exact ⟨ret_int rfl, ((HF0.out.trans (Fr.alloc _ _ _)).trans hF3).trans hF4⟩

end Go.Proofs.YtnlbellbeepkaaaGreatDoor
