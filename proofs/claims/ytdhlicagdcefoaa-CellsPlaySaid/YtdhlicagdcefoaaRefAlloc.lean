/-
  Alloc and New of the document's machine, and the statements' plain.
-/
import Derived.Test.YtdhlicagdcefoaaRefCalls
namespace Go.Proofs.Ytdhlicagdcefoaa
open Go.RowKit

theorem IsR.own {w : World} {B : Nat} {r : RB} {M : Mach} (h : IsR w B r M) : w.ownsRow B 2 1 (.slice r.p M.used r.cap) M.used ((M.all.take M.used).map (Value.int .i64)) := by
  have hlen : (M.all.take M.used).length = M.used := by simp [h.le]
  refine ⟨by simp [h.le], ?_⟩
  rcases h.hl with ⟨h0, hp, hc⟩ | ⟨g, ex, hp, hg, hh, hr, hc⟩
  · left
    rw [h0] at hlen
    simp only [List.length_nil] at hlen
    rw [hp, hc, ← hlen]
    exact ⟨rfl, rfl⟩
  · right
    refine ⟨g, r.cap, _, by rw [hp], hg, hh, by omega, hc, ?_, ?_⟩
    · simp only [Array.size_append, ints_size, Nat.mul_one]
      omega
    · simp only [ints, Array.toList_append, Nat.mul_one]
      rw [List.take_append_of_le_length (by simp [h.le])]
      rw [List.take_of_length_le (by simp; omega)]

theorem give_take {M : Mach} (hu : M.used < M.all.length) (hfree : ∀ i, M.used ≤ i → M.all.getD i 0 = 0) : M.all.take (M.used + 1) = M.all.take M.used ++ [0] := by
  have := hfree M.used (Nat.le_refl _)
  rw [List.getD_eq_getElem?_getD, List.getElem?_eq_getElem hu] at this
  rw [List.take_succ_eq_append_getElem hu]
  simp only [Option.getD_some] at this
  rw [this]

theorem IsR.grow {w w' : World} {B : Nat} {r : RB} {M : Mach} {v' : Value} (h : IsR w B r M) (hu : M.used < M.all.length) (hg : w.grownBy w' (Value.ownBlock (.slice r.p M.used r.cap)))
    (hown : w'.ownsRow B 2 1 v' (M.used + 1) ((M.all.take M.used).map (Value.int .i64) ++ [.int .i64 0])) :
    ∃ g cap, v' = .slice (some ⟨g, 0, none⟩) (M.used + 1) cap ∧ w'.cell? ⟨r.m, 0, none⟩ = some (.slice r.p M.used r.cap) ∧ w'.frozen? ⟨r.m, 0, none⟩ = false ∧
      IsR (w'.setCell ⟨r.m, 0, none⟩ (.slice (some ⟨g, 0, none⟩) (M.used + 1) cap)) B ⟨r.m, r.s, some ⟨g, 0, none⟩, cap⟩ (M.give 1) ∧ Fr (fun i => B ≤ i) w w' := by
  have hnm : some r.m ≠ Value.ownBlock (.slice r.p M.used r.cap) := by
    rcases h.hl with ⟨_, hp, _⟩ | ⟨g, ex, hp, _, hh, _⟩
    · rw [hp]
      simp [Value.ownBlock]
    · rw [hp]
      simp only [Value.ownBlock, ne_eq, Option.some.injEq]
      exact ne_of_types h.hm hh (by decide)
  have hns : some r.s ≠ Value.ownBlock (.slice r.p M.used r.cap) := by
    rcases h.hl with ⟨_, hp, _⟩ | ⟨g, ex, hp, _, hh, _⟩
    · rw [hp]
      simp [Value.ownBlock]
    · rw [hp]
      simp only [Value.ownBlock, ne_eq, Option.some.injEq]
      exact ne_of_types h.hs hh (by decide)
  have hF : Fr (fun i => B ≤ i) w w' := by
    refine ⟨hg.os, hg.tape, hg.output, hg.size, fun k hk hn => hg.block k hk (fun e => ?_)⟩
    rcases h.hl with ⟨_, hp, _⟩ | ⟨g, ex, hp, hb, hh, _⟩
    · rw [hp] at e
      cases e
    · rw [hp] at e
      simp only [Value.ownBlock, Option.some.injEq] at e
      subst e
      exact hn hb
  have hm' : w'.heap[r.m]? = _ := (hg.block r.m (lt_of_heap h.hm) hnm).trans h.hm
  have hs' : w'.heap[r.s]? = _ := (hg.block r.s (lt_of_heap h.hs) hns).trans h.hs
  have hxs : (M.all.take M.used).map (Value.int .i64) ++ [Value.int .i64 0] = (M.all.take (M.used + 1)).map (Value.int .i64) := by
    rw [give_take hu h.free]
    simp
  rw [hxs] at hown
  have hlen : (M.all.take (M.used + 1)).length = M.used + 1 := by
    simp only [List.length_take]
    omega
  obtain ⟨hl1, h2⟩ := hown
  rcases h2 with ⟨_, hn⟩ | ⟨g, cap, cur, hv, hgB, hh, hc, hmax, hsz, htk⟩
  · omega
  · refine ⟨g, cap, hv, Blk.cell (c := _) ⟨_, hm'⟩ rfl, Blk.frozen (c := _) ⟨_, hm'⟩ 0, ?_, hF⟩
    have hcur : cur = ints (M.all.take (M.used + 1)) ++ (cur.toList.drop (M.used + 1)).toArray := by
      apply Array.ext'
      rw [Nat.mul_one] at htk
      simp only [ints, Array.toList_append]
      rw [← htk, List.take_append_drop]
    refine ⟨?_, ?_, ?_, h.bm, h.bs, ?_, ?_, h.small, h.few⟩
    · exact heap_set hm' 0 _
    · show (w'.setCell _ _).heap[r.s]? = _
      rw [Below.heap_setCell _ _ _ _ (ne_of_types hs' hm' (by decide))]
      exact hs'
    · refine RRow.far (c := _) (t := 42) ?_ hm' (by decide) _ _
      refine .inr ⟨g, (cur.toList.drop (M.used + 1)).toArray, rfl, hgB, ?_, ?_, hmax⟩
      · rw [hh]
        show some (Obj.cells cur _ _) = some (Obj.cells (ints (M.all.take (M.used + 1)) ++ _) _ _)
        rw [← hcur]
      · show (M.all.take (M.used + 1)).length + _ = cap
        rw [hlen]
        simp only [List.size_toArray, List.length_drop, Array.length_toList]
        omega
    · show M.used + 1 ≤ M.all.length
      omega
    · intro i hi
      have hi' : M.used + 1 ≤ i := hi
      exact h.free i (by omega)

theorem one_cell (w : World) (e : TypeId) : ∀ j u, ([Value.int .i64 0] : List Value)[j]? = some u → (w.alloc (.cells #[.int .i64 0] e)).cell? ((⟨w.heap.size, 0, none⟩ : Addr).add j) = some u := by
  intro j u hj
  have hj0 : j = 0 := by
    have := (List.getElem?_eq_some_iff.1 hj).1
    simp at this
    exact this
  subst hj0
  simp only [List.getElem?_cons_zero, Option.some.injEq] at hj
  subst hj
  exact (Blk.new w _ e).cell rfl

def RARel (w : World) (B : Nat) (r : RB) (M : Mach) (n d : Nat) (i : Value) (wr : World) : Prop :=
  ∃ (k : Nat) (r' : RB), k ≤ n ∧ d = n - k ∧ i = .int .i64 k ∧ r'.m = r.m ∧ IsR wr B r' (M.give k) ∧ Fr (fun i => B ≤ i) w wr

theorem IsR.m_eq {w : World} {B : Nat} {r : RB} {M : Mach} {m : Nat} (h : IsR w B r M) (hm : r.m = m) : IsR w B ⟨m, r.s, r.p, r.cap⟩ M := by
  subst hm
  exact h

theorem Mach.give_zero (M : Mach) : M.give 0 = M := rfl
theorem Mach.give_give (M : Mach) (k : Nat) : (M.give k).give 1 = M.give (k + 1) := rfl

set_option maxHeartbeats 1000000 in
theorem ralloc_ok (r : RB) (B : Nat) (M : Mach) (j n : Nat) (w : World) (h : IsR w B r M) (hB : B ≤ w.heap.size) (hj : j < M.steps.length) (hn1 : 1 ≤ n) (hn : M.used + n ≤ M.all.length) :
    Calls Try.prog 34 #[.pointer (some ⟨r.m, 0, none⟩), .int .i64 j, .int .i64 n] w fun e w' => e = .returned (.tuple #[.int .i64 M.used, .int .i64 0]) ∧ ∃ r' : RB, r'.m = r.m ∧ IsR w' B r' ((M.step j).give n) ∧ Fr (fun i => B ≤ i) w w' := by
  have c0 := h.c0
  have c1 := h.c1
  have q1 := h.le
  have q2 := h.small
  have t1 : ¬ (n : Int) < 1 := by omega
  have t2 : ¬ (M.all.length : Int) - M.used < n := by omega
  obtain ⟨i0, hi, hz⟩ := Option.map_eq_some_iff.1 Try.infol
  simp only [Prod.mk.injEq] at hz
  obtain ⟨hz0, hz1, hz2⟩ := hz
  have HI := hid hi
  have HZ0 := hid hz0
  have HZ1 := hid hz1
  have HZ2 := hid hz2
  clear hi hz0 hz1 hz2
  go_enter Try.func34, Try.ntmps34
  go_wp2_with fail
  refine (rcaller_yes r B M j _ h hj).mono ?_
  rintro e w' ⟨rfl, rfl⟩
  go_wp2_with fail
  go_quiet (fail)
  go_wp2_with fail
  go_loopg [9] n (fun d i wr => RARel w B r M n d i wr)
  case atStart => exact ⟨0, r, Nat.zero_le _, rfl, rfl, rfl, h.same (Fr.drewN _ _ _), Fr.drewN _ _ _⟩
  case round =>
    obtain ⟨k, r', hk, rfl, rfl, hrm, hR, hf⟩ := hrel
    replace hR := hR.m_eq hrm
    clear hrm
    by_cases hlt : k < n
    · have d0 := hR.c0
      have hml := lt_of_heap hR.hm
      have HR2 := hid (hR.same (Fr.alloc _ wr (.cells #[.int .i64 0] 2)))
      have hBs : B ≤ wr.heap.size := Nat.le_trans hB hf.size
      go_wp2_with (at_builtin; refine wpList_append_own _ rfl _ _ 39 rfl B 2 i0 (.int .i64 0) 1 8 Try.underlying39 HI.out HZ0.out HZ1.out HZ2.out rfl (by decide) (.slice r'.p (M.give k).used r'.cap) (M.give k).used _ rfl HR2.out.own ⟨wr.heap.size, 0, none⟩ 1 1 [.int .i64 0] rfl rfl (one_cell wr 2) (by simp [Value.oneCell']) (by have : (M.give k).used = M.used + k := rfl; unfold maxLen; omega) (by have : (M.give k).used = M.used + k := rfl; omega) (by simp; omega) ?_; intro v' w3 hown hgrow hnil3; clear hnil3; obtain ⟨g, cap', hv, e0, f0, hR3, hF3⟩ := HR2.out.grow (show (M.give k).used < (M.give k).all.length by show M.used + k < M.all.length; omega) hgrow hown; have HV := hid hv; clear hv hown hgrow; rw [HV.out])
      go_roundg (n - (k + 1))
      case measure => omega
      case rel => exact ⟨k + 1, ⟨r.m, r'.s, some ⟨g, 0, none⟩, cap'⟩, by omega, rfl, by go_num, rfl, hR3, hf.trans ((Fr.alloc _ _ _).trans (hF3.trans (Fr.setCell _ _ _ h.bm)))⟩
    · obtain rfl : k = n := by omega
      have c2 := hR.c2
      obtain ⟨s, HS, cs⟩ := hR.cs' (show j < (M.give k).steps.length from hj)
      have fs := Blk.frozen (c := _) ⟨_, hR.hs⟩ j
      have hj2 : j < (M.give k).steps.length := hj
      go_wp2_with fail
      go_ret2
      exact ⟨rfl, ⟨r.m, r'.s, r'.p, r'.cap⟩, rfl, hR.stepped HS.out, hf.trans (Fr.setCell _ _ _ hR.bs)⟩

set_option maxHeartbeats 400000 in
theorem ralloc_who (r : RB) (B : Nat) (M : Mach) (x y : Int) (w : World) (h : IsR w B r M) (hx : x < 0 ∨ (M.steps.length : Int) ≤ x) :
    Calls Try.prog 34 #[.pointer (some ⟨r.m, 0, none⟩), .int .i64 x, .int .i64 y] w fun e w' => e = .returned (.tuple #[.int .i64 0, .int .i64 10]) ∧ w = w' := by
  go_enter Try.func34, Try.ntmps34
  go_wp2_with fail
  refine (rcaller_no r B M x _ h hx).mono ?_
  rintro e w' ⟨rfl, rfl⟩
  go_wp2_with fail
  go_ret2
  exact ⟨rfl, rfl⟩

set_option maxHeartbeats 400000 in
theorem ralloc_low (r : RB) (B : Nat) (M : Mach) (j : Nat) (y : Int) (w : World) (h : IsR w B r M) (hj : j < M.steps.length) (hy : y < 1) :
    Calls Try.prog 34 #[.pointer (some ⟨r.m, 0, none⟩), .int .i64 j, .int .i64 y] w fun e w' => e = .returned (.tuple #[.int .i64 0, .int .i64 10]) ∧ w = w' := by
  go_enter Try.func34, Try.ntmps34
  go_wp2_with fail
  refine (rcaller_yes r B M j _ h hj).mono ?_
  rintro e w' ⟨rfl, rfl⟩
  go_wp2_with fail
  go_ret2
  exact ⟨rfl, rfl⟩

set_option maxHeartbeats 400000 in
theorem ralloc_full (r : RB) (B : Nat) (M : Mach) (j : Nat) (y : Int) (w : World) (h : IsR w B r M) (hj : j < M.steps.length) (hy : 1 ≤ y) (hn : (M.all.length : Int) - M.used < y) :
    Calls Try.prog 34 #[.pointer (some ⟨r.m, 0, none⟩), .int .i64 j, .int .i64 y] w fun e w' => e = .returned (.tuple #[.int .i64 0, .int .i64 21]) ∧ ∃ r' : RB, r'.m = r.m ∧ IsR w' B r' (M) ∧ Fr (fun i => B ≤ i) w w' := by
  have c0 := h.c0
  have c1 := h.c1
  have q1 := h.le
  have q2 := h.small
  have t1 : ¬ y < 1 := by omega
  go_enter Try.func34, Try.ntmps34
  go_wp2_with fail
  refine (rcaller_yes r B M j _ h hj).mono ?_
  rintro e w' ⟨rfl, rfl⟩
  go_wp2_with fail
  go_quiet (fail)
  go_wp2_with fail
  go_ret2
  exact ⟨rfl, r, rfl, h.same (Fr.drewN _ _ _), Fr.drewN _ _ _⟩

theorem ralloc_any (r : RB) (B : Nat) (M : Mach) (x n : Int) (w : World) (h : IsR w B r M) (hB : B ≤ w.heap.size) :
    Calls Try.prog 34 #[.pointer (some ⟨r.m, 0, none⟩), .int .i64 x, .int .i64 n] w fun e w' => e = .returned (.tuple #[.int .i64 (M.alloc x n).1, .int .i64 (M.alloc x n).2.1]) ∧ ∃ r' : RB, r'.m = r.m ∧ IsR w' B r' ((M.alloc x n).2.2) ∧ Fr (fun i => B ≤ i) w w' := by
  by_cases hs : 0 ≤ x ∧ x < M.steps.length ∧ 1 ≤ n
  · unfold Mach.alloc
    rw [if_pos hs]
    obtain ⟨j, rfl⟩ := Int.eq_ofNat_of_zero_le hs.1
    obtain ⟨k, rfl⟩ := Int.eq_ofNat_of_zero_le (show 0 ≤ n by omega)
    by_cases hn : (M.all.length : Int) - M.used < k
    · rw [if_pos hn]
      exact ralloc_full r B M j k w h (by omega) (by omega) hn
    · rw [if_neg hn]
      exact ralloc_ok r B M j k w h hB (by omega) (by omega) (by omega)
  · unfold Mach.alloc
    rw [if_neg hs]
    by_cases hx : x < 0 ∨ (M.steps.length : Int) ≤ x
    · exact (ralloc_who r B M x n w h hx).mono fun e w' ⟨he, hw⟩ => ⟨he, r, rfl, hw ▸ h, hw ▸ Fr.refl _ _⟩
    · obtain ⟨j, rfl⟩ := Int.eq_ofNat_of_zero_le (show 0 ≤ x by omega)
      exact (ralloc_low r B M j n w h (by omega) (by omega)).mono fun e w' ⟨he, hw⟩ => ⟨he, r, rfl, hw ▸ h, hw ▸ Fr.refl _ _⟩

def RNewPost (n k : Nat) (w : World) (e : Ending) (w' : World) : Prop :=
  ∃ r : RB, e = .returned (.pointer (some ⟨r.m, 0, none⟩)) ∧ IsR w' w.heap.size r ⟨List.replicate n 0, 0, List.replicate (k + 1) 0⟩ ∧ Fr (fun _ => False) w w'

theorem rnew_fin (n k : Nat) (w : World) (h2 : n ≤ 1048576) (h4 : k ≤ 16) : RNewPost n k w (.returned (.pointer (some ⟨w.heap.size + 1, 0, none⟩)))
    ((w.alloc (.cells (madeCells #[.int .i64 0] (k + 1)) 3)).alloc (.cells #[.slice none 0 0, .int .i64 n, .slice (some ⟨w.heap.size, 0, none⟩) (k + 1) (k + 1)] 42)) := by
  refine ⟨⟨w.heap.size + 1, w.heap.size, none, 0⟩, rfl, ⟨?_, ?_, .inl ⟨by simp, rfl, rfl⟩, ?_, Nat.le_refl _, by simp, fun i _ => rep_free n i, by simpa using h2, by simpa using h4⟩, (Fr.alloc _ _ _).trans (Fr.alloc _ _ _)⟩
  · show ((w.heap.push _).push _)[w.heap.size + 1]? = _
    rw [Array.getElem?_push, if_pos (by simp)]
    simp
  · rw [made_ints]
    rw [Below.heap_alloc _ _ _ (by simp)]
    show (w.heap.push _)[w.heap.size]? = _
    simp
  · show w.heap.size ≤ w.heap.size + 1
    omega

set_option maxHeartbeats 400000 in
theorem rnew_ok (n k : Nat) (w : World) (h2 : n ≤ 1048576) (h4 : k ≤ 16) :
    Calls Try.prog 13 #[.int .i64 n, .int .i64 k] w (RNewPost n k w) := by
  have m2 := run_make_row' (P := Try.prog) 40 3 (.int .i64 0) 8 Try.underlying40 Try.infoi rfl .i64 .i64 (k + 1) (by omega) (by omega)
  rw [show ((k + 1 : Nat) : Int) = (k : Int) + 1 by omega] at m2
  go_enter Try.func13, Try.ntmps13
  go_wp2_with fail
  go_ret
  exact rnew_fin n k w h2 h4

set_option maxHeartbeats 400000 in
theorem plain0 (r : RB) (B : Nat) (M : Mach) (o : OpD) (w : World) (h : IsR w B r M) (k0 : (o.kind == 0) = true) :
    Calls Try.prog 15 #[.pointer (some ⟨r.m, 0, none⟩), .agg #[.int .i64 o.kind, .int .i64 o.w, .int .i64 o.at_, .int .i64 o.x, .int .i64 o.y]] w fun e w' => e = .returned (.tuple #[.int .i64 ((M.load o.w o.at_).1), .int .i64 ((M.load o.w o.at_).2.1)]) ∧ ∃ r' : RB, r'.m = r.m ∧ IsR w' B r' ((M.load o.w o.at_).2.2) ∧ Fr (fun i => B ≤ i) w w' := by
  have h3 : IsR (w.alloc (.cells #[.int .i64 o.kind, .int .i64 o.w, .int .i64 o.at_, .int .i64 o.x, .int .i64 o.y] 36)) B r M := h.same (Fr.alloc _ _ _)
  go_enter Try.func15, Try.ntmps15
  go_wp2_with fail
  refine (rload_any r B M o.w o.at_ _ h3).mono ?_
  rintro e w1 ⟨rfl, h1, hF⟩
  go_wp2_with fail
  go_ret2
  exact ⟨rfl, r, rfl, h1, (Fr.alloc _ _ _).trans hF⟩

set_option maxHeartbeats 400000 in
theorem plain1 (r : RB) (B : Nat) (M : Mach) (o : OpD) (w : World) (h : IsR w B r M) (k0 : (o.kind == 0) = false) (k1 : (o.kind == 1) = true) :
    Calls Try.prog 15 #[.pointer (some ⟨r.m, 0, none⟩), .agg #[.int .i64 o.kind, .int .i64 o.w, .int .i64 o.at_, .int .i64 o.x, .int .i64 o.y]] w fun e w' => e = .returned (.tuple #[.int .i64 (0), .int .i64 ((M.store o.w o.at_ o.x).1)]) ∧ ∃ r' : RB, r'.m = r.m ∧ IsR w' B r' ((M.store o.w o.at_ o.x).2) ∧ Fr (fun i => B ≤ i) w w' := by
  have h3 : IsR (w.alloc (.cells #[.int .i64 o.kind, .int .i64 o.w, .int .i64 o.at_, .int .i64 o.x, .int .i64 o.y] 36)) B r M := h.same (Fr.alloc _ _ _)
  go_enter Try.func15, Try.ntmps15
  go_wp2_with fail
  refine (rstore_any r B M o.w o.at_ o.x _ h3).mono ?_
  rintro e w1 ⟨rfl, h1, hF⟩
  go_wp2_with fail
  go_ret2
  exact ⟨rfl, r, rfl, h1, (Fr.alloc _ _ _).trans hF⟩

set_option maxHeartbeats 400000 in
theorem plain3 (r : RB) (B : Nat) (M : Mach) (o : OpD) (w : World) (h : IsR w B r M) (k0 : (o.kind == 0) = false) (k1 : (o.kind == 1) = false) (k2 : (o.kind == 2) = false) (k3 : (o.kind == 3) = true) :
    Calls Try.prog 15 #[.pointer (some ⟨r.m, 0, none⟩), .agg #[.int .i64 o.kind, .int .i64 o.w, .int .i64 o.at_, .int .i64 o.x, .int .i64 o.y]] w fun e w' => e = .returned (.tuple #[.int .i64 ((M.add o.w o.at_ o.x).1), .int .i64 ((M.add o.w o.at_ o.x).2.1)]) ∧ ∃ r' : RB, r'.m = r.m ∧ IsR w' B r' ((M.add o.w o.at_ o.x).2.2) ∧ Fr (fun i => B ≤ i) w w' := by
  have h3 : IsR (w.alloc (.cells #[.int .i64 o.kind, .int .i64 o.w, .int .i64 o.at_, .int .i64 o.x, .int .i64 o.y] 36)) B r M := h.same (Fr.alloc _ _ _)
  go_enter Try.func15, Try.ntmps15
  go_wp2_with fail
  refine (radd_any r B M o.w o.at_ o.x _ h3).mono ?_
  rintro e w1 ⟨rfl, h1, hF⟩
  go_wp2_with fail
  go_ret2
  exact ⟨rfl, r, rfl, h1, (Fr.alloc _ _ _).trans hF⟩

set_option maxHeartbeats 400000 in
theorem plain4 (r : RB) (B : Nat) (M : Mach) (o : OpD) (w : World) (h : IsR w B r M) (hB : B ≤ w.heap.size) (k0 : (o.kind == 0) = false) (k1 : (o.kind == 1) = false) (k2 : (o.kind == 2) = false) (k3 : (o.kind == 3) = false) :
    Calls Try.prog 15 #[.pointer (some ⟨r.m, 0, none⟩), .agg #[.int .i64 o.kind, .int .i64 o.w, .int .i64 o.at_, .int .i64 o.x, .int .i64 o.y]] w fun e w' => e = .returned (.tuple #[.int .i64 ((M.alloc o.w o.at_).1), .int .i64 ((M.alloc o.w o.at_).2.1)]) ∧ ∃ r' : RB, r'.m = r.m ∧ IsR w' B r' ((M.alloc o.w o.at_).2.2) ∧ Fr (fun i => B ≤ i) w w' := by
  have h3 : IsR (w.alloc (.cells #[.int .i64 o.kind, .int .i64 o.w, .int .i64 o.at_, .int .i64 o.x, .int .i64 o.y] 36)) B r M := h.same (Fr.alloc _ _ _)
  go_enter Try.func15, Try.ntmps15
  go_wp2_with fail
  refine (ralloc_any r B M o.w o.at_ _ h3 (Nat.le_trans hB (by simp))).mono ?_
  rintro e w1 ⟨rfl, r', hr', h1, hF⟩
  go_wp2_with fail
  go_ret2
  exact ⟨rfl, r', hr', h1, (Fr.alloc _ _ _).trans hF⟩

set_option maxHeartbeats 400000 in
theorem plain2 (r : RB) (B : Nat) (M : Mach) (o : OpD) (w : World) (h : IsR w B r M) (k0 : (o.kind == 0) = false) (k1 : (o.kind == 1) = false) (k2 : (o.kind == 2) = true) :
    Calls Try.prog 15 #[.pointer (some ⟨r.m, 0, none⟩), .agg #[.int .i64 o.kind, .int .i64 o.w, .int .i64 o.at_, .int .i64 o.x, .int .i64 o.y]] w fun e w' => e = .returned (.tuple #[.int .i64 (if (M.cas o.w o.at_ o.y o.x).1 = true then 1 else 0), .int .i64 ((M.cas o.w o.at_ o.y o.x).2.1)]) ∧ ∃ r' : RB, r'.m = r.m ∧ IsR w' B r' ((M.cas o.w o.at_ o.y o.x).2.2) ∧ Fr (fun i => B ≤ i) w w' := by
  have h3 : IsR (w.alloc (.cells #[.int .i64 o.kind, .int .i64 o.w, .int .i64 o.at_, .int .i64 o.x, .int .i64 o.y] 36)) B r M := h.same (Fr.alloc _ _ _)
  have hc := fun W => rcas_any r B M o.w o.at_ o.y o.x W
  obtain ⟨q, hq⟩ : ∃ q, M.cas o.w o.at_ o.y o.x = q := ⟨_, rfl⟩
  rw [hq] at hc ⊢
  clear hq
  obtain ⟨q, er, M'⟩ := q
  have HC := hid hc
  clear hc
  cases q
  · go_enter Try.func15, Try.ntmps15
    go_wp2_with fail
    refine (HC.out _ h3).mono ?_
    rintro e w1 ⟨rfl, h1, hF⟩
    go_wp2_with fail
    go_ret2
    exact ⟨rfl, r, rfl, h1, (Fr.alloc _ _ _).trans hF⟩
  · go_enter Try.func15, Try.ntmps15
    go_wp2_with fail
    refine (HC.out _ h3).mono ?_
    rintro e w1 ⟨rfl, h1, hF⟩
    go_wp2_with fail
    go_ret2
    exact ⟨rfl, r, rfl, h1, (Fr.alloc _ _ _).trans hF⟩

theorem plain_any (r : RB) (B : Nat) (M : Mach) (o : OpD) (w : World) (h : IsR w B r M) (hB : B ≤ w.heap.size) :
    Calls Try.prog 15 #[.pointer (some ⟨r.m, 0, none⟩), .agg #[.int .i64 o.kind, .int .i64 o.w, .int .i64 o.at_, .int .i64 o.x, .int .i64 o.y]] w fun e w' => e = .returned (.tuple #[.int .i64 ((M.does o).1), .int .i64 ((M.does o).2.1)]) ∧ ∃ r' : RB, r'.m = r.m ∧ IsR w' B r' ((M.does o).2.2) ∧ Fr (fun i => B ≤ i) w w' := by
  unfold Mach.does
  by_cases k0 : o.kind = 0
  · rw [if_pos k0]
    exact plain0 r B M o w h (by simp [k0])
  · rw [if_neg k0]
    by_cases k1 : o.kind = 1
    · rw [if_pos k1]
      exact plain1 r B M o w h (by simp [k1]) (by simp [k1])
    · rw [if_neg k1]
      by_cases k2 : o.kind = 2
      · rw [if_pos k2]
        exact plain2 r B M o w h (by simp [k2]) (by simp [k2]) (by simp [k2])
      · rw [if_neg k2]
        by_cases k3 : o.kind = 3
        · rw [if_pos k3]
          exact plain3 r B M o w h (by simp [k3]) (by simp [k3]) (by simp [k3]) (by simp [k3])
        · rw [if_neg k3]
          exact plain4 r B M o w h hB (by simpa using k0) (by simpa using k1) (by simpa using k2) (by simpa using k3)
end Go.Proofs.Ytdhlicagdcefoaa
