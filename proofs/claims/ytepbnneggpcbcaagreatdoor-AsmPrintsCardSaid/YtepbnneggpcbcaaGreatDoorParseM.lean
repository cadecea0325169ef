/-
  asm.Parse of a text that is not too long.
-/
import Derived.Test.YtepbnneggpcbcaaGreatDoorParse
namespace Go.Proofs.YtepbnneggpcbcaaGreatDoor
open Go.RowKit Go.Shelf
attribute [local go_sem] Oper.semAt_some

theorem parse_fr {B : Nat} {T U : Nat → Prop} {w W W1 W2 W3 : World} (hF : Fr (fun k => B ≤ k) w W) (h1 : Fr (fun k => k = B + 1 + 1) W W1) (h2 : Fr T W1 W2) (h3 : Fr U W2 W3) (hT : ∀ k, T k → B + 7 ≤ k) (hU : U = (fun k => k = B + 1) ∨ U = (fun k => k = B + 1 + 1 + 1)) : Fr (fun k => B ≤ k) w W3 := by
  refine ((hF.trans (h1.mono (fun k hk => ?_))).trans (h2.mono (fun k hk => ?_))).trans (h3.mono (fun k hk => ?_))
  · show B ≤ k; omega
  · have := hT k hk; show B ≤ k; omega
  · show B ≤ k
    rcases hU with rfl | rfl
    · have hk : k = B + 1 := hk; omega
    · have hk : k = B + 1 + 1 + 1 := hk; omega

theorem parse_still {B D : Nat} {T U : Nat → Prop} {W W1 W2 W3 : World} (h1 : Fr (fun k => k = B + 1 + 1) W W1) (h2 : Fr T W1 W2) (h3 : Fr U W2 W3) (hT : ∀ k, T k → B + 7 ≤ k) (_ : True) (hU : U = (fun k => k = B + 1) ∨ U = (fun k => k = B + 1 + 1 + 1)) (hD : D = B + 5) : Still (B + 4) D W W3 := by
  refine ⟨fun k => k ≠ B + 4 ∧ k ≠ B + 5 ∧ k ≠ B + 6, ((h1.mono (fun k hk => ?_)).trans (h2.mono (fun k hk => ?_))).trans (h3.mono (fun k hk => ?_)), by simp, by simp; omega, by simp; omega⟩
  · show k ≠ B + 4 ∧ k ≠ B + 5 ∧ k ≠ B + 6; omega
  · have := hT k hk; show k ≠ B + 4 ∧ k ≠ B + 5 ∧ k ≠ B + 6; omega
  · show k ≠ B + 4 ∧ k ≠ B + 5 ∧ k ≠ B + 6
    rcases hU with rfl | rfl
    · have hk : k = B + 1 := hk; omega
    · have hk : k = B + 1 + 1 + 1 := hk; omega

theorem runL_stop {a b : List Bs} {fs gs : List Fn} {n m : Nat} {x : Int} (h : runL a fs n = (gs, m, x)) (hx : x ≠ 0) : runL (a ++ b) fs n = (gs, m, x) := by
  induction a generalizing fs n with
  | nil => rw [runL] at h; simp only [Prod.mk.injEq] at h; exact absurd h.2.2.symm hx
  | cons l r ih =>
    rw [runL] at h
    rw [List.cons_append, runL]
    split at h
    · rename_i he
      rw [if_pos he]
      exact ih h
    · rename_i he
      rw [if_neg he]
      exact h

theorem Fr.own {w W : World} (h : Fr (fun k => w.heap.size ≤ k) w W) : Fr (fun _ => False) w W :=
  ⟨h.os, h.tape, h.output, h.size, fun k hk _ => h.block k hk (by show ¬ w.heap.size ≤ k; omega)⟩

/-- The return from behind the loop. -/
theorem ps_end {w W W1 : World} {T : Nat → Prop} {tmps : Array Value} {s : Bs} {D : Nat} {v0 v : Value} (hF : Fr (fun k => w.heap.size ≤ k) w W) (h1 : Fr T W W1) (hT : ∀ k, T k → w.heap.size ≤ k ∧ k < w.heap.size + 5) (hK : W.heap[D]? = some (.deferred (some []))) (hD : D = w.heap.size + 5)
    (hb : Blk W1 w.heap.size #[v0]) (hv : ∀ W' : World, W'.cell? ⟨w.heap.size, 0, none⟩ = some v0 → (results Tryz.f10 tmps).run Tryz.prog W' = .ok v W')
    (hp : ∀ W', Fr (fun k => w.heap.size ≤ k ∧ k < w.heap.size + 7) W W' → Fr (fun _ => False) w W' → PsPost w (prs s) (.returned v) W') :
    Exit.noGoto (bodyPostM Fence.wide 8 Tryz.prog Tryz.f10 (PsPost w (prs s))) Exit.ret { tmps := tmps, defers := [{ target := .collected (w.heap.size + 5), args := #[] }] } W1 := by
  subst hD
  have hlt := (Array.getElem?_eq_some_iff.1 hK).1
  have hK' : W1.heap[w.heap.size + 5]? = some (.deferred (some [])) := (h1.block _ hlt (fun h => by have := (hT _ h).2; omega)).trans hK
  refine ⟨by simp, .inl ⟨_, _, rfl, run_takeDeferred hK', ?_⟩⟩
  have hF4 : Fr (fun k => k = w.heap.size + 5) W1 (W1.putObj (w.heap.size + 5) (.deferred none)) := Fr.putObj _ _ _ _ rfl
  have hF5 : Fr (fun _ => False) w (W1.putObj (w.heap.size + 5) (.deferred none)) := ((hF.trans (h1.mono (fun k hk => (hT k hk).1))).trans (hF4.mono (fun k hk => by show w.heap.size ≤ k; omega))).own
  exact ⟨v, hv _ ((hb.keep hF4 (by omega)).cell rfl), hp _ ((h1.mono (fun k hk => by have := hT k hk; show w.heap.size ≤ k ∧ k < w.heap.size + 7; omega)).trans (hF4.mono (fun k hk => by show w.heap.size ≤ k ∧ k < w.heap.size + 7; omega))) hF5⟩

theorem lns_len (s : Bs) : (lns s).length ≤ s.length := by
  have h1 := congrArg List.length (lns_flatten s)
  have h2 := lines_flat (lns s) (lns_ne s)
  omega

set_option maxRecDepth 100000 in
set_option maxHeartbeats 8000000 in
theorem parse_main (s : Bs) (hs : s.length ≤ 131072) (w : World) (ht : Tabs w) : Calls Tryz.prog 10 #[.string (bs s)] w (PsPost w (prs s)) := by
  have hsz : ¬ 131072 < (bs s).size := by rw [bs_size]; omega
  have hsz2 : (bs s).size ≤ 131072 := by rw [bs_size]; omega
  refine (callsIn_wide (n := 8)).1 ?_
  refine callsIn_of_wp_marks Tryz.func10 rfl trivial ?_ rfl
  simp only [Tryz.ntmps10, List.size_toArray, List.length_cons, List.length_nil, Nat.reduceAdd, Nat.reduceSub, Array.replicate_succ, Array.replicate_zero, List.push_toArray, List.append_toArray, List.nil_append, List.cons_append]
  gi_wp2
  refine wpIn_scope ?_
  gi_wp2
  refine wpIn_label ?_
  gi_wp2
  refine ⟨trivial, (callsIn_wide.2 (lines_mk (bs s) _)).mono ?_⟩
  rintro e W0 ⟨rfl, hW0⟩
  have hz0 : W0.heap.size = w.heap.size + 5 := by rw [hW0]; simp
  have b0 : Blk W0 w.heap.size #[.slice none 0 0] := by
    rw [hW0]
    exact ((((Blk.new w _ _).alloc _).alloc _).alloc _).alloc _
  have b1 : Blk W0 (w.heap.size + 1) #[.slice none 0 0] := by
    rw [hW0]
    exact ((((Blk.new _ _ _).at (show _ = w.heap.size + 1 by simp)).alloc _).alloc _).alloc _
  have b2 : Blk W0 (w.heap.size + 2) #[.int .i64 0] := by
    rw [hW0]
    exact (((Blk.new _ _ _).at (show _ = w.heap.size + 2 by simp)).alloc _).alloc _
  have b3 : Blk W0 (w.heap.size + 3) #[.int .i64 0] := by
    rw [hW0]
    exact ((Blk.new _ _ _).at (show _ = w.heap.size + 3 by simp)).alloc _
  have b4 : Blk W0 (w.heap.size + 4) #[.string (bs s)] := by
    rw [hW0]
    exact (Blk.new _ _ _).at (show _ = w.heap.size + 4 by simp)
  have hF0 : Fr (fun _ => False) w W0 := by
    rw [hW0]
    exact ((((Fr.alloc _ _ _).trans (Fr.alloc _ _ _)).trans (Fr.alloc _ _ _)).trans (Fr.alloc _ _ _)).trans (Fr.alloc _ _ _)
  have hns : (((((w.alloc (.cells #[.slice none 0 0] 24)).alloc (.cells #[.slice none 0 0] 22)).alloc (.cells #[.int .i64 0] 3)).alloc (.cells #[.int .i64 0] 27)).heap.size) = w.heap.size + 4 := by simp
  rw [hns]
  have HZ0 := hid hz0
  clear hW0 hns hz0 hsz hsz2
  gi_wp2
  have hD : W0.heap.size = w.heap.size + 5 := HZ0.out
  refine range_lines (sb := w.heap.size + 4) (by omega) rfl s (by omega) b4 (fun pre W => PSt' w pre W) (fun id pre W => id = 0 ∧ PEr' w pre W)
    (fun pre W W' S h f hS => h.keep f (fun k hk => by have := hS k hk; omega)) (fun _ pre W W' S h f hS => ⟨h.1, h.2.keep f (fun k hk => by have := hS k hk; omega)⟩)
    ?h0 (fun x => { tmps := #[.string (bs s), undef, .pointer (some ⟨w.heap.size, 0, none⟩), .int .i64 0, .int .i64 0, .pointer (some ⟨w.heap.size + 1, 0, none⟩), .pointer (some ⟨w.heap.size + 1 + 1, 0, none⟩), .pointer (some ⟨w.heap.size + 1 + 1 + 1, 0, none⟩), .string (bs x), undef, undef, .string (bs s), .int .i64 (bs s).size, .bool (decide ((131072 : Int) < ((bs s).size : Int))), undef, .string (bs s), .func (.func 44) #[] #[.pointer (some ⟨w.heap.size + 4, 0, none⟩)], .string (bs x), undef, undef, undef, undef, undef, undef, undef, undef, undef, undef, undef, undef, undef, undef, undef, undef, undef, undef, undef, undef, undef, undef, undef, undef, undef, undef, undef, undef, undef, undef, undef, undef, undef], defers := [] }) ?assign ?body ?done ?stop
  case h0 => exact ⟨none, 0, [], rfl, b0, b1, b2, b3, OwnP.nil _ _, hF0.mono (fun _ h => h.elim)⟩
  case assign =>
    intro l x W K hK
    gi_wp2
    exact hK
  case body =>
    intro l pre x rest W hpr hWs hS
    obtain ⟨A, c, L, r1, p0, p1, p2, p3, ho, hF⟩ := hS
    have hok := okS_bounds (run_ok (show okS [] from .inl rfl) r1).1
    have hpl : pre.length + x.length ≤ s.length := lns_pre hpr
    have hFT : Fr (fun k => k = w.heap.size + 1 + 1) W (W.setCell ⟨w.heap.size + 1 + 1, 0, none⟩ (.int .i64 ((pre.length : Int) + 1))) := Fr.setCell _ _ _ rfl
    have HPUT := hid (put_any' _ (ht.keep (hF.trans (hFT.mono (fun k hk => by show w.heap.size ≤ k; omega))) (fun k hk h => by have := ht.two; have : w.heap.size ≤ k := h; omega)) (w.heap.size + 7) A c L x (by omega)
      (ho.keep hFT (fun j hj _ => by show ¬ j = w.heap.size + 1 + 1; omega)) (by have := hFT.size; omega) (by simpa using hok.1) (fun y hy => hok.2 _ (List.mem_map.2 ⟨y, hy, rfl⟩)))
    have HFT := hid hFT
    have c1 : W.cell? ⟨w.heap.size + 1, 0, none⟩ = some (.slice A L.length c) := p1.cell rfl
    have c2 : W.cell? ⟨w.heap.size + 1 + 1, 0, none⟩ = some (.int .i64 (pre.length : Int)) := p2.cell rfl
    have z2 : W.frozen? ⟨w.heap.size + 1 + 1, 0, none⟩ = false := p2.frozen 0
    have zw : wrap64 ((pre.length : Int) + 1) = (pre.length : Int) + 1 := by unfold wrap64; omega
    have HF := hid hF
    have HP0 := hid p0
    have HP1 := hid p1
    have HP2 := hid p2
    have HP3 := hid p3
    have HO := hid ho
    have HR := hid r1
    have HK := hid hok
    have HPL := hid hpl
    have HWS := hid hWs
    have HS := hid hs
    have HT := hid ht
    clear hF p0 p1 p2 p3 ho r1 hok hpl hFT hWs hs ht hpr b0 b1 b2 b3 b4 hF0 HZ0
    gi_wp2
    refine ⟨trivial, (CallsIn.inRound l (callsIn_wide.2 HPUT.out)).mono ?_⟩
    rintro e W2 ⟨A2, c2, L2, rfl, q1, q2, q3, q4⟩
    have hno : ∀ k, k < w.heap.size + 7 → ¬ progB A L k := fun k hk h => by have := (HO.out.len k h).1; omega
    have y1 : Blk W2 (w.heap.size + 1) _ := (HP1.out.keep HFT.out (by omega)).keep q3 (hno _ (by omega))
    have y2 : Blk W2 (w.heap.size + 1 + 1) _ := (HP2.out.set 0 (.int .i64 ((pre.length : Int) + 1))).keep q3 (hno _ (by omega))
    have y3 : Blk W2 (w.heap.size + 1 + 1 + 1) _ := (HP3.out.keep HFT.out (by omega)).keep q3 (hno _ (by omega))
    have y0 : Blk W2 w.heap.size _ := (HP0.out.keep HFT.out (by omega)).keep q3 (hno _ (by omega))
    have d1 : W2.cell? ⟨w.heap.size + 1, 0, none⟩ = some (.slice A L.length c) := y1.cell rfl
    have d3 : W2.cell? ⟨w.heap.size + 1 + 1 + 1, 0, none⟩ = some (.int .i64 0) := y3.cell rfl
    have z1 : W2.frozen? ⟨w.heap.size + 1, 0, none⟩ = false := y1.frozen 0
    have z3 : W2.frozen? ⟨w.heap.size + 1 + 1 + 1, 0, none⟩ = false := y3.frozen 0
    have HQ1 := hid q1
    have HQ2 := hid q2
    have HQ3 := hid q3
    have HQ4 := hid q4
    have HY0 := hid y0
    have HY1 := hid y1
    have HY2 := hid y2
    have HY3 := hid y3
    obtain ⟨er, her⟩ : ∃ er, (putL (L.map (·.f)) x).2 = er := ⟨_, rfl⟩
    rw [her]
    have HER := hid her
    clear q1 q2 q3 q4 y0 y1 y2 y3 her hno
    gi_wp2
    · rename_i hx
      obtain rfl : er = 0 := eq_of_beq hx
      have hrun := runL_snoc HR.out x
      rw [HER.out, if_pos rfl, ← HQ1.out] at hrun
      have hF3 : Fr (fun k => k = w.heap.size + 1) W2 (W2.setCell ⟨w.heap.size + 1, 0, none⟩ (.slice A2 L2.length c2)) := Fr.setCell _ _ _ rfl
      refine ⟨parse_still HFT.out HQ3.out hF3 (fun k hk => (HO.out.len k hk).1) trivial (.inl rfl) hD, A2, c2, L2, ?_, HY0.out.keep hF3 (by omega), HY1.out.set 0 _, ?_, HY3.out.keep hF3 (by omega), HQ2.out.keep hF3 (fun j hj _ h => by have h : j = w.heap.size + 1 := h; omega), ?_⟩
      · rw [hrun]; simp
      · have := HY2.out.keep hF3 (show ¬ w.heap.size + 1 + 1 = w.heap.size + 1 by omega)
        simpa using this
      · exact parse_fr HF.out HFT.out HQ3.out hF3 (fun k hk => (HO.out.len k hk).1) (.inl rfl)
    · rename_i hx
      have hx0 : er ≠ 0 := fun h => by rw [h] at hx; simp at hx
      have hrun := runL_snoc HR.out x
      rw [HER.out, if_neg hx0] at hrun
      have hF3 : Fr (fun k => k = w.heap.size + 1 + 1 + 1) W2 (W2.setCell ⟨w.heap.size + 1 + 1 + 1, 0, none⟩ (.int .i64 er)) := Fr.setCell _ _ _ rfl
      refine ⟨parse_still HFT.out HQ3.out hF3 (fun k hk => (HO.out.len k hk).1) trivial (.inr rfl) hD, rfl, pre.length + 1, er, hx0, hrun, HY0.out.keep hF3 (by omega), ⟨_, _, _, HY1.out.keep hF3 (by omega)⟩, ?_, HY3.out.set 0 _, ?_⟩
      · have := HY2.out.keep hF3 (show ¬ w.heap.size + 1 + 1 = w.heap.size + 1 + 1 + 1 by omega)
        simpa using this
      · exact parse_fr HF.out HFT.out HQ3.out hF3 (fun k hk => (HO.out.len k hk).1) (.inr rfl)
  case done =>
    intro W hS hK
    obtain ⟨A, c, L, r1, p0, p1, p2, p3, ho, hF⟩ := hS
    have hok := okS_bounds (run_ok (show okS [] from .inl rfl) r1).1
    have hpl : (lns s).length ≤ s.length := lns_len s
    have c1 : W.cell? ⟨w.heap.size + 1, 0, none⟩ = some (.slice A L.length c) := p1.cell rfl
    have c2 : W.cell? ⟨w.heap.size + 1 + 1, 0, none⟩ = some (.int .i64 ((lns s).length : Int)) := p2.cell rfl
    have z2 : W.frozen? ⟨w.heap.size + 1 + 1, 0, none⟩ = false := p2.frozen 0
    have c3 : W.cell? ⟨w.heap.size + 1 + 1 + 1, 0, none⟩ = some (.int .i64 0) := p3.cell rfl
    have z3 : W.frozen? ⟨w.heap.size + 1 + 1 + 1, 0, none⟩ = false := p3.frozen 0
    have zw : wrap64 (((lns s).length : Int) + 1) = ((lns s).length : Int) + 1 := by unfold wrap64; omega
    have c0 : W.cell? ⟨w.heap.size, 0, none⟩ = some (.slice none 0 0) := p0.cell rfl
    have z0 : W.frozen? ⟨w.heap.size, 0, none⟩ = false := p0.frozen 0
    obtain ⟨n, hn⟩ : ∃ n, (lns s).length = n := ⟨_, rfl⟩
    rw [hn] at c2 zw hpl
    have HE := hid (show prs s = endL (L.map (·.f), n, 0) by unfold prs; rw [if_neg (by omega), r1, hn])
    have HB := hid (bare_any W (w.heap.size + 7) A c L.length L ho rfl (by have := hok.1; rw [List.length_map] at this; omega))
    have HF := hid hF
    have HO := hid ho
    have HP0 := hid p0
    have HKK := hid hK
    clear p0 p1 p2 p3 ho hF r1 hpl hok hn hK b0 b1 b2 b3 b4 hF0 HZ0 ht hs
    gi_wp2
    · obtain rfl : L = [] := by first | assumption | exact List.eq_nil_of_length_eq_zero (by assumption)
      have HQ := hid (show prs s = ([], n + 1, 12) by rw [HE.out]; rfl)
      refine ⟨trivial, ?_⟩
      gi_wp2
      gi_region
      all_goals gi_wp2
      all_goals
        have hF3 : Fr (fun k => k = w.heap.size ∨ k = w.heap.size + 1 + 1 ∨ k = w.heap.size + 1 + 1 + 1) W _ := ((((Fr.setCell _ ⟨w.heap.size + 1 + 1, 0, none⟩ (.int .i64 ((n : Int) + 1)) (.inr (.inl rfl))).trans (Fr.setCell _ ⟨w.heap.size + 1 + 1 + 1, 0, none⟩ (.int .i64 12) (.inr (.inr rfl)))).trans (Fr.setCell _ ⟨w.heap.size, 0, none⟩ (.slice none 0 0) (.inl rfl))).trans (Fr.drew _ _))
        exact ps_end (v := .tuple #[.agg #[.slice none 0 0], .int .i64 ((n + 1 : Nat) : Int), .int .i64 12]) HF.out hF3 (fun k hk => by omega) (HKK.out) hD (((HP0.out.far _ _ (by omega)).far _ _ (by omega)).set 0 _).drew (fun W' hc => by (simp [results, Tryz.f10, go_sem, hc]; try rfl)) (fun W' _ hF => (PsPost.bad rfl hF).eq HQ.out)
    · refine ⟨trivial, (callsIn_wide.2 HB.out).mono ?_⟩
      rintro e w1 ⟨rfl, rfl⟩
      have hL : ¬ L = [] := by assumption
      have tL : ((L.length : Int) == 0) = false := beq_eq_false_iff_ne.2 (fun h => hL (List.eq_nil_of_length_eq_zero (by omega)))
      obtain ⟨b, hb⟩ : ∃ b, bare (L.map (·.f)) = b := ⟨_, rfl⟩
      rw [hb]
      have HBB := hid hb
      have HLL := hid hL
      clear hb hL
      cases b with
      | true =>
        gi_wp2
        have HQ := hid (show prs s = ([], n + 1, 12) by rw [HE.out]; unfold endL; rw [if_neg (by simp), if_pos (.inr HBB.out)])
        gi_region
        all_goals gi_wp2
        all_goals
          have hF3 : Fr (fun k => k = w.heap.size ∨ k = w.heap.size + 1 + 1 ∨ k = w.heap.size + 1 + 1 + 1) W _ := ((((Fr.setCell _ ⟨w.heap.size + 1 + 1, 0, none⟩ (.int .i64 ((n : Int) + 1)) (.inr (.inl rfl))).trans (Fr.setCell _ ⟨w.heap.size + 1 + 1 + 1, 0, none⟩ (.int .i64 12) (.inr (.inr rfl)))).trans (Fr.setCell _ ⟨w.heap.size, 0, none⟩ (.slice none 0 0) (.inl rfl))).trans (Fr.drew _ _))
          exact ps_end (v := .tuple #[.agg #[.slice none 0 0], .int .i64 ((n + 1 : Nat) : Int), .int .i64 12]) HF.out hF3 (fun k hk => by omega) (HKK.out) hD (((HP0.out.far _ _ (by omega)).far _ _ (by omega)).set 0 _).drew (fun W' hc => by (simp [results, Tryz.f10, go_sem, hc]; try rfl)) (fun W' _ hF => (PsPost.bad rfl hF).eq HQ.out)
      | false =>
        have HQ := hid (show prs s = (L.map (·.f), 0, 0) by rw [HE.out]; unfold endL; rw [if_neg (by simp), if_neg (by rw [HBB.out]; exact fun h => h.elim (fun h => HLL.out (List.map_eq_nil_iff.1 h)) (fun h => by cases h))])
        gi_wp2
        have hF3 : Fr (fun k => k = w.heap.size) W _ := Fr.setCell W ⟨w.heap.size, 0, none⟩ (.slice A L.length c) rfl
        exact ps_end (v := .tuple #[.agg #[.slice A L.length c], .int .i64 0, .int .i64 0]) HF.out hF3 (fun k hk => by omega) (HKK.out) hD (HP0.out.set 0 _) (fun W' hc => by (simp [results, Tryz.f10, go_sem, hc]; try rfl))
          (fun W' hW hF => PsPost.eq ⟨A, c, L, rfl, rfl, (HO.out.keep hW (fun j hj _ h => by have := h.2; omega)).less (by omega), hF⟩ HQ.out)
  case stop =>
    rintro id pre x post W hpr ⟨rfl, hS⟩ hK
    obtain ⟨at_, er, hx, r1, p0, ⟨A, c, n, p1⟩, p2, p3, hF⟩ := hS
    have c2 : W.cell? ⟨w.heap.size + 1 + 1, 0, none⟩ = some (.int .i64 (at_ : Int)) := p2.cell rfl
    have c3 : W.cell? ⟨w.heap.size + 1 + 1 + 1, 0, none⟩ = some (.int .i64 er) := p3.cell rfl
    have c0 : W.cell? ⟨w.heap.size, 0, none⟩ = some (.slice none 0 0) := p0.cell rfl
    have z0 : W.frozen? ⟨w.heap.size, 0, none⟩ = false := p0.frozen 0
    have HQ := hid (show prs s = ([], at_, er) by unfold prs; rw [if_neg (by omega), hpr, show pre ++ x :: post = (pre ++ [x]) ++ post by simp, runL_stop r1 hx]; unfold endL; rw [if_pos hx])
    have t : (er == 0) = false := beq_eq_false_iff_ne.2 hx
    have HF := hid hF
    have HKK := hid hK
    have HP0 := hid p0
    clear hx r1 p0 p1 p2 p3 hF hK b0 b1 b2 b3 b4 hF0 HZ0 ht hs hpr
    gi_wp2
    · exact absurd (by assumption : some undef = some (Value.bool _)) (by intro h; cases h)
    · exact absurd (by assumption : some undef = some (Value.bool _)) (by intro h; cases h)
    · refine ⟨trivial, ?_⟩
      gi_wp2
      gi_region
      all_goals gi_wp2
      all_goals
        have hF3 : Fr (fun k => k = w.heap.size ∨ k = w.heap.size + 1 + 1 ∨ k = w.heap.size + 1 + 1 + 1) W _ := ((Fr.setCell _ ⟨w.heap.size, 0, none⟩ (.slice none 0 0) (.inl rfl)).trans (Fr.drew _ _))
        exact ps_end (v := .tuple #[.agg #[.slice none 0 0], .int .i64 (at_ : Int), .int .i64 er]) HF.out hF3 (fun k hk => by omega) (HKK.out) hD (HP0.out.set 0 _).drew (fun W' hc => by (simp [results, Tryz.f10, go_sem, hc]; try rfl)) (fun W' _ hF => (PsPost.bad rfl hF).eq HQ.out)

/-- asm.Parse, at every text of at most a million bytes. -/
theorem parse_any (s : Bs) (hs : s.length ≤ 1000000) (w : World) (ht : Tabs w) : Calls Tryz.prog 10 #[.string (bs s)] w (PsPost w (prs s)) := by
  by_cases h : 131072 < s.length
  · exact parse_long s h hs w
  · exact parse_main s (by omega) w ht

end Go.Proofs.YtepbnneggpcbcaaGreatDoor
