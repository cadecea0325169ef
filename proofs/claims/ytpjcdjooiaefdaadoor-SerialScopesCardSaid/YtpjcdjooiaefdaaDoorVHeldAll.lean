/-
  check.Held whole.
-/
import Derived.Test.YtpjcdjooiaefdaaDoorVHeldA
import Derived.Test.YtpjcdjooiaefdaaDoorVHeldStep
namespace Go.Proofs.YtpjcdjooiaefdaaDoor
open Go.RowKit Go.Shelf
attribute [local go_sem] Oper.semAt_some
set_option linter.unusedVariables false

theorem held_pass (w : World) (f : Fn) (A : Option Addr) (n c g bh : Nat) (hn : f.code.length = n) (h1 : 1 ≤ n) (h2 : n ≤ 1000) (hg : w.heap.size < g) (hgb : g < bh) (hcod : Cod w w.heap.size A f.code) (d : Nat) (a : Act) (W : World) (hJ : HJ w f A n c g bh d a W) :
    heldRest.wp Tryd.prog (Exit.jump 0 (fun a' w' => ∃ d', d' < d ∧ HJ w f A n c g bh d' a' w') (bodyPostM Fence.wide 8 Tryd.prog Tryd.f43 (HeldPost w f))) a W := by
  have hJ' := hJ
  unfold HJ at hJ'
  obtain ⟨H, T, AT, cap, ds, u5, u6, u7, u8, u9, u10, u11, u12, u13, u14, u15, u16, u17, u18, u19, u20, u21, u22, u23, u24, u25, u26, u27, u28, u29, u30, u31, u32, u33, u34, u35, u36, u37, u38, u39, u40, u41, u42, u43, u44, u45, u46, u47, u48, u49, u50, u51, u52, u53, u54, u55, u56, u57, u58, u59, u60, u61, u62, u63, u64, u65, u66, u67, u68, u69, u70, u71, u72, u73, _, _, _, hm, _, _, _, _⟩ := hJ'
  have ct := hm.tb.blk.cell (i := 0) rfl
  simp only [List.getElem_toArray, List.getElem_cons_zero] at ct
  by_cases hT : T.length = 0
  · refine held_zero w f A n c g bh hn h1 h2 hg hgb hcod d a W hJ fun m A' c' h => ?_
    rw [ct] at h
    injection h with h
    injection h with _ h _
    omega
  · refine held_step w f A n c g bh hn h1 h2 hg hgb hcod d a W hJ fun m A' c' h => ?_
    rw [ct] at h
    injection h with h
    injection h with _ h _
    omega

/-- What holds when Held comes to its label first. -/
theorem hj_first (w : World) (f : Fn) (A : Option Addr) (n c g nd : Nat) (w2 : World) (hn : f.code.length = n) (hnd : nd = low f.needs) (h1 : 1 ≤ n) (h2 : n ≤ 1000) (hg : w.heap.size < g) (hgl : g < w2.heap.size)
    (hb : TBlk w2 w.heap.size #[.int .i64 f.needs, .slice A n c] 40) (hrow : TBlk w2 g (ints (List.replicate n 255)).toArray 3) (hF : Fr (fun _ => False) w w2) (u5 u6 u7 u8 u9 u10 u11 u12 u13 u14 u15 u16 u17 u18 u19 u20 u21 u22 u23 u24 u25 u26 u27 u28 u29 u30 u31 u32 u33 u34 u35 u36 u37 u38 u39 u40 u41 u42 u43 u44 u45 u46 u47 u48 u49 u50 u51 u52 u53 u54 u55 u56 u57 u58 u59 u60 u61 u62 u63 u64 u65 u66 u67 u68 u69 u70 u71 u72 u73 : Value) :
    HJ w f A n c g w2.heap.size (2 * ((List.replicate n 255).set 0 nd).sum + 1) { tmps := #[.agg #[.int .i64 f.needs, .slice A n c], .pointer (some ⟨w.heap.size, 0, none⟩), .slice none 0 0, .pointer (some ⟨w2.heap.size, 0, none⟩), .pointer (some ⟨w2.heap.size + 1 + 1, 0, none⟩), u5, u6, u7, u8, u9, u10, u11, u12, u13, u14, u15, u16, u17, u18, u19, u20, u21, u22, u23, u24, u25, u26, u27, u28, u29, u30, u31, u32, u33, u34, u35, u36, u37, u38, u39, u40, u41, u42, u43, u44, u45, u46, u47, u48, u49, u50, u51, u52, u53, u54, u55, u56, u57, u58, u59, u60, u61, u62, u63, u64, u65, u66, u67, u68, u69, u70, u71, u72, u73], defers := [] }
      ((((w2.setCell ⟨g, 0, none⟩ (.int .i64 (nd : Nat))).alloc (.cells #[.slice (some ⟨g, 0, none⟩) n n] 80)).alloc (.cells #[.int .i64 0] 3)).alloc (.cells #[.slice (some ⟨w2.heap.size + 1, 0, none⟩) 1 1] 80)) := by
  obtain ⟨w3, hw3⟩ : ∃ w3, w3 = w2.setCell ⟨g, 0, none⟩ (.int .i64 (nd : Nat)) := ⟨_, rfl⟩
  have hz3 : w3.heap.size = w2.heap.size := by rw [hw3]; simp [World.setCell]
  have hF3 : Fr (fun k => k = g) w2 w3 := by rw [hw3]; exact Fr.setCell _ _ _ rfl
  rw [← hw3]
  obtain ⟨w4, hw4⟩ : ∃ w4, w4 = w3.alloc (.cells #[.slice (some ⟨g, 0, none⟩) n n] 80) := ⟨_, rfl⟩
  have hF4 : Fr (fun _ => False) w3 w4 := by rw [hw4]; exact Fr.alloc _ _ _
  have hz4 : w4.heap.size = w2.heap.size + 1 := by rw [hw4]; simp [hz3]
  have hb4 : TBlk w4 w2.heap.size #[.slice (some ⟨g, 0, none⟩) n n] 80 := by rw [hw4]; exact (TBlk.new _ _ _).at hz3
  rw [← hw4]
  obtain ⟨w5, hw5⟩ : ∃ w5, w5 = w4.alloc (.cells #[.int .i64 0] 3) := ⟨_, rfl⟩
  have hF5 : Fr (fun _ => False) w4 w5 := by rw [hw5]; exact Fr.alloc _ _ _
  have hz5 : w5.heap.size = w2.heap.size + 1 + 1 := by rw [hw5]; simp [hz4]
  have hb5 : TBlk w5 (w2.heap.size + 1) #[.int .i64 0] 3 := by rw [hw5]; exact (TBlk.new _ _ _).at hz4
  rw [← hw5]
  obtain ⟨w6, hw6⟩ : ∃ w6, w6 = w5.alloc (.cells #[.slice (some ⟨w2.heap.size + 1, 0, none⟩) 1 1] 80) := ⟨_, rfl⟩
  have hF6 : Fr (fun _ => False) w5 w6 := by rw [hw6]; exact Fr.alloc _ _ _
  have hb6 : TBlk w6 (w2.heap.size + 1 + 1) #[.slice (some ⟨w2.heap.size + 1, 0, none⟩) 1 1] 80 := by rw [hw6]; exact (TBlk.new _ _ _).at hz5
  rw [← hw6]
  have hF36 : Fr (fun _ => False) w3 w6 := hF4.trans (hF5.trans hF6)
  have hF26 : Fr (fun k => k = g) w2 w6 := hF3.trans (hF36.mono (fun _ h => h.elim))
  have hr3 : TBlk w3 g (rowHeld ((List.replicate n 255).set 0 nd)) 3 := by
    rw [hw3, ← rowOf_set]
    have e : (ints (List.replicate n 255)).toArray = rowHeld (List.replicate n 255) := by unfold rowHeld natsI; simp [ints]
    rw [e] at hrow
    exact hrow.set 0 _
  have hi : HInv f (fun i => i ∈ [0]) ((List.replicate n 255).set 0 nd) := by
    rw [hnd, ← hn]
    exact (HInv.begin_ f).mono (fun i h => by simp [h])
  have hsum := sum_le hi.lt
  rw [List.length_set, List.length_replicate] at hsum
  unfold HJ
  refine ⟨(List.replicate n 255).set 0 nd, [0], some ⟨w2.heap.size + 1, 0, none⟩, 1, [], u5, u6, u7, u8, u9, u10, u11, u12, u13, u14, u15, u16, u17, u18, u19, u20, u21, u22, u23, u24, u25, u26, u27, u28, u29, u30, u31, u32, u33, u34, u35, u36, u37, u38, u39, u40, u41, u42, u43, u44, u45, u46, u47, u48, u49, u50, u51, u52, u53, u54, u55, u56, u57, u58, u59, u60, u61, u62, u63, u64, u65, u66, u67, u68, u69, u70, u71, u72, u73, rfl, List.nodup_nil, fun d h => by simp at h, ⟨hb.keep hF26 (by omega), hb4.keep (hF5.trans hF6) (fun h => h), hb6, hr3.keep hF36 (fun h => h), ?_, (hF.mono (fun _ h => h.elim)).trans (hF26.mono (fun k h => by omega))⟩, hi, fun t ht => by simp at ht; omega, rfl, by omega⟩
  refine OwnR.keep (w := w5) (S := fun _ => False) ⟨by simp [ints, natsI], .inr ⟨w2.heap.size + 1, 1, #[.int .i64 0], rfl, Nat.le_refl _, hb5, by simp, by unfold maxLen; omega, by simp, by simp [ints, natsI]⟩⟩ hF6 (fun _ _ h => h)

def HJw (w : World) (f : Fn) (A : Option Addr) (n c : Nat) (d : Nat) (a : Act) (W : World) : Prop := ∃ g bh, w.heap.size < g ∧ g < bh ∧ HJ w f A n c g bh d a W

theorem held_passw (w : World) (f : Fn) (A : Option Addr) (n c : Nat) (hn : f.code.length = n) (h1 : 1 ≤ n) (h2 : n ≤ 1000) (hcod : Cod w w.heap.size A f.code) (d : Nat) (a : Act) (W : World) (hJ : HJw w f A n c d a W) :
    heldRest.wp Tryd.prog (Exit.jump 0 (fun a' w' => ∃ d', d' < d ∧ HJw w f A n c d' a' w') (bodyPostM Fence.wide 8 Tryd.prog Tryd.f43 (HeldPost w f))) a W := by
  obtain ⟨g, bh, hg, hgb, hJ⟩ := hJ
  refine wp_mono (held_pass w f A n c g bh hn h1 h2 hg hgb hcod d a W hJ) fun e a' w' h => ?_
  cases e with
  | goto l' =>
    obtain ⟨e1, d', hd', h⟩ := h
    exact ⟨e1, d', hd', g, bh, hg, hgb, h⟩
  | normal => exact h
  | exit id => exact h
  | ret => exact h
  | panic ch => exact h
  | outgrown => exact h

set_option maxRecDepth 100000 in
set_option maxHeartbeats 4000000 in
theorem held_pos (f : Fn) (A : Option Addr) (n c : Nat) (w : World) (hn : f.code.length = n) (h1 : 1 ≤ n) (h2 : n ≤ 1000) (hcod : Cod w w.heap.size A f.code) :
    Calls Tryd.prog 43 #[.agg #[.int .i64 f.needs, .slice A n c]] w (HeldPost w f) := by
  have HN := hid hn
  have HC := hid hcod
  clear hn hcod
  refine (callsIn_wide (n := 8)).1 ?_
  refine callsIn_of_wp_marks Tryd.func43 rfl trivial ?_ rfl
  refine wpIn_wide.2 ?_
  simp only [Tryd.ntmps43, List.size_toArray, List.length_cons, List.length_nil, Nat.reduceAdd, Nat.reduceSub, Array.replicate_succ, Array.replicate_zero, List.push_toArray, List.append_toArray, List.nil_append, List.cons_append]
  go_wp2_with fail
  refine wp_scope_ghost (rest := .seq .skip heldRest) 0 (HJw w f A n c) rfl (fun d a W h => wp_seq (wp_skip (held_passw w f A n c HN.out h1 h2 HC.out d a W h))) ?_
  intro _
  have weak : ∀ d a W, HJw w f A n c d a W → heldRest.wp Tryd.prog (Exit.jump 0 (fun a' w' => ∃ d', HJw w f A n c d' a' w') (bodyPostM Fence.wide 8 Tryd.prog Tryd.f43 (HeldPost w f))) a W := by
    intro d a W h
    refine wp_mono (held_passw w f A n c HN.out h1 h2 HC.out d a W h) fun e a' w' h => ?_
    cases e with
    | goto l' =>
      obtain ⟨e1, d', _, h⟩ := h
      exact ⟨e1, d', h⟩
    | normal => exact h
    | exit id => exact h
    | ret => exact h
    | panic ch => exact h
    | outgrown => exact h
  generalize hQ : Exit.jump 0 (fun a' w' => ∃ d', HJw w f A n c d' a' w') (bodyPostM Fence.wide 8 Tryd.prog Tryd.f43 (HeldPost w f)) = Q
  rw [hQ] at weak
  clear hQ
  have WK := hid weak
  clear weak
  have hb0 := TBlk.new w #[.int .i64 f.needs, .slice A n c] 40
  go_wp2_with fail
  obtain ⟨w1, hw1⟩ : ∃ w1, w1 = (w.alloc (.cells #[.int .i64 f.needs, .slice A n c] 40)).alloc (.cells #[.int .i64 255] 3) := ⟨_, rfl⟩
  have hF1 : Fr (fun _ => False) w w1 := by rw [hw1]; exact (Fr.alloc _ _ _).trans (Fr.alloc _ _ _)
  have hb1 : TBlk w1 w.heap.size #[.int .i64 f.needs, .slice A n c] 40 := by rw [hw1]; exact hb0.keep (Fr.alloc (fun _ => False) _ _) (fun h => h)
  have hc1 : w1.cell? ⟨w.heap.size + 1, 0, none⟩ = some (.int .i64 255) := by
    rw [hw1]
    exact ((Blk.new _ _ _).at (by simp)).cell (i := 0) rfl
  have hs1 : w1.heap.size = w.heap.size + 2 := by rw [hw1]; simp
  rw [← hw1]
  clear hw1 hb0
  refine (repeat_pos (w.heap.size + 1) 255 n w1 (by omega) hc1 h1 h2).mono ?_
  rintro e w2 ⟨g, rfl, hg, hrow, hF2⟩
  have hb2 := hb1.keep hF2 (fun h => h)
  have hgl := hrow.blk.lt
  have hs2 := hF2.size
  have HROW := hid hrow
  have HB2 := hid hb2
  have HF := hid (hF1.trans hF2)
  have p0 := hb2.blk.cell (i := 0) rfl
  simp only [List.getElem_toArray, List.getElem_cons_zero] at p0
  have z0 := hrow.blk.frozen 0
  have r0 : w2.cell? ⟨g, 0, none⟩ = some (.int .i64 255) := hrow.blk.cell (by simp [ints, show 0 < n by omega])
  have n0 : ((n : Int) == 0) = false := by rw [beq_eq_false_iff_ne]; omega
  have e1 := and_all f.needs
  rw [← low_cast] at e1
  obtain ⟨nd, hnd⟩ : ∃ nd, nd = low f.needs := ⟨_, rfl⟩
  rw [← hnd] at e1
  have HND := hid hnd
  have hwl : w.heap.size < w2.heap.size := by omega
  clear hF1 hF2 hb1 hb2 hrow hc1 hnd
  go_wp2_with fail
  refine wp_label ?_
  simp only [Exit.then]
  rename_i hK
  refine hK _ _ ?_
  refine WK.out (2 * ((List.replicate n 255).set 0 nd).sum + 1) _ _ ⟨g, w2.heap.size, by omega, hgl, ?_⟩
  exact hj_first w f A n c g nd w2 HN.out HND.out h1 h2 (by omega) hgl HB2.out HROW.out HF.out _ _ _ _ _ _ _ _ _ _ _ _ _ _ _ _ _ _ _ _ _ _ _ _ _ _ _ _ _ _ _ _ _ _ _ _ _ _ _ _ _ _ _ _ _ _ _ _ _ _ _ _ _ _ _ _ _ _ _ _ _ _ _ _ _ _ _ _ _

theorem held_nil (f : Fn) (A : Option Addr) (c : Nat) (w : World) (hn : f.code.length = 0) : Calls Tryd.prog 43 #[.agg #[.int .i64 f.needs, .slice A 0 c]] w (HeldPost w f) := by
  have HN := hid hn
  clear hn
  obtain ⟨w1, hw1⟩ : ∃ w1, w1 = (w.alloc (.cells #[.int .i64 f.needs, .slice A 0 c] 40)).alloc (.cells #[.int .i64 255] 3) := ⟨_, rfl⟩
  have HF := hid (show Fr (fun _ => False) w w1 by rw [hw1]; exact (Fr.alloc _ _ _).trans (Fr.alloc _ _ _))
  go_enter Tryd.func43, Tryd.ntmps43
  go_wp2_with fail
  refine wp_scope_ghost (rest := .seq .skip heldRest) 0 (fun _ _ _ => False) rfl (fun _ _ _ h => h.elim) ?_
  intro _
  go_wp2_with fail
  rw [← hw1]
  refine (repeat_zero (w.heap.size + 1) w1).mono ?_
  rintro e w2 ⟨g, rfl, hF2⟩
  have HF2 := hid hF2
  clear hF2 hw1
  go_wp2_with fail
  refine bodyPost_ret (v := .slice none 0 0) (by simp [results, Tryd.results43, go_sem]; try rfl) rfl ⟨none, 0, 0, rfl, by rw [natsI_len, heldL_len, HN.out], fun h => by rw [natsI_len, heldL_len, HN.out] at h; omega, (HF.out.trans HF2.out).trans (Fr.alloc _ _ _)⟩

theorem held_any (f : Fn) (A : Option Addr) (n c : Nat) (w : World) (hn : f.code.length = n) (h2 : n ≤ 1000) (hcod : Cod w w.heap.size A f.code) :
    Calls Tryd.prog 43 #[.agg #[.int .i64 f.needs, .slice A n c]] w (NumPost w (natsI (heldL f))) := by
  rcases Nat.eq_zero_or_pos n with h | h
  · subst h
    exact held_nil f A c w hn
  · exact held_pos f A n c w hn h h2 hcod

end Go.Proofs.YtpjcdjooiaefdaaDoor
