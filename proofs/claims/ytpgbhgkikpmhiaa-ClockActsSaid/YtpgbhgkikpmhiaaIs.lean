/-
  The program's clock beside the document's: is (walk); a pair of them.
-/
import Derived.Test.YtpgbhgkikpmhiaaRv
namespace Go.Proofs.Ytpgbhgkikpmhiaa
open Go.RowKit
set_option linter.unusedVariables false

section
variable {c r : Nat} {now : Int} {O Q : Nat → Prop} {T : List Due} (w : World)

set_option maxRecDepth 100000 in
set_option maxHeartbeats 1600000 in
theorem is_ok (h : Ckm w O c now T) (g : Rkm w Q r now T) (hs : T.length < 50000) : Calls Try.prog 9 #[.pointer (some ⟨c, 0, none⟩), .pointer (some ⟨r, 0, none⟩)] w fun e w' => e = .returned (.bool true) ∧ Fr (fun _ => False) w w' := by
  obtain ⟨A2, cap2, L2, k1, k2, k3⟩ := g.ex
  have HFG := hid (fun (W : World) (F : Fr (fun _ => False) w W) => r_first W (k1.same F) k2 h.srt (h.ids.perm k2.symm) (by rw [k2.length_eq]; omega))
  have HH := hid h
  have HNX := hid (ck_next w h)
  have HK := hid k1
  have HP2 := hid k2
  have HIDS := hid h.ids
  have HNW := hid (fun (W : World) (F : Fr (fun _ => False) w W) => ck_now W (h.same F))
  have HLN := hid (fun (W : World) (F : Fr (fun _ => False) w W) => ck_len W (h.same F))
  obtain ⟨q, hq⟩ : ∃ q, L2.length = q := ⟨_, rfl⟩
  have hqT : T.length = q := by rw [← k2.length_eq, hq]
  rw [hqT] at HLN
  have HQ := hid hq
  have t1 : (now != now) = false := by simp
  have t2 : ((q : Int) != (q : Int)) = false := by simp
  have HCC := hid (show ∀ W, Fr (fun _ => False) w W → W.cell? ⟨r, 0, none⟩ = some (.int .i64 now) ∧ W.cell? ⟨r, 1, none⟩ = some (.slice A2 q cap2) ∧ r < W.heap.size from fun W F => ⟨(k1.same F).hc.cell rfl, hq ▸ (k1.same F).hc.cell (i := 1) rfl, (k1.same F).hc.lt⟩)
  clear h g k1 k3 hq hqT hs
  cases T with
  | nil =>
    obtain ⟨fi, hfi⟩ : ∃ x, firstI L2 [] = x := ⟨_, rfl⟩
    have u0 : decide ((0 : Int) ≤ fi) = false := by rw [← hfi]; rfl
    have u1 : fi < 0 := by rw [← hfi]; exact (by decide : (-1 : Int) < 0)
    rw [hfi] at HFG
    have e1 : headA [] = 0 := rfl
    have e2 : headI [] = 0 := rfl
    have e3 : (!([] : List Due).isEmpty) = false := rfl
    rw [e1, e2, e3] at HNX
    clear hfi k2 e1 e2 e3
    go_enter Try.func9, Try.ntmps9
    go_wp2_with fail
    refine HNX.out.mono ?_
    rintro e w1 ⟨rfl, hF1⟩
    have HF1 := hid hF1
    clear hF1
    go_wp2_with fail
    refine (HFG.out w1 HF1.out).mono ?_
    rintro e w2 ⟨rfl, n2, hw2⟩
    have HF2 := hid (show Fr (fun _ => False) w w2 from hw2 ▸ HF1.out.trans (Fr.drewN _ _ _))
    obtain ⟨c0, c1, hl⟩ := HCC.out w2 HF2.out
    clear hw2
    go_upto_region 3 with fail
    go_quiet ((first
      | (go_at_call 21; exact ((HNW.out _ (HF2.out.trans (Fr.drewN _ _ _))).mono fun _ _ ⟨he, hm⟩ => ⟨he, _, hm.symm⟩))
      | (go_at_call 22; exact ((HLN.out _ (HF2.out.trans (Fr.drewN _ _ _))).mono fun _ _ ⟨he, hm⟩ => ⟨he, _, hm.symm⟩))))
    go_wp2_with fail
    go_ret
    exact ⟨rfl, HF2.out.trans (Fr.drewN _ _ _)⟩
  | cons x rest =>
    have hx2 : x ∈ L2 := k2.symm.subset (by simp)
    obtain ⟨i, hil, hix⟩ := mem_at hx2
    have hfi : firstI L2 (x :: rest) = (i : Nat) := by
      unfold firstI
      simp only
      rw [← hix, (idx_one (HIDS.out.perm k2.symm) hil).1]
    rw [hfi] at HFG
    obtain ⟨g, rfl, hg, -, hc⟩ := HK.out.gt hil
    have HCL := hid (fun W (F : Fr (fun _ => False) w W) => hc W F i hil)
    rw [hix] at HCL
    have hin : i < q := by rw [← HQ.out]; exact hil
    have hin2 : (i : Int) < (q : Int) := by omega
    have u0 : decide ((0 : Int) ≤ (i : Int)) = true := decide_eq_true (by omega)
    have u1 : ¬ (i : Int) < 0 := by omega
    obtain ⟨a, ia⟩ := x
    have e1 : headA ((a, ia) :: rest) = a := rfl
    have e2 : headI ((a, ia) :: rest) = ia := rfl
    have e3 : (!((a, ia) :: rest).isEmpty) = true := rfl
    rw [e1, e2, e3] at HNX
    have t5 : (a == a) = true := by simp
    have t6 : (ia == ia) = true := by simp
    clear hx2 hil hix hfi hc hg k2 e1 e2 e3
    go_enter Try.func9, Try.ntmps9
    go_wp2_with fail
    refine HNX.out.mono ?_
    rintro e w1 ⟨rfl, hF1⟩
    have HF1 := hid hF1
    clear hF1
    go_wp2_with fail
    refine (HFG.out w1 HF1.out).mono ?_
    rintro e w2 ⟨rfl, n2, hw2⟩
    have HF2 := hid (show Fr (fun _ => False) w w2 from hw2 ▸ HF1.out.trans (Fr.drewN _ _ _))
    obtain ⟨c0, c1, hl⟩ := HCC.out w2 HF2.out
    clear hw2
    go_upto_region 3 with fail
    go_quiet ((first
      | (go_at_call 21; exact ((HNW.out _ (HF2.out.trans (Fr.drewN _ _ _))).mono fun _ _ ⟨he, hm⟩ => ⟨he, _, hm.symm⟩))
      | (go_at_call 22; exact ((HLN.out _ (HF2.out.trans (Fr.drewN _ _ _))).mono fun _ _ ⟨he, hm⟩ => ⟨he, _, hm.symm⟩))))
    have HF3 := hid (HF2.out.trans (Fr.drewN (fun _ => False) w2 nq))
    obtain ⟨w3, hw3⟩ : ∃ w3, w2.drewN nq = w3 := ⟨_, rfl⟩
    rw [hw3] at HF3 ⊢
    clear hw3 c0 c1
    obtain ⟨c0, c1, hl⟩ := HCC.out w3 HF3.out
    obtain ⟨d0, d1⟩ := HCL.out w3 HF3.out
    go_wp2_with fail
    go_ret
    exact ⟨rfl, HF3.out⟩
end

/-! ### A pair -/

/-- The program's clock at c, the document's at r, within P. -/
structure Pair (w0 w : World) (P : Nat → Prop) (c : Nat) (now : Int) (T : List Due) (r : Nat) (now2 : Int) (T2 : List Due) : Prop where
  ex : ∃ O Q : Nat → Prop, Ckm w O c now T ∧ Rkm w Q r now2 T2 ∧ (∀ k, O k → ¬ Q k) ∧ (∀ k, O k → P k) ∧ (∀ k, Q k → P k)
  lo : ∀ k, P k → w0.heap.size ≤ k
  lt : ∀ k, P k → k < w.heap.size
  fr : Fr (fun _ => False) w0 w

section
variable {w0 w : World} {P : Nat → Prop} {c r : Nat} {now now2 : Int} {T T2 : List Due}

theorem Pair.keep (h : Pair w0 w P c now T r now2 T2) {w' : World} {S : Nat → Prop} (F : Fr S w w') (hs : ∀ k, P k → ¬ S k) (hl : ∀ k, S k → w0.heap.size ≤ k) : Pair w0 w' P c now T r now2 T2 := by
  obtain ⟨O, Q, h1, h2, h3, h4, h5⟩ := h.ex
  exact ⟨⟨O, Q, h1.keep F (fun k hk => hs k (h4 k hk)), h2.keep F (fun k hk => hs k (h5 k hk)), h3, h4, h5⟩, h.lo, fun k hk => Nat.lt_of_lt_of_le (h.lt k hk) F.size, h.fr.since F (fun k hk hl2 => by have := hl k hk; omega)⟩

theorem Pair.same (h : Pair w0 w P c now T r now2 T2) {w' : World} (F : Fr (fun _ => False) w w') : Pair w0 w' P c now T r now2 T2 := h.keep F (fun _ _ hh => hh) (fun _ hh => hh.elim)

/-- The program's clock has turned. -/
theorem Pair.turnC (h : Pair w0 w P c now T r now2 T2) {O Q O' : Nat → Prop} {w' : World} {now' : Int} {T' : List Due} (h2 : Rkm w Q r now2 T2) (h3 : ∀ k, O k → ¬ Q k) (h4 : ∀ k, O k → P k) (h5 : ∀ k, Q k → P k) (hC : Ckm w' O' c now' T') (F : Fr O w w') (hL : ∀ k, O' k → O k ∨ w.heap.size ≤ k) :
    Pair w0 w' (fun k => P k ∨ (w.heap.size ≤ k ∧ k < w'.heap.size)) c now' T' r now2 T2 := by
  have hs := h.fr.size
  refine ⟨⟨O', Q, hC, h2.keep F (fun k hk hk2 => h3 k hk2 hk), fun k hk hk2 => ?_, fun k hk => ?_, fun k hk => .inl (h5 k hk)⟩, ?_, ?_, h.fr.since F (fun k hk hl => by have := h.lo k (h4 k hk); omega)⟩
  · rcases hL k hk with h6 | h6
    · exact h3 k h6 hk2
    · have := h2.lt k hk2; omega
  · rcases hL k hk with h6 | h6
    · exact .inl (h4 k h6)
    · exact .inr ⟨h6, hC.lt k hk⟩
  · rintro k (hk | hk)
    · exact h.lo k hk
    · omega
  · rintro k (hk | hk)
    · exact Nat.lt_of_lt_of_le (h.lt k hk) F.size
    · exact hk.2

/-- The document's clock has turned. -/
theorem Pair.turnR (h : Pair w0 w P c now T r now2 T2) {O Q Q' : Nat → Prop} {w' : World} {now' : Int} {T' : List Due} (h2 : Ckm w O c now T) (h3 : ∀ k, O k → ¬ Q k) (h4 : ∀ k, O k → P k) (h5 : ∀ k, Q k → P k) (hC : Rkm w' Q' r now' T') (F : Fr Q w w') (hL : ∀ k, Q' k → Q k ∨ w.heap.size ≤ k) :
    Pair w0 w' (fun k => P k ∨ (w.heap.size ≤ k ∧ k < w'.heap.size)) c now T r now' T' := by
  have hs := h.fr.size
  refine ⟨⟨O, Q', h2.keep F (fun k hk hk2 => h3 k hk hk2), hC, fun k hk hk2 => ?_, fun k hk => .inl (h4 k hk), fun k hk => ?_⟩, ?_, ?_, h.fr.since F (fun k hk hl => by have := h.lo k (h5 k hk); omega)⟩
  · rcases hL k hk2 with h6 | h6
    · exact h3 k hk h6
    · have := h2.lt k hk; omega
  · rcases hL k hk with h6 | h6
    · exact .inl (h5 k h6)
    · exact .inr ⟨h6, hC.lt k hk⟩
  · rintro k (hk | hk)
    · exact h.lo k hk
    · omega
  · rintro k (hk | hk)
    · exact Nat.lt_of_lt_of_le (h.lt k hk) F.size
    · exact hk.2

/-- What a call on a pair leaves. -/
def PairPost (w0 : World) (P : Nat → Prop) (c : Nat) (now : Int) (T : List Due) (r : Nat) (now2 : Int) (T2 : List Due) (w w' : World) : Prop :=
  ∃ P', Pair w0 w' P' c now T r now2 T2 ∧ Fr P w w' ∧ ∀ k, P' k → P k ∨ w.heap.size ≤ k

theorem pr_is (h : Pair w0 w P c now T r now T) (hs : T.length < 50000) : Calls Try.prog 9 #[.pointer (some ⟨c, 0, none⟩), .pointer (some ⟨r, 0, none⟩)] w fun e w' => e = .returned (.bool true) ∧ Fr (fun _ => False) w w' := by
  obtain ⟨O, Q, h1, h2, h3, h4, h5⟩ := h.ex
  exact is_ok w h1 h2 hs

theorem pr_do (h : Pair w0 w P c now T r now2 T2) (d i n : Int) (hn0 : 0 ≤ now) (hn1 : now ≤ 1099511627776) (hs : T.length < 50000) :
    Calls Try.prog 12 #[.pointer (some ⟨c, 0, none⟩), .agg #[.int .i64 d, .int .i64 i, .int .i64 n]] w fun e w' => (∃ A cap, e = .returned (.tuple #[.slice A (actL d n now T).length cap, .bool (actB d i T), .int .i64 (actE d i n now T)]) ∧ OwnR w' w.heap.size 3 1 A (actL d n now T).length cap (intsV (actL d n now T))) ∧ PairPost w0 P c (actN d n now) (actT d i n now T) r now2 T2 w w' := by
  obtain ⟨O, Q, h1, h2, h3, h4, h5⟩ := h.ex
  refine (do_ok w d i n h1 hn0 hn1 (by omega)).mono ?_
  rintro e w' ⟨A, cap, O', he, hO, hC, hF, hL⟩
  exact ⟨⟨A, cap, he, hO⟩, _, h.turnC h2 h3 h4 h5 hC hF hL, hF.mono h4, fun k hk => hk.imp_right (fun h => h.1)⟩

theorem pr_rset (h : Pair w0 w P c now T r now2 T2) (i n : Int) (hn0 : 0 ≤ now2) (hn1 : now2 ≤ 1099511627776) (hs : T2.length < 50000) :
    Calls Try.prog 13 #[.pointer (some ⟨r, 0, none⟩), .int .i64 i, .int .i64 n] w fun e w' => e = .returned (.int .i64 (setE i n now2 T2)) ∧ PairPost w0 P c now T r now2 (setT i n now2 T2) w w' := by
  obtain ⟨O, Q, h1, h2, h3, h4, h5⟩ := h.ex
  refine (r_set w i n h2 hn0 hn1 hs).mono ?_
  rintro e w' ⟨he, Q', hC, hF, hL⟩
  exact ⟨he, _, h.turnR h1 h3 h4 h5 hC hF hL, hF.mono h5, fun k hk => hk.imp_right (fun h => h.1)⟩

theorem pr_rdrop (h : Pair w0 w P c now T r now2 T2) (i : Int) (hi : Ids T2) (hs : T2.length < 50000) :
    Calls Try.prog 14 #[.pointer (some ⟨r, 0, none⟩), .int .i64 i] w fun e w' => e = .returned (.bool (hasId i T2)) ∧ PairPost w0 P c now T r now2 (dropT i T2) w w' := by
  obtain ⟨O, Q, h1, h2, h3, h4, h5⟩ := h.ex
  refine (r_drop w i h2 hi hs).mono ?_
  rintro e w' ⟨he, Q', hC, hF, hL⟩
  exact ⟨he, _, h.turnR h1 h3 h4 h5 hC hF hL, hF.mono h5, fun k hk => hk.imp_right (fun h => h.1)⟩

theorem pr_radv (h : Pair w0 w P c now T r now2 T2) (n : Int) (hi : Ids T2) (hsr : Srt T2) (hn0 : 0 ≤ now2) (hn1 : now2 ≤ 1099511627776) (hs : T2.length < 50000) :
    Calls Try.prog 15 #[.pointer (some ⟨r, 0, none⟩), .int .i64 n] w fun e w' => (∃ A cap, e = .returned (.tuple #[.slice A (advL n now2 T2).length cap, .int .i64 (advE n now2)]) ∧ OwnR w' w.heap.size 3 1 A (advL n now2 T2).length cap (intsV (advL n now2 T2))) ∧ PairPost w0 P c now T r (advN n now2) (advT n now2 T2) w w' := by
  obtain ⟨O, Q, h1, h2, h3, h4, h5⟩ := h.ex
  refine (r_adv w n h2 hi hsr hn0 hn1 hs).mono ?_
  rintro e w' ⟨A, cap, Q', he, hO, hC, hF, hL⟩
  exact ⟨⟨A, cap, he, hO⟩, _, h.turnR h1 h3 h4 h5 hC hF hL, hF.mono h5, fun k hk => hk.imp_right (fun h => h.1)⟩

theorem pr_drop (h : Pair w0 w P c now T r now2 T2) (i : Int) (hs : T.length < 50000) :
    Calls Try.prog 19 #[.pointer (some ⟨c, 0, none⟩), .int .i64 i] w fun e w' => e = .returned (.bool (hasId i T)) ∧ PairPost w0 P c now (dropT i T) r now2 T2 w w' := by
  obtain ⟨O, Q, h1, h2, h3, h4, h5⟩ := h.ex
  refine (ck_drop w i h1 (by omega)).mono ?_
  rintro e w' ⟨he, O', hC, hF, hL⟩
  exact ⟨he, _, h.turnC h2 h3 h4 h5 hC hF hL, hF.mono h4, fun k hk => hk.imp_right (fun h => h.1)⟩

theorem pr_adv (h : Pair w0 w P c now T r now2 T2) (n : Int) (hn0 : 0 ≤ now) (hn1 : now ≤ 1099511627776) (hs : T.length < 50000) :
    Calls Try.prog 20 #[.pointer (some ⟨c, 0, none⟩), .int .i64 n] w fun e w' => (∃ A cap, e = .returned (.tuple #[.slice A (advL n now T).length cap, .int .i64 (advE n now)]) ∧ OwnR w' w.heap.size 3 1 A (advL n now T).length cap (intsV (advL n now T))) ∧ PairPost w0 P c (advN n now) (advT n now T) r now2 T2 w w' := by
  obtain ⟨O, Q, h1, h2, h3, h4, h5⟩ := h.ex
  refine (ck_adv w n h1 hn0 hn1 (by omega)).mono ?_
  rintro e w' ⟨A, cap, he, hO, hC, hF⟩
  exact ⟨⟨A, cap, he, hO⟩, _, h.turnC h2 h3 h4 h5 hC hF (fun k hk => .inl hk), hF.mono h4, fun k hk => hk.imp_right (fun h => h.1)⟩

theorem Pair.ids (h : Pair w0 w P c now T r now2 T2) : Ids T := by
  obtain ⟨O, Q, h1, _⟩ := h.ex
  exact h1.ids
theorem Pair.srt (h : Pair w0 w P c now T r now2 T2) : Srt T := by
  obtain ⟨O, Q, h1, _⟩ := h.ex
  exact h1.srt
end
end Go.Proofs.Ytpgbhgkikpmhiaa
