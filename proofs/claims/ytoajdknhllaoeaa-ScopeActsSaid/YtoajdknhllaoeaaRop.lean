/-
  The document's tree of scopes: Open (walk).
-/
import Derived.Test.YtoajdknhllaoeaaRfo
namespace Go.Proofs.Ytoajdknhllaoeaa
open Go.RowKit
set_option linter.unusedVariables false

/-- A row of the document's tree has grown, and its place is stored. -/
theorem row_step {w1 w3 w4 : World} {rb i n c n2 c2 : Nat} {cs : Array Value} {A A2 : Option Addr} {xs xs2 : List Value} {e : TypeId} {o : Obj} {v : Value} (hT : TBlk w1 rb cs 43) (hR : OwnR w1 0 e 1 A n c xs) (he : 43 ≠ e) (f : Fr (ownB A) (w1.alloc o) w3) (h2 : OwnR w3 0 e 1 A2 n2 c2 xs2) (hw : w3.setCell ⟨rb, i, none⟩ v = w4) :
    TBlk w4 rb (cs.setIfInBounds i v) 43 ∧ Fr (fun k => k = rb ∨ ownB A k) w1 w4 ∧ OwnR w4 0 e 1 A2 n2 c2 xs2 ∧ ∀ {e' : TypeId} {A' : Option Addr} {n' c' : Nat} {xs' : List Value}, OwnR w1 0 e' 1 A' n' c' xs' → e' ≠ e → 43 ≠ e' → OwnR w4 0 e' 1 A' n' c' xs' := by
  subst hw
  have F1 : Fr (ownB A) w1 w3 := (Fr.alloc _ _ _).trans f
  have F2 : Fr (fun k => k = rb) w3 (w3.setCell ⟨rb, i, none⟩ v) := Fr.setCell _ _ _ rfl
  have hT3 : TBlk w3 rb cs 43 := hT.keep F1 (OwnR.ne hR hT he)
  refine ⟨hT3.set i v, (F1.mono (fun k hk => .inr hk)).trans (F2.mono (fun k hk => .inl hk)), OwnR.keep h2 F2 (fun k hk e => by subst e; exact OwnR.ne h2 hT3 he hk), fun {e' A' n' c' xs'} h he1 he2 => ?_⟩
  have h3 : OwnR w3 0 e' 1 A' n' c' xs' := OwnR.keep h F1 (OwnR.apart h hR he1)
  exact OwnR.keep h3 F2 (fun k hk e => by subst e; exact OwnR.ne h3 hT3 he2 hk)

section
variable {P : Nat → Prop} {rb : Nat} {T : Sc} (w : World)

set_option maxRecDepth 100000 in
set_option maxHeartbeats 1000000 in
theorem r_open_err (x mo lf p er : Int) (hx : er = (bif isB T.n p then (bif decide (32 ≤ nestV T p) then 23 else bif decide (x < 0) || decide (mo < x) then 10 else bif decide (lf < 2) then 21 else 0) else 17)) (h0 : er ≠ 0) (hs : T.n < 1000000) (h : RfM w P rb T) :
    Calls Try.prog 15 #[.pointer (some ⟨rb, 0, none⟩), .int .i64 x, .int .i64 mo, .int .i64 lf, .int .i64 p] w fun e w' => e = .returned (.tuple #[.int .i64 0, .int .i64 er]) ∧ w = w' := by
  have HIS := hid (r_is w p h)
  have HNS := hid (r_nest w p hs h)
  cases hb : isB T.n p with
  | false =>
    rw [hb] at HIS hx
    simp only [cond_false] at hx
    subst hx
    clear h hb HNS h0
    go_enter Try.func15, Try.ntmps15
    go_wp2_with fail
    refine HIS.out.mono ?_
    rintro e w2 ⟨rfl, rfl⟩
    go_wp2_with fail
    go_ret2
    exact ⟨rfl, rfl⟩
  | true =>
    rw [hb] at HIS hx
    simp only [cond_true] at hx
    obtain ⟨v, hv⟩ : ∃ v, nestV T p = v := ⟨_, rfl⟩
    rw [hv] at HNS hx
    clear h hb hv hs
    by_cases h1 : 32 ≤ v
    · have t1 : decide (32 ≤ v) = true := decide_eq_true h1
      rw [t1] at hx
      simp only [cond_true] at hx
      subst hx
      clear h0
      go_enter Try.func15, Try.ntmps15
      go_wp2_with fail
      refine HIS.out.mono ?_
      rintro e w2 ⟨rfl, rfl⟩
      go_wp2_with fail
      refine HNS.out.mono ?_
      rintro e w2 ⟨rfl, rfl⟩
      go_wp2_with fail
      go_ret2
      exact ⟨rfl, rfl⟩
    · have t1 : decide (32 ≤ v) = false := decide_eq_false h1
      rw [t1] at hx
      simp only [cond_false] at hx
      by_cases h2 : x < 0
      · have t2 : decide (x < 0) = true := decide_eq_true h2
        rw [t2] at hx
        simp only [Bool.true_or, cond_true] at hx
        subst hx
        clear h0
        go_enter Try.func15, Try.ntmps15
        go_wp2_with fail
        refine HIS.out.mono ?_
        rintro e w2 ⟨rfl, rfl⟩
        go_wp2_with fail
        refine HNS.out.mono ?_
        rintro e w2 ⟨rfl, rfl⟩
        go_wp2_with fail
        go_ret2
        exact ⟨rfl, rfl⟩
      · have t2 : decide (x < 0) = false := decide_eq_false h2
        rw [t2] at hx
        by_cases h3 : mo < x
        · have t3 : decide (mo < x) = true := decide_eq_true h3
          rw [t3] at hx
          simp only [Bool.or_true, cond_true] at hx
          subst hx
          clear h0
          go_enter Try.func15, Try.ntmps15
          go_wp2_with fail
          refine HIS.out.mono ?_
          rintro e w2 ⟨rfl, rfl⟩
          go_wp2_with fail
          refine HNS.out.mono ?_
          rintro e w2 ⟨rfl, rfl⟩
          go_wp2_with fail
          go_ret2
          exact ⟨rfl, rfl⟩
        · have t3 : decide (mo < x) = false := decide_eq_false h3
          rw [t3] at hx
          simp only [Bool.or_false, cond_false] at hx
          have h4 : lf < 2 := by
            by_cases h4 : lf < 2
            · exact h4
            · rw [decide_eq_false h4] at hx
              exact absurd hx h0
          have t4 : decide (lf < 2) = true := decide_eq_true h4
          rw [t4] at hx
          simp only [cond_true] at hx
          subst hx
          clear h0
          go_enter Try.func15, Try.ntmps15
          go_wp2_with fail
          refine HIS.out.mono ?_
          rintro e w2 ⟨rfl, rfl⟩
          go_wp2_with fail
          refine HNS.out.mono ?_
          rintro e w2 ⟨rfl, rfl⟩
          go_wp2_with fail
          go_ret2
          exact ⟨rfl, rfl⟩

set_option maxRecDepth 100000 in
set_option maxHeartbeats 2000000 in
theorem r_open_ok (x mo lf y : Int) (p : Nat) (hy : y = p) (hp : p < T.n) (hd : T.nst p < 32) (hx0 : 0 ≤ x) (hx1 : x ≤ mo) (hlf : 2 ≤ lf) (hs : T.n < 1000000) (h : RfM w P rb T) :
    Calls Try.prog 15 #[.pointer (some ⟨rb, 0, none⟩), .int .i64 x, .int .i64 mo, .int .i64 lf, .int .i64 y] w fun e w' => e = .returned (.tuple #[.int .i64 (T.n : Nat), .int .i64 0]) ∧ RfP P rb (T.opn p) w w' := by
  subst hy
  have HIS := hid (by have := r_is w p h; rw [isB_yes hp] at this; exact this)
  have HNS := hid (by have := r_nest w p hs h; rw [nestV_in T hp] at this; exact this)
  have HOK := hid h.ok
  have HPL := hid h.lt
  have HP := hid hp
  obtain ⟨A1, c1, A2, c2, A3, c3, hT, h1, h2, h3, p0, p1, p2, p3⟩ := h.ex
  have HT := hid hT
  have H1 := hid h1
  have H2 := hid h2
  have H3 := hid h3
  have HPP := hid (show P rb ∧ (∀ k, ownB A1 k → P k) ∧ (∀ k, ownB A2 k → P k) ∧ ∀ k, ownB A3 k → P k from ⟨p0, p1, p2, p3⟩)
  obtain ⟨q, hq⟩ : ∃ q, T.nst p = q := ⟨_, rfl⟩
  rw [hq] at HNS hd
  have t1 : decide ((32 : Int) ≤ (q : Int)) = false := decide_eq_false (by omega)
  have t2 : decide (x < 0) = false := decide_eq_false (by omega)
  have t3 : decide (mo < x) = false := decide_eq_false (by omega)
  have t4 : decide (lf < 2) = false := decide_eq_false (by omega)
  have hq32 : ¬ (32 ≤ q) := by omega
  have t5 : decide (32 ≤ q) = false := decide_eq_false hq32
  obtain ⟨n, hn⟩ : ∃ n, T.n = n := ⟨_, rfl⟩
  rw [hn] at HT H1 H2 H3 hs ⊢
  have HN := hid hn
  obtain ⟨i1, hi1, hz⟩ := Option.map_eq_some_iff.1 infon
  simp only [Prod.mk.injEq] at hz
  obtain ⟨a1, a2, a3⟩ := hz
  have HI1 := hid hi1
  have HA1 := hid a1
  have HA2 := hid a2
  have HA3 := hid a3
  obtain ⟨i2, hi2, hz⟩ := Option.map_eq_some_iff.1 infob1
  simp only [Prod.mk.injEq] at hz
  obtain ⟨b1, b2, b3⟩ := hz
  have HI2 := hid hi2
  have HB1 := hid b1
  have HB2 := hid b2
  have HB3 := hid b3
  obtain ⟨i3, hi3, hz⟩ := Option.map_eq_some_iff.1 infol1
  simp only [Prod.mk.injEq] at hz
  obtain ⟨d1, d2, d3⟩ := hz
  have HI3 := hid hi3
  have HD1 := hid d1
  have HD2 := hid d2
  have HD3 := hid d3
  clear hi1 a1 a2 a3 hi2 b1 b2 b3 hi3 d1 d2 d3 h hT h1 h2 h3 p0 p1 p2 p3 hq hn hp hd hx0 hx1 hlf hq32
  have c0 : w.cell? ⟨rb, 0, none⟩ = some (.slice A1 n c1) := HT.out.cell rfl
  have z0 := HT.out.frozen 0
  have l0 := HT.out.lt
  have HOW1 := hid (OwnR.same H1.out (Fr.alloc _ _ (.cells #[.int .i64 (p : Int)] 3)))
  have HNW1 := hid (news_at w 3 [.int .i64 (p : Int)])
  go_enter Try.func15, Try.ntmps15
  go_wp2_with fail
  refine HIS.out.mono ?_
  rintro e w2 ⟨rfl, rfl⟩
  go_wp2_with fail
  refine HNS.out.mono ?_
  rintro e w2 ⟨rfl, rfl⟩
  go_upto_region 10 with (at_builtin; go_must (refine wpList_append_lies _ rfl _ _ 39 rfl 0 3 i1 (.int .i64 0) 1 8 Try.underlying39 HI1.out HA1.out HA2.out HA3.out rfl (by decide) (.slice A1 n c1) n _ rfl HOW1.out ⟨w.heap.size, 0, none⟩ 1 1 [.int .i64 (p : Int)] rfl rfl HNW1.out (by simp [Value.oneCell']) (by omega) (by unfold maxLen; omega) (by omega) (by simp) (w.heap.size + 1) (by simp) ?_; intro g3 c4 w3 hown3 hgrow3 hat3 hlt3; have HO3 := hid (show OwnR w3 0 3 1 (some ⟨g3, 0, none⟩) (n + 1) c4 _ from hown3); have HF3 := hid (Fr.of_grown hgrow3); have HL3 := hid hat3; have HT3 := hid (HT.out.keep ((Fr.alloc (ownB A1) w (.cells #[.int .i64 (p : Int)] 3)).trans HF3.out) (OwnR.ne H1.out HT.out (by decide))); have e0 := HT3.out.frozen 0; have e1 := HT3.out.lt; have e2 : w3.cell? ⟨rb, 0, none⟩ = some (.slice A1 n c1) := HT3.out.cell rfl; clear hown3 hgrow3 hat3 hlt3))
  clear e0 e1 e2 c0 z0 l0
  obtain ⟨w4, hw4⟩ : ∃ w4, w3.setCell ⟨rb, 0, none⟩ (.slice (some ⟨g3, 0, none⟩) (n + 1) c4) = w4 := ⟨_, rfl⟩
  have hs4 := row_step HT.out H1.out (by decide) HF3.out HO3.out hw4
  rw [hw4]
  have HT4 := hid hs4.1
  have HF4 := hid hs4.2.1
  have HR14 := hid hs4.2.2.1
  have HR24 := hid (hs4.2.2.2 H2.out (by decide) (by decide))
  have HR34 := hid (hs4.2.2.2 H3.out (by decide) (by decide))
  have c0 : w4.cell? ⟨rb, 1, none⟩ = some (.slice A2 n c2) := HT4.out.cell rfl
  have z0 := HT4.out.frozen 1
  have l0 := HT4.out.lt
  have HOW2 := hid (OwnR.same HR24.out (Fr.alloc _ _ (.cells #[.bool false] 4)))
  have HNW2 := hid (news_at w4 4 [.bool false])
  clear hw4 hs4
  go_upto_region 11 with (at_builtin; go_must (refine wpList_append_lies _ rfl _ _ 40 rfl 0 4 i2 (.bool false) 1 1 Try.underlying40 HI2.out HB1.out HB2.out HB3.out rfl (by decide) (.slice A2 n c2) n _ rfl HOW2.out ⟨w4.heap.size, 0, none⟩ 1 1 [.bool false] rfl rfl HNW2.out (by simp [Value.oneCell']) (by omega) (by unfold maxLen; omega) (by omega) (by simp) (w4.heap.size + 1) (by simp) ?_; intro g5 c5 w5 hown5 hgrow5 hat5 hlt5; have HO5 := hid (show OwnR w5 0 4 1 (some ⟨g5, 0, none⟩) (n + 1) c5 _ from hown5); have HF5 := hid (Fr.of_grown hgrow5); have HL5 := hid hat5; have HT5 := hid (HT4.out.keep ((Fr.alloc (ownB A2) w4 (.cells #[.bool false] 4)).trans HF5.out) (OwnR.ne HR24.out HT4.out (by decide))); have e0 := HT5.out.frozen 1; have e1 := HT5.out.lt; have e2 : w5.cell? ⟨rb, 1, none⟩ = some (.slice A2 n c2) := HT5.out.cell rfl; clear hown5 hgrow5 hat5 hlt5))
  clear e0 e1 e2 c0 z0 l0
  obtain ⟨w6, hw6⟩ : ∃ w6, w5.setCell ⟨rb, 1, none⟩ (.slice (some ⟨g5, 0, none⟩) (n + 1) c5) = w6 := ⟨_, rfl⟩
  have hs6 := row_step HT4.out HR24.out (by decide) HF5.out HO5.out hw6
  rw [hw6]
  have HT6 := hid hs6.1
  have HF6 := hid hs6.2.1
  have HR26 := hid hs6.2.2.1
  have HR16 := hid (hs6.2.2.2 HR14.out (by decide) (by decide))
  have HR36 := hid (hs6.2.2.2 HR34.out (by decide) (by decide))
  have c0 : w6.cell? ⟨rb, 2, none⟩ = some (.slice A3 n c3) := HT6.out.cell rfl
  have z0 := HT6.out.frozen 2
  have l0 := HT6.out.lt
  have HOW3 := hid (OwnR.same HR36.out (Fr.alloc _ _ (.cells #[.int .i64 0] 2)))
  have HNW3 := hid (news_at w6 2 [.int .i64 0])
  clear hw6 hs6
  go_upto_region 12 with (at_builtin; go_must (refine wpList_append_lies _ rfl _ _ 41 rfl 0 2 i3 (.int .i64 0) 1 8 Try.underlying41 HI3.out HD1.out HD2.out HD3.out rfl (by decide) (.slice A3 n c3) n _ rfl HOW3.out ⟨w6.heap.size, 0, none⟩ 1 1 [.int .i64 0] rfl rfl HNW3.out (by simp [Value.oneCell']) (by omega) (by unfold maxLen; omega) (by omega) (by simp) (w6.heap.size + 1) (by simp) ?_; intro g7 c7 w7 hown7 hgrow7 hat7 hlt7; have HO7 := hid (show OwnR w7 0 2 1 (some ⟨g7, 0, none⟩) (n + 1) c7 _ from hown7); have HF7 := hid (Fr.of_grown hgrow7); have HL7 := hid hat7; have HT7 := hid (HT6.out.keep ((Fr.alloc (ownB A3) w6 (.cells #[.int .i64 0] 2)).trans HF7.out) (OwnR.ne HR36.out HT6.out (by decide))); have e0 := HT7.out.frozen 2; have e1 := HT7.out.lt; have e2 : w7.cell? ⟨rb, 2, none⟩ = some (.slice A3 n c3) := HT7.out.cell rfl; clear hown7 hgrow7 hat7 hlt7))
  clear e0 e1 e2 c0 z0 l0
  obtain ⟨w8, hw8⟩ : ∃ w8, w7.setCell ⟨rb, 2, none⟩ (.slice (some ⟨g7, 0, none⟩) (n + 1) c7) = w8 := ⟨_, rfl⟩
  have hs8 := row_step HT6.out HR36.out (by decide) HF7.out HO7.out hw8
  rw [hw8]
  have HT8 := hid hs8.1
  have HF8 := hid hs8.2.1
  have HR38 := hid hs8.2.2.1
  have HR18 := hid (hs8.2.2.2 HR16.out (by decide) (by decide))
  have HR28 := hid (hs8.2.2.2 HR26.out (by decide) (by decide))
  have c0 : w8.cell? ⟨rb, 0, none⟩ = some (.slice (some ⟨g3, 0, none⟩) (n + 1) c4) := HT8.out.cell rfl
  have l0 := HT8.out.lt
  clear hw8 hs8
  go_wp2_with fail
  go_ret2
  have en : (T.opn p).n = n + 1 := by rw [← HN.out]; rfl
  have hn0 : 0 < n := by rw [← HN.out]; exact HOK.out.pos
  have e1 : fV (pI (T.opn p).par) (n + 1) = fV (pI T.par) n ++ [.int .i64 (p : Nat)] := by
    rw [fV, fV_cong (g := pI T.par) (fun k hk => ?_)]
    · rw [pI_pos _ hn0]
      rw [show (T.opn p).par n = p from if_pos HN.out.symm]
    · unfold pI
      rw [show (T.opn p).par k = T.par k from if_neg (by have := HN.out; omega)]
  have e2 : bV (T.opn p).asked (n + 1) = bV T.asked n ++ [.bool false] := by
    rw [bV, bV_cong (f := (T.opn p).asked) (g := T.asked) (n := n) (fun k hk => show (if k = T.n then false else T.asked k) = T.asked k from if_neg (by have := HN.out; omega))]
    rw [show (T.opn p).asked n = false from if_pos HN.out.symm]
  have e3 : fV (T.opn p).live (n + 1) = fV T.live n ++ [.int .i64 0] := by
    rw [fV, fV_cong (f := (T.opn p).live) (g := T.live) (n := n) (fun k hk => show (if k = T.n then 0 else T.live k) = T.live k from if_neg (by have := HN.out; omega))]
    rw [show (T.opn p).live n = 0 from if_pos HN.out.symm]
  obtain ⟨p0, p1, p2, p3⟩ := HPP.out
  have s4 := HF4.out.size
  have s6 := HF6.out.size
  refine ⟨rfl, fun k => k = rb ∨ ownB (some ⟨g3, 0, none⟩) k ∨ ownB (some ⟨g5, 0, none⟩) k ∨ ownB (some ⟨g7, 0, none⟩) k, ⟨⟨some ⟨g3, 0, none⟩, c4, some ⟨g5, 0, none⟩, c5, some ⟨g7, 0, none⟩, c7, ?_, ?_, ?_, ?_, .inl rfl, fun k hk => .inr (.inl hk), fun k hk => .inr (.inr (.inl hk)), fun k hk => .inr (.inr (.inr hk))⟩, HOK.out.opn HP.out, ?_⟩, ?_, ?_⟩
  · rw [en]; exact HT8.out
  · rw [en, e1]; exact HR18.out
  · rw [en, e2]; exact HR28.out
  · rw [en, e3]; exact HR38.out
  · rintro k (rfl | hk | hk | hk)
    · exact HT8.out.lt
    · exact (OwnR.lt HR18.out k hk).2
    · exact (OwnR.lt HR28.out k hk).2
    · exact (OwnR.lt HR38.out k hk).2
  · refine (HF4.out.mono ?_).trans ((HF6.out.mono ?_).trans (HF8.out.mono ?_))
    · rintro k (rfl | hk); exact p0; exact p1 k hk
    · rintro k (rfl | hk); exact p0; exact p2 k hk
    · rintro k (rfl | hk); exact p0; exact p3 k hk
  · rintro k (rfl | ⟨a, ha, rfl⟩ | ⟨a, ha, rfl⟩ | ⟨a, ha, rfl⟩)
    · exact .inl p0
    · cases ha
      rcases HL3.out with h | h
      · exact .inl (p1 _ (own_of h))
      · exact .inr (by show w.heap.size ≤ g3; omega)
    · cases ha
      rcases HL5.out with h | h
      · exact .inl (p2 _ (own_of h))
      · exact .inr (by show w.heap.size ≤ g5; omega)
    · cases ha
      rcases HL7.out with h | h
      · exact .inl (p3 _ (own_of h))
      · exact .inr (by show w.heap.size ≤ g7; omega)
end
end Go.Proofs.Ytoajdknhllaoeaa
