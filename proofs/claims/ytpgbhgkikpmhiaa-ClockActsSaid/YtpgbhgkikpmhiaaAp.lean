/-
  A pair of clocks, and what stands beside it: calls.
-/
import Derived.Test.YtpgbhgkikpmhiaaIs
namespace Go.Proofs.Ytpgbhgkikpmhiaa
open Go.RowKit
set_option linter.unusedVariables false

/-- No deadline is past. -/
def Lte (now : Int) (T : List Due) : Prop := ∀ x ∈ T, now < x.1

theorem drop_sub {id : Int} {T : List Due} {x : Due} (h : x ∈ dropT id T) : x ∈ T := by
  unfold dropT at h
  cases hh : hasId id T with
  | true => rw [hh, cond_true] at h; exact (List.mem_filter.1 h).1
  | false => rw [hh, cond_false] at h; exact h

theorem lte_adv {n now : Int} {T : List Due} (h : Lte now T) (hs : Srt T) : Lte (advN n now) (advT n now T) := by
  unfold advN advT
  cases advNo n now
  · rw [cond_false, cond_false]; exact fun x hx => lat_above hs hx
  · exact h

theorem lte_set {i n now : Int} {T : List Due} (h : Lte now T) : Lte now (setT i n now T) := by
  unfold setT
  by_cases h1 : i < 0 ∨ n < 1 ∨ 1099511627776 < n
  · have hb : (decide (i < 0) || decide (n < 1) || decide (1099511627776 < n)) = true := by rcases h1 with h | h | h <;> simp [h]
    rw [hb]; exact h
  · have hb : (decide (i < 0) || decide (n < 1) || decide (1099511627776 < n)) = false := by
      simp only [Bool.or_eq_false_iff, decide_eq_false_iff_not]; omega
    rw [hb, cond_false]
    cases hasId i T
    · intro x hx
      rcases List.mem_cons.1 ((ins_perm _ _).subset hx) with rfl | hx
      · show now < now + n; omega
      · exact h x hx
    · exact h

theorem lte_act {d i n now : Int} {T : List Due} (h : Lte now T) (hs : Srt T) : Lte (actN d n now) (actT d i n now T) := by
  unfold actN actT
  rcases t2 : (d == 2) with _ | _
  · rw [cond_false, cond_false]
    cases (d == 0)
    · cases (d == 1)
      · exact h
      · exact fun x hx => h x (drop_sub hx)
    · exact lte_set h
  · have t0 : (d == 0) = false := by simp at t2 ⊢; omega
    have t1 : (d == 1) = false := by simp at t2 ⊢; omega
    rw [t0, t1]
    exact lte_adv h hs

/-- What holds of blocks R while these stand. -/
def Still (w0 : World) (K : (Nat → Prop) → World → Prop) : Prop := ∀ (R S : Nat → Prop) (w w' : World), K R w → Fr S w w' → (∀ j, R j → ¬ S j) → (∀ j, S j → w0.heap.size ≤ j) → K R w'

/-- A pair, and what stands beside it. -/
structure AcI (w0 : World) (K : (Nat → Prop) → World → Prop) (c : Nat) (now : Int) (T : List Due) (r : Nat) (now2 : Int) (T2 : List Due) (w : World) : Prop where
  ex : ∃ P R : Nat → Prop, Pair w0 w P c now T r now2 T2 ∧ K R w ∧ (∀ j, R j → ¬ P j) ∧ (∀ j, R j → j < w.heap.size)
  still : Still w0 K

section
variable {w0 w : World} {K : (Nat → Prop) → World → Prop} {c r : Nat} {now now2 : Int} {T T2 : List Due}

theorem side_step {P P' R : Nat → Prop} {w w' : World} (hs : Still w0 K) (hK : K R w) (hd : ∀ j, R j → ¬ P j) (hl : ∀ j, R j → j < w.heap.size) (hlo : ∀ j, P j → w0.heap.size ≤ j) (h2 : Fr P w w') (h3 : ∀ k, P' k → P k ∨ w.heap.size ≤ k) :
    K R w' ∧ (∀ j, R j → ¬ P' j) ∧ (∀ j, R j → j < w'.heap.size) :=
  ⟨hs R P w w' hK h2 hd hlo, fun j hj hj2 => by
    rcases h3 j hj2 with h | h
    · exact hd j hj h
    · have := hl j hj; omega, fun j hj => Nat.lt_of_lt_of_le (hl j hj) h2.size⟩

theorem AcI.step {P R : Nat → Prop} {w w' : World} {n3 n4 : Int} {T3 T4 : List Due} (hs : Still w0 K) (hP : Pair w0 w P c now T r now2 T2) (hK : K R w) (hd : ∀ j, R j → ¬ P j) (hl : ∀ j, R j → j < w.heap.size) (p : PairPost w0 P c n3 T3 r n4 T4 w w') : AcI w0 K c n3 T3 r n4 T4 w' := by
  obtain ⟨P', h1, h2, h3⟩ := p
  obtain ⟨k1, k2, k3⟩ := side_step hs hK hd hl hP.lo h2 h3
  exact ⟨⟨P', R, h1, k1, k2, k3⟩, hs⟩

theorem AcI.same (h : AcI w0 K c now T r now2 T2 w) {w' : World} (F : Fr (fun _ => False) w w') : AcI w0 K c now T r now2 T2 w' := by
  obtain ⟨⟨P, R, hP, hK, hd, hl⟩, hs⟩ := h
  exact ⟨⟨P, R, hP.same F, hs R _ w w' hK F (fun _ _ hh => hh) (fun _ hh => hh.elim), hd, fun j hj => Nat.lt_of_lt_of_le (hl j hj) F.size⟩, hs⟩

theorem AcI.fr (h : AcI w0 K c now T r now2 T2 w) : Fr (fun _ => False) w0 w := by
  obtain ⟨⟨P, R, hP, _⟩, _⟩ := h
  exact hP.fr

theorem AcI.ids (h : AcI w0 K c now T r now2 T2 w) : Ids T := by
  obtain ⟨⟨P, R, hP, _⟩, _⟩ := h
  exact hP.ids
theorem AcI.srt (h : AcI w0 K c now T r now2 T2 w) : Srt T := by
  obtain ⟨⟨P, R, hP, _⟩, _⟩ := h
  exact hP.srt

/-- What the document's Advance does behind a call of the program's. -/
theorem pr_then {O Q O' P : Nat → Prop} {w w1 : World} (h : Pair w0 w P c now T r now2 T2) (h2 : Rkm w Q r now2 T2) (h3 : ∀ k, O k → ¬ Q k) (h4 : ∀ k, O k → P k) (h5 : ∀ k, Q k → P k) {n3 : Int} {T3 : List Due} (hC : Ckm w1 O' c n3 T3) (hF : Fr O w w1) (hL : ∀ k, O' k → O k ∨ w.heap.size ≤ k) {A : Option Addr} {cap ll : Nat} {L : List Int} (hA : OwnR w1 w.heap.size 3 1 A ll cap (intsV L)) (hll : ll = L.length) (hi : Ids T2) (hsr : Srt T2) (b0 : 0 ≤ now2) (b1 : now2 ≤ 1099511627776) (hs : T2.length < 50000) :
    ∃ P', Pair w0 w1 P' c n3 T3 r now2 T2 ∧ Fr P w w1 ∧ (∀ k, P' k → P k ∨ w.heap.size ≤ k) ∧ IntR w1 A L ∧ ∀ W, Fr (fun _ => False) w1 W → ∀ n, Calls Try.prog 15 #[.pointer (some ⟨r, 0, none⟩), .int .i64 n] W fun e W' => (∃ A2 cap2, e = .returned (.tuple #[.slice A2 (advL n now2 T2).length cap2, .int .i64 (advE n now2)]) ∧ IntR W' A2 (advL n now2 T2)) ∧ IntR W' A L ∧ PairPost w0 P' c n3 T3 r (advN n now2) (advT n now2 T2) W W' := by
  have hp := h.turnC h2 h3 h4 h5 hC hF hL
  have hQ1 : Rkm w1 Q r now2 T2 := h2.keep hF (fun k hk hk2 => h3 k hk2 hk)
  have hd : ∀ k, O' k → ¬ Q k := fun k hk hk2 => by
    rcases hL k hk with h6 | h6
    · exact h3 k h6 hk2
    · have := h2.lt k hk2; omega
  have hO' : ∀ k, O' k → P k ∨ (w.heap.size ≤ k ∧ k < w1.heap.size) := fun k hk => by
    rcases hL k hk with h6 | h6
    · exact .inl (h4 k h6)
    · exact .inr ⟨h6, hC.lt k hk⟩
  have hI : IntR w1 A L := OwnR.intR hA hll
  refine ⟨_, hp, hF.mono h4, fun k hk => hk.imp_right (fun h => h.1), hI, fun W FW n => ?_⟩
  refine (r_adv W n (hQ1.same FW) hi hsr b0 b1 hs).mono ?_
  rintro e W' ⟨A2, cap2, Q', he, hO2, hR, hF2, hL2⟩
  refine ⟨⟨A2, cap2, he, OwnR.intR hO2 rfl⟩, (hI.same FW).keep hF2 (fun j hj hq => ?_), ?_⟩
  · have := (OwnR.lt hA j hj).1
    have := h2.lt j hq
    omega
  · exact ⟨_, (hp.same FW).turnR (hC.same FW) hd hO' (fun k hk => .inl (h5 k hk)) hR hF2 hL2, hF2.mono (fun k hk => .inl (h5 k hk)), fun k hk => hk.imp_right (fun h => h.1)⟩

/-- Behind a call that told of ids: the same of the document's. -/
def ThenAdv (w0 : World) (K : (Nat → Prop) → World → Prop) (c : Nat) (n3 : Int) (T3 : List Due) (r : Nat) (now2 : Int) (T2 : List Due) (A : Option Addr) (L : List Int) (w1 : World) : Prop :=
  ∀ W, Fr (fun _ => False) w1 W → ∀ n, Calls Try.prog 15 #[.pointer (some ⟨r, 0, none⟩), .int .i64 n] W fun e W' => (∃ A2 cap2, e = .returned (.tuple #[.slice A2 (advL n now2 T2).length cap2, .int .i64 (advE n now2)]) ∧ IntR W' A2 (advL n now2 T2)) ∧ IntR W' A L ∧ AcI w0 K c n3 T3 r (advN n now2) (advT n now2 T2) W'

theorem then_of {P P' R : Nat → Prop} {w w1 : World} {n3 : Int} {T3 : List Due} {A : Option Addr} {L : List Int} (hs : Still w0 K) (hK : K R w) (hd : ∀ j, R j → ¬ P j) (hl : ∀ j, R j → j < w.heap.size) (hlo : ∀ j, P j → w0.heap.size ≤ j) (q1 : Pair w0 w1 P' c n3 T3 r now2 T2) (q2 : Fr P w w1) (q3 : ∀ k, P' k → P k ∨ w.heap.size ≤ k)
    (q5 : ∀ W, Fr (fun _ => False) w1 W → ∀ n, Calls Try.prog 15 #[.pointer (some ⟨r, 0, none⟩), .int .i64 n] W fun e W' => (∃ A2 cap2, e = .returned (.tuple #[.slice A2 (advL n now2 T2).length cap2, .int .i64 (advE n now2)]) ∧ IntR W' A2 (advL n now2 T2)) ∧ IntR W' A L ∧ PairPost w0 P' c n3 T3 r (advN n now2) (advT n now2 T2) W W') :
    AcI w0 K c n3 T3 r now2 T2 w1 ∧ ThenAdv w0 K c n3 T3 r now2 T2 A L w1 := by
  obtain ⟨k1, k2, k3⟩ := side_step hs hK hd hl hlo q2 q3
  refine ⟨⟨⟨P', R, q1, k1, k2, k3⟩, hs⟩, fun W FW n => (q5 W FW n).mono ?_⟩
  rintro e W' ⟨h1, h2, h3⟩
  exact ⟨h1, h2, AcI.step hs (q1.same FW) (hs R _ w1 W k1 FW (fun _ _ hh => hh) (fun _ hh => hh.elim)) k2 (fun j hj => Nat.lt_of_lt_of_le (k3 j hj) FW.size) h3⟩

theorem ac_do (h : AcI w0 K c now T r now T w) (d i n : Int) (hn0 : 0 ≤ now) (hn1 : now ≤ 1099511627776) (hs : T.length < 50000) :
    Calls Try.prog 12 #[.pointer (some ⟨c, 0, none⟩), .agg #[.int .i64 d, .int .i64 i, .int .i64 n]] w fun e w1 => ∃ A cap, e = .returned (.tuple #[.slice A (actL d n now T).length cap, .bool (actB d i T), .int .i64 (actE d i n now T)]) ∧ IntR w1 A (actL d n now T) ∧ AcI w0 K c (actN d n now) (actT d i n now T) r now T w1 ∧ ThenAdv w0 K c (actN d n now) (actT d i n now T) r now T A (actL d n now T) w1 := by
  obtain ⟨⟨P, R, hP, hK, hd, hl⟩, hst⟩ := h
  obtain ⟨O, Q, h1, h2, h3, h4, h5⟩ := hP.ex
  refine (do_ok w d i n h1 hn0 hn1 (by omega)).mono ?_
  rintro e w1 ⟨A, cap, O', he, hO, hC, hF, hL⟩
  obtain ⟨P', q1, q2, q3, q4, q5⟩ := pr_then hP h2 h3 h4 h5 hC hF hL hO rfl hP.ids hP.srt hn0 hn1 hs
  obtain ⟨a1, a2⟩ := then_of hst hK hd hl hP.lo q1 q2 q3 q5
  exact ⟨A, cap, he, q4, a1, a2⟩

theorem ac_adv (h : AcI w0 K c now T r now T w) (n : Int) (hn0 : 0 ≤ now) (hn1 : now ≤ 1099511627776) (hs : T.length < 50000) :
    Calls Try.prog 20 #[.pointer (some ⟨c, 0, none⟩), .int .i64 n] w fun e w1 => ∃ A cap, e = .returned (.tuple #[.slice A (advL n now T).length cap, .int .i64 (advE n now)]) ∧ IntR w1 A (advL n now T) ∧ AcI w0 K c (advN n now) (advT n now T) r now T w1 ∧ ThenAdv w0 K c (advN n now) (advT n now T) r now T A (advL n now T) w1 := by
  obtain ⟨⟨P, R, hP, hK, hd, hl⟩, hst⟩ := h
  obtain ⟨O, Q, h1, h2, h3, h4, h5⟩ := hP.ex
  refine (ck_adv w n h1 hn0 hn1 (by omega)).mono ?_
  rintro e w1 ⟨A, cap, he, hO, hC, hF⟩
  obtain ⟨P', q1, q2, q3, q4, q5⟩ := pr_then hP h2 h3 h4 h5 hC hF (fun k hk => .inl hk) hO rfl hP.ids hP.srt hn0 hn1 hs
  obtain ⟨a1, a2⟩ := then_of hst hK hd hl hP.lo q1 q2 q3 q5
  exact ⟨A, cap, he, q4, a1, a2⟩

theorem ac_rset (h : AcI w0 K c now T r now2 T2 w) (i n : Int) (hn0 : 0 ≤ now2) (hn1 : now2 ≤ 1099511627776) (hs : T2.length < 50000) :
    Calls Try.prog 13 #[.pointer (some ⟨r, 0, none⟩), .int .i64 i, .int .i64 n] w fun e w' => e = .returned (.int .i64 (setE i n now2 T2)) ∧ AcI w0 K c now T r now2 (setT i n now2 T2) w' := by
  obtain ⟨⟨P, R, hP, hK, hd, hl⟩, hst⟩ := h
  exact (pr_rset hP i n hn0 hn1 hs).mono fun e w' ⟨he, hp⟩ => ⟨he, AcI.step hst hP hK hd hl hp⟩

theorem ac_rdrop (h : AcI w0 K c now T r now2 T2 w) (i : Int) (hi : Ids T2) (hs : T2.length < 50000) :
    Calls Try.prog 14 #[.pointer (some ⟨r, 0, none⟩), .int .i64 i] w fun e w' => e = .returned (.bool (hasId i T2)) ∧ AcI w0 K c now T r now2 (dropT i T2) w' := by
  obtain ⟨⟨P, R, hP, hK, hd, hl⟩, hst⟩ := h
  exact (pr_rdrop hP i hi hs).mono fun e w' ⟨he, hp⟩ => ⟨he, AcI.step hst hP hK hd hl hp⟩

theorem ac_drop (h : AcI w0 K c now T r now2 T2 w) (i : Int) (hs : T.length < 50000) :
    Calls Try.prog 19 #[.pointer (some ⟨c, 0, none⟩), .int .i64 i] w fun e w' => e = .returned (.bool (hasId i T)) ∧ AcI w0 K c now (dropT i T) r now2 T2 w' := by
  obtain ⟨⟨P, R, hP, hK, hd, hl⟩, hst⟩ := h
  exact (pr_drop hP i hs).mono fun e w' ⟨he, hp⟩ => ⟨he, AcI.step hst hP hK hd hl hp⟩

theorem ac_is (h : AcI w0 K c now T r now T w) (hs : T.length < 50000) : Calls Try.prog 9 #[.pointer (some ⟨c, 0, none⟩), .pointer (some ⟨r, 0, none⟩)] w fun e w' => e = .returned (.bool true) ∧ Fr (fun _ => False) w w' := by
  obtain ⟨⟨P, R, hP, hK, hd, hl⟩, hst⟩ := h
  exact pr_is hP hs

theorem ac_next (h : AcI w0 K c now T r now2 T2 w) : Calls Try.prog 18 #[.pointer (some ⟨c, 0, none⟩)] w fun e w' => e = .returned (.tuple #[.int .i64 (headA T), .int .i64 (headI T), .bool (!T.isEmpty)]) ∧ Fr (fun _ => False) w w' := by
  obtain ⟨⟨P, R, hP, hK, hd, hl⟩, hst⟩ := h
  obtain ⟨O, Q, h1, _⟩ := hP.ex
  exact ck_next w h1

theorem ac_now (h : AcI w0 K c now T r now2 T2 w) : Calls Try.prog 21 #[.pointer (some ⟨c, 0, none⟩)] w fun e w' => e = .returned (.int .i64 now) ∧ w = w' := by
  obtain ⟨⟨P, R, hP, hK, hd, hl⟩, hst⟩ := h
  obtain ⟨O, Q, h1, _⟩ := hP.ex
  exact ck_now w h1

theorem ac_len0 (h : AcI w0 K c now [] r now2 T2 w) : Calls Try.prog 22 #[.pointer (some ⟨c, 0, none⟩)] w fun e w' => e = .returned (.int .i64 0) ∧ w = w' := by
  obtain ⟨⟨P, R, hP, hK, hd, hl⟩, hst⟩ := h
  obtain ⟨O, Q, h1, _⟩ := hP.ex
  exact ck_len w h1

theorem AcI.rnow (h : AcI w0 K c now T r now2 T2 w) : w.cell? ⟨r, 0, none⟩ = some (.int .i64 now2) := by
  obtain ⟨⟨P, R, hP, hK, hd, hl⟩, hst⟩ := h
  obtain ⟨O, Q, _, h2, _⟩ := hP.ex
  obtain ⟨A, cap, L, k1, _, _⟩ := h2.ex
  exact k1.hc.cell rfl

theorem ac_clone (h : AcI w0 K c now T r now2 T2 w) (hs : T.length < 50000) : Calls Try.prog 17 #[.pointer (some ⟨c, 0, none⟩)] w (MadePost now T w) := by
  obtain ⟨⟨P, R, hP, hK, hd, hl⟩, hst⟩ := h
  obtain ⟨O, Q, h1, _⟩ := hP.ex
  exact ck_clone w h1 (by omega)

theorem ac_copy (h : AcI w0 K c now T r now2 T2 w) (hs : T2.length < 50000) : Calls Try.prog 11 #[.pointer (some ⟨r, 0, none⟩)] w (RmPost now2 T2 w) := by
  obtain ⟨⟨P, R, hP, hK, hd, hl⟩, hst⟩ := h
  obtain ⟨O, Q, _, h2, _⟩ := hP.ex
  exact r_copy w h2 hs

/-- A pair of one's own. -/
theorem pair_made {O Q : Nat → Prop} {w1 w2 : World} (F0 : Fr (fun _ => False) w0 w) (hC : Ckm w1 O c now T) (F1 : Fr (fun _ => False) w w1) (l1 : ∀ k, O k → w.heap.size ≤ k) (hR : Rkm w2 Q r now2 T2) (F2 : Fr (fun _ => False) w1 w2) (l2 : ∀ k, Q k → w1.heap.size ≤ k) :
    Pair w0 w2 (fun k => w.heap.size ≤ k ∧ k < w2.heap.size) c now T r now2 T2 := by
  have := F0.size
  have := F1.size
  have := F2.size
  exact ⟨⟨O, Q, hC.same F2, hR, fun k hk hk2 => by have := hC.lt k hk; have := l2 k hk2; omega, fun k hk => ⟨l1 k hk, by have := hC.lt k hk; omega⟩, fun k hk => ⟨by have := l2 k hk; omega, hR.lt k hk⟩⟩,
    fun k hk => by have := hk.1; omega, fun k hk => hk.2, (F0.trans F1).trans F2⟩

/-- An empty one of the document's. -/
theorem r_new (w : World) : Rkm (w.alloc (.cells #[.int .i64 0, .slice none 0 0] 28)) (fun k => k = w.heap.size) w.heap.size 0 [] :=
  ⟨⟨none, 0, [], ⟨TBlk.new _ _ _, OwnR.nil _ _ _ _⟩, List.Perm.refl _, by
    rintro k (rfl | ⟨a, ha, _⟩)
    · rfl
    · cases ha⟩, fun k hk => by
      have : k = w.heap.size := hk
      subst this
      simp⟩
end

/-- The clone, and what is kept of the document's: from the act on behind which they are made. -/
def K1 (w0 : World) (ai k : Int) (x7 x8 : Value) (R : Nat → Prop) (w : World) : Prop :=
  0 ≤ ai → ai < k → ∃ c2 r2 now2 T2, x7 = .pointer (some ⟨c2, 0, none⟩) ∧ x8 = .pointer (some ⟨r2, 0, none⟩) ∧ Pair w0 w R c2 now2 T2 r2 now2 T2 ∧ 0 ≤ now2 ∧ now2 ≤ 1099511627776 ∧ T2.length ≤ 300 ∧ Lte now2 T2

theorem still_k1 (w0 : World) (ai k : Int) (x7 x8 : Value) : Still w0 (K1 w0 ai k x7 x8) := fun R S w w' h F h1 h2 g1 g2 => by
  obtain ⟨c2, r2, now2, T2, e1, e2, hp, hr⟩ := h g1 g2
  exact ⟨c2, r2, now2, T2, e1, e2, hp.keep F h1 h2, hr⟩

theorem still_pair (w0 : World) (c r : Nat) (now : Int) (T : List Due) : Still w0 (fun R w => Pair w0 w R c now T r now T) := fun R S w w' h F h1 h2 => h.keep F h1 h2

section
variable {w0 w : World} {c r : Nat} {now : Int} {T : List Due} {ai k : Int} {x7 x8 : Value}

theorem AcI.later (h : AcI w0 (K1 w0 ai k x7 x8) c now T r now T w) (hne : ai ≠ k) : AcI w0 (K1 w0 ai (k + 1) x7 x8) c now T r now T w := by
  obtain ⟨⟨P, R, hP, hK, hd, hl⟩, hs⟩ := h
  exact ⟨⟨P, R, hP, fun g1 g2 => hK g1 (by omega), hd, hl⟩, still_k1 _ _ _ _ _⟩

theorem AcI.start {P : Nat → Prop} (hP : Pair w0 w P c now T r now T) : AcI w0 (K1 w0 ai 0 x7 x8) c now T r now T w :=
  ⟨⟨P, fun _ => False, hP, fun g1 g2 => absurd g1 (by omega), fun _ h => h.elim, fun _ h => h.elim⟩, still_k1 _ _ _ _ _⟩

theorem AcI.fresh {O Q : Nat → Prop} {w1 w2 : World} {c2 r2 : Nat} (h : AcI w0 (K1 w0 ai k x7 x8) c now T r now T w) (h0 : 0 ≤ now) (h1 : now ≤ 1099511627776) (hT : T.length ≤ 300) (hLt : Lte now T) (hC : Ckm w1 O c2 now T) (F1 : Fr (fun _ => False) w w1) (l1 : ∀ k, O k → w.heap.size ≤ k) (hR : Rkm w2 Q r2 now T) (F2 : Fr (fun _ => False) w1 w2) (l2 : ∀ k, Q k → w1.heap.size ≤ k) :
    AcI w0 (K1 w0 ai (k + 1) (.pointer (some ⟨c2, 0, none⟩)) (.pointer (some ⟨r2, 0, none⟩))) c now T r now T w2 := by
  have F := F1.trans F2
  have hn := pair_made h.fr hC F1 l1 hR F2 l2
  obtain ⟨⟨P, R, hP, hK, hd, hl⟩, hs⟩ := h
  exact ⟨⟨P, _, hP.same F, fun _ _ => ⟨c2, r2, now, T, rfl, rfl, hn, h0, h1, hT, hLt⟩, fun j hj hj2 => by have := hP.lt j hj2; have := hj.1; omega, fun j hj => hj.2⟩, still_k1 _ _ _ _ _⟩

theorem AcI.swap (h : AcI w0 (K1 w0 ai k x7 x8) c now T r now T w) (g1 : 0 ≤ ai) (g2 : ai < k) :
    ∃ c2 r2 now2 T2, x7 = .pointer (some ⟨c2, 0, none⟩) ∧ x8 = .pointer (some ⟨r2, 0, none⟩) ∧ AcI w0 (fun R w => Pair w0 w R c now T r now T) c2 now2 T2 r2 now2 T2 w ∧ 0 ≤ now2 ∧ now2 ≤ 1099511627776 ∧ T2.length ≤ 300 ∧ Lte now2 T2 := by
  obtain ⟨⟨P, R, hP, hK, hd, hl⟩, hs⟩ := h
  obtain ⟨c2, r2, now2, T2, e1, e2, hp, hr⟩ := hK g1 g2
  exact ⟨c2, r2, now2, T2, e1, e2, ⟨⟨R, P, hp, hP, fun j hj hj2 => hd j hj2 hj, hP.lt⟩, still_pair _ _ _ _ _⟩, hr⟩

theorem ac_is2 {c2 r2 : Nat} {now2 : Int} {T2 : List Due} (h : AcI w0 (fun R w => Pair w0 w R c now T r now T) c2 now2 T2 r2 now2 T2 w) (hs : T.length < 50000) : Calls Try.prog 9 #[.pointer (some ⟨c, 0, none⟩), .pointer (some ⟨r, 0, none⟩)] w fun e w' => e = .returned (.bool true) ∧ Fr (fun _ => False) w w' := by
  obtain ⟨⟨P, R, hP, hK, hd, hl⟩, hst⟩ := h
  exact pr_is hK hs
end

/-- Behind the soonest's own deadline there is less. -/
theorem adv_less {x : Due} {rest : List Due} {now : Int} (hno : advNo (x.1 - now) now = false) : (advT (x.1 - now) now (x :: rest)).length < (x :: rest).length := by
  have h1 := advL_adv (x.1 - now) now (x :: rest)
  have h2 : 0 < (advL (x.1 - now) now (x :: rest)).length := by
    unfold advL
    rw [hno, cond_false, show now + (x.1 - now) = x.1 by omega, (due_cons x.1 x rest (Int.le_refl _)).1]
    simp [idsOf]
  omega
end Go.Proofs.Ytpgbhgkikpmhiaa
