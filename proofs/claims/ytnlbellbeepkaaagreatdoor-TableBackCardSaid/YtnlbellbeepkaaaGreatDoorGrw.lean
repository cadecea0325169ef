/-
  Stage 7, plain: which table may have become which.
-/
import Derived.Test.YtnlbellbeepkaaaGreatDoorKin
namespace Go.Proofs.YtnlbellbeepkaaaGreatDoor

/-- A row may have become another one. -/
def becP (r s : Tw) : Prop := r.in_ = s.in_ ∧ r.fn = s.fn ∧ (2 ≤ r.kind → r.kind = s.kind ∧ r.v = s.v ∧ r.st = s.st ∧ r.cl = s.cl) ∧ (r.kind = 1 → s.kind ≠ 0 ∧ r.st ≤ s.st ∧ r.cl.data.toList <+: s.cl.data.toList)

/-- Row i, and what it became. -/
def OkAt (l m : List Tw) (i : Nat) : Prop := ∃ (q : Nat) (r s : Tw), img l m i = q ∧ l[i]? = some r ∧ m[q]? = some s ∧ becP r s ∧ kc l i ≤ kc m q ∧ (2 ≤ r.kind → kc l i = kc m q)
/-- The same, as the document asks. -/
def OkD (l m : List Tw) (i : Nat) : Prop := ∃ (q : Nat) (r s : Tw), img l m i = q ∧ l[i]? = some r ∧ m[q]? = some s ∧ becP r s ∧ (2 ≤ r.kind → kc l i = kc m q)

def Grows (l m : List Tw) : Prop := chk l = 0 ∧ chk m = 0 ∧ ∀ i, i < l.length → OkAt l m i

theorem OkAt.d {l m : List Tw} {i : Nat} (h : OkAt l m i) : OkD l m i := by
  obtain ⟨q, r, s, h1, h2, h3, h4, _, h5⟩ := h
  exact ⟨q, r, s, h1, h2, h3, h4, h5⟩

theorem okD_all {l m : List Tw} (hl : Tabl l) (h : ∀ i, i < l.length → OkD l m i) : ∀ i, i < l.length → OkAt l m i := by
  intro i hi
  obtain ⟨q, r, s, h1, h2, h3, h4, h5⟩ := h i hi
  refine ⟨q, r, s, h1, h2, h3, h4, ?_, h5⟩
  rcases Nat.eq_zero_or_pos (kc l i) with h0 | h0
  · omega
  · have hlt : kc l i - 1 < (kidsN l i l.length).length := by unfold kc at h0 ⊢; omega
    obtain ⟨k, _, k2, k3, k4⟩ := kidsN_at l.length (List.getElem?_eq_getElem hlt)
    obtain ⟨q2, _, _, g1, _⟩ := h k k2
    have hlow := parAt_low hl (i := (k : Int)) (by omega)
    obtain ⟨_, k', e, e1, e2, e3⟩ := img_kid (m := m) hl (by omega) k2 (by rw [g1]; omega)
    rw [k3, Int.toNat_natCast, h1] at e2
    have h6 := kidsN_lt e1 e2
    unfold kidNo at e3
    rw [e2, k3, k4] at e3
    unfold kc at *
    omega

theorem becP.refl (r : Tw) : becP r r := ⟨rfl, rfl, fun _ => ⟨rfl, rfl, rfl, rfl⟩, fun hk => ⟨by omega, by omega, List.prefix_refl _⟩⟩

theorem becP.trans {r s t : Tw} (h : becP r s) (k : becP s t) (hs : 0 ≤ s.kind) : becP r t := by
  obtain ⟨h1, h2, h3, h4⟩ := h
  obtain ⟨k1, k2, k3, k4⟩ := k
  refine ⟨h1.trans k1, h2.trans k2, fun hk => ?_, fun hk => ?_⟩
  · obtain ⟨a1, a2, a3, a4⟩ := h3 hk
    obtain ⟨b1, b2, b3, b4⟩ := k3 (by omega)
    exact ⟨a1.trans b1, a2.trans b2, a3.trans b3, a4.trans b4⟩
  · obtain ⟨a1, a2, a3⟩ := h4 hk
    by_cases hk2 : 2 ≤ s.kind
    · obtain ⟨b1, b2, b3, b4⟩ := k3 hk2
      exact ⟨by omega, by omega, by rw [← b4]; exact a3⟩
    · obtain ⟨b1, b2, b3⟩ := k4 (by omega)
      exact ⟨b1, by omega, a3.trans b3⟩

theorem kind_ok {l : List Tw} (h : chk l = 0) {i : Nat} {r : Tw} (hr : l[i]? = some r) : 0 ≤ r.kind ∧ r.kind ≤ 4 ∧ valB r = true ∧ begB r = true ∧ binB r = true ∧ (i = 0 → r.in_ = 0) := by
  have h1 := (chk_zero.1 h).2 i r (List.getElem?_eq_some_iff.1 hr).1 hr
  obtain ⟨_, h2, h6, h3, h4, _⟩ := rightE_zero.1 h1
  have h5 := of_decide_eq_true h2
  refine ⟨h5.2.2.2.1.1, h5.2.2.2.1.2, h3, h4, h6, fun hi => ?_⟩
  subst hi
  have := h5.2.1
  simp at this
  exact this

theorem Grows.refl {l : List Tw} (h : chk l = 0) : Grows l l := by
  refine ⟨h, h, fun i hi => ?_⟩
  obtain ⟨r, hr⟩ : ∃ r, l[i]? = some r := ⟨_, List.getElem?_eq_getElem hi⟩
  exact ⟨i, r, r, img_self (tabl_of_chk h) (i + 1) i (by omega) hi, hr, hr, becP.refl r, Nat.le_refl _, fun _ => rfl⟩

theorem Grows.trans {l m n : List Tw} (h : Grows l m) (k : Grows m n) : Grows l n := by
  refine ⟨h.1, k.2.1, fun i hi => ?_⟩
  obtain ⟨q, r, s, h1, h2, h3, h4, h5, h6⟩ := h.2.2 i hi
  obtain ⟨p, s', t, k1, k2, k3, k4, k5, k6⟩ := k.2.2 q (List.getElem?_eq_some_iff.1 h3).1
  rw [h3] at k2
  injection k2 with k2
  subst k2
  refine ⟨p, r, t, ?_, h2, k3, h4.trans k4 (kind_ok h.2.1 h3).1, by omega, fun hk => ?_⟩
  · rw [← img_img (tabl_of_chk h.2.1) h1]
    exact k1
  · have := (h4.2.2.1 hk).1
    rw [h6 hk, k6 (by omega)]

/-! ### Images keep the order -/

theorem nest_of_chk {l : List Tw} (h : chk l = 0) : Nest l := Nest.of (chk_zero.1 h).2

theorem img_inn {l m : List Tw} (hl : Tabl l) (hm : Tabl m) (hm0 : 0 < m.length) (hq : ∀ i, i < l.length → 0 ≤ img l m i) {a : Nat} : ∀ (n i : Nat), i < n → inn l a i = true → inn m (img l m a) (img l m i) = true := by
  intro n
  induction n with
  | zero => intro i hi; omega
  | succ n ih =>
    intro i hi hin
    have hle := inn_le hl.down hin
    by_cases e : i = a
    · subst e
      exact inn_self (hq _ (by omega)) (img_lt hl hm0 (by omega) (hq _ (by omega)))
    · have h1 := (inn_up hl.down (by omega)).1 hin
      have h2 := inn_le hl.down h1.2.2
      have h3 := parAt_low hl (i := (i : Int)) (by omega)
      have h4 := ih (parAt l i).toNat (by omega) (by rw [Int.toNat_of_nonneg (by omega)]; exact h1.2.2)
      obtain ⟨_, k, e1, e2, e3, _⟩ := img_kid (m := m) hl (by omega) (by omega) (hq i (by omega))
      have h5 := inn_le hm.down h4
      rw [e1]
      have h6 := parAt_low hm (i := (k : Int)) (by omega)
      exact (inn_up hm.down (by omega)).2 ⟨by omega, by omega, by rw [e3]; exact h4⟩

theorem img_step {l m : List Tw} (hl : Nest l) (hm : Nest m) (hm0 : 0 < m.length) (hq : ∀ i, i < l.length → 0 ≤ img l m i) {i : Nat} (hi : i + 1 < l.length) : img l m i < img l m (i + 1) := by
  obtain ⟨_, k, e1, e2, e3, e4⟩ := img_kid (m := m) hl.tab (i := i + 1) (by omega) hi (hq _ hi)
  have hp := hl.tab.2 (i + 1 : Nat) (by omega) (by omega)
  have hin := hl.par (i + 1 : Nat) (by omega) (by omega)
  rw [show ((i + 1 : Nat) : Int) - 1 = (i : Nat) by omega] at hin
  obtain ⟨p, hpp⟩ : ∃ p : Nat, parAt l (i + 1 : Nat) = p := ⟨_, (Int.toNat_of_nonneg hp.1).symm⟩
  rw [hpp] at hin hp e3
  simp only [Int.toNat_natCast] at e3
  have hpq := hq p (by omega)
  have hk := parAt_low hm.tab (i := (k : Int)) (by omega)
  rcases inn_kid hl.tab (i + 1) i (by omega) hin with h | ⟨c, c0, c1, c2, c3⟩
  · obtain rfl : i = p := by omega
    omega
  · obtain ⟨c, rfl⟩ : ∃ n : Nat, c = n := ⟨c.toNat, by omega⟩
    have hci := inn_le hl.down c3
    obtain ⟨_, kc', f1, f2, f3, f4⟩ := img_kid (m := m) hl.tab (i := c) (by omega) (by omega) (hq c (by omega))
    rw [c2] at f3
    simp only [Int.toNat_natCast] at f3
    have g1 : kidNo l c < kidNo l (i + 1) := by
      unfold kidNo
      rw [c2, hpp]
      exact kidsN_lt (by omega) c2
    have g2 : kc' < k := by
      rcases Nat.lt_or_ge kc' k with hh | hh
      · exact hh
      · have : (kidsN m (img l m p) k).length ≤ (kidsN m (img l m p) kc').length := kidsN_mono _ hh
        unfold kidNo at f4 e4 g1
        rw [f3] at f4
        rw [e3] at e4
        omega
    have g3 := img_inn hl.tab hm.tab hm0 hq (i + 1) i (by omega) c3
    rw [f1] at g3
    rw [e1]
    have g4 := inn_le hm.down g3
    rcases Int.lt_or_le (img l m i) k with hh | hh
    · exact hh
    · have g5 := hm.side ((img l m i).toNat - k) _ k (by omega) g3 (by omega) hh
      have g6 := ((inn_up hm.down (by omega)).1 g5).2.2
      have g7 := inn_le hm.down g6
      have g8 := parAt_low hm.tab (i := (kc' : Int)) (by omega)
      omega

theorem img_ge {l m : List Tw} (hl : Nest l) (hm : Nest m) (hm0 : 0 < m.length) (hq : ∀ i, i < l.length → 0 ≤ img l m i) : ∀ (i : Nat), i < l.length → (i : Int) ≤ img l m i := by
  intro i
  induction i with
  | zero => intro _; rw [img_zero hl.tab]; omega
  | succ i ih =>
    intro hi
    have := ih (by omega)
    have := img_step hl hm hm0 hq hi
    omega

theorem img_lt_lt {l m : List Tw} (hl : Nest l) (hm : Nest m) (hm0 : 0 < m.length) (hq : ∀ i, i < l.length → 0 ≤ img l m i) {i : Nat} : ∀ (n : Nat), i + n < l.length → img l m i + n ≤ img l m (i + n) := by
  intro n
  induction n with
  | zero => intro _; simp
  | succ n ih =>
    intro hi
    have h1 := ih (by omega)
    have h2 := img_step hl hm hm0 hq (i := i + n) (by omega)
    rw [← Nat.add_assoc]
    omega

/-- If each row is the image of one, each is its own. -/
theorem img_id {l m : List Tw} (hl : Nest l) (hm : Nest m) (hl0 : 0 < l.length) (hm0 : 0 < m.length) (hq : ∀ i, i < l.length → 0 ≤ img l m i) (hs : ∀ k, k < m.length → ∃ i, i < l.length ∧ img l m i = k) : l.length = m.length ∧ ∀ i, i < l.length → img l m i = i := by
  have hlast := img_ge hl hm hm0 hq (l.length - 1) (by omega)
  have hll := img_lt hl.tab hm0 (i := l.length - 1) (by omega) (hq _ (by omega))
  have hid : ∀ n i, i < n → i < l.length → img l m i = i := by
    intro n
    induction n with
    | zero => intro i hi; omega
    | succ n ih =>
      intro i hi h1
      have h2 := img_ge hl hm hm0 hq i h1
      obtain ⟨j, hj, hji⟩ := hs i (by omega)
      rcases Nat.lt_or_ge j i with hh | hh
      · have := ih j (by omega) hj
        omega
      · have := img_lt_lt hl hm hm0 hq (i := i) (j - i) (by omega)
        rw [show i + (j - i) = j by omega] at this
        omega
  refine ⟨?_, fun i hi => hid (i + 1) i (by omega) hi⟩
  obtain ⟨j, hj, hji⟩ := hs (m.length - 1) (by omega)
  have := hid (j + 1) j (by omega) hj
  omega

theorem Grows.imgs {l m : List Tw} (h : Grows l m) : ∀ i, i < l.length → 0 ≤ img l m i := fun i hi => by
  obtain ⟨q, _, _, h1, _⟩ := h.2.2 i hi
  omega

/-- Two rows that stand at one place, in one way. -/
theorem tw_eq {r s : Tw} (hp : r.par = s.par) (h : becP r s) (hk : (2 ≤ r.kind) ∨ (becP s r ∧ (0 ≤ r.kind ∧ 0 ≤ s.kind) ∧ valB r = true ∧ begB r = true ∧ valB s = true ∧ begB s = true)) : r = s := by
  obtain ⟨h1, h2, h3, h4⟩ := h
  obtain ⟨rp, ri, rf, rk, rv, rs, rc⟩ := r
  obtain ⟨sp, si, sf, sk, sv, ss, sc⟩ := s
  simp only at *
  subst hp h1 h2
  rcases hk with hk | ⟨⟨_, _, k3, k4⟩, ⟨z1, z2⟩, v1, b1, v2, b2⟩
  · obtain ⟨rfl, rfl, rfl, rfl⟩ := h3 hk
    rfl
  · simp only at k3 k4 z1 z2
    by_cases hk : 2 ≤ rk
    · obtain ⟨rfl, rfl, rfl, rfl⟩ := h3 hk
      rfl
    · have v1 := of_decide_eq_true v1
      have v2 := of_decide_eq_true v2
      have b1 := of_decide_eq_true b1
      have b2 := of_decide_eq_true b2
      simp only at v1 v2 b1 b2
      have hs2 : ¬ 2 ≤ sk := fun hh => by
        have := (k3 hh).1
        omega
      by_cases hr1 : rk = 1
      · obtain ⟨c1, c2, c3⟩ := h4 hr1
        obtain ⟨d1, d2, d3⟩ := k4 (by omega)
        have hcl : rc = sc := by
          apply ByteArray.ext
          apply Array.ext'
          exact List.IsPrefix.eq_of_length c3 (Nat.le_antisymm c3.length_le d3.length_le)
        obtain rfl : rk = sk := by omega
        obtain rfl : rs = ss := by omega
        obtain rfl : rv = sv := by omega
        subst hcl
        rfl
      · have hr0 : rk = 0 := by omega
        have hs0 : sk = 0 := by
          by_cases hs1 : sk = 1
          · have := (k4 hs1).1
            omega
          · omega
        obtain ⟨e1, e2⟩ := b1 hr0
        obtain ⟨e3, e4⟩ := b2 hs0
        have hcl : rc = sc := by
          apply ByteArray.ext
          apply Array.ext'
          have l1 : rc.data.toList = [] := by apply List.eq_nil_of_length_eq_zero; simpa using e2
          have l2 : sc.data.toList = [] := by apply List.eq_nil_of_length_eq_zero; simpa using e4
          rw [l1, l2]
        obtain rfl : rv = sv := by omega
        obtain rfl : rk = sk := by omega
        obtain rfl : rs = ss := by omega
        subst hcl
        rfl

theorem eq_of_img {l m : List Tw} (hl : Tabl l) (hm : Tabl m) (hid : l.length = m.length ∧ ∀ i, i < l.length → img l m i = i) (hr : ∀ (i : Nat) (r s : Tw), l[i]? = some r → m[i]? = some s → r.par = s.par → r = s) : l = m := by
  apply List.ext_getElem?
  intro i
  rcases Nat.lt_or_ge i l.length with hi | hi
  · obtain ⟨r, h1⟩ : ∃ r, l[i]? = some r := ⟨_, List.getElem?_eq_getElem hi⟩
    obtain ⟨s, h2⟩ : ∃ s, m[i]? = some s := ⟨_, List.getElem?_eq_getElem (by omega)⟩
    rw [h1, h2, hr i r s h1 h2]
    rw [← parAt_of' h1, ← parAt_of' h2]
    by_cases h0 : i = 0
    · subst h0
      have e1 := hl.1 (by rintro rfl; simp at hi)
      have e2 := hm.1 (by rintro rfl; simp at h2)
      exact e1.trans e2.symm
    · obtain ⟨_, k, e1, e2, e3, _⟩ := img_kid (m := m) hl (by omega) hi (by rw [hid.2 i hi]; omega)
      have hp := hl.2 i (by omega) (by omega)
      rw [hid.2 _ (by omega), Int.toNat_of_nonneg hp.1] at e3
      rw [hid.2 i hi] at e1
      obtain rfl : k = i := by omega
      exact e3.symm
  · rw [List.getElem?_eq_none hi, List.getElem?_eq_none (by omega)]

/-- Two tables of which each became the other one are one. -/
theorem Grows.anti {l m : List Tw} (h : Grows l m) (k : Grows m l) : l = m := by
  have hl := nest_of_chk h.1
  have hm := nest_of_chk h.2.1
  have hid := img_id hl hm (chk_zero.1 h.1).1 (chk_zero.1 h.2.1).1 h.imgs (fun i hi => by
    obtain ⟨q, _, _, h1, _, h3, _⟩ := k.2.2 i hi
    exact ⟨q, (List.getElem?_eq_some_iff.1 h3).1, by rw [img_img hl.tab h1, img_self hm.tab (i + 1) i (by omega) hi]⟩)
  refine eq_of_img hl.tab hm.tab hid (fun i r s h1 h2 hp => ?_)
  have hi := (List.getElem?_eq_some_iff.1 h1).1
  have hi2 := (List.getElem?_eq_some_iff.1 h2).1
  obtain ⟨q, r', s', g1, g2, g3, g4, _⟩ := h.2.2 i hi
  have hq : q = i := by have := hid.2 i hi; omega
  subst hq
  rw [h1] at g2
  rw [h2] at g3
  injection g2 with g2
  injection g3 with g3
  subst g2 g3
  obtain ⟨q2, s2, r2, f1, f2, f3, f4, _⟩ := k.2.2 q hi2
  have hq2 : q2 = q := by
    have e := img_img (n := m) hl.tab f1
    rw [img_self hm.tab (q + 1) q (by omega) hi2, hid.2 q2 (List.getElem?_eq_some_iff.1 f3).1] at e
    omega
  subst hq2
  rw [h1] at f3
  rw [h2] at f2
  injection f2 with f2
  injection f3 with f3
  subst f2 f3
  have a := kind_ok h.1 h1
  have b := kind_ok h.2.1 h2
  exact tw_eq hp g4 (.inr ⟨f4, ⟨a.1, b.1⟩, a.2.2.1, a.2.2.2.1, b.2.2.1, b.2.2.2.1⟩)

/-- What is done stays as it is. -/
theorem Grows.done {l m : List Tw} (h : Grows l m) (hd : ∀ (i : Nat) (r : Tw), l[i]? = some r → 2 ≤ r.kind) : l = m := by
  have hl := nest_of_chk h.1
  have hm := nest_of_chk h.2.1
  have hl0 := (chk_zero.1 h.1).1
  have hid := img_id hl hm hl0 (chk_zero.1 h.2.1).1 h.imgs (by
    have : ∀ n k, k < n → k < m.length → ∃ i, i < l.length ∧ img l m i = k := by
      intro n
      induction n with
      | zero => intro k hk; omega
      | succ n ih =>
        intro k hk hkm
        by_cases h0 : k = 0
        · subst h0
          exact ⟨0, hl0, img_zero hl.tab⟩
        · have hp := hm.tab.2 k (by omega) (by omega)
          obtain ⟨i, hi, hip⟩ := ih (parAt m k).toNat (by omega) (by omega)
          rw [Int.toNat_of_nonneg hp.1] at hip
          obtain ⟨q, r, s, g1, g2, g3, g4, g5, g6⟩ := h.2.2 i hi
          have g7 := g6 (hd i r g2)
          have g8 := kidsN_get (l := m) (k := k) rfl m.length hkm
          have hkk : (kidsN m (parAt m k) k).length < (kidsN l i l.length).length := by
            have := (List.getElem?_eq_some_iff.1 g8).1
            unfold kc at g7
            rw [g7, ← g1, hip]
            exact this
          obtain ⟨j, _, j1, j2, j3⟩ := kidsN_at l.length (List.getElem?_eq_getElem hkk)
          have hlow := parAt_low hl.tab (i := (j : Int)) (by omega)
          refine ⟨j, j1, ?_⟩
          rw [img_up hl.tab (by omega) j1, j2, Int.toNat_natCast, hip, if_neg (by omega)]
          unfold kidNo
          rw [j2, j3, g8]
          rfl
    exact fun k hk => this (k + 1) k (by omega) hk)
  refine eq_of_img hl.tab hm.tab hid (fun i r s h1 h2 hp => ?_)
  have hi := (List.getElem?_eq_some_iff.1 h1).1
  obtain ⟨q, r', s', g1, g2, g3, g4, _⟩ := h.2.2 i hi
  have hq : q = i := by have := hid.2 i hi; omega
  subst hq
  rw [h1] at g2
  rw [h2] at g3
  injection g2 with g2
  injection g3 with g3
  subst g2 g3
  exact tw_eq hp g4 (.inl (hd _ _ h1))

end Go.Proofs.YtnlbellbeepkaaaGreatDoor
