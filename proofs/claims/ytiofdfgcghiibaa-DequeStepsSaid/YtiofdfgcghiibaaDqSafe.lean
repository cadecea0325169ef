/-
  A deque whose operations may break: what keeps each step within the cells that are given away.
-/
import Derived.Test.YtiofdfgcghiibaaDqSeq
namespace Go.Proofs.Ytiofdfgcghiibaa
open Go.RowKit
set_option linter.unusedVariables false

structure SS (most : Int) (size : Nat) (M : Mach) (R : Rg) (N : Int) : Prop where
  len : M.all.length = size
  us : M.used ≤ size
  sz : size ≤ 600
  rt : R.Right
  ra : 3 ≤ R.a
  ru : R.a + pow R.l ≤ M.used
  rl : R.l ≤ most
  m8 : most ≤ 8
  wd : rd M 2 = R.word
  t0 : 0 ≤ rd M 0
  tN : rd M 0 ≤ N
  b0 : -N ≤ rd M 1
  bN : rd M 1 ≤ N
  bs : rd M 1 - rd M 0 ≤ pow R.l

structure ST (M : Mach) (N : Int) (o : DOp) : Prop where
  k : o.kind = 2
  n : 1 ≤ o.nx ∧ o.nx ≤ 5
  t : 2 ≤ o.nx → 0 ≤ o.t ∧ o.t ≤ N
  rr : o.nx = 4 → o.rg.Right ∧ 3 ≤ o.rg.a ∧ o.rg.a + pow o.rg.l ≤ M.used

structure SU (most : Int) (M : Mach) (R : Rg) (o : DOp) : Prop where
  k : o.kind = 0
  n : 1 ≤ o.nx ∧ o.nx ≤ 8
  b : 2 ≤ o.nx → o.b = rd M 1
  t : 3 ≤ o.nx → 0 ≤ o.t ∧ o.t ≤ rd M 0
  t3 : o.nx = 3 → o.b - o.t ≤ pow R.l
  rg : 4 ≤ o.nx → o.rg = R
  fu : 4 ≤ o.nx → o.nx ≤ 6 → o.b - o.t = pow R.l ∧ R.l < most
  to : 5 ≤ o.nx → o.nx ≤ 6 → o.to.Right ∧ o.to.l = R.l + 1 ∧ 3 ≤ o.to.a ∧ o.to.a + pow o.to.l ≤ M.used
  pl : o.nx = 5 → o.t ≤ o.pl ∧ o.pl < o.b
  fi : 7 ≤ o.nx → o.b - o.t < pow R.l

structure SP (M : Mach) (R : Rg) (o : DOp) : Prop where
  k : o.kind = 1
  n : 1 ≤ o.nx ∧ o.nx ≤ 8
  b : 2 ≤ o.nx → o.nx ≤ 3 → o.b = rd M 1
  b4 : 4 ≤ o.nx → rd M 1 = o.b - 1 ∧ o.b - rd M 0 ≤ pow R.l
  rg : 3 ≤ o.nx → o.rg = R
  t : 5 ≤ o.nx → 0 ≤ o.t ∧ o.t ≤ rd M 0

section
variable {most : Int} {size : Nat} {M : Mach} {R : Rg} {N : Int} {o : DOp}

theorem SS.pin (s : SS most size M R N) (i : Int) : 3 ≤ R.place i ∧ R.place i < M.used ∧ R.place i < size := by
  have := place_in s.rt i
  have := s.ra
  have := s.ru
  have := s.us
  omega

theorem SS.more (s : SS most size M R N) {N' : Int} (h : N ≤ N') : SS most size M R N' :=
  ⟨s.len, s.us, s.sz, s.rt, s.ra, s.ru, s.rl, s.m8, s.wd, s.t0, by have := s.tN; omega, by have := s.b0; omega, by have := s.bN; omega, s.bs⟩

theorem SS.u3 (s : SS most size M R N) : 3 ≤ M.used := by
  have := s.ra
  have := s.ru
  have := pow_pos R.l
  omega

/-- A turn of a cell behind the first three. -/
theorem SS.wr3 (s : SS most size M R N) (k x : Int) (h : 3 ≤ k) : SS most size (wrc M k x) R N := by
  have e0 : rd (wrc M k x) 0 = rd M 0 := rd_wr_far _ _ _ _ (by omega) (by omega) (by omega)
  have e1 : rd (wrc M k x) 1 = rd M 1 := rd_wr_far _ _ _ _ (by omega) (by omega) (by omega)
  have e2 : rd (wrc M k x) 2 = rd M 2 := rd_wr_far _ _ _ _ (by omega) (by omega) (by omega)
  exact ⟨by rw [wr_len]; exact s.len, s.us, s.sz, s.rt, s.ra, s.ru, s.rl, s.m8, by rw [e2]; exact s.wd, by rw [e0]; exact s.t0, by rw [e0]; exact s.tN, by rw [e1]; exact s.b0, by rw [e1]; exact s.bN, by rw [e0, e1]; exact s.bs⟩

theorem SS.wrB (s : SS most size M R N) (x : Int) (h0 : -N ≤ x) (h1 : x ≤ N) (h2 : x - rd M 0 ≤ pow R.l) : SS most size (wrc M 1 x) R N := by
  have u3 := s.u3
  have us := s.us
  have e0 : rd (wrc M 1 x) 0 = rd M 0 := rd_wr1 _ _ _ (by omega) (by omega)
  have e1 : rd (wrc M 1 x) 1 = x := rd_wr_same _ _ _ (by omega) (by rw [s.len]; omega)
  have e2 : rd (wrc M 1 x) 2 = rd M 2 := rd_wr1 _ _ _ (by omega) (by omega)
  exact ⟨by rw [wr_len]; exact s.len, s.us, s.sz, s.rt, s.ra, s.ru, s.rl, s.m8, by rw [e2]; exact s.wd, by rw [e0]; exact s.t0, by rw [e0]; exact s.tN, by rw [e1]; exact h0, by rw [e1]; exact h1, by rw [e0, e1]; exact h2⟩

theorem SS.wrT (s : SS most size M R N) (x : Int) (h0 : rd M 0 ≤ x) (h1 : x ≤ N) : SS most size (wrc M 0 x) R N ∧ rd (wrc M 0 x) 0 = x ∧ rd (wrc M 0 x) 1 = rd M 1 := by
  have u3 := s.u3
  have us := s.us
  have bs := s.bs
  have t0 := s.t0
  have e0 : rd (wrc M 0 x) 0 = x := rd_wr_same _ _ _ (by omega) (by rw [s.len]; omega)
  have e1 : rd (wrc M 0 x) 1 = rd M 1 := rd_wr0 _ _ _ (by omega)
  have e2 : rd (wrc M 0 x) 2 = rd M 2 := rd_wr0 _ _ _ (by omega)
  exact ⟨⟨by rw [wr_len]; exact s.len, s.us, s.sz, s.rt, s.ra, s.ru, s.rl, s.m8, by rw [e2]; exact s.wd, by rw [e0]; omega, by rw [e0]; exact h1, by rw [e1]; exact s.b0, by rw [e1]; exact s.bN, by rw [e0, e1]; omega⟩, e0, e1⟩

theorem SS.wrW (s : SS most size M R N) (r : Rg) (hr : r.Right) (h3 : 3 ≤ r.a) (hu : r.a + pow r.l ≤ M.used) (hm : r.l ≤ most) (hs : pow R.l ≤ pow r.l) : SS most size (wrc M 2 r.word) r N := by
  have u3 := s.u3
  have us := s.us
  have bs := s.bs
  have e0 : rd (wrc M 2 r.word) 0 = rd M 0 := rd_wr_far _ _ _ _ (by omega) (by omega) (by omega)
  have e1 : rd (wrc M 2 r.word) 1 = rd M 1 := rd_wr_far _ _ _ _ (by omega) (by omega) (by omega)
  have e2 : rd (wrc M 2 r.word) 2 = r.word := rd_wr_same _ _ _ (by omega) (by rw [s.len]; omega)
  exact ⟨by rw [wr_len]; exact s.len, s.us, s.sz, hr, h3, hu, hm, s.m8, e2, by rw [e0]; exact s.t0, by rw [e0]; exact s.tN, by rw [e1]; exact s.b0, by rw [e1]; exact s.bN, by rw [e0, e1]; omega⟩

theorem ST.used {M' : Mach} (h : ST M N o) (hu : M.used ≤ M'.used) {N' : Int} (hN : N ≤ N') : ST M' N' o :=
  ⟨h.k, h.n, fun h2 => by have := h.t h2; omega, fun h4 => by obtain ⟨a, b, c⟩ := h.rr h4; exact ⟨a, b, by omega⟩⟩

theorem SU.top (h : SU most M R o) (s : SS most size M R N) {x : Int} (hx : rd M 0 ≤ x) : SU most (wrc M 0 x) R o := by
  have u3 := s.u3
  have us := s.us
  have t0 := s.t0
  have e0 : rd (wrc M 0 x) 0 = x := rd_wr_same _ _ _ (by omega) (by rw [s.len]; omega)
  have e1 : rd (wrc M 0 x) 1 = rd M 1 := rd_wr0 _ _ _ (by omega)
  exact ⟨h.k, h.n, fun h2 => by rw [e1]; exact h.b h2, fun h3 => by rw [e0]; have := h.t h3; omega, h.t3, h.rg, h.fu, h.to, h.pl, h.fi⟩

theorem SP.top (h : SP M R o) (s : SS most size M R N) {x : Int} (hx : rd M 0 ≤ x) : SP (wrc M 0 x) R o := by
  have u3 := s.u3
  have us := s.us
  have t0 := s.t0
  have e0 : rd (wrc M 0 x) 0 = x := rd_wr_same _ _ _ (by omega) (by rw [s.len]; omega)
  have e1 : rd (wrc M 0 x) 1 = rd M 1 := rd_wr0 _ _ _ (by omega)
  exact ⟨h.k, h.n, fun h2 h3 => by rw [e1]; exact h.b h2 h3, fun h4 => by rw [e1, e0]; have := h.b4 h4; omega, h.rg, fun h5 => by rw [e0]; have := h.t h5; omega⟩

/-- A thief's step. -/
theorem ST.step (h : ST M N o) (s : SS most size M R N) :
    let r := o.act most M
    ST r.2 (N + 1) r.1 ∧ SS most size r.2 R (N + 1) ∧ (r.2 = M ∨ r.2 = wrc M 0 (rd M 0 + 1)) := by
  have hn := h.n
  have hk := h.k
  have t0 := s.t0
  have tN := s.tN
  intro r
  by_cases n1 : o.nx = 1
  · have e : r = o.steal1 M := by show DOp.act most o M = _; unfold DOp.act; simp only [hk, n1]
    rw [e]
    exact ⟨⟨hk, by show 1 ≤ 2 ∧ 2 ≤ 5; omega, fun _ => by show 0 ≤ rd M 0 ∧ rd M 0 ≤ N + 1; omega, fun h4 => by exact absurd h4 (by show ¬ 2 = 4; omega)⟩, s.more (by omega), .inl rfl⟩
  have ht := h.t (by omega)
  by_cases n2 : o.nx = 2
  · have e : r = o.steal2 M := by show DOp.act most o M = _; unfold DOp.act; simp only [hk, n2]
    rw [e]
    unfold DOp.steal2
    split
    · exact ⟨⟨hk, by show 1 ≤ 3 ∧ 3 ≤ 5; omega, fun _ => by show 0 ≤ o.t ∧ o.t ≤ N + 1; omega, fun h4 => by exact absurd h4 (by show ¬ 3 = 4; omega)⟩, s.more (by omega), .inl rfl⟩
    · exact ⟨⟨hk, by show 1 ≤ 3 ∧ 3 ≤ 5; omega, fun _ => by show 0 ≤ o.t ∧ o.t ≤ N + 1; omega, fun h4 => by exact absurd h4 (by show ¬ 3 = 4; omega)⟩, s.more (by omega), .inl rfl⟩
  by_cases n3 : o.nx = 3
  · have e : r = o.steal3 M := by show DOp.act most o M = _; unfold DOp.act; simp only [hk, n3]
    have er : rgOf (rd M 2) = R := by rw [s.wd, rgOf_word s.rt]
    rw [e]
    unfold DOp.steal3
    rw [er]
    exact ⟨⟨hk, by show 1 ≤ 4 ∧ 4 ≤ 5; omega, fun _ => by show 0 ≤ o.t ∧ o.t ≤ N + 1; omega, fun _ => ⟨s.rt, s.ra, s.ru⟩⟩, s.more (by omega), .inl rfl⟩
  by_cases n4 : o.nx = 4
  · have e : r = o.steal4 M := by show DOp.act most o M = _; unfold DOp.act; simp only [hk, n4]
    rw [e]
    exact ⟨⟨hk, by show 1 ≤ 5 ∧ 5 ≤ 5; omega, fun _ => by show 0 ≤ o.t ∧ o.t ≤ N + 1; omega, fun h4 => by exact absurd h4 (by show ¬ 5 = 4; omega)⟩, s.more (by omega), .inl rfl⟩
  have n5 : o.nx = 5 := by omega
  have e : r = o.steal5 M := by show DOp.act most o M = _; unfold DOp.act; simp only [hk, n5]
  rw [e]
  unfold DOp.steal5
  by_cases h1 : rd M 0 = o.t
  · rw [if_pos h1]
    dsimp only
    rw [← h1]
    exact ⟨⟨hk, hn, fun _ => by show 0 ≤ rd M 0 ∧ rd M 0 ≤ N + 1; omega, fun h4 => by exact absurd h4 (by show ¬ o.nx = 4; omega)⟩, ((s.more (show N ≤ N + 1 by omega)).wrT (rd M 0 + 1) (by omega) (by omega)).1, .inr rfl⟩
  · rw [if_neg h1]
    exact ⟨⟨hk, hn, fun _ => by show 0 ≤ o.t ∧ o.t ≤ N + 1; omega, fun h4 => by exact absurd h4 (by show ¬ o.nx = 4; omega)⟩, s.more (by omega), .inl rfl⟩

/-- The owner's step of a Push. -/
theorem SU.step (h : SU most M R o) (s : SS most size M R N) (hw : o.how = 0) (hN : 300 ≤ N) (hroom : o.nx = 4 → (M.used : Int) + pow (o.rg.l + 1) ≤ size) :
    let r := o.act most M
    ∃ R', SS most size r.2 R' (N + 1) ∧ M.used ≤ r.2.used ∧ (r.1.how = o.how → (o.nx = 8 ∨ SU most r.2 R' r.1)) := by
  have hn := h.n
  have hk := h.k
  have t0 := s.t0
  have tN := s.tN
  have bN := s.bN
  have b0 := s.b0
  have bs := s.bs
  have u3 := s.u3
  intro r
  by_cases n1 : o.nx = 1
  · have e : r = o.push1 M := by show DOp.act most o M = _; unfold DOp.act; simp only [hk, n1]
    rw [e]
    unfold DOp.push1
    refine ⟨R, s.more (by omega), Nat.le_refl _, fun _ => .inr ?_⟩
    constructor
    all_goals (try dsimp only)
    all_goals first
      | (intro h1 h2; exfalso; omega)
      | (intro h1; exfalso; omega)
      | exact hk
      | omega
  have b := h.b (by omega)
  by_cases n2 : o.nx = 2
  · have e : r = o.push2 M := by show DOp.act most o M = _; unfold DOp.act; simp only [hk, n2]
    rw [e]
    unfold DOp.push2
    refine ⟨R, s.more (by omega), Nat.le_refl _, fun _ => .inr ?_⟩
    constructor
    all_goals (try dsimp only)
    all_goals first
      | (intro h1 h2; exfalso; omega)
      | (intro h1; exfalso; omega)
      | exact hk
      | omega
  have t := h.t (by omega)
  by_cases n3 : o.nx = 3
  · have e : r = o.push3 most M := by show DOp.act most o M = _; unfold DOp.act; simp only [hk, n3]
    have er : rgOf (rd M 2) = R := by rw [s.wd, rgOf_word s.rt]
    have t3 := h.t3 n3
    have rl := s.rl
    rw [e]
    unfold DOp.push3
    rw [er]
    dsimp only
    rw [size_eq s.rt]
    by_cases h1 : o.b - o.t < pow R.l
    · rw [if_pos h1]
      refine ⟨R, s.more (by omega), Nat.le_refl _, fun _ => .inr ?_⟩
      constructor
      all_goals (try dsimp only)
      all_goals first
        | (intro h1 h2; exfalso; omega)
        | (intro h1; exfalso; omega)
        | exact hk
        | (intro _; rfl)
        | omega
    · rw [if_neg h1]
      by_cases h2 : most ≤ R.l
      · rw [if_pos h2]
        refine ⟨R, s.more (by omega), Nat.le_refl _, fun hh => ?_⟩
        exfalso
        dsimp only at hh
        omega
      · rw [if_neg h2]
        refine ⟨R, s.more (by omega), Nat.le_refl _, fun _ => .inr ?_⟩
        constructor
        all_goals (try dsimp only)
        all_goals first
          | (intro h1 h2; exfalso; omega)
          | (intro h1; exfalso; omega)
          | exact hk
          | (intro _; rfl)
          | omega
  have rg := h.rg (by omega)
  by_cases n4 : o.nx = 4
  · have e : r = o.push4 M := by show DOp.act most o M = _; unfold DOp.act; simp only [hk, n4]
    have hf := h.fu (by omega) (by omega)
    have hr := hroom n4
    have r0 := s.rt.1
    have ps := pow_succ R.l r0
    have hp := pow_pos R.l
    have sz := s.sz
    have m8 := s.m8
    have rl := s.rl
    rw [rg] at hr
    obtain ⟨n, hn9⟩ : ∃ n : Nat, pow (R.l + 1) = n := Int.eq_ofNat_of_zero_le (by omega)
    rw [hn9] at hr ps
    rw [e]
    unfold DOp.push4
    dsimp only
    rw [rg, hn9]
    simp only [Int.toNat_natCast]
    have hto : Rg.Right ⟨(M.used : Int), R.l + 1⟩ := ⟨by simp only; omega, by simp only; omega, by simp only; omega, by simp only; rw [hn9]; omega⟩
    have hus : ((M.give n).used : Int) = M.used + n := by show ((M.used + n : Nat) : Int) = _; omega
    refine ⟨R, ⟨s.len, by show M.used + n ≤ size; omega, s.sz, s.rt, s.ra, by have := s.ru; omega, s.rl, s.m8, s.wd, s.t0, by show rd M 0 ≤ N + 1; omega, by show -(N + 1) ≤ rd M 1; omega, by show rd M 1 ≤ N + 1; omega, s.bs⟩, Nat.le_add_right _ _, fun _ => .inr ?_⟩
    constructor
    all_goals (try dsimp only)
    all_goals first
      | (intro h1 h2; exfalso; omega)
      | (intro h1; exfalso; omega)
      | exact hk
      | (intro _; exact b)
      | (intro _; exact t)
      | (intro _; rfl)
      | (intro _ _; exact hf)
      | (intro _ _; exact ⟨hto, rfl, by omega, by rw [hn9]; omega⟩)
      | omega
  by_cases n5 : o.nx = 5
  · have e : r = o.push5 M := by show DOp.act most o M = _; unfold DOp.act; simp only [hk, n5]
    have hf := h.fu (by omega) (by omega)
    have hto := h.to (by omega) (by omega)
    have hpl := h.pl n5
    rw [e]
    unfold DOp.push5
    by_cases hl : o.ld = true
    · rw [if_pos hl]
      have hp := place_in hto.1 o.pl
      have e0 : rd (wrc M (o.to.place o.pl) o.cx) 0 = rd M 0 := rd_wr_far _ _ _ _ (by omega) (by omega) (by omega)
      have e1 : rd (wrc M (o.to.place o.pl) o.cx) 1 = rd M 1 := rd_wr_far _ _ _ _ (by omega) (by omega) (by omega)
      refine ⟨R, (s.more (by omega)).wr3 _ _ (by omega), Nat.le_refl _, fun _ => .inr ?_⟩
      by_cases hlast : o.pl + 1 = o.b
      · constructor
        all_goals (try dsimp only)
        all_goals try rw [if_pos hlast]
        all_goals first
          | (intro h1 h2; exfalso; omega)
          | (intro h1; exfalso; omega)
          | exact hk
          | (intro _; rw [e1]; exact b)
          | (intro _; rw [e0]; exact t)
          | (intro _; exact rg)
          | (intro _ _; exact hf)
          | (intro _ _; exact hto)
          | omega
      · constructor
        all_goals (try dsimp only)
        all_goals try rw [if_neg hlast]
        all_goals first
          | (intro h1 h2; exfalso; omega)
          | (intro h1; exfalso; omega)
          | exact hk
          | (intro _; rw [e1]; exact b)
          | (intro _; rw [e0]; exact t)
          | (intro _; exact rg)
          | (intro _ _; exact hf)
          | (intro _ _; exact hto)
          | omega
    · rw [if_neg hl]
      refine ⟨R, s.more (by omega), Nat.le_refl _, fun _ => .inr ?_⟩
      constructor
      all_goals (try dsimp only)
      all_goals first
        | (intro h1 h2; exfalso; omega)
        | (intro h1; exfalso; omega)
        | exact hk
        | (intro _; exact b)
        | (intro _; exact t)
        | (intro _; exact rg)
        | (intro _ _; exact hf)
        | (intro _ _; exact hto)
        | (intro _; exact hpl)
        | omega
  by_cases n6 : o.nx = 6
  · have e : r = o.push6 M := by show DOp.act most o M = _; unfold DOp.act; simp only [hk, n6]
    have hf := h.fu (by omega) (by omega)
    have hto := h.to (by omega) (by omega)
    have ps : pow o.to.l = 2 * pow R.l := by rw [hto.2.1]; exact pow_succ _ s.rt.1
    have hp := pow_pos R.l
    rw [e]
    unfold DOp.push6
    have e0 : rd (wrc M 2 o.to.word) 0 = rd M 0 := rd_wr_far _ _ _ _ (by omega) (by omega) (by omega)
    have e1 : rd (wrc M 2 o.to.word) 1 = rd M 1 := rd_wr_far _ _ _ _ (by omega) (by omega) (by omega)
    refine ⟨o.to, (s.more (show N ≤ N + 1 by omega)).wrW o.to hto.1 hto.2.2.1 hto.2.2.2 (by omega) (by omega), Nat.le_refl _, fun _ => .inr ?_⟩
    constructor
    all_goals (try dsimp only)
    all_goals first
      | (intro h1 h2; exfalso; omega)
      | (intro h1; exfalso; omega)
      | exact hk
      | (intro _; rw [e1]; exact b)
      | (intro _; rw [e0]; exact t)
      | (intro _; rfl)
      | omega
  have hfi := h.fi (by omega)
  by_cases n7 : o.nx = 7
  · have e : r = o.push7 M := by show DOp.act most o M = _; unfold DOp.act; simp only [hk, n7]
    have hp := s.pin o.b
    rw [e]
    unfold DOp.push7
    dsimp only
    rw [rg]
    have e0 : rd (wrc M (R.place o.b) o.x) 0 = rd M 0 := rd_wr_far _ _ _ _ (by omega) (by omega) (by omega)
    have e1 : rd (wrc M (R.place o.b) o.x) 1 = rd M 1 := rd_wr_far _ _ _ _ (by omega) (by omega) (by omega)
    refine ⟨R, (s.more (by omega)).wr3 _ _ (by omega), Nat.le_refl _, fun _ => .inr ?_⟩
    constructor
    all_goals (try dsimp only)
    all_goals first
      | (intro h1 h2; exfalso; omega)
      | (intro h1; exfalso; omega)
      | exact hk
      | (intro _; rw [e1]; exact b)
      | (intro _; rw [e0]; exact t)
      | (intro _; rfl)
      | (intro _; exact rg)
      | (intro _; exact hfi)
      | omega
  have n8 : o.nx = 8 := by omega
  have e : r = o.push8 M := by show DOp.act most o M = _; unfold DOp.act; simp only [hk, n8]
  rw [e]
  unfold DOp.push8
  exact ⟨R, (s.more (show N ≤ N + 1 by omega)).wrB _ (by omega) (by omega) (by omega), Nat.le_refl _, fun _ => .inl n8⟩

/-- The owner's step of a Pop. -/
theorem SP.step (h : SP M R o) (s : SS most size M R N) :
    let r := o.act most M
    SS most size r.2 R (N + 1) ∧ M.used ≤ r.2.used ∧ (r.1.how = o.how → (o.nx = 8 ∨ o.nx = 5 ∨ SP r.2 R r.1)) := by
  have hn := h.n
  have hk := h.k
  have t0 := s.t0
  have tN := s.tN
  have bN := s.bN
  have b0 := s.b0
  have bs := s.bs
  have u3 := s.u3
  have us := s.us
  intro r
  by_cases n1 : o.nx = 1
  · have e : r = o.pop1 M := by show DOp.act most o M = _; unfold DOp.act; simp only [hk, n1]
    rw [e]
    unfold DOp.pop1
    refine ⟨s.more (by omega), Nat.le_refl _, fun _ => .inr (.inr ?_)⟩
    constructor
    all_goals (try dsimp only)
    all_goals first
      | (intro h1 h2; exfalso; omega)
      | (intro h1; exfalso; omega)
      | exact hk
      | (intro _ _; rfl)
      | omega
  by_cases n2 : o.nx = 2
  · have e : r = o.pop2 M := by show DOp.act most o M = _; unfold DOp.act; simp only [hk, n2]
    have er : rgOf (rd M 2) = R := by rw [s.wd, rgOf_word s.rt]
    have b := h.b (by omega) (by omega)
    rw [e]
    unfold DOp.pop2
    rw [er]
    refine ⟨s.more (by omega), Nat.le_refl _, fun _ => .inr (.inr ?_)⟩
    constructor
    all_goals (try dsimp only)
    all_goals first
      | (intro h1; exfalso; omega)
      | exact hk
      | (intro _ _; exact b)
      | (intro _; rfl)
      | omega
  have rg := h.rg (by omega)
  by_cases n3 : o.nx = 3
  · have e : r = o.pop3 M := by show DOp.act most o M = _; unfold DOp.act; simp only [hk, n3]
    have b := h.b (by omega) (by omega)
    rw [e]
    unfold DOp.pop3
    have e0 : rd (wrc M 1 (o.b - 1)) 0 = rd M 0 := rd_wr1 _ _ _ (by omega) (by omega)
    have e1 : rd (wrc M 1 (o.b - 1)) 1 = o.b - 1 := rd_wr_same _ _ _ (by omega) (by rw [s.len]; omega)
    refine ⟨(s.more (show N ≤ N + 1 by omega)).wrB _ (by omega) (by omega) (by omega), Nat.le_refl _, fun _ => .inr (.inr ?_)⟩
    constructor
    all_goals (try dsimp only)
    all_goals first
      | (intro h1 h2; exfalso; omega)
      | (intro h1; exfalso; omega)
      | exact hk
      | (intro _; rw [e0, e1]; omega)
      | (intro _; exact rg)
      | omega
  have b4 := h.b4 (by omega)
  by_cases n4 : o.nx = 4
  · have e : r = o.pop4 M := by show DOp.act most o M = _; unfold DOp.act; simp only [hk, n4]
    rw [e]
    unfold DOp.pop4
    refine ⟨s.more (by omega), Nat.le_refl _, fun _ => .inr (.inr ?_)⟩
    by_cases h5 : o.b - 1 < rd M 0
    · constructor
      all_goals (try dsimp only)
      all_goals try rw [if_pos h5]
      all_goals first
        | (intro h1 h2; exfalso; omega)
        | (intro h1; exfalso; omega)
        | exact hk
        | (intro _; exact b4)
        | (intro _; exact rg)
        | omega
    · constructor
      all_goals (try dsimp only)
      all_goals try rw [if_neg h5]
      all_goals first
        | (intro h1 h2; exfalso; omega)
        | (intro h1; exfalso; omega)
        | exact hk
        | (intro _; exact b4)
        | (intro _; exact rg)
        | omega
  have t := h.t (by omega)
  by_cases n5 : o.nx = 5
  · have e : r = o.pop5 M := by show DOp.act most o M = _; unfold DOp.act; simp only [hk, n5]
    rw [e]
    unfold DOp.pop5
    exact ⟨(s.more (show N ≤ N + 1 by omega)).wrB _ (by omega) (by omega) (by omega), Nat.le_refl _, fun _ => .inr (.inl n5)⟩
  by_cases n6 : o.nx = 6
  · have e : r = o.pop6 M := by show DOp.act most o M = _; unfold DOp.act; simp only [hk, n6]
    rw [e]
    unfold DOp.pop6
    dsimp only
    split
    · refine ⟨s.more (by omega), Nat.le_refl _, fun _ => .inr (.inr ?_)⟩
      constructor
      all_goals (try dsimp only)
      all_goals first
        | (intro h1 h2; exfalso; omega)
        | (intro h1; exfalso; omega)
        | exact hk
        | (intro _; exact b4)
        | (intro _; exact rg)
        | (intro _; exact t)
        | omega
    · refine ⟨s.more (by omega), Nat.le_refl _, fun _ => .inr (.inr ?_)⟩
      constructor
      all_goals (try dsimp only)
      all_goals first
        | (intro h1 h2; exfalso; omega)
        | (intro h1; exfalso; omega)
        | exact hk
        | (intro _; exact b4)
        | (intro _; exact rg)
        | (intro _; exact t)
        | omega
  by_cases n7 : o.nx = 7
  · have e : r = o.pop7 M := by show DOp.act most o M = _; unfold DOp.act; simp only [hk, n7]
    rw [e]
    unfold DOp.pop7
    by_cases h1 : rd M 0 = o.t
    · rw [if_pos h1]
      dsimp only
      rw [← h1]
      obtain ⟨s', e0, e1⟩ := (s.more (show N ≤ N + 1 by omega)).wrT (rd M 0 + 1) (by omega) (by omega)
      refine ⟨s', Nat.le_refl _, fun _ => .inr (.inr ?_)⟩
      constructor
      all_goals (try dsimp only)
      all_goals first
        | (intro h1 h2; exfalso; omega)
        | (intro h1; exfalso; omega)
        | exact hk
        | (intro _; rw [e0, e1]; omega)
        | (intro _; exact rg)
        | (intro _; rw [e0]; omega)
        | omega
    · rw [if_neg h1]
      refine ⟨s.more (by omega), Nat.le_refl _, fun _ => .inr (.inr ?_)⟩
      constructor
      all_goals (try dsimp only)
      all_goals first
        | (intro h1 h2; exfalso; omega)
        | (intro h1; exfalso; omega)
        | exact hk
        | (intro _; exact b4)
        | (intro _; exact rg)
        | (intro _; exact t)
        | omega
  have n8 : o.nx = 8 := by omega
  have e : r = o.pop8 M := by show DOp.act most o M = _; unfold DOp.act; simp only [hk, n8]
  rw [e]
  have hs : SS most size (wrc M 1 o.b) R (N + 1) := (s.more (show N ≤ N + 1 by omega)).wrB _ (by omega) (by omega) (by omega)
  unfold DOp.pop8
  split
  · exact ⟨hs, Nat.le_refl _, fun _ => .inl n8⟩
  · exact ⟨hs, Nat.le_refl _, fun _ => .inl n8⟩

theorem SU.begin_ (M : Mach) (R : Rg) (x : Int) : SU most M R (beginOp 0 x) := by
  constructor
  all_goals (try dsimp only [beginOp])
  all_goals first
    | (intro x1 x2; exfalso; omega)
    | (intro x1; exfalso; omega)
    | rfl
    | omega

theorem SP.begin_ (M : Mach) (R : Rg) : SP M R (beginOp 1 0) := by
  constructor
  all_goals (try dsimp only [beginOp])
  all_goals first
    | (intro x1 x2; exfalso; omega)
    | (intro x1; exfalso; omega)
    | rfl
    | omega

theorem ST.begin_ (M : Mach) (N : Int) : ST M N (beginOp 2 0) := by
  constructor
  all_goals (try dsimp only [beginOp])
  all_goals first
    | (intro x1; exfalso; omega)
    | rfl
    | omega

theorem ST.safe (h : ST M N o) (s : SS most size M R N) : o.safe M := by
  refine ⟨s.u3, ⟨h.n.1, .inr (.inr ⟨h.k, h.n.2⟩)⟩, ?_⟩
  have hk := h.k
  have hn := h.n
  by_cases n3 : o.nx = 3
  · simp only [hk, n3]
    exact ⟨R, s.rt, s.wd⟩
  by_cases n4 : o.nx = 4
  · obtain ⟨a, b, c⟩ := h.rr n4
    have p := place_in a o.t
    simp only [hk, n4]
    exact ⟨a, by omega⟩
  have h2 : o.nx = 1 ∨ o.nx = 2 ∨ o.nx = 5 := by omega
  rcases h2 with e | e | e <;> simp only [hk, e]

theorem SP.safe (h : SP M R o) (s : SS most size M R N) : o.safe M := by
  refine ⟨s.u3, ⟨h.n.1, .inr (.inl ⟨h.k, h.n.2⟩)⟩, ?_⟩
  have hk := h.k
  have hn := h.n
  by_cases n2 : o.nx = 2
  · simp only [hk, n2]
    exact ⟨R, s.rt, s.wd⟩
  by_cases n6 : o.nx = 6
  · have hr := h.rg (by omega)
    have p1 := s.pin (o.b - 1)
    simp only [hk, n6]
    rw [hr]
    exact ⟨s.rt, p1.2.1⟩
  have h2 : o.nx = 1 ∨ o.nx = 3 ∨ o.nx = 4 ∨ o.nx = 5 ∨ o.nx = 7 ∨ o.nx = 8 := by omega
  rcases h2 with e | e | e | e | e | e <;> simp only [hk, e]

/-- What a Push asks at its fourth step, whether there is room or not. -/
theorem SU.grow (h : SU most M R o) (s : SS most size M R N) (n4 : o.nx = 4) : o.rg.Right ∧ 1 ≤ pow (o.rg.l + 1) ∧ 0 ≤ o.rg.l + 1 ∧ o.rg.l + 1 ≤ 8 ∧ o.t < o.b ∧ o.b - o.t = pow o.rg.l := by
  have hr := h.rg (by omega)
  have hf := h.fu (by omega) (by omega)
  have r0 := s.rt.1
  have m8 := s.m8
  have hp := pow_pos R.l
  have hp2 := pow_pos (R.l + 1)
  rw [hr]
  exact ⟨s.rt, hp2, by omega, by omega, by omega, hf.1⟩

theorem SU.safe (h : SU most M R o) (s : SS most size M R N) (hroom : o.nx = 4 → (M.used : Int) + pow (o.rg.l + 1) ≤ size) : o.safe M := by
  refine ⟨s.u3, ⟨h.n.1, .inl ⟨h.k, h.n.2⟩⟩, ?_⟩
  have hk := h.k
  have hn := h.n
  by_cases n1 : o.nx = 1
  · simp only [hk, n1]
  by_cases n2 : o.nx = 2
  · simp only [hk, n2]
  by_cases n3 : o.nx = 3
  · simp only [hk, n3]
    exact ⟨R, s.rt, s.wd⟩
  by_cases n4 : o.nx = 4
  · obtain ⟨a, b, c, d, e, f⟩ := h.grow s n4
    have hr := hroom n4
    have us := s.us
    have sz := s.sz
    have hl := s.len
    simp only [hk, n4]
    exact ⟨a, b, c, d, by rw [hl]; exact hr, by omega, e, f⟩
  by_cases n5 : o.nx = 5
  · have hr := h.rg (by omega)
    have ht := h.to (by omega) (by omega)
    have hp := h.pl n5
    have p1 := s.pin o.pl
    have p2 := place_in ht.1 o.pl
    have hf := h.fu (by omega) (by omega)
    simp only [hk, n5]
    rw [hr]
    exact ⟨s.rt, ht.1, hp.2, p1.2.1, by omega, by omega, hf.1, ht.2.1⟩
  by_cases n6 : o.nx = 6
  · have ht := h.to (by omega) (by omega)
    simp only [hk, n6]
    exact ht.1
  by_cases n7 : o.nx = 7
  · have hr := h.rg (by omega)
    have p1 := s.pin o.b
    simp only [hk, n7]
    rw [hr]
    exact ⟨s.rt, p1.2.1, p1.1⟩
  have n8 : o.nx = 8 := by omega
  simp only [hk, n8]
end
end Go.Proofs.Ytiofdfgcghiibaa
