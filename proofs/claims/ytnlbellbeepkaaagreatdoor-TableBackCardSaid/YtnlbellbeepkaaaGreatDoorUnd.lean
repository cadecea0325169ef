/-
  Stage 7, plain: what is within a row is a table.
-/
import Derived.Test.YtnlbellbeepkaaaGreatDoorGrw
namespace Go.Proofs.YtnlbellbeepkaaaGreatDoor

theorem shr_par (i j : Nat) (r : Tw) : (shr i j r).par = if j = i then -1 else r.par - i := by
  unfold shr
  split <;> rfl

theorem shr_a {i j : Nat} (h : j = i) (r : Tw) : shr i j r = { r with par := -1, in_ := 0 } := by unfold shr; rw [if_pos h]
theorem shr_b {i j : Nat} (h : j ≠ i) (r : Tw) : shr i j r = { r with par := r.par - i } := by unfold shr; rw [if_neg h]

section
variable {l : List Tw} {i e : Nat}

/-- What is told of a part: rows i to e of l. -/
structure PartOf (l : List Tw) (i e : Nat) (u : List Tw) : Prop where
  lt : i < e
  le : e ≤ l.length
  ins : ∀ k : Nat, inn l i k = true ↔ i ≤ k ∧ k < e
  len : u.length = e - i
  at_ : ∀ j, j < e - i → u[j]? = (l[i + j]?).map (shr i (i + j))

theorem partOf {l : List Tw} (h : Nest l) {i : Nat} (hi : i < l.length) : ∃ e, PartOf l i e (und l i) := by
  obtain ⟨e, h1, h2, h3, h4, h5⟩ := und_spec h hi
  exact ⟨e, h1, h2, h3, h4, h5⟩

theorem PartOf.par {u : List Tw} (h : PartOf l i e u) {j : Nat} (h0 : 0 < j) (hj : j < e - i) : parAt u j = parAt l (i + j : Nat) - i := by
  have := h.at_ j hj
  obtain ⟨r, hr⟩ : ∃ r, l[i + j]? = some r := ⟨_, List.getElem?_eq_getElem (by have := h.le; omega)⟩
  rw [hr] at this
  rw [parAt_of' this, parAt_of' hr, shr_par, if_neg (by omega)]

theorem PartOf.par0 {u : List Tw} (h : PartOf l i e u) : parAt u 0 = -1 := by
  have hlt := h.lt
  have := h.at_ 0 (by omega)
  obtain ⟨r, hr⟩ : ∃ r, l[i + 0]? = some r := ⟨_, List.getElem?_eq_getElem (by have := h.le; omega)⟩
  rw [hr] at this
  have h2 := parAt_of' this
  rw [shr_par, if_pos (by omega)] at h2
  exact h2

theorem PartOf.tab {u : List Tw} (hl : Nest l) (h : PartOf l i e u) : Tabl u := by
  refine ⟨fun _ => h.par0, fun j h0 h1 => ?_⟩
  obtain ⟨n, rfl⟩ : ∃ n : Nat, j = n := ⟨j.toNat, by omega⟩
  rw [h.len] at h1
  rw [h.par (by omega) (by omega)]
  have h2 := (h.ins (i + n)).2 ⟨by omega, by omega⟩
  have h3 := ((inn_up hl.down (by omega)).1 h2).2.2
  have h4 := inn_le hl.down h3
  have h5 := parAt_low hl.tab (i := ((i + n : Nat) : Int)) (by omega)
  omega

/-- Ways within the part are ways within the whole. -/
theorem PartOf.inn {u : List Tw} (hl : Nest l) (h : PartOf l i e u) {t : Nat} : ∀ (n k : Nat), k < n → k < e - i → inn u t k = inn l (i + t : Nat) (i + k : Nat) := by
  have hu := h.tab hl
  have hlen := h.len
  have hle := h.le
  intro n
  induction n with
  | zero => intro k hk; omega
  | succ n ih =>
    intro k hk hke
    by_cases e1 : k = t
    · subst e1
      rw [inn_self (by omega) (by omega), inn_self (by omega) (by omega)]
    · by_cases h0 : k = 0
      · subst h0
        have a : ¬ Go.Proofs.YtnlbellbeepkaaaGreatDoor.inn u t (0 : Nat) = true := fun hh => by
          have := inn_le hu.down hh
          omega
        have b : ¬ Go.Proofs.YtnlbellbeepkaaaGreatDoor.inn l (i + t : Nat) (i + 0 : Nat) = true := fun hh => by
          have := inn_le hl.down hh
          omega
        rw [Bool.eq_iff_iff]
        exact ⟨fun hh => absurd hh a, fun hh => absurd hh b⟩
      · have h1 := h.par (by omega) hke
        have h2 := hu.2 k (by omega) (by omega)
        have h3 := ih (parAt u k).toNat (by omega) (by omega)
        have e2 : ((i + (parAt u k).toNat : Nat) : Int) = parAt l (i + k : Nat) := by omega
        rw [e2, Int.toNat_of_nonneg h2.1] at h3
        rw [Bool.eq_iff_iff, inn_up hu.down (by omega), inn_up hl.down (by omega), h3]
        constructor
        · rintro ⟨_, _, hh⟩; exact ⟨by omega, by omega, hh⟩
        · rintro ⟨_, _, hh⟩; exact ⟨by omega, by omega, hh⟩

theorem PartOf.nest {u : List Tw} (hl : Nest l) (h : PartOf l i e u) : Nest u := by
  refine ⟨h.tab hl, fun j h0 h1 => ?_⟩
  obtain ⟨n, rfl⟩ : ∃ n : Nat, j = n := ⟨j.toNat, by omega⟩
  have h2 := (h.tab hl).2 n h0 h1
  rw [h.len] at h1
  have hle := h.le
  have h3 := h.par (j := n) (by omega) (by omega)
  have h4 := hl.par (i + n : Nat) (by omega) (by omega)
  have h5 := h.inn hl (t := (parAt u n).toNat) n (n - 1) (by omega) (by omega)
  rw [Int.toNat_of_nonneg h2.1, show ((n - 1 : Nat) : Int) = (n : Int) - 1 by omega, show ((i + (n - 1) : Nat) : Int) = ((i + n : Nat) : Int) - 1 by omega, show ((i + (parAt u n).toNat : Nat) : Int) = parAt l (i + n : Nat) by omega] at h5
  rw [h5]
  exact h4

/-- A part of a part is a part of the whole. -/
theorem PartOf.part {u : List Tw} (hl : Nest l) (h : PartOf l i e u) {k : Nat} (hk : k < u.length) : und u k = und l (i + k) := by
  have hlen := h.len
  have hle := h.le
  obtain ⟨e1, p1⟩ := partOf (h.nest hl) hk
  obtain ⟨e2, p2⟩ := partOf hl (i := i + k) (by omega)
  have hi2 : e2 ≤ e := by
    rcases Nat.lt_or_ge e e2 with hh | hh
    · have a := (p2.ins (e2 - 1)).2 ⟨by omega, by omega⟩
      have b := (h.ins (i + k)).2 ⟨by omega, by omega⟩
      have c := (h.ins (e2 - 1)).1 (inn_trans hl.down b (e2 - 1 + 1) _ (by omega) a)
      omega
    · exact hh
  have l1 := p1.lt
  have l2 := p2.lt
  have l3 := p1.le
  have key : ∀ x, k ≤ x → x < e - i → (x < e1 ↔ i + x < e2) := fun x hx hx2 => by
    have a := p1.ins x
    have b := p2.ins (i + x)
    rw [h.inn hl (x + 1) x (by omega) hx2] at a
    constructor
    · intro hh; exact (b.1 (a.2 ⟨hx, hh⟩)).2
    · intro hh; exact (a.1 (b.2 ⟨by omega, hh⟩)).2
  have he : e2 = i + e1 := by
    have a := key (e1 - 1) (by omega) (by omega)
    have b := key (e2 - 1 - i) (by omega) (by omega)
    omega
  subst he
  apply List.ext_getElem?
  intro j
  rcases Nat.lt_or_ge j (e1 - k) with hj | hj
  · rw [p1.at_ j hj, p2.at_ j (by omega), h.at_ (k + j) (by omega), show i + (k + j) = i + k + j by omega]
    obtain ⟨r, hr⟩ : ∃ r, l[i + k + j]? = some r := ⟨_, List.getElem?_eq_getElem (by omega)⟩
    rw [hr]
    simp only [Option.map_some, Option.some.injEq]
    by_cases h0 : j = 0
    · rw [shr_a (i := k) (by omega), shr_a (i := i + k) (by omega)]
      by_cases hk0 : k = 0
      · rw [shr_a (by omega)]
      · rw [shr_b (by omega)]
    · rw [shr_b (i := k) (by omega), shr_b (i := i + k) (by omega), shr_b (i := i) (by omega)]
      simp only [Tw.mk.injEq, and_true]
      omega
  · rw [List.getElem?_eq_none (by rw [p1.len]; omega), List.getElem?_eq_none (by rw [p2.len]; omega)]

theorem PartOf.kind {u : List Tw} (h : PartOf l i e u) {j : Nat} (hj : j < e - i) : kindAt u j = kindAt l (i + j : Nat) := by
  have := h.at_ j hj
  obtain ⟨r, hr⟩ : ∃ r, l[i + j]? = some r := ⟨_, List.getElem?_eq_getElem (by have := h.le; omega)⟩
  rw [hr] at this
  rw [kindAt_of this, kindAt_of hr]
  unfold shr
  split <;> rfl

theorem kindAt_take {n : Nat} {a : Int} (h : a < n) : kindAt (l.take n) a = kindAt l a := by
  unfold kindAt
  by_cases h0 : 0 ≤ a
  · rw [if_pos h0, if_pos h0, List.map_take, List.getElem?_take, if_pos (by omega)]
  · rw [if_neg h0, if_neg h0]

/-- A table's part is a table. -/
theorem PartOf.chk {u : List Tw} (hc : chk l = 0) (h : PartOf l i e u) : chk u = 0 := by
  have hl := nest_of_chk hc
  have hr := (chk_zero.1 hc).2
  have hn := h.nest hl
  have hlt := h.lt
  have hle := h.le
  have hlen := h.len
  refine chk_zero.2 ⟨by omega, fun j s hj hs => ?_⟩
  have h1 := h.at_ j (by omega)
  obtain ⟨r, hrr⟩ : ∃ r, l[i + j]? = some r := ⟨_, List.getElem?_eq_getElem (by omega)⟩
  rw [hs, hrr] at h1
  simp only [Option.map_some, Option.some.injEq] at h1
  obtain ⟨g1, g2, g3, g4, g5, g6⟩ := rightE_zero.1 (hr (i + j) r (by omega) hrr)
  have hsf : s.fn = r.fn ∧ s.kind = r.kind ∧ s.v = r.v ∧ s.st = r.st ∧ s.cl = r.cl := by
    rw [h1]
    unfold shr
    split <;> exact ⟨rfl, rfl, rfl, rfl, rfl⟩
  have hin : s.in_ = if j = 0 then 0 else r.in_ := by
    rw [h1]
    unfold shr
    by_cases h0 : j = 0
    · rw [if_pos (by omega), if_pos h0]
    · rw [if_neg (by omega), if_neg h0]
  have hpar := parAt_of' hs
  refine rightE_zero.2 ⟨?_, ?_, ?_, ?_, ?_, ?_⟩
  · by_cases h0 : j = 0
    · subst h0
      rw [List.take_zero, parB_nil]
      rw [← hpar]
      exact decide_eq_true h.par0.symm
    · have ht : Tabl (u.take j) := by
        have h2 : (u.take j).length = j := by rw [List.length_take]; omega
        refine ⟨fun _ => by rw [parAt_take (by omega)]; exact h.par0, fun x x0 x1 => ?_⟩
        rw [parAt_take (by omega)]
        exact hn.tab.2 x x0 (by omega)
      have h2 := hn.tab.2 j (by omega) (by omega)
      refine (parB_doc (by omega) (by omega) ht s.par).2 ⟨by omega, by omega, ?_⟩
      rw [inn_of hn.down (by omega), ← hpar]
      exact hn.par j (by omega) (by omega)
  · have g2 := of_decide_eq_true g2
    refine decide_eq_true ?_
    rw [hsf.1, hsf.2.1, hsf.2.2.2.1, hin]
    refine ⟨?_, ?_, g2.2.2⟩
    · split
      · omega
      · exact g2.1
    · rintro ⟨a, b⟩
      have hj0 : j = 0 := by rw [List.length_take] at a; omega
      rw [if_pos hj0] at b
      exact b rfl
  · unfold binB
    rw [hsf.2.2.2.2]
    exact g3
  · unfold valB
    rw [hsf.2.2.1, hsf.2.1]
    exact g4
  · unfold begB
    rw [hsf.2.2.2.2, hsf.2.1, hsf.2.2.2.1]
    exact g5
  · refine decide_eq_true (fun hp => ?_)
    have hj0 : 0 < j := by rw [List.length_take] at hp; omega
    have g6 := of_decide_eq_true g6 (by rw [List.length_take]; omega)
    have h2 := hn.tab.2 j (by omega) (by omega)
    have h3 := h.par hj0 (by omega)
    obtain ⟨p, hpp⟩ : ∃ p : Nat, parAt u j = p := ⟨_, (Int.toNat_of_nonneg h2.1).symm⟩
    have hpr : r.par = (i + p : Nat) := by
      rw [← parAt_of' hrr]
      omega
    have hps : s.par = p := by rw [← hpar]; exact hpp
    rw [hsf.2.1, hps, kindAt_take (by omega), h.kind (by omega)]
    rw [hpr, kindAt_take (by omega)] at g6
    exact g6

end

/-- The whole is within the first row. -/
theorem und_whole {l : List Tw} (h : chk l = 0) : und l 0 = l := by
  have hl := nest_of_chk h
  have h0 := (chk_zero.1 h).1
  obtain ⟨e, p⟩ := partOf hl h0
  have he : e = l.length := by
    have h1 := (p.ins (l.length - 1)).1 (hl.all l.length ((l.length - 1 : Nat) : Int) (by omega) (by omega) (by omega))
    have := p.le
    omega
  apply List.ext_getElem?
  intro j
  rcases Nat.lt_or_ge j l.length with hj | hj
  · rw [p.at_ j (by omega), Nat.zero_add]
    obtain ⟨r, hr⟩ : ∃ r, l[j]? = some r := ⟨_, List.getElem?_eq_getElem (by omega)⟩
    rw [hr]
    simp only [Option.map_some, Option.some.injEq]
    unfold shr
    by_cases hj0 : j = 0
    · subst hj0
      rw [if_pos rfl]
      have a := hl.tab.1 (by rintro rfl; simp at h0)
      have b := (kind_ok h hr).2.2.2.2.2 rfl
      have c := parAt_of' hr
      simp only [Int.natCast_zero] at c
      rw [a] at c
      obtain ⟨rp, ri, rf, rk, rv, rs, rc⟩ := r
      simp only at b c
      subst b c
      rfl
    · rw [if_neg hj0]
      simp
  · rw [List.getElem?_eq_none hj, List.getElem?_eq_none (by rw [p.len]; omega)]

end Go.Proofs.YtnlbellbeepkaaaGreatDoor
