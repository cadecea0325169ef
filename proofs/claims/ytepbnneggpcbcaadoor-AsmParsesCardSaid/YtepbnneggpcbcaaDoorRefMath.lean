/-
  The document's words, numerals, operands and lines against the program's, as plain data.
-/
import Derived.Test.YtepbnneggpcbcaaDoorRuns
namespace Go.Proofs.YtepbnneggpcbcaaDoor
open Go.RowKit

/-! ### Numerals of twelve digits at most -/

def cap (n : Nat) : Nat := if n < 1000000000000 then n else 1099511627776

theorem cap_small {n : Nat} (h : n < 1000000000000) : cap n = n := by
  unfold cap
  split
  · rfl
  · omega

theorem valFrom_lt (l : Bs) (h : l.all isDig = true) : ∀ acc, valFrom acc l < (acc + 1) * 10 ^ l.length := by
  induction l with
  | nil => intro acc; rw [valFrom_nil, List.length_nil, Nat.pow_zero]; omega
  | cons b r ih =>
    intro acc
    simp only [List.all_cons, Bool.and_eq_true] at h
    obtain ⟨h1, h2⟩ := dig_of h.1
    have := ih h.2 (acc * 10 + (b.toNat - 48))
    unfold valFrom
    rw [List.length_cons, Nat.pow_succ]
    refine Nat.lt_of_lt_of_le this ?_
    rw [Nat.mul_comm (10 ^ r.length) 10, ← Nat.mul_assoc]
    exact Nat.mul_le_mul_right _ (by omega)

theorem val_short {l : Bs} (h : isNum l = true) (hl : l.length ≤ 12) : val l < 1000000000000 := by
  unfold isNum at h
  simp only [Bool.and_eq_true] at h
  have := valFrom_lt l h.2 0
  rw [Nat.zero_add, Nat.one_mul] at this
  have e : (10 : Nat) ^ l.length ≤ 10 ^ 12 := Nat.pow_le_pow_right (by omega) hl
  have e2 : (10 : Nat) ^ 12 = 1000000000000 := by decide
  unfold val
  omega

theorem val_long {l : Bs} (h : isNum l = true) (hl : 12 < l.length) : ¬ val l < 1000000000000 := by
  intro hv
  have := dec_short 11 (val l) (by have e2 : (10 : Nat) ^ (11 + 1) = 1000000000000 := by decide
                                   omega)
  rw [dec_of l h] at this
  omega

theorem val_take (l : Bs) (k : Nat) (b : UInt8) (hb : l[k]? = some b) : val (l.take (k + 1)) = val (l.take k) * 10 + (b.toNat - 48) := by
  have hk := (List.getElem?_eq_some_iff.1 hb).1
  rw [List.take_succ_eq_append_getElem hk, (List.getElem?_eq_some_iff.1 hb).2]
  unfold val
  rw [valFrom_app]
  rfl

/-- What a numeral's operand tells there. -/
def capI (x : Int) : Int := if x ≤ -1000000000000 then -1099511627776 else if 1000000000000 ≤ x then 1099511627776 else x

theorem capI_nat (n : Nat) : capI (n : Int) = (cap n : Nat) := by
  unfold capI cap
  rw [if_neg (by omega)]
  by_cases h : n < 1000000000000
  · rw [if_neg (by omega), if_pos h]
  · rw [if_pos (by omega), if_neg h]
    rfl
theorem capI_neg (n : Nat) : capI (-(n : Int)) = -((cap n : Nat) : Int) := by
  unfold capI cap
  by_cases h : n < 1000000000000
  · rw [if_neg (by omega), if_neg (by omega), if_pos h]
  · rw [if_pos (by omega), if_neg h]
    rfl

theorem capI_small {x : Int} (h0 : -4294967296 < x) (h1 : x < 4294967296) : capI x = x := by
  unfold capI
  rw [if_neg (by omega), if_neg (by omega)]

theorem bad_cap {o k : Nat} (ho : o < 17) (hk : k < 4) (x : Int) : bad o k (capI x) = bad o k x := by
  obtain ⟨_, _, _, _, _, _, h7, h8⟩ := kinds_fit o ho k hk
  unfold capI
  split
  · unfold bad
    rw [decide_eq_true (show (-1099511627776 : Int) < lo o k by omega), decide_eq_true (show x < lo o k by omega)]
    rfl
  · split
    · unfold bad
      rw [decide_eq_true (show hi o k < (1099511627776 : Int) by omega), decide_eq_true (show hi o k < x by omega)]
      simp
    · rfl

theorem cap_good {o k : Nat} (ho : o < 17) (hk : k < 4) {x : Int} (h : bad o k x = false) : capI x = x := by
  obtain ⟨_, _, _, _, _, _, h7, h8⟩ := kinds_fit o ho k hk
  simp only [bad, Bool.or_eq_false_iff, decide_eq_false_iff_not] at h
  exact capI_small (by omega) (by omega)

/-! ### Names -/

theorem names_no : ∀ x, nameIx x = none → ∀ j, j < 17 → names.getD j [] ≠ x := by
  intro x h j hj e
  have := nameIx_some j hj
  rw [e, h] at this
  cases this

theorem names_is {x : Bs} {o : Nat} (h : nameIx x = some o) {j : Nat} (hj : j < 17) : names.getD j [] = x ↔ j = o := by
  constructor
  · intro e
    have := nameIx_some j hj
    rw [e, h] at this
    exact (Option.some.inj this).symm
  · rintro rfl
    exact (nameIx_lt h).2

/-! ### Cuts -/

theorem cut_step {c : UInt8} {l : Bs} {pre : List Bs} {frm i : Nat} (hf : frm ≤ i) (hi : l[i]? = some c) (hn : c ∉ (l.take i).drop frm) (h : cut c l = pre ++ cut c (l.drop frm)) :
    cut c l = (pre ++ [(l.take i).drop frm]) ++ cut c (l.drop (i + 1)) := by
  have hil := (List.getElem?_eq_some_iff.1 hi).1
  have e : l.drop frm = (l.take i).drop frm ++ c :: l.drop (i + 1) := by
    have e1 : l = l.take i ++ c :: l.drop (i + 1) := by
      have := List.take_append_drop i l
      rw [List.drop_eq_getElem_cons hil, (List.getElem?_eq_some_iff.1 hi).2] at this
      exact this.symm
    have hlen : frm ≤ (l.take i).length := by rw [List.length_take]; omega
    calc l.drop frm = (l.take i ++ c :: l.drop (i + 1)).drop frm := by rw [← e1]
      _ = _ := List.drop_append_of_le_length hlen
  rw [h, e, cut_app c _ hn, List.append_assoc]
  rfl

theorem cut_not {c : UInt8} {l : Bs} {frm i : Nat} {b : UInt8} (hf : frm ≤ i) (hi : l[i]? = some b) (hb : b ≠ c) (hn : c ∉ (l.take i).drop frm) : c ∉ (l.take (i + 1)).drop frm := by
  have hil := (List.getElem?_eq_some_iff.1 hi).1
  rw [List.take_succ_eq_append_getElem hil, List.drop_append_of_le_length (by rw [List.length_take]; omega), (List.getElem?_eq_some_iff.1 hi).2]
  intro hm
  rcases List.mem_append.1 hm with hm | hm
  · exact hn hm
  · simp at hm
    exact hb hm.symm

theorem cut_end {c : UInt8} {l : Bs} {pre : List Bs} {frm : Nat} (hn : c ∉ l.drop frm) (h : cut c l = pre ++ cut c (l.drop frm)) : cut c l = pre ++ [l.drop frm] := by rw [h, cut_one c _ hn]

/-! ### Lines -/

/-- A text's lines, by its pieces. -/
theorem lns_cut (s : Bs) : ∃ (a : List Bs) (b : Bs), cut 10 s = a ++ [b] ∧ lns s = a.map (· ++ [10]) ++ (if b = [] then [] else [b]) := by
  generalize hn : s.length = n
  induction n using Nat.strongRecOn generalizing s with
  | _ n ih =>
    rcases lns_cases s with ⟨rfl, h⟩ | ⟨h1, h2, h3⟩ | ⟨h, r, h1, rfl, h3⟩
    · exact ⟨[], [], rfl, by rw [h]; rfl⟩
    · exact ⟨[], s, cut_one 10 s h2, by rw [h3, if_neg h1]; rfl⟩
    · obtain ⟨a, b, e1, e2⟩ := ih r.length (by rw [← hn, List.length_append, List.length_cons]; omega) r rfl
      exact ⟨h :: a, b, by rw [cut_app 10 h h1, e1]; rfl, by rw [h3, e2]; rfl⟩

theorem begF_words (fs : List Fn) (l : Bs) : begF fs (words l) = begF fs (cut 32 l) := by
  by_cases h : (cut 32 l).length ≤ 5
  · rw [words_eq l h]
  · have h1 := words_len l
    have e : ∀ ws : List Bs, ws.length ≠ 4 → begF fs ws = ([], 11) := fun ws hw => by unfold begF; rw [if_pos (.inl hw)]
    rw [e _ (by omega), e _ (by omega)]

/-- What a line does, without its line feed. -/
def lineF (fs : List Fn) (l : Bs) : List Fn × Int := if (cut 32 l).headD [] = wFunc then begF fs (cut 32 l) else extF fs l

theorem putL_line (fs : List Fn) (l : Bs) : putL fs (l ++ [10]) = lineF fs l := by
  unfold putL lineF
  rw [if_neg (by simp), List.dropLast_concat, begF_words]

def runC : List Bs → List Fn → Nat → List Fn × Nat × Int
  | [], fs, at_ => (fs, at_, 0)
  | l :: r, fs, at_ => if (lineF fs l).2 = 0 then runC r (lineF fs l).1 (at_ + 1) else ([], at_ + 1, (lineF fs l).2)

theorem runL_map (a : List Bs) : ∀ fs n, runL (a.map (· ++ [10])) fs n = runC a fs n := by
  induction a with
  | nil => intro fs n; rfl
  | cons l r ih =>
    intro fs n
    rw [List.map_cons, runL, runC, putL_line, ih]

theorem runC_snoc {a : List Bs} {x : Bs} {fs gs : List Fn} {n m : Nat} (h : runC a fs n = (gs, m, 0)) : runC (a ++ [x]) fs n = if (lineF gs x).2 = 0 then ((lineF gs x).1, m + 1, 0) else ([], m + 1, (lineF gs x).2) := by
  induction a generalizing fs n with
  | nil =>
    simp only [runC, Prod.mk.injEq] at h
    obtain ⟨rfl, rfl, _⟩ := h
    rw [List.nil_append, runC]
    rfl
  | cons y r ih =>
    rw [List.cons_append, runC]
    rw [runC] at h
    split at h
    · rename_i he
      rw [if_pos he]
      exact ih h
    · rename_i he
      simp only [Prod.mk.injEq] at h
      exact absurd h.2.2 he

theorem runC_stop {a b : List Bs} {x : Bs} {fs gs : List Fn} {n m : Nat} (h : runC a fs n = (gs, m, 0)) (hx : (lineF gs x).2 ≠ 0) : runC (a ++ x :: b) fs n = ([], m + 1, (lineF gs x).2) := by
  induction a generalizing fs n with
  | nil =>
    simp only [runC, Prod.mk.injEq] at h
    obtain ⟨rfl, rfl, _⟩ := h
    rw [List.nil_append, runC, if_neg hx]
  | cons y r ih =>
    rw [List.cons_append, runC]
    rw [runC] at h
    split at h
    · rename_i he
      rw [if_pos he]
      exact ih h
    · rename_i he
      simp only [Prod.mk.injEq] at h
      exact absurd h.2.2 he

theorem runC_at {a : List Bs} {fs gs : List Fn} {n m : Nat} (h : runC a fs n = (gs, m, 0)) : m = n + a.length := by
  induction a generalizing fs n with
  | nil =>
    simp only [runC, Prod.mk.injEq] at h
    obtain ⟨_, rfl, _⟩ := h
    rfl
  | cons y r ih =>
    rw [runC] at h
    split at h
    · rw [ih h, List.length_cons]; omega
    · rename_i he
      simp only [Prod.mk.injEq] at h
      exact absurd h.2.2 he

/-- The program of a text, by its pieces. -/
theorem prs_stop {s : Bs} {a : List Bs} {b x : Bs} {p r : List Bs} {gs : List Fn} {m : Nat} (hs : s.length ≤ 131072) (hc : cut 10 s = a ++ [b]) (ha : a = p ++ x :: r) (h : runC p [] 0 = (gs, m, 0)) (hx : (lineF gs x).2 ≠ 0) : prs s = ([], m + 1, (lineF gs x).2) := by
  obtain ⟨a', b', e1, e2⟩ := lns_cut s
  rw [hc] at e1
  obtain ⟨rfl, e3⟩ := List.append_inj' e1 rfl
  simp only [List.cons.injEq, and_true] at e3
  subst e3
  have h1 := runC_stop (b := r) h hx
  rw [← ha, ← runL_map] at h1
  have h2 : ∀ (y z : List Bs) fs n q, runL y fs n = q → q.2.2 ≠ 0 → runL (y ++ z) fs n = q := by
    intro y
    induction y with
    | nil =>
      intro z fs n q hq hne
      simp only [runL] at hq
      subst hq
      exact absurd rfl hne
    | cons l t ih =>
      intro z fs n q hq hne
      rw [List.cons_append, runL]
      rw [runL] at hq
      split at hq
      · rename_i he
        rw [if_pos he]
        exact ih z _ _ q hq hne
      · rename_i he
        rw [if_neg he]
        exact hq
  unfold prs
  rw [if_neg (by omega), e2, h2 _ _ _ _ _ h1 hx]
  unfold endL
  rw [if_pos hx]

theorem prs_open {s : Bs} {a : List Bs} {b : Bs} {gs : List Fn} {m : Nat} (hs : s.length ≤ 131072) (hc : cut 10 s = a ++ [b]) (h : runC a [] 0 = (gs, m, 0)) (hb : b ≠ []) : prs s = ([], a.length + 1, 11) := by
  obtain ⟨a', b', e1, e2⟩ := lns_cut s
  rw [hc] at e1
  obtain ⟨rfl, e3⟩ := List.append_inj' e1 rfl
  simp only [List.cons.injEq, and_true] at e3
  subst e3
  have hm := runC_at h
  rw [Nat.zero_add] at hm
  have hl : b.getLast? ≠ some 10 := by
    intro hg
    have hfree := cut_free 10 s b (by rw [hc]; simp)
    exact hfree (List.mem_of_getLast? hg)
  have hp : putL gs b = ([], 11) := by unfold putL; rw [if_pos hl]
  unfold prs
  rw [if_neg (by omega), e2, if_neg hb, runL_app _ _ _ _ _ _ (by rw [runL_map]; exact h)]
  rw [runL, hp, if_neg (by simp), hm]
  rfl

theorem prs_none {s : Bs} {a : List Bs} {gs : List Fn} {m : Nat} (hs : s.length ≤ 131072) (hc : cut 10 s = a ++ [[]]) (h : runC a [] 0 = (gs, m, 0)) (hb : gs = [] ∨ bare gs = true) : prs s = ([], a.length + 1, 12) := by
  obtain ⟨a', b', e1, e2⟩ := lns_cut s
  rw [hc] at e1
  obtain ⟨rfl, e3⟩ := List.append_inj' e1 rfl
  simp only [List.cons.injEq, and_true] at e3
  subst e3
  have hm := runC_at h
  rw [Nat.zero_add] at hm
  unfold prs
  rw [if_neg (by omega), e2, if_pos rfl, List.append_nil, runL_map, h]
  unfold endL
  rw [if_neg (by simp), if_pos hb, hm]

theorem prs_all {s : Bs} {a : List Bs} {gs : List Fn} {m : Nat} (hs : s.length ≤ 131072) (hc : cut 10 s = a ++ [[]]) (h : runC a [] 0 = (gs, m, 0)) (hb : ¬ (gs = [] ∨ bare gs = true)) : prs s = (gs, 0, 0) := by
  obtain ⟨a', b', e1, e2⟩ := lns_cut s
  rw [hc] at e1
  obtain ⟨rfl, e3⟩ := List.append_inj' e1 rfl
  simp only [List.cons.injEq, and_true] at e3
  subst e3
  unfold prs
  rw [if_neg (by omega), e2, if_pos rfl, List.append_nil, runL_map, h]
  unfold endL
  rw [if_neg (by simp), if_neg hb]

end Go.Proofs.YtepbnneggpcbcaaDoor
