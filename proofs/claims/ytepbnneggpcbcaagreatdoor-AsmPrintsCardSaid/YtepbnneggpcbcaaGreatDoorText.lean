/-
  Instructions as texts: words, numerals, operands; an instruction's text is read as it, and what is read is written so.
-/
import Derived.Test.YtepbnneggpcbcaaGreatDoorPlain
import Derived.Lib.ItoaNum
import Derived.Lib.AtoiAllCases
import Derived.Lib.Split
namespace Go.Proofs.YtepbnneggpcbcaaGreatDoor
open Go.RowKit

abbrev Bs := List UInt8

/-! ### Words -/

def cut (c : UInt8) : Bs → List Bs
  | [] => [[]]
  | x :: r => if x = c then [] :: cut c r else (x :: (cut c r).headD []) :: (cut c r).tail

def glue (c : UInt8) : List Bs → Bs
  | [] => []
  | [x] => x
  | x :: y :: r => x ++ c :: glue c (y :: r)

theorem cut_form (c : UInt8) (l : Bs) : ∃ h t, cut c l = h :: t := by
  cases l with
  | nil => exact ⟨_, _, rfl⟩
  | cons x r =>
    unfold cut
    split
    · exact ⟨_, _, rfl⟩
    · exact ⟨_, _, rfl⟩

theorem cut_pos (c : UInt8) (l : Bs) : 1 ≤ (cut c l).length := by
  obtain ⟨h, t, e⟩ := cut_form c l
  rw [e]; simp

theorem glue_cons (c : UInt8) (x y : Bs) (r : List Bs) : glue c (x :: y :: r) = x ++ c :: glue c (y :: r) := rfl

theorem glue_head (c x : UInt8) (h : Bs) (t : List Bs) : glue c ((x :: h) :: t) = x :: glue c (h :: t) := by
  cases t with
  | nil => rfl
  | cons y r => rfl

theorem glue_cut (c : UInt8) (l : Bs) : glue c (cut c l) = l := by
  induction l with
  | nil => rfl
  | cons x r ih =>
    obtain ⟨h, t, e⟩ := cut_form c r
    unfold cut
    split
    · rename_i hx
      rw [e] at ih ⊢
      rw [glue_cons, ih, hx]
      rfl
    · rw [e] at ih ⊢
      simp only [List.headD_cons, List.tail_cons]
      rw [glue_head, ih]

theorem cut_free (c : UInt8) (l : Bs) : ∀ w ∈ cut c l, c ∉ w := by
  induction l with
  | nil => intro w hw; simp [cut] at hw; subst hw; simp
  | cons x r ih =>
    obtain ⟨h, t, e⟩ := cut_form c r
    intro w hw
    unfold cut at hw
    rw [e] at ih hw
    split at hw
    · rcases List.mem_cons.1 hw with rfl | hw
      · simp
      · exact ih w hw
    · rename_i hx
      simp only [List.headD_cons, List.tail_cons] at hw
      rcases List.mem_cons.1 hw with rfl | hw
      · intro hm
        rcases List.mem_cons.1 hm with rfl | hm
        · exact hx rfl
        · exact ih h (by simp) hm
      · exact ih w (by simp [hw])

theorem cut_app (c : UInt8) (h : Bs) (hh : c ∉ h) (r : Bs) : cut c (h ++ c :: r) = h :: cut c r := by
  induction h with
  | nil => simp [cut]
  | cons x t ih =>
    have hx : x ≠ c := fun e => hh (by simp [e])
    have := ih (fun hm => hh (by simp [hm]))
    rw [List.cons_append, cut, if_neg hx, this]
    rfl

theorem cut_one (c : UInt8) (h : Bs) (hh : c ∉ h) : cut c h = [h] := by
  induction h with
  | nil => rfl
  | cons x t ih =>
    have hx : x ≠ c := fun e => hh (by simp [e])
    have := ih (fun hm => hh (by simp [hm]))
    unfold cut
    rw [if_neg hx, this]
    rfl

theorem cut_glue (c : UInt8) (ws : List Bs) (hw : ∀ w ∈ ws, c ∉ w) (hn : ws ≠ []) : cut c (glue c ws) = ws := by
  induction ws with
  | nil => exact absurd rfl hn
  | cons x r ih =>
    cases r with
    | nil => exact cut_one c x (hw x (by simp))
    | cons y r =>
      rw [glue_cons, cut_app c x (hw x (by simp)), ih (fun w h => hw w (by simp [h])) (by simp)]

/-- Where a cut is put in. -/
theorem cut_put (c : UInt8) (l r : Bs) : ∃ a b, cut c l = a ++ [b] ∧ cut c (l ++ c :: r) = a ++ [b] ++ cut c r ∧ cut c (l ++ r) = a ++ (b ++ (cut c r).headD []) :: (cut c r).tail := by
  induction l with
  | nil =>
    refine ⟨[], [], rfl, by simp [cut], ?_⟩
    obtain ⟨h, t, e⟩ := cut_form c r
    simp [e]
  | cons x t ih =>
    obtain ⟨a, b, h1, h2, h3⟩ := ih
    by_cases hx : x = c
    · subst hx
      exact ⟨[] :: a, b, by simp [cut, h1], by simp only [List.cons_append]; rw [cut, if_pos rfl, h2], by simp only [List.cons_append]; rw [cut, if_pos rfl, h3]⟩
    · cases a with
      | nil =>
        refine ⟨[], x :: b, ?_, ?_, ?_⟩
        · rw [cut, if_neg hx, h1]; rfl
        · simp only [List.cons_append]; rw [cut, if_neg hx, h2]; rfl
        · simp only [List.cons_append]; rw [cut, if_neg hx, h3]; rfl
      | cons a0 a =>
        refine ⟨(x :: a0) :: a, b, ?_, ?_, ?_⟩
        · rw [cut, if_neg hx, h1]; rfl
        · simp only [List.cons_append]; rw [cut, if_neg hx, h2]; rfl
        · simp only [List.cons_append]; rw [cut, if_neg hx, h3]; rfl

/-! ### The library's split -/

theorem index_one_none (c : UInt8) (l : Bs) (h : c ∉ l) : Lib.index l [c] = -1 := by
  induction l with
  | nil => simp [Lib.index]
  | cons x r ih =>
    have hx : x ≠ c := fun e => h (by simp [e])
    have hp : ([c] : Bs).isPrefixOf (x :: r) = false := by simp [List.isPrefixOf, Ne.symm hx]
    rw [Lib.index, hp, ih (fun hm => h (by simp [hm]))]
    simp

theorem index_one_app (c : UInt8) (h : Bs) (hh : c ∉ h) (r : Bs) : Lib.index (h ++ c :: r) [c] = (h.length : Int) := by
  induction h with
  | nil => rw [List.nil_append, Lib.index]; simp [List.isPrefixOf]
  | cons x t ih =>
    have hx : x ≠ c := fun e => hh (by simp [e])
    have hp : ([c] : Bs).isPrefixOf (x :: (t ++ c :: r)) = false := by simp [List.isPrefixOf, Ne.symm hx]
    have := ih (fun hm => hh (by simp [hm]))
    rw [List.cons_append, Lib.index, hp, this]
    simp

theorem mem_parts (c : UInt8) (l : Bs) (h : c ∈ l) : ∃ a r, c ∉ a ∧ l = a ++ c :: r := by
  induction l with
  | nil => simp at h
  | cons x t ih =>
    by_cases hx : x = c
    · exact ⟨[], t, by simp, by simp [hx]⟩
    · rcases List.mem_cons.1 h with e | h
      · exact absurd e.symm hx
      · obtain ⟨a, r, ha, rfl⟩ := ih h
        exact ⟨x :: a, r, by simp [ha, Ne.symm hx], rfl⟩

/-- The first k pieces, and the rest. -/
def cutN (c : UInt8) : Nat → Bs → List Bs := Lib.splitK [c] 0

theorem cutN_zero (c : UInt8) (l : Bs) : cutN c 0 l = [l] := rfl
theorem cutN_none (c : UInt8) (k : Nat) (l : Bs) (h : c ∉ l) : cutN c k l = [l] := by
  cases k with
  | zero => rfl
  | succ k =>
    unfold cutN Lib.splitK
    rw [index_one_none c l h]
    rfl
theorem cutN_app (c : UInt8) (k : Nat) (h : Bs) (hh : c ∉ h) (r : Bs) : cutN c (k + 1) (h ++ c :: r) = h :: cutN c k r := by
  unfold cutN
  rw [Lib.splitK, index_one_app c h hh r, if_neg (by simp), Int.toNat_natCast]
  simp

theorem cutN_len (c : UInt8) (k : Nat) (l : Bs) : (cutN c k l).length = min (cut c l).length (k + 1) := by
  induction k generalizing l with
  | zero =>
    rw [cutN_zero]
    have := cut_pos c l
    rw [Nat.min_eq_right (by omega)]
    rfl
  | succ k ih =>
    by_cases h : c ∈ l
    · obtain ⟨a, r, ha, rfl⟩ := mem_parts c l h
      rw [cutN_app c k a ha, cut_app c a ha, List.length_cons, ih, List.length_cons]
      omega
    · rw [cutN_none c _ l h, cut_one c l h]
      simp

theorem cutN_eq (c : UInt8) (k : Nat) (l : Bs) (h : (cut c l).length ≤ k + 1) : cutN c k l = cut c l := by
  induction k generalizing l with
  | zero =>
    by_cases hm : c ∈ l
    · obtain ⟨a, r, ha, rfl⟩ := mem_parts c l hm
      rw [cut_app c a ha] at h
      have := cut_pos c r
      rw [List.length_cons] at h
      omega
    · rw [cutN_none c _ l hm, cut_one c l hm]
  | succ k ih =>
    by_cases hm : c ∈ l
    · obtain ⟨a, r, ha, rfl⟩ := mem_parts c l hm
      rw [cutN_app c k a ha, cut_app c a ha, ih r (by rw [cut_app c a ha, List.length_cons] at h; omega)]
    · rw [cutN_none c _ l hm, cut_one c l hm]

theorem cutN_head (c : UInt8) (k : Nat) (l : Bs) : (cutN c (k + 1) l).head? = (cut c l).head? := by
  by_cases hm : c ∈ l
  · obtain ⟨a, r, ha, rfl⟩ := mem_parts c l hm
    rw [cutN_app c k a ha, cut_app c a ha]
    rfl
  · rw [cutN_none c _ l hm, cut_one c l hm]

theorem cut_len_le (c : UInt8) (l : Bs) : (cut c l).length ≤ l.length + 1 := by
  induction l with
  | nil => simp [cut]
  | cons x r ih =>
    have := cut_pos c r
    unfold cut
    split
    · rw [List.length_cons, List.length_cons]; omega
    · rw [List.length_cons, List.length_tail, List.length_cons]; omega

/-- The words that split gives. -/
def words (l : Bs) : List Bs := cutN 32 (min 5 (l.length + 1) - 1) l

theorem words_len (l : Bs) : (words l).length = min (cut 32 l).length 5 := by
  unfold words
  rw [cutN_len]
  have := cut_len_le 32 l
  omega

theorem words_eq (l : Bs) (h : (cut 32 l).length ≤ 5) : words l = cut 32 l := by
  unfold words
  refine cutN_eq _ _ _ ?_
  have := cut_len_le 32 l
  omega

theorem words_head (l : Bs) : (words l).head? = (cut 32 l).head? := by
  unfold words
  rcases Nat.eq_zero_or_pos l.length with h | h
  · obtain rfl := List.eq_nil_of_length_eq_zero h
    rfl
  · obtain ⟨k, hk⟩ : ∃ k, min 5 (l.length + 1) - 1 = k + 1 := ⟨min 5 (l.length + 1) - 2, by omega⟩
    rw [hk]
    exact cutN_head _ _ _

/-! ### Numerals -/

def isDig (b : UInt8) : Bool := decide (48 ≤ b.toNat) && decide (b.toNat ≤ 57)
def valFrom (acc : Nat) : Bs → Nat
  | [] => acc
  | b :: r => valFrom (acc * 10 + (b.toNat - 48)) r
def val (l : Bs) : Nat := valFrom 0 l
def lead (l : Bs) : Bool := l.isEmpty || (l.headD 0 == 48 && decide (1 < l.length))
def isNum (l : Bs) : Bool := !lead l && l.all isDig

theorem valFrom_app (acc : Nat) (l r : Bs) : valFrom acc (l ++ r) = valFrom (valFrom acc l) r := by
  induction l generalizing acc with
  | nil => rfl
  | cons b t ih => exact ih _

theorem dig_ofNat (d : Nat) (h : d < 10) : isDig (UInt8.ofNat (48 + d)) = true ∧ (UInt8.ofNat (48 + d)).toNat = 48 + d := by
  have e : (UInt8.ofNat (48 + d)).toNat = 48 + d := by rw [UInt8.toNat_ofNat']; omega
  exact ⟨by unfold isDig; rw [e]; simp; omega, e⟩

theorem dec_small {u : Nat} (h : u < 10) : Lib.decDigits u = [UInt8.ofNat (48 + u)] := by rw [Lib.decDigits, dif_pos h]
theorem dec_big {u : Nat} (h : ¬ u < 10) : Lib.decDigits u = Lib.decDigits (u / 10) ++ [UInt8.ofNat (48 + u % 10)] := by rw [Lib.decDigits, dif_neg h]

theorem dec_all (u : Nat) : (Lib.decDigits u).all isDig = true := by
  induction u using Nat.strongRecOn with
  | _ u ih =>
    by_cases h : u < 10
    · rw [dec_small h, List.all_cons, (dig_ofNat u h).1]; rfl
    · rw [dec_big h, List.all_append, ih (u / 10) (by omega), List.all_cons, (dig_ofNat (u % 10) (by omega)).1]; rfl

theorem valFrom_one (acc : Nat) (x : UInt8) : valFrom acc [x] = acc * 10 + (x.toNat - 48) := rfl

theorem dec_val (u : Nat) : val (Lib.decDigits u) = u := by
  unfold val
  induction u using Nat.strongRecOn with
  | _ u ih =>
    by_cases h : u < 10
    · rw [dec_small h, valFrom_one, (dig_ofNat u h).2]
      omega
    · rw [dec_big h, valFrom_app, ih (u / 10) (by omega), valFrom_one, (dig_ofNat (u % 10) (by omega)).2]
      omega

theorem dec_len (u : Nat) : 1 ≤ (Lib.decDigits u).length := by
  by_cases h : u < 10
  · rw [dec_small h]; simp
  · rw [dec_big h]; simp

theorem dec_head (u : Nat) (h : 0 < u) : (Lib.decDigits u).headD 0 ≠ 48 := by
  induction u using Nat.strongRecOn with
  | _ u ih =>
    by_cases h10 : u < 10
    · rw [dec_small h10]
      intro e
      have := (dig_ofNat u h10).2
      simp only [List.headD_cons] at e
      rw [e] at this
      have : (48 : UInt8).toNat = 48 := rfl
      omega
    · rw [dec_big h10]
      have := ih (u / 10) (by omega) (by omega)
      have hl := dec_len (u / 10)
      cases hd : Lib.decDigits (u / 10) with
      | nil => rw [hd] at hl; simp at hl
      | cons a t => rw [hd] at this; exact this

theorem dec_num (u : Nat) : isNum (Lib.decDigits u) = true := by
  unfold isNum
  rw [dec_all, Bool.and_true]
  have hl := dec_len u
  by_cases h : u < 10
  · rw [dec_small h]
    simp [lead]
  · have hh := dec_head u (by omega)
    cases hd : Lib.decDigits u with
    | nil => rw [hd] at hl; simp at hl
    | cons a t =>
      rw [hd] at hh
      have hh : a ≠ 48 := hh
      have : (a == 48) = false := by simpa using hh
      simp [lead, this]

theorem dig_of {b : UInt8} (h : isDig b = true) : 48 ≤ b.toNat ∧ b.toNat ≤ 57 := by simpa [isDig] using h

theorem valFrom_ge (l : Bs) (acc : Nat) : acc ≤ valFrom acc l := by
  induction l generalizing acc with
  | nil => exact Nat.le_refl _
  | cons b r ih => exact Nat.le_trans (by omega) (ih _)

theorem valFrom_nil (acc : Nat) : valFrom acc [] = acc := rfl

theorem dec_of_val (l : Bs) : ∀ (acc : Nat) (p : Bs), Lib.decDigits acc = p → 0 < acc → l.all isDig = true → Lib.decDigits (valFrom acc l) = p ++ l := by
  induction l with
  | nil =>
    intro acc p hp _ _
    rw [valFrom_nil, List.append_nil]
    exact hp
  | cons b r ih =>
    intro acc p hp hpos hl
    simp only [List.all_cons, Bool.and_eq_true] at hl
    obtain ⟨h1, h2⟩ := dig_of hl.1
    have hd : Lib.decDigits (acc * 10 + (b.toNat - 48)) = p ++ [b] := by
      rw [dec_big (by omega), show (acc * 10 + (b.toNat - 48)) / 10 = acc by omega, hp, show (acc * 10 + (b.toNat - 48)) % 10 = b.toNat - 48 by omega, show 48 + (b.toNat - 48) = b.toNat by omega]
      simp
    unfold valFrom
    rw [ih _ _ hd (by omega) hl.2]
    simp

theorem dec_of (l : Bs) (h : isNum l = true) : Lib.decDigits (val l) = l := by
  unfold isNum at h
  simp only [Bool.and_eq_true, Bool.not_eq_true'] at h
  obtain ⟨h1, h2⟩ := h
  cases l with
  | nil => simp [lead] at h1
  | cons b r =>
    simp only [List.all_cons, Bool.and_eq_true] at h2
    obtain ⟨g1, g2⟩ := dig_of h2.1
    have hb : Lib.decDigits (b.toNat - 48) = [b] := by
      rw [dec_small (by omega), show 48 + (b.toNat - 48) = b.toNat by omega]
      simp
    cases r with
    | nil =>
      unfold val valFrom valFrom
      rw [show 0 * 10 + (b.toNat - 48) = b.toNat - 48 by omega]
      exact hb
    | cons c t =>
      have hne : b ≠ 48 := by
        intro e
        subst e
        simp [lead] at h1
      have hpos : 0 < b.toNat - 48 := by
        have : b.toNat ≠ 48 := fun e => hne (UInt8.toNat_inj.1 e)
        omega
      unfold val valFrom
      rw [show 0 * 10 + (b.toNat - 48) = b.toNat - 48 by omega]
      exact dec_of_val (c :: t) _ _ hb hpos h2.2

/-- What a numeral tells, but for those that no int holds. -/
def sat (n : Nat) : Nat := min n 9223372036854775807

theorem parse_nil (acc : Nat) : Lib.parseUint10 acc [] = .ok acc := rfl

theorem parse_all (l : Bs) : ∀ acc : Nat, l.all isDig = true → acc < 18446744073709551616 → Lib.parseUint10 acc l = if valFrom acc l < 18446744073709551616 then .ok (valFrom acc l) else .range := by
  induction l with
  | nil =>
    intro acc _ ha
    rw [valFrom_nil, parse_nil, if_pos ha]
  | cons b r ih =>
    intro acc hl ha
    simp only [List.all_cons, Bool.and_eq_true] at hl
    obtain ⟨h1, h2⟩ := dig_of hl.1
    unfold Lib.parseUint10 valFrom
    rw [if_pos ⟨h1, h2⟩]
    have hge := valFrom_ge r (acc * 10 + (b.toNat - 48))
    by_cases g1 : 1844674407370955162 ≤ acc
    · rw [if_pos g1, if_neg (by omega)]
    · rw [if_neg g1]
      by_cases g2 : 18446744073709551616 ≤ acc * 10 + (b.toNat - 48)
      · rw [if_pos g2, if_neg (by omega)]
      · rw [if_neg g2, ih _ hl.2 (by omega)]

theorem atoi_num (l : Bs) (h : isNum l = true) : Lib.atoiAll l = if val l < 9223372036854775808 then .ok (val l : Int) else .range := by
  unfold isNum at h
  simp only [Bool.and_eq_true, Bool.not_eq_true'] at h
  obtain ⟨h1, h2⟩ := h
  cases l with
  | nil => simp [lead] at h1
  | cons b r =>
    have h3 := h2
    simp only [List.all_cons, Bool.and_eq_true] at h3
    obtain ⟨g1, g2⟩ := dig_of h3.1
    rw [Lib.atoiAll_plain b r (by omega) (by omega)]
    unfold Lib.parseMag
    rw [if_neg (by simp), parse_all _ _ h2 (by omega)]
    unfold val
    by_cases hv : valFrom 0 (b :: r) < 18446744073709551616
    · rw [if_pos hv]
      simp only [Lib.signless]
      by_cases hv2 : 9223372036854775808 ≤ valFrom 0 (b :: r)
      · rw [if_pos hv2, if_neg (by omega)]
      · rw [if_neg hv2, if_pos (by omega)]
    · rw [if_neg hv, if_neg (by omega)]
      rfl

theorem atoiSat_num (l : Bs) (h : isNum l = true) : Lib.atoiSat l = 9223372036854775807 := by
  unfold isNum at h
  simp only [Bool.and_eq_true, Bool.not_eq_true'] at h
  obtain ⟨h1, h2⟩ := h
  cases l with
  | nil => simp [lead] at h1
  | cons b r =>
    simp only [List.all_cons, Bool.and_eq_true] at h2
    obtain ⟨g1, g2⟩ := dig_of h2.1
    exact Lib.atoiSat_other b r (by omega)

/-! ### Operands -/

def mk (kind : Nat) : Bs := [[], [114], [104], [102], []].getD kind []
def numOf (l : Bs) : Option Int := if isNum l then some (val l) else none
def opd (kind : Nat) (w : Bs) : Option Int :=
  if kind = 4 then (if w.headD 0 = 45 then (numOf w.tail).bind fun n => if n = 0 then none else some (-n) else numOf w)
  else if (mk kind).isPrefixOf w then numOf (w.drop (mk kind).length) else none

def wrOpd (kind : Nat) (x : Int) : Bs := mk kind ++ Lib.itoa x

theorem itoa_nat (n : Nat) : Lib.itoa (n : Int) = Lib.decDigits n := by
  unfold Lib.itoa
  rw [if_neg (by omega), Int.toNat_natCast]
theorem itoa_neg' (n : Nat) (h : 0 < n) : Lib.itoa (-(n : Int)) = 45 :: Lib.decDigits n := by
  unfold Lib.itoa
  rw [if_pos (by omega), Int.natAbs_neg, Int.natAbs_natCast]

theorem numOf_dec (n : Nat) : numOf (Lib.decDigits n) = some (n : Int) := by
  unfold numOf
  rw [if_pos (dec_num n), dec_val]

theorem numOf_some {l : Bs} {x : Int} (h : numOf l = some x) : isNum l = true ∧ x = (val l : Int) ∧ Lib.itoa x = l := by
  unfold numOf at h
  split at h
  · rename_i hn
    injection h with h
    subst h
    exact ⟨hn, rfl, by rw [itoa_nat, dec_of l hn]⟩
  · cases h

theorem num_head {l : Bs} (h : isNum l = true) : l.headD 0 ≠ 45 := by
  unfold isNum at h
  simp only [Bool.and_eq_true, Bool.not_eq_true'] at h
  cases l with
  | nil => decide
  | cons b r =>
    have h2 := h.2
    simp only [List.all_cons, Bool.and_eq_true] at h2
    have := dig_of h2.1
    intro e
    have e : b = 45 := e
    subst e
    have : (45 : UInt8).toNat = 45 := rfl
    omega

theorem opd_wr (kind : Nat) (x : Int) (hk : kind = 4 ∨ (1 ≤ kind ∧ kind ≤ 3 ∧ 0 ≤ x)) : opd kind (wrOpd kind x) = some x := by
  rcases hk with rfl | ⟨h1, h2, h3⟩
  · unfold opd wrOpd
    rw [if_pos rfl]
    show (if (Lib.itoa x).headD 0 = 45 then _ else numOf (Lib.itoa x)) = some x
    by_cases hx : x < 0
    · obtain ⟨n, rfl⟩ : ∃ n : Nat, x = -(n : Int) := ⟨x.natAbs, by omega⟩
      have e : mk 4 ++ Lib.itoa (-(n : Int)) = 45 :: Lib.decDigits n := by rw [itoa_neg' n (by omega)]; rfl
      rw [e, itoa_neg' n (by omega), List.headD_cons, if_pos rfl, List.tail_cons, numOf_dec]
      simp only [Option.bind_some]
      rw [if_neg (by omega)]
    · obtain ⟨n, rfl⟩ : ∃ n : Nat, x = (n : Int) := ⟨x.toNat, by omega⟩
      rw [itoa_nat, if_neg (num_head (dec_num n)), numOf_dec]
  · obtain ⟨n, rfl⟩ : ∃ n : Nat, x = (n : Int) := ⟨x.toNat, by omega⟩
    unfold opd wrOpd
    rw [if_neg (by omega), itoa_nat, if_pos (by simp), List.drop_left, numOf_dec]

theorem opd_some {kind : Nat} {w : Bs} {x : Int} (hk : kind ≤ 4) (h : opd kind w = some x) : wrOpd kind x = w ∧ (kind ≠ 4 → 0 ≤ x) := by
  unfold opd at h
  split at h
  · rename_i h4
    subst h4
    refine ⟨?_, fun h => absurd rfl h⟩
    show Lib.itoa x = w
    split at h
    · rename_i hh
      obtain ⟨n, hn, hx⟩ := Option.bind_eq_some_iff.1 h
      obtain ⟨h1, h2, h3⟩ := numOf_some hn
      split at hx
      · cases hx
      · rename_i hn0
        injection hx with hx
        subst hx
        subst h2
        rw [itoa_nat] at h3
        rw [itoa_neg' _ (by omega), h3]
        cases w with
        | nil => simp at hh
        | cons b r =>
          have : b = 45 := hh
          rw [this]; rfl
    · exact (numOf_some h).2.2
  · split at h
    · rename_i hp
      obtain ⟨h1, h2, h3⟩ := numOf_some h
      refine ⟨?_, fun _ => by omega⟩
      unfold wrOpd
      rw [h3]
      rw [List.isPrefixOf_iff_prefix] at hp
      obtain ⟨t, rfl⟩ := hp
      rw [List.drop_left]
    · cases h

/-! ### Instructions -/

/-- How each field of each instruction is written: 0 not at all, 1 a register, 2 a handle, 3 a function, 4 a number. -/
def aKinds : List Nat := [1, 0, 0, 4, 1, 1, 0, 0, 1, 1, 1, 0, 1, 1, 1, 0, 1, 1, 1, 0, 1, 1, 1, 0, 0, 0, 0, 4, 1, 0, 0, 4, 2, 0, 0, 3, 1, 2, 0, 0, 1, 1, 2, 0, 0, 0, 0, 4, 1, 0, 0, 0, 0, 0, 0, 0, 0, 0, 0, 0, 1, 0, 0, 0, 1, 0, 0, 0]
def ak (op k : Nat) : Nat := aKinds.getD (op * 4 + k) 0

def names : List Bs := [[99, 111, 110, 115, 116], [109, 111, 118, 101], [97, 100, 100], [115, 117, 98], [109, 117, 108], [108, 101, 115, 115], [106, 117, 109, 112], [105, 102], [102, 111, 114, 107], [106, 111, 105, 110], [116, 114, 121], [111, 112, 101, 110], [99, 108, 111, 115, 101], [99, 97, 110, 99, 101, 108], [99, 104, 101, 99, 107], [112, 97, 110, 105, 99], [114, 101, 116, 117, 114, 110]]

def flds (op : Nat) : List Nat := (List.range 4).filter fun k => ak op k != 0

def wordsOf (op : Nat) (f : Nat → Int) : List Bs := names.getD op [] :: (flds op).map fun k => wrOpd (ak op k) (f k)

/-- An instruction's text. -/
def txt (i : Ins) : Bs := glue 32 (wordsOf i.op.toNat i.fld)

def nameIx (w : Bs) : Option Nat := names.findIdx? (· == w)

def Ins.set (i : Ins) (k : Nat) (x : Int) : Ins := if k = 0 then { i with a := x } else if k = 1 then { i with b := x } else if k = 2 then { i with c := x } else { i with n := x }

def rdOps (op : Nat) : List Nat → List Bs → Ins → Ins × Int
  | k :: ks, w :: ws, i => match opd (ak op k) w with
    | none => (Ins.zero, 11)
    | some x => if bad op k x then (Ins.zero, 10) else rdOps op ks ws (i.set k x)
  | _, _, i => (i, 0)

/-- What a text is, or what is wrong. -/
def rd (s : Bs) : Ins × Int := match nameIx ((cut 32 s).headD []) with
  | none => (Ins.zero, 14)
  | some op => if (cut 32 s).length ≠ 1 + (flds op).length then (Ins.zero, 11) else rdOps op (flds op) (cut 32 s).tail ⟨op, 0, 0, 0, 0⟩

theorem kinds_fit : ∀ op, op < 17 → ∀ k, k < 4 → (ak op k ≤ 4 ∧ (ak op k = 0 ↔ kd op k = 0) ∧ (ak op k ≠ 4 → 0 ≤ lo op k) ∧ (kd op k = 0 → lo op k = 0 ∧ hi op k = 0) ∧ lo op k ≤ 0 ∧ 0 ≤ hi op k ∧ hi op k < 4294967296 ∧ -4294967296 < lo op k) := by decide

theorem nameIx_some : ∀ op, op < 17 → nameIx (names.getD op []) = some op := by decide

theorem nameIx_lt {w : Bs} {op : Nat} (h : nameIx w = some op) : op < 17 ∧ names.getD op [] = w := by
  unfold nameIx at h
  obtain ⟨hl, hw, _⟩ := List.findIdx?_eq_some_iff_getElem.1 h
  refine ⟨hl, ?_⟩
  rw [List.getD_eq_getElem?_getD, List.getElem?_eq_getElem hl]
  simpa using hw

theorem names_free : ∀ op, op < 17 → (32 : UInt8) ∉ names.getD op [] := by decide

theorem dig_not {c b : UInt8} (hb : isDig b = true) (hc : isDig c = false) : b ≠ c := fun e => by rw [e, hc] at hb; cases hb

theorem itoa_free (x : Int) (c : UInt8) (hc : isDig c = false) (h45 : c ≠ 45) : c ∉ Lib.itoa x := by
  have hall : ∀ n, c ∉ Lib.decDigits n := fun n hm => by
    have := List.all_eq_true.1 (dec_all n) c hm
    rw [hc] at this; cases this
  unfold Lib.itoa
  split
  · intro hm
    rcases List.mem_cons.1 hm with e | hm
    · exact h45 e
    · exact hall _ hm
  · exact hall _

theorem mk_free : ∀ kind, kind ≤ 4 → (32 : UInt8) ∉ mk kind ∧ (10 : UInt8) ∉ mk kind := by decide

theorem wr_free (kind : Nat) (hk : kind ≤ 4) (x : Int) : (32 : UInt8) ∉ wrOpd kind x ∧ (10 : UInt8) ∉ wrOpd kind x := by
  unfold wrOpd
  have h := mk_free kind hk
  refine ⟨fun hm => ?_, fun hm => ?_⟩
  · rcases List.mem_append.1 hm with hm | hm
    · exact h.1 hm
    · exact itoa_free x 32 (by decide) (by decide) hm
  · rcases List.mem_append.1 hm with hm | hm
    · exact h.2 hm
    · exact itoa_free x 10 (by decide) (by decide) hm

theorem flds_lt {op k : Nat} (h : k ∈ flds op) : k < 4 ∧ ak op k ≠ 0 := by
  unfold flds at h
  rw [List.mem_filter, List.mem_range] at h
  exact ⟨h.1, by simpa using h.2⟩

theorem wordsOf_free (op : Nat) (ho : op < 17) (f : Nat → Int) : ∀ w ∈ wordsOf op f, (32 : UInt8) ∉ w := by
  intro w hw
  unfold wordsOf at hw
  rcases List.mem_cons.1 hw with rfl | hw
  · exact names_free op ho
  · obtain ⟨k, hk, rfl⟩ := List.mem_map.1 hw
    exact (wr_free _ (kinds_fit op ho k (flds_lt hk).1).1 _).1

theorem cut_txt (i : Ins) (ho : i.op.toNat < 17) : cut 32 (txt i) = wordsOf i.op.toNat i.fld := cut_glue 32 _ (wordsOf_free _ ho _) (by simp [wordsOf])

theorem chk_zero {i : Ins} (h : chk i = 0) : i.op.toNat < 17 ∧ (i.op.toNat : Int) = i.op ∧ ∀ k, k < 4 → bad i.op.toNat k (i.fld k) = false := by
  unfold chk at h
  split at h
  · cases h
  · rename_i ho
    split at h
    · cases h
    · rename_i hw
      simp only [Ins.wrong, Bool.or_eq_true, not_or, Bool.not_eq_true] at hw
      refine ⟨by omega, by omega, fun k hk => ?_⟩
      obtain ⟨⟨⟨h0, h1⟩, h2⟩, h3⟩ := hw
      rcases k with _ | _ | _ | _ | k
      · exact h0
      · exact h1
      · exact h2
      · exact h3
      · omega

theorem zero_chk {i : Ins} {op : Nat} (ho : op < 17) (hi : i.op = op) (h : ∀ k, k < 4 → bad op k (i.fld k) = false) : chk i = 0 := by
  have e : i.op.toNat = op := by omega
  have h0 : bad op 0 i.a = false := h 0 (by omega)
  have h1 : bad op 1 i.b = false := h 1 (by omega)
  have h2 : bad op 2 i.c = false := h 2 (by omega)
  have h3 : bad op 3 i.n = false := h 3 (by omega)
  unfold chk Ins.wrong
  rw [if_neg (by omega), e, h0, h1, h2, h3]
  rfl

theorem set_fld (i : Ins) (k j : Nat) (x : Int) (hk : k < 4) (hj : j < 4) : (i.set k x).fld j = if j = k then x else i.fld j := by
  have hk' : k = 0 ∨ k = 1 ∨ k = 2 ∨ k = 3 := by omega
  have hj' : j = 0 ∨ j = 1 ∨ j = 2 ∨ j = 3 := by omega
  rcases hk' with rfl | rfl | rfl | rfl <;> rcases hj' with rfl | rfl | rfl | rfl <;> rfl

theorem set_op (i : Ins) (k : Nat) (x : Int) : (i.set k x).op = i.op := by
  unfold Ins.set
  split
  · rfl
  · split
    · rfl
    · split <;> rfl

theorem ins_ext {i j : Ins} (h : i.op = j.op) (hf : ∀ k, k < 4 → i.fld k = j.fld k) : i = j := by
  have h0 : i.a = j.a := hf 0 (by omega)
  have h1 : i.b = j.b := hf 1 (by omega)
  have h2 : i.c = j.c := hf 2 (by omega)
  have h3 : i.n = j.n := hf 3 (by omega)
  obtain ⟨_, _, _, _, _⟩ := i
  obtain ⟨_, _, _, _, _⟩ := j
  simp_all

/-- Operands that are written are read. -/
theorem rdOps_wr (op : Nat) (ho : op < 17) (f : Nat → Int) (hf : ∀ k, k < 4 → bad op k (f k) = false) (ks : List Nat) (hk : ∀ k ∈ ks, k ∈ flds op) (i : Ins) :
    rdOps op ks (ks.map fun k => wrOpd (ak op k) (f k)) i = (ks.foldl (fun i k => i.set k (f k)) i, 0) := by
  induction ks generalizing i with
  | nil => rfl
  | cons k ks ih =>
    obtain ⟨h4, h0⟩ := flds_lt (hk k (by simp))
    obtain ⟨c1, _, c3, _⟩ := kinds_fit op ho k h4
    have hb := hf k h4
    have hx : opd (ak op k) (wrOpd (ak op k) (f k)) = some (f k) := opd_wr _ _ (by
      by_cases e : ak op k = 4
      · exact .inl e
      · refine .inr ⟨by omega, by omega, ?_⟩
        have := c3 e
        simp only [bad, Bool.or_eq_false_iff, decide_eq_false_iff_not] at hb
        omega)
    simp only [List.map_cons, rdOps, hx, hb, List.foldl_cons]
    exact ih (fun k h => hk k (by simp [h])) _

theorem foldl_fld (f : Nat → Int) (ks : List Nat) (hk : ∀ k ∈ ks, k < 4) (i : Ins) (j : Nat) (hj : j < 4) : (ks.foldl (fun i k => i.set k (f k)) i).fld j = if j ∈ ks then f j else i.fld j := by
  induction ks generalizing i with
  | nil => simp
  | cons k ks ih =>
    rw [List.foldl_cons, ih (fun k h => hk k (by simp [h])), set_fld i k j _ (hk k (by simp)) hj]
    by_cases h1 : j ∈ ks
    · rw [if_pos h1, if_pos (by simp [h1])]
    · rw [if_neg h1]
      by_cases h2 : j = k
      · subst h2; simp
      · rw [if_neg h2, if_neg (by simp [h1, h2])]

theorem foldl_op (f : Nat → Int) (ks : List Nat) (i : Ins) : (ks.foldl (fun i k => i.set k (f k)) i).op = i.op := by
  induction ks generalizing i with
  | nil => rfl
  | cons k ks ih => rw [List.foldl_cons, ih, set_op]

/-- An instruction's text is read as it. -/
theorem rd_txt (i : Ins) (h : chk i = 0) : rd (txt i) = (i, 0) := by
  obtain ⟨ho, he, hb⟩ := chk_zero h
  unfold rd
  rw [cut_txt i ho]
  show (match nameIx (names.getD i.op.toNat []) with | none => _ | some op => _) = _
  rw [nameIx_some _ ho]
  show (if (wordsOf i.op.toNat i.fld).length ≠ 1 + (flds i.op.toNat).length then _ else rdOps i.op.toNat (flds i.op.toNat) (wordsOf i.op.toNat i.fld).tail ⟨i.op.toNat, 0, 0, 0, 0⟩) = _
  rw [if_neg (by simp [wordsOf]; omega)]
  unfold wordsOf
  rw [List.tail_cons, rdOps_wr _ ho _ hb _ (fun _ h => h)]
  congr 1
  refine ins_ext (by rw [foldl_op]; exact he) (fun k hk => ?_)
  rw [foldl_fld _ _ (fun k h => (flds_lt h).1) _ _ hk]
  split
  · rfl
  · rename_i hm
    have h0 : ak i.op.toNat k = 0 := by
      rcases Nat.eq_zero_or_pos (ak i.op.toNat k) with e | e
      · exact e
      · exact absurd (List.mem_filter.2 ⟨List.mem_range.2 hk, by simpa using (by omega : ak i.op.toNat k ≠ 0)⟩) hm
    obtain ⟨_, c2, _, c4, _⟩ := kinds_fit _ ho k hk
    have hbk := hb k hk
    obtain ⟨l0, l1⟩ := c4 (c2.1 h0)
    simp only [bad, l0, l1, Bool.or_eq_false_iff, decide_eq_false_iff_not] at hbk
    have : (⟨i.op.toNat, 0, 0, 0, 0⟩ : Ins).fld k = 0 := by
      have hk' : k = 0 ∨ k = 1 ∨ k = 2 ∨ k = 3 := by omega
      rcases hk' with rfl | rfl | rfl | rfl <;> rfl
    rw [this]
    omega

/-- What is read is right, and was written so. -/
theorem rdOps_some (op : Nat) (ho : op < 17) (ks : List Nat) (hk : ∀ k ∈ ks, k ∈ flds op) (hd : ks.Nodup) (ws : List Bs) (hl : ws.length = ks.length) (i j : Ins) (hi : ∀ k, k < 4 → bad op k (i.fld k) = false) (h : rdOps op ks ws i = (j, 0)) :
    j.op = i.op ∧ (∀ k, k < 4 → bad op k (j.fld k) = false) ∧ (∀ k, k < 4 → k ∉ ks → j.fld k = i.fld k) ∧ ws = ks.map fun k => wrOpd (ak op k) (j.fld k) := by
  induction ks generalizing ws i with
  | nil =>
    cases ws with
    | nil =>
      simp only [rdOps, Prod.mk.injEq] at h
      obtain ⟨rfl, _⟩ := h
      exact ⟨rfl, hi, fun _ _ _ => rfl, rfl⟩
    | cons _ _ => simp at hl
  | cons k ks ih =>
    cases ws with
    | nil => simp at hl
    | cons w ws =>
      obtain ⟨h4, h0⟩ := flds_lt (hk k (by simp))
      obtain ⟨c1, _, _, _⟩ := kinds_fit op ho k h4
      simp only [rdOps] at h
      split at h
      · simp at h
      · rename_i x hx
        split at h
        · simp at h
        · rename_i hb
          rw [List.nodup_cons] at hd
          obtain ⟨g1, g2, g3, g4⟩ := ih (fun k h => hk k (by simp [h])) hd.2 ws (by simpa using hl) (i.set k x) (fun j hj => by
            rw [set_fld i k j x h4 hj]
            split
            · rename_i e; subst e; simpa using hb
            · exact hi j hj) h
          have hjk : j.fld k = x := by rw [g3 k h4 hd.1, set_fld i k k x h4 h4, if_pos rfl]
          refine ⟨by rw [g1, set_op], g2, fun q hq hn => ?_, ?_⟩
          · simp only [List.mem_cons, not_or] at hn
            rw [g3 q hq hn.2, set_fld i k q x h4 hq, if_neg hn.1]
          · rw [List.map_cons, ← g4, hjk, (opd_some c1 hx).1]

theorem flds_nodup (op : Nat) : (flds op).Nodup := List.Pairwise.filter _ List.nodup_range

theorem zero_good (op : Nat) (ho : op < 17) : ∀ k, k < 4 → bad op k ((⟨op, 0, 0, 0, 0⟩ : Ins).fld k) = false := by
  intro k hk
  obtain ⟨_, _, _, _, c5, c6, _⟩ := kinds_fit op ho k hk
  have : (⟨op, 0, 0, 0, 0⟩ : Ins).fld k = 0 := by
    have hk' : k = 0 ∨ k = 1 ∨ k = 2 ∨ k = 3 := by omega
    rcases hk' with rfl | rfl | rfl | rfl <;> rfl
  rw [this]
  simp only [bad, Bool.or_eq_false_iff, decide_eq_false_iff_not]
  omega

theorem txt_rd (s : Bs) (i : Ins) (h : rd s = (i, 0)) : chk i = 0 ∧ txt i = s := by
  unfold rd at h
  split at h
  · simp at h
  · rename_i op hop
    obtain ⟨ho, hn⟩ := nameIx_lt hop
    split at h
    · simp at h
    · rename_i hl
      simp only [ne_eq, Decidable.not_not] at hl
      obtain ⟨h0, t, e⟩ := cut_form 32 s
      rw [e] at hl hn h
      simp only [List.tail_cons, List.headD_cons] at h hn
      obtain ⟨g1, g2, _, g4⟩ := rdOps_some op ho (flds op) (fun _ h => h) (flds_nodup op) t (by simp at hl; omega) _ i (zero_good op ho) h
      have eop : i.op.toNat = op := by rw [g1]; exact Int.toNat_natCast _
      refine ⟨zero_chk ho g1 g2, ?_⟩
      unfold txt wordsOf
      rw [eop, hn, ← g4, ← e, glue_cut]

theorem rd_bad {s : Bs} {i : Ins} {e : Int} (h : rd s = (i, e)) (he : e ≠ 0) : i = Ins.zero := by
  have key : ∀ (op : Nat) (ks : List Nat) (ws : List Bs) (j : Ins), rdOps op ks ws j = (i, e) → i = Ins.zero := by
    intro op ks
    induction ks with
    | nil =>
      intro ws j hj
      simp only [rdOps, Prod.mk.injEq] at hj
      exact absurd hj.2.symm he
    | cons k ks ih =>
      intro ws j hj
      cases ws with
      | nil =>
        simp only [rdOps, Prod.mk.injEq] at hj
        exact absurd hj.2.symm he
      | cons w ws =>
        simp only [rdOps] at hj
        split at hj
        · simp only [Prod.mk.injEq] at hj; exact hj.1.symm
        · split at hj
          · simp only [Prod.mk.injEq] at hj; exact hj.1.symm
          · exact ih _ _ hj
  unfold rd at h
  split at h
  · simp only [Prod.mk.injEq] at h; exact h.1.symm
  · split at h
    · simp only [Prod.mk.injEq] at h; exact h.1.symm
    · exact key _ _ _ _ h

/-! ### A blank put in -/

theorem names_pre : ∀ op, op < 17 → ∀ k, k < (names.getD op []).length → nameIx ((names.getD op []).take k) = none := by decide

theorem rd_blank (i : Ins) (h : chk i = 0) (k : Nat) : (rd ((txt i).take k ++ 32 :: (txt i).drop k)).2 = 14 ∨ (rd ((txt i).take k ++ 32 :: (txt i).drop k)).2 = 11 := by
  obtain ⟨ho, _, _⟩ := chk_zero h
  obtain ⟨a, b, h1, h2, h3⟩ := cut_put 32 ((txt i).take k) ((txt i).drop k)
  rw [List.take_append_drop, cut_txt i ho] at h3
  unfold rd
  rw [h2]
  have hlen : (wordsOf i.op.toNat i.fld).length + 1 = (a ++ [b] ++ cut 32 ((txt i).drop k)).length := by
    obtain ⟨x, t, e⟩ := cut_form 32 ((txt i).drop k)
    rw [h3, e]
    simp
    omega
  have hw : (wordsOf i.op.toNat i.fld).length = 1 + (flds i.op.toNat).length := by simp [wordsOf]; omega
  cases a with
  | cons a0 a =>
    have e0 : names.getD i.op.toNat [] = a0 := by
      unfold wordsOf at h3
      simp only [List.cons_append, List.cons.injEq] at h3
      exact h3.1
    have e1 : ((a0 :: a) ++ [b] ++ cut 32 ((txt i).drop k)).headD [] = a0 := rfl
    rw [e1, ← e0, nameIx_some _ ho]
    right
    show (if _ then _ else _ : Ins × Int).2 = 11
    rw [if_pos (by rw [e0]; omega)]
  | nil =>
    have e1 : (([] : List Bs) ++ [b] ++ cut 32 ((txt i).drop k)).headD [] = b := rfl
    have e0 : names.getD i.op.toNat [] = b ++ (cut 32 ((txt i).drop k)).headD [] := by
      unfold wordsOf at h3
      simp only [List.nil_append, List.cons.injEq] at h3
      exact h3.1
    rw [e1]
    by_cases hb : b.length < (names.getD i.op.toNat []).length
    · have : b = (names.getD i.op.toNat []).take b.length := by rw [e0]; simp
      have hn := names_pre _ ho b.length hb
      rw [← this] at hn
      rw [hn]
      left
      rfl
    · have : b = names.getD i.op.toNat [] := by
        have hl := congrArg List.length e0
        rw [List.length_append] at hl
        have : (cut 32 ((txt i).drop k)).headD [] = [] := List.eq_nil_of_length_eq_zero (by omega)
        rw [e0, this, List.append_nil]
      have hn := nameIx_some _ ho
      rw [← this] at hn
      rw [hn]
      right
      show (if _ then _ else _ : Ins × Int).2 = 11
      rw [if_pos (by omega)]

end Go.Proofs.YtepbnneggpcbcaaGreatDoor
