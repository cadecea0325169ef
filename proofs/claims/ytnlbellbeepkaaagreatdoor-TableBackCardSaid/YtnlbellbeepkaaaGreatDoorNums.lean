/-
  Stage 7, plain: words, numerals, lines (after stage 3's).
-/
import Derived.Test.YtnlbellbeepkaaaGreatDoorTxt
namespace Go.Proofs.YtnlbellbeepkaaaGreatDoor
open Go.RowKit

/-! ### The library's split -/

theorem index_one_none (c : UInt8) (l : Bs) (h : c ∉ l) : Lib.index l [c] = -1 := by
  induction l with
  | nil => simp [Lib.index]
  | cons x r ih =>
    have hx : x ≠ c := fun e => h (by simp [e])
    have hp : ([c] : Bs).isPrefixOf (x :: r) = false := by simp [List.isPrefixOf, Ne.symm hx]
    rw [Lib.index, hp, ih (fun hm => h (by simp [hm]))]
    simp

theorem index_one_app (c : UInt8) (h : Bs) (hh : c ∉ h) (r : Bs) : Lib.index (h ++ c :: r) [c] = (h.length : Int) := by
  induction h with
  | nil => rw [List.nil_append, Lib.index]; simp [List.isPrefixOf]
  | cons x t ih =>
    have hx : x ≠ c := fun e => hh (by simp [e])
    have hp : ([c] : Bs).isPrefixOf (x :: (t ++ c :: r)) = false := by simp [List.isPrefixOf, Ne.symm hx]
    have := ih (fun hm => hh (by simp [hm]))
    rw [List.cons_append, Lib.index, hp, this]
    simp

theorem mem_parts (c : UInt8) (l : Bs) (h : c ∈ l) : ∃ a r, c ∉ a ∧ l = a ++ c :: r := by
  induction l with
  | nil => simp at h
  | cons x t ih =>
    by_cases hx : x = c
    · exact ⟨[], t, by simp, by simp [hx]⟩
    · rcases List.mem_cons.1 h with e | h
      · exact absurd e.symm hx
      · obtain ⟨a, r, ha, rfl⟩ := ih h
        exact ⟨x :: a, r, by simp [ha, Ne.symm hx], rfl⟩

/-- The first k pieces, and the rest. -/
def cutN (c : UInt8) : Nat → Bs → List Bs := Lib.splitK [c] 0

theorem cutN_zero (c : UInt8) (l : Bs) : cutN c 0 l = [l] := rfl
theorem cutN_none (c : UInt8) (k : Nat) (l : Bs) (h : c ∉ l) : cutN c k l = [l] := by
  cases k with
  | zero => rfl
  | succ k =>
    unfold cutN Lib.splitK
    rw [index_one_none c l h]
    rfl
theorem cutN_app (c : UInt8) (k : Nat) (h : Bs) (hh : c ∉ h) (r : Bs) : cutN c (k + 1) (h ++ c :: r) = h :: cutN c k r := by
  unfold cutN
  rw [Lib.splitK, index_one_app c h hh r, if_neg (by simp), Int.toNat_natCast]
  simp

theorem cutN_len (c : UInt8) (k : Nat) (l : Bs) : (cutN c k l).length = min (cut c l).length (k + 1) := by
  induction k generalizing l with
  | zero =>
    rw [cutN_zero]
    have := cut_pos c l
    rw [Nat.min_eq_right (by omega)]
    rfl
  | succ k ih =>
    by_cases h : c ∈ l
    · obtain ⟨a, r, ha, rfl⟩ := mem_parts c l h
      rw [cutN_app c k a ha, cut_app c a ha, List.length_cons, ih, List.length_cons]
      omega
    · rw [cutN_none c _ l h, cut_one c l h]
      simp

theorem cutN_eq (c : UInt8) (k : Nat) (l : Bs) (h : (cut c l).length ≤ k + 1) : cutN c k l = cut c l := by
  induction k generalizing l with
  | zero =>
    by_cases hm : c ∈ l
    · obtain ⟨a, r, ha, rfl⟩ := mem_parts c l hm
      rw [cut_app c a ha] at h
      have := cut_pos c r
      rw [List.length_cons] at h
      omega
    · rw [cutN_none c _ l hm, cut_one c l hm]
  | succ k ih =>
    by_cases hm : c ∈ l
    · obtain ⟨a, r, ha, rfl⟩ := mem_parts c l hm
      rw [cutN_app c k a ha, cut_app c a ha, ih r (by rw [cut_app c a ha, List.length_cons] at h; omega)]
    · rw [cutN_none c _ l hm, cut_one c l hm]

theorem cutN_head (c : UInt8) (k : Nat) (l : Bs) : (cutN c (k + 1) l).head? = (cut c l).head? := by
  by_cases hm : c ∈ l
  · obtain ⟨a, r, ha, rfl⟩ := mem_parts c l hm
    rw [cutN_app c k a ha, cut_app c a ha]
    rfl
  · rw [cutN_none c _ l hm, cut_one c l hm]

theorem cut_len_le (c : UInt8) (l : Bs) : (cut c l).length ≤ l.length + 1 := by
  induction l with
  | nil => simp [cut]
  | cons x r ih =>
    have := cut_pos c r
    unfold cut
    split
    · rw [List.length_cons, List.length_cons]; omega
    · rw [List.length_cons, List.length_tail, List.length_cons]; omega

/-! ### Numerals -/

def isDig (b : UInt8) : Bool := decide (48 ≤ b.toNat) && decide (b.toNat ≤ 57)
def valFrom (acc : Nat) : Bs → Nat
  | [] => acc
  | b :: r => valFrom (acc * 10 + (b.toNat - 48)) r
def val (l : Bs) : Nat := valFrom 0 l
def lead (l : Bs) : Bool := l.isEmpty || (l.headD 0 == 48 && decide (1 < l.length))
def isNum (l : Bs) : Bool := !lead l && l.all isDig

theorem valFrom_app (acc : Nat) (l r : Bs) : valFrom acc (l ++ r) = valFrom (valFrom acc l) r := by
  induction l generalizing acc with
  | nil => rfl
  | cons b t ih => exact ih _

theorem dig_ofNat (d : Nat) (h : d < 10) : isDig (UInt8.ofNat (48 + d)) = true ∧ (UInt8.ofNat (48 + d)).toNat = 48 + d := by
  have e : (UInt8.ofNat (48 + d)).toNat = 48 + d := by rw [UInt8.toNat_ofNat']; omega
  exact ⟨by unfold isDig; rw [e]; simp; omega, e⟩

theorem dec_small {u : Nat} (h : u < 10) : Lib.decDigits u = [UInt8.ofNat (48 + u)] := by rw [Lib.decDigits, dif_pos h]
theorem dec_big {u : Nat} (h : ¬ u < 10) : Lib.decDigits u = Lib.decDigits (u / 10) ++ [UInt8.ofNat (48 + u % 10)] := by rw [Lib.decDigits, dif_neg h]

theorem dec_all (u : Nat) : (Lib.decDigits u).all isDig = true := by
  induction u using Nat.strongRecOn with
  | _ u ih =>
    by_cases h : u < 10
    · rw [dec_small h, List.all_cons, (dig_ofNat u h).1]; rfl
    · rw [dec_big h, List.all_append, ih (u / 10) (by omega), List.all_cons, (dig_ofNat (u % 10) (by omega)).1]; rfl

theorem valFrom_one (acc : Nat) (x : UInt8) : valFrom acc [x] = acc * 10 + (x.toNat - 48) := rfl

theorem dec_val (u : Nat) : val (Lib.decDigits u) = u := by
  unfold val
  induction u using Nat.strongRecOn with
  | _ u ih =>
    by_cases h : u < 10
    · rw [dec_small h, valFrom_one, (dig_ofNat u h).2]
      omega
    · rw [dec_big h, valFrom_app, ih (u / 10) (by omega), valFrom_one, (dig_ofNat (u % 10) (by omega)).2]
      omega

theorem dec_len (u : Nat) : 1 ≤ (Lib.decDigits u).length := by
  by_cases h : u < 10
  · rw [dec_small h]; simp
  · rw [dec_big h]; simp

theorem dec_head (u : Nat) (h : 0 < u) : (Lib.decDigits u).headD 0 ≠ 48 := by
  induction u using Nat.strongRecOn with
  | _ u ih =>
    by_cases h10 : u < 10
    · rw [dec_small h10]
      intro e
      have := (dig_ofNat u h10).2
      simp only [List.headD_cons] at e
      rw [e] at this
      have : (48 : UInt8).toNat = 48 := rfl
      omega
    · rw [dec_big h10]
      have := ih (u / 10) (by omega) (by omega)
      have hl := dec_len (u / 10)
      cases hd : Lib.decDigits (u / 10) with
      | nil => rw [hd] at hl; simp at hl
      | cons a t => rw [hd] at this; exact this

theorem dec_num (u : Nat) : isNum (Lib.decDigits u) = true := by
  unfold isNum
  rw [dec_all, Bool.and_true]
  have hl := dec_len u
  by_cases h : u < 10
  · rw [dec_small h]
    simp [lead]
  · have hh := dec_head u (by omega)
    cases hd : Lib.decDigits u with
    | nil => rw [hd] at hl; simp at hl
    | cons a t =>
      rw [hd] at hh
      have hh : a ≠ 48 := hh
      have : (a == 48) = false := by simpa using hh
      simp [lead, this]

theorem dig_of {b : UInt8} (h : isDig b = true) : 48 ≤ b.toNat ∧ b.toNat ≤ 57 := by simpa [isDig] using h

theorem valFrom_ge (l : Bs) (acc : Nat) : acc ≤ valFrom acc l := by
  induction l generalizing acc with
  | nil => exact Nat.le_refl _
  | cons b r ih => exact Nat.le_trans (by omega) (ih _)

theorem valFrom_nil (acc : Nat) : valFrom acc [] = acc := rfl

theorem dec_of_val (l : Bs) : ∀ (acc : Nat) (p : Bs), Lib.decDigits acc = p → 0 < acc → l.all isDig = true → Lib.decDigits (valFrom acc l) = p ++ l := by
  induction l with
  | nil =>
    intro acc p hp _ _
    rw [valFrom_nil, List.append_nil]
    exact hp
  | cons b r ih =>
    intro acc p hp hpos hl
    simp only [List.all_cons, Bool.and_eq_true] at hl
    obtain ⟨h1, h2⟩ := dig_of hl.1
    have hd : Lib.decDigits (acc * 10 + (b.toNat - 48)) = p ++ [b] := by
      rw [dec_big (by omega), show (acc * 10 + (b.toNat - 48)) / 10 = acc by omega, hp, show (acc * 10 + (b.toNat - 48)) % 10 = b.toNat - 48 by omega, show 48 + (b.toNat - 48) = b.toNat by omega]
      simp
    unfold valFrom
    rw [ih _ _ hd (by omega) hl.2]
    simp

theorem dec_of (l : Bs) (h : isNum l = true) : Lib.decDigits (val l) = l := by
  unfold isNum at h
  simp only [Bool.and_eq_true, Bool.not_eq_true'] at h
  obtain ⟨h1, h2⟩ := h
  cases l with
  | nil => simp [lead] at h1
  | cons b r =>
    simp only [List.all_cons, Bool.and_eq_true] at h2
    obtain ⟨g1, g2⟩ := dig_of h2.1
    have hb : Lib.decDigits (b.toNat - 48) = [b] := by
      rw [dec_small (by omega), show 48 + (b.toNat - 48) = b.toNat by omega]
      simp
    cases r with
    | nil =>
      unfold val valFrom valFrom
      rw [show 0 * 10 + (b.toNat - 48) = b.toNat - 48 by omega]
      exact hb
    | cons c t =>
      have hne : b ≠ 48 := by
        intro e
        subst e
        simp [lead] at h1
      have hpos : 0 < b.toNat - 48 := by
        have : b.toNat ≠ 48 := fun e => hne (UInt8.toNat_inj.1 e)
        omega
      unfold val valFrom
      rw [show 0 * 10 + (b.toNat - 48) = b.toNat - 48 by omega]
      exact dec_of_val (c :: t) _ _ hb hpos h2.2

theorem itoa_nat (n : Nat) : Lib.itoa (n : Int) = Lib.decDigits n := by
  unfold Lib.itoa
  rw [if_neg (by omega), Int.toNat_natCast]
theorem itoa_neg' (n : Nat) (h : 0 < n) : Lib.itoa (-(n : Int)) = 45 :: Lib.decDigits n := by
  unfold Lib.itoa
  rw [if_pos (by omega), Int.natAbs_neg, Int.natAbs_natCast]

theorem dig_not {c b : UInt8} (hb : isDig b = true) (hc : isDig c = false) : b ≠ c := fun e => by rw [e, hc] at hb; cases hb

theorem itoa_free (x : Int) (c : UInt8) (hc : isDig c = false) (h45 : c ≠ 45) : c ∉ Lib.itoa x := by
  have hall : ∀ n, c ∉ Lib.decDigits n := fun n hm => by
    have := List.all_eq_true.1 (dec_all n) c hm
    rw [hc] at this; cases this
  unfold Lib.itoa
  split
  · intro hm
    rcases List.mem_cons.1 hm with e | hm
    · exact h45 e
    · exact hall _ hm
  · exact hall _

/-! ### Lines -/

/-- A text's lines, each with the line feed that ends it. -/
def lns : Bs → List Bs
  | [] => []
  | x :: r => if x = 10 then [x] :: lns r else match lns r with
    | [] => [[x]]
    | h :: t => (x :: h) :: t

theorem lns_app (h : Bs) (hh : (10 : UInt8) ∉ h) (r : Bs) : lns (h ++ 10 :: r) = (h ++ [10]) :: lns r := by
  induction h with
  | nil => simp [lns]
  | cons x t ih =>
    have hx : x ≠ 10 := fun e => hh (by simp [e])
    have := ih (fun hm => hh (by simp [hm]))
    rw [List.cons_append, lns, if_neg hx, this]
    rfl

theorem lns_one (h : Bs) (hh : (10 : UInt8) ∉ h) (hn : h ≠ []) : lns h = [h] := by
  induction h with
  | nil => exact absurd rfl hn
  | cons x t ih =>
    have hx : x ≠ 10 := fun e => hh (by simp [e])
    rw [lns, if_neg hx]
    cases t with
    | nil => rfl
    | cons y s =>
      rw [ih (fun hm => hh (by simp [hm])) (by simp)]

/-- Lines by the first line feed. -/
theorem lns_cases (s : Bs) : (s = [] ∧ lns s = []) ∨ (s ≠ [] ∧ (10 : UInt8) ∉ s ∧ lns s = [s]) ∨ ∃ h r, (10 : UInt8) ∉ h ∧ s = h ++ 10 :: r ∧ lns s = (h ++ [10]) :: lns r := by
  by_cases hs : s = []
  · subst hs
    exact .inl ⟨rfl, rfl⟩
  · by_cases hm : (10 : UInt8) ∈ s
    · obtain ⟨a, r, ha, rfl⟩ := mem_parts 10 s hm
      exact .inr (.inr ⟨a, r, ha, rfl, lns_app a ha r⟩)
    · exact .inr (.inl ⟨hs, hm, lns_one s hm hs⟩)

theorem lns_flat (ls : List Bs) (h : ∀ l ∈ ls, (10 : UInt8) ∉ l) : lns (ls.flatMap (· ++ [10])) = ls.map (· ++ [10]) := by
  induction ls with
  | nil => rfl
  | cons a r ih =>
    rw [List.flatMap_cons, List.append_assoc, List.singleton_append, lns_app a (h a (by simp)), ih (fun l hl => h l (by simp [hl]))]
    rfl

theorem lns_flatten (s : Bs) : (lns s).flatten = s := by
  induction s with
  | nil => rfl
  | cons x r ih =>
    rw [lns]
    split
    · rw [List.flatten_cons, ih]; rfl
    · split
      · rename_i e
        rw [e] at ih
        rw [← ih]
        rfl
      · rename_i e
        rw [e] at ih
        rw [← ih]
        rfl

theorem lns_ne (s : Bs) : ∀ x ∈ lns s, x ≠ [] := by
  induction s with
  | nil => intro x hx; simp [lns] at hx
  | cons a r ih =>
    intro x hx
    rw [lns] at hx
    split at hx
    · rcases List.mem_cons.1 hx with rfl | hx
      · simp
      · exact ih x hx
    · split at hx
      · simp at hx; subst hx; simp
      · rename_i h
        rcases List.mem_cons.1 hx with rfl | hx
        · simp
        · exact ih x (by rw [h]; exact List.mem_cons_of_mem _ hx)

theorem lines_flat (l : List Bs) (h : ∀ x ∈ l, x ≠ []) : l.length ≤ l.flatten.length := by
  induction l with
  | nil => simp
  | cons a r ih =>
    have h1 := List.length_pos_iff.2 (h a (by simp))
    have h2 := ih (fun x hx => h x (by simp [hx]))
    rw [List.flatten_cons, List.length_append, List.length_cons]
    omega

theorem lns_pre {s : Bs} {pre post : List Bs} {x : Bs} (h : lns s = pre ++ x :: post) : pre.length + x.length ≤ s.length := by
  have h1 := congrArg List.length (lns_flatten s)
  rw [h] at h1
  simp only [List.flatten_append, List.flatten_cons, List.length_append] at h1
  have h2 := lines_flat pre (fun y hy => lns_ne s y (by rw [h]; simp [hy]))
  omega

end Go.Proofs.YtnlbellbeepkaaaGreatDoor
