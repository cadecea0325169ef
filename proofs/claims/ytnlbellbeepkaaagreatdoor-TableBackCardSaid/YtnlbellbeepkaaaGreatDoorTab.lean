/-
  Stage 7, plain: rows, the way from a row to what is around it, and when a row stands right.
-/
namespace Go.Proofs.YtnlbellbeepkaaaGreatDoor

/-- A row of a table. -/
structure Tw where
  par : Int
  in_ : Int
  fn : Int
  kind : Int
  v : Int
  st : Int
  cl : ByteArray
  deriving DecidableEq

/-- The Parent of the row of that number (-1 where there is none). -/
def parAt (l : List Tw) (i : Int) : Int := if 0 ≤ i then ((l.map Tw.par)[i.toNat]?).getD (-1) else -1

/-- Each row's Parent lies ahead of it. -/
def Down (l : List Tw) : Prop := ∀ i : Int, 0 ≤ i → i < l.length → parAt l i < i ∧ -1 ≤ parAt l i

/-- The program's way up: till the number is met, or the first row. -/
def climb (l : List Tw) (t : Int) : Nat → Int → Int
  | 0, a => a
  | n + 1, a => if 0 < a ∧ a ≠ t then climb l t n (parAt l a) else a

/-- Is a row within another one, by so many steps. -/
def wth (l : List Tw) (t : Int) : Nat → Int → Bool
  | 0, _ => false
  | n + 1, i => if 0 ≤ i ∧ i < l.length then (if i = t then true else wth l t n (parAt l i)) else false

/-- More steps than the number tell nothing more. -/
theorem wth_more (l : List Tw) (hl : Down l) (t : Int) : ∀ (n m : Nat) (i : Int), i < n → i < m → wth l t n i = wth l t m i := by
  intro n
  induction n with
  | zero =>
    intro m i hn _
    cases m with
    | zero => rfl
    | succ m => simp only [wth]; rw [if_neg (by omega)]
  | succ n ih =>
    intro m i hn hm
    cases m with
    | zero => simp only [wth]; rw [if_neg (by omega)]
    | succ m =>
      simp only [wth]
      by_cases hi : 0 ≤ i ∧ i < l.length
      · rw [if_pos hi, if_pos hi]
        by_cases ht : i = t
        · rw [if_pos ht, if_pos ht]
        · rw [if_neg ht, if_neg ht]
          have := hl i hi.1 hi.2
          exact ih m _ (by omega) (by omega)
      · rw [if_neg hi, if_neg hi]

/-- Climbing ends where it should. -/
theorem climb_end (l : List Tw) (hl : Down l) (t : Int) : ∀ (n : Nat) (a : Int), a ≤ n → -1 ≤ a → a < l.length → (climb l t n a ≤ 0 ∨ climb l t n a = t) ∧ -1 ≤ climb l t n a := by
  intro n
  induction n with
  | zero => intro a ha h1 _; simp only [climb]; omega
  | succ n ih =>
    intro a ha h1 h2
    simp only [climb]
    by_cases h : 0 < a ∧ a ≠ t
    · rw [if_pos h]
      have := hl a (by omega) h2
      exact ih _ (by omega) (by omega) (by omega)
    · rw [if_neg h]
      omega

/-- Climbing comes to a row just if that is around where it begins. -/
theorem climb_wth (l : List Tw) (hl : Down l) (h0 : l ≠ [] → parAt l 0 = -1) (t : Int) (ht : 0 ≤ t) : ∀ (n : Nat) (a : Int), a < n → -1 ≤ a → a < l.length → ((climb l t n a = t) ↔ wth l t n a = true) := by
  intro n
  induction n with
  | zero => intro a ha h1 _; simp only [climb, wth]; constructor <;> intro h <;> first | omega | cases h
  | succ n ih =>
    intro a ha h1 h2
    simp only [climb, wth]
    by_cases hat : a = t
    · rw [if_neg (by omega), if_pos (by omega), if_pos hat]
      simp [hat]
    · by_cases h : 0 < a
      · rw [if_pos ⟨h, hat⟩, if_pos (by omega), if_neg hat]
        have := hl a (by omega) h2
        exact ih _ (by omega) (by omega) (by omega)
      · rw [if_neg (by omega)]
        constructor
        · intro h; exact absurd h hat
        · intro hw
          by_cases hz : 0 ≤ a ∧ a < l.length
          · rw [if_pos hz, if_neg hat] at hw
            have ha0 : a = 0 := by omega
            subst ha0
            have hne : l ≠ [] := by
              rintro rfl
              simp at h2
            rw [h0 hne] at hw
            cases n with
            | zero => cases hw
            | succ n =>
              simp only [wth] at hw
              rw [if_neg (by omega)] at hw
              cases hw
          · rw [if_neg hz] at hw
            cases hw

end Go.Proofs.YtnlbellbeepkaaaGreatDoor
