/-
  Stage 7, plain: when a row stands right, and when rows are a table.
-/
import Derived.Test.YtnlbellbeepkaaaGreatDoorTab
namespace Go.Proofs.YtnlbellbeepkaaaGreatDoor

/-- In a table each row but the first has its Parent ahead of it. -/
def Tabl (l : List Tw) : Prop := (l ≠ [] → parAt l 0 = -1) ∧ ∀ i : Int, 0 < i → i < l.length → 0 ≤ parAt l i ∧ parAt l i < i

theorem Tabl.down {l : List Tw} (h : Tabl l) : Down l := fun i h0 h1 => by
  by_cases hi : i = 0
  · subst hi
    have hne : l ≠ [] := by
      rintro rfl
      simp at h1
    rw [h.1 hne]
    omega
  · have := h.2 i (by omega) h1
    omega

theorem parAt_take {l : List Tw} {i : Nat} {a : Int} (h : a < i) : parAt (l.take i) a = parAt l a := by
  unfold parAt
  by_cases h0 : 0 ≤ a
  · rw [if_pos h0, if_pos h0, List.map_take, List.getElem?_take, if_pos (by omega)]
  · rw [if_neg h0, if_neg h0]

theorem parAt_of' {l : List Tw} {i : Nat} {r : Tw} (h : l[i]? = some r) : parAt l (i : Int) = r.par := by
  unfold parAt
  rw [if_pos (by omega)]
  simp [h]

theorem climb_pos {l : List Tw} (h : Tabl l) (t : Int) : ∀ (n : Nat) (a : Int), 0 ≤ a → a < l.length → 0 ≤ climb l t n a := by
  intro n
  induction n with
  | zero => intro a h0 _; exact h0
  | succ n ih =>
    intro a h0 h1
    simp only [climb]
    by_cases hc : 0 < a ∧ a ≠ t
    · rw [if_pos hc]
      have := h.2 a hc.1 h1
      exact ih _ this.1 (by omega)
    · rw [if_neg hc]
      exact h0

theorem wth_le {l : List Tw} (h : Down l) (t : Int) : ∀ (n : Nat) (a : Int), wth l t n a = true → 0 ≤ t ∧ t ≤ a ∧ a < l.length := by
  intro n
  induction n with
  | zero => intro a hw; simp [wth] at hw
  | succ n ih =>
    intro a hw
    simp only [wth] at hw
    by_cases hi : 0 ≤ a ∧ a < l.length
    · rw [if_pos hi] at hw
      by_cases ht : a = t
      · omega
      · rw [if_neg ht] at hw
        have := ih _ hw
        have := h a hi.1 hi.2
        omega
    · rw [if_neg hi] at hw
      cases hw

theorem wth_take {l : List Tw} {i : Nat} (hi : i ≤ l.length) (h : Down (l.take i)) (t : Int) : ∀ (n : Nat) (a : Int), a < i → wth (l.take i) t n a = wth l t n a := by
  have hl : (l.take i).length = i := by rw [List.length_take]; omega
  intro n
  induction n with
  | zero => intro a _; rfl
  | succ n ih =>
    intro a ha
    simp only [wth]
    by_cases h0 : 0 ≤ a
    · rw [if_pos (show 0 ≤ a ∧ a < ((List.take i l).length : Int) by rw [hl]; omega), if_pos (show 0 ≤ a ∧ a < (l.length : Int) by omega)]
      by_cases ht : a = t
      · rw [if_pos ht, if_pos ht]
      · rw [if_neg ht, if_neg ht, parAt_take ha]
        refine ih _ ?_
        have := h a h0 (by rw [hl]; exact ha)
        rw [parAt_take ha] at this
        omega
    · rw [if_neg (by omega), if_neg (by omega)]

/-- The Parent may be. -/
def parB (a : List Tw) (t : Int) : Bool := decide (climb a t a.length ((a.length : Int) - 1) = t)

theorem parB_pos {a : List Tw} (h : Tabl a) (hn : a ≠ []) {t : Int} (hp : parB a t = true) : 0 ≤ t ∧ t < a.length := by
  have hl := List.length_pos_iff.2 hn
  unfold parB at hp
  have hp := of_decide_eq_true hp
  have h1 := climb_pos h t a.length ((a.length : Int) - 1) (by omega) (by omega)
  rw [hp] at h1
  have h2 := (climb_wth a h.down h.1 t h1 a.length ((a.length : Int) - 1) (by omega) (by omega) (by omega)).1 hp
  have := wth_le h.down t _ _ h2
  omega

theorem parB_doc {l : List Tw} {i : Nat} (hi : 0 < i) (hil : i ≤ l.length) (h : Tabl (l.take i)) (t : Int) :
    parB (l.take i) t = true ↔ (0 ≤ t ∧ t < i ∧ wth l t (l.length + 1) ((i : Int) - 1) = true) := by
  have hl : (l.take i).length = i := by rw [List.length_take]; omega
  have hne : l.take i ≠ [] := by
    intro hh
    rw [hh] at hl
    simp at hl
    omega
  have e : wth (l.take i) t i ((i : Int) - 1) = wth l t (l.length + 1) ((i : Int) - 1) := by
    rw [← wth_take hil h.down t (l.length + 1) _ (by omega)]
    exact wth_more _ h.down t _ _ _ (by omega) (by omega)
  constructor
  · intro hp
    have h1 := parB_pos h hne hp
    rw [hl] at h1
    refine ⟨h1.1, h1.2, ?_⟩
    unfold parB at hp
    have hp := of_decide_eq_true hp
    rw [hl] at hp
    rw [← e]
    exact (climb_wth _ h.down h.1 t h1.1 i _ (by omega) (by omega) (by rw [hl]; omega)).1 hp
  · rintro ⟨h0, h1, hw⟩
    unfold parB
    rw [hl]
    rw [← e] at hw
    exact decide_eq_true ((climb_wth _ h.down h.1 t h0 i _ (by omega) (by omega) (by rw [hl]; omega)).2 hw)

theorem parB_nil (t : Int) : parB [] t = decide (-1 = t) := by
  unfold parB
  simp [climb]

theorem tabl_snoc {a : List Tw} {r : Tw} (h : Tabl a) (hp : parB a r.par = true) : Tabl (a ++ [r]) := by
  have hat : ∀ i : Int, i < a.length → parAt (a ++ [r]) i = parAt a i := fun i hi => by
    have := parAt_take (l := a ++ [r]) (i := a.length) hi
    rw [List.take_left] at this
    exact this.symm
  have hr : parAt (a ++ [r]) a.length = r.par := parAt_of' (by simp)
  by_cases hn : a = []
  · subst hn
    rw [parB_nil] at hp
    have hp := of_decide_eq_true hp
    refine ⟨fun _ => ?_, fun i h0 h1 => ?_⟩
    · have := hr
      simp only [List.length_nil, Int.natCast_zero] at this
      rw [this]
      exact hp.symm
    · simp at h1
      omega
  · have hl := List.length_pos_iff.2 hn
    have h2 := parB_pos h hn hp
    refine ⟨fun _ => by rw [hat 0 (by omega)]; exact h.1 hn, fun i h0 h1 => ?_⟩
    rw [List.length_append, List.length_singleton] at h1
    by_cases hi : i < a.length
    · rw [hat i hi]
      exact h.2 i h0 hi
    · obtain rfl : i = a.length := by omega
      rw [hr]
      exact h2

/-- The numbers are in their ranges. -/
def rngB (a : List Tw) (r : Tw) : Bool := decide (¬ r.in_ < 0 ∧ ¬ (a.length = 0 ∧ r.in_ ≠ 0) ∧ (0 ≤ r.fn ∧ r.fn ≤ 31) ∧ (0 ≤ r.kind ∧ r.kind ≤ 4) ∧ (0 ≤ r.st ∧ r.st ≤ 1048576))
/-- Closes has bytes 0 and 1 alone. -/
def binL (c : List UInt8) : Bool := c.all (fun b => b == 48 || b == 49)
def binB (r : Tw) : Bool := binL r.cl.data.toList
def valB (r : Tw) : Bool := decide (r.v = 0 ∨ r.kind = 2 ∨ r.kind = 3)
def begB (r : Tw) : Bool := decide (r.kind = 0 → r.st = 0 ∧ r.cl.size = 0)
/-- The kind of the row of that number. -/
def kindAt (l : List Tw) (i : Int) : Int := if 0 ≤ i then ((l.map Tw.kind)[i.toNat]?).getD 0 else 0
def kinB (a : List Tw) (r : Tw) : Bool := decide (0 < a.length → kindAt a r.par ≠ 0 ∧ (2 ≤ kindAt a r.par → 2 ≤ r.kind))

theorem kindAt_of {l : List Tw} {i : Nat} {r : Tw} (h : l[i]? = some r) : kindAt l (i : Int) = r.kind := by
  unfold kindAt
  rw [if_pos (by omega)]
  simp [h]

/-- What is wrong with a row, by those ahead of it. -/
def rightE (a : List Tw) (r : Tw) : Int :=
  if parB a r.par = false then 11 else if rngB a r = false then 10 else if binB r = false then 11 else if valB r = false then 19 else if begB r = false then 19 else if kinB a r = false then 19 else 0

theorem rightE_zero {a : List Tw} {r : Tw} : rightE a r = 0 ↔ parB a r.par = true ∧ rngB a r = true ∧ binB r = true ∧ valB r = true ∧ begB r = true ∧ kinB a r = true := by
  unfold rightE
  cases parB a r.par <;> cases rngB a r <;> cases binB r <;> cases valB r <;> cases begB r <;> cases kinB a r <;> simp

/-- What is wrong with the first of more rows that is wrong. -/
def chkL : List Tw → List Tw → Int
  | _, [] => 0
  | a, r :: l => if rightE a r = 0 then chkL (a ++ [r]) l else rightE a r
def chk (l : List Tw) : Int := if l.length = 0 then 17 else chkL [] l

theorem chkL_at {l : List Tw} {j : Nat} {r : Tw} (h : l[j]? = some r) : chkL (l.take j) (l.drop j) = if rightE (l.take j) r = 0 then chkL (l.take (j + 1)) (l.drop (j + 1)) else rightE (l.take j) r := by
  have hj := (List.getElem?_eq_some_iff.1 h).1
  have e1 : l.drop j = r :: l.drop (j + 1) := by
    rw [List.drop_eq_getElem_cons hj]
    have := (List.getElem?_eq_some_iff.1 h).2
    rw [this]
  have e2 : l.take (j + 1) = l.take j ++ [r] := by
    rw [List.take_add_one, h]
    rfl
  rw [e1, chkL, e2]

/-- The first rows are right. -/
def RightN (l : List Tw) (j : Nat) : Prop := ∀ (i : Nat) r, i < j → l[i]? = some r → rightE (l.take i) r = 0

theorem RightN.tabl {l : List Tw} : ∀ {j : Nat}, RightN l j → Tabl (l.take j) := by
  intro j
  induction j with
  | zero => intro _; exact ⟨fun h => by simp at h, fun i h0 h1 => by simp at h1; omega⟩
  | succ j ih =>
    intro h
    have h1 := ih (fun i r hi hr => h i r (by omega) hr)
    cases hr : l[j]? with
    | none =>
      rw [List.take_add_one, hr]
      simpa using h1
    | some r =>
      rw [List.take_add_one, hr]
      exact tabl_snoc h1 (rightE_zero.1 (h j r (by omega) hr)).1

theorem RightN.succ {l : List Tw} {j : Nat} {r : Tw} (h : RightN l j) (hr : l[j]? = some r) (he : rightE (l.take j) r = 0) : RightN l (j + 1) := fun i s hi hs => by
  rcases Nat.lt_or_ge i j with hh | hh
  · exact h i s hh hs
  · obtain rfl : i = j := by omega
    rw [hr] at hs
    injection hs with hs
    rw [← hs]
    exact he

theorem chkL_right {l : List Tw} : ∀ (k j : Nat), k + j = l.length → RightN l j → (chkL (l.take j) (l.drop j) = 0 ↔ RightN l l.length) := by
  intro k
  induction k with
  | zero =>
    intro j hj h
    obtain rfl : j = l.length := by omega
    rw [List.drop_length]
    simp only [chkL]
    exact ⟨fun _ => h, fun _ => trivial⟩
  | succ k ih =>
    intro j hj h
    obtain ⟨r, hr⟩ : ∃ r, l[j]? = some r := ⟨_, List.getElem?_eq_getElem (by omega)⟩
    rw [chkL_at hr]
    by_cases he : rightE (l.take j) r = 0
    · rw [if_pos he]
      exact ih (j + 1) (by omega) (h.succ hr he)
    · rw [if_neg he]
      exact ⟨fun hh => absurd hh he, fun hh => absurd (hh j r (by omega) hr) he⟩

theorem chk_zero {l : List Tw} : chk l = 0 ↔ 0 < l.length ∧ RightN l l.length := by
  unfold chk
  by_cases h : l.length = 0
  · rw [if_pos h]
    constructor
    · intro hh; omega
    · intro hh; omega
  · rw [if_neg h]
    have := chkL_right (l := l) l.length 0 (by omega) (fun i r hi => by omega)
    simp only [List.take_zero, List.drop_zero] at this
    rw [this]
    exact ⟨fun h2 => ⟨by omega, h2⟩, fun h2 => h2.2⟩

theorem tabl_of_chk {l : List Tw} (h : chk l = 0) : Tabl l := by
  have := (chk_zero.1 h).2.tabl
  rwa [List.take_length] at this

end Go.Proofs.YtnlbellbeepkaaaGreatDoor
