/-
  Stage 7: what the program's Grown goes by.
-/
import Derived.Test.YtnlbellbeepkaaaGreatDoorBecame
import Derived.Test.YtnlbellbeepkaaaGreatDoorBrood
namespace Go.Proofs.YtnlbellbeepkaaaGreatDoor
open Go.RowKit

theorem becB_iff {l m : List Tw} (hl : chk l = 0) {i q : Nat} {r s : Tw} (hr : l[i]? = some r) :
    becB r s ((kc m q : Int) - (kc l i : Int)) = true ↔ (becP r s ∧ kc l i ≤ kc m q ∧ (2 ≤ r.kind → kc l i = kc m q)) := by
  have ha := kind_ok hl hr
  by_cases hk : 2 ≤ r.kind
  · unfold becB
    rw [if_pos hk]
    simp only [Bool.and_eq_true, decide_eq_true_eq]
    constructor
    · rintro ⟨h1, h2⟩
      refine ⟨⟨?_, ?_, fun _ => ⟨?_, ?_, ?_, ?_⟩, fun h => by omega⟩, by omega, fun _ => by omega⟩
      all_goals rw [← h1]
    · rintro ⟨⟨h1, h2, h3, _⟩, h5, h6⟩
      obtain ⟨a1, a2, a3, a4⟩ := h3 hk
      refine ⟨?_, by have := h6 hk; omega⟩
      obtain ⟨p1, i1, f1, k1, v1, s1, c1⟩ := r
      obtain ⟨p2, i2, f2, k2, v2, s2, c2⟩ := s
      simp only at h1 h2 a1 a2 a3 a4 ⊢
      subst h1 h2 a1 a2 a3 a4
      rfl
  · by_cases h2 : s.in_ ≠ r.in_ ∨ s.fn ≠ r.fn ∨ (kc m q : Int) - (kc l i : Int) < 0
    · rw [becB_no hk h2]
      constructor
      · intro h; cases h
      · rintro ⟨⟨h3, h4, _⟩, h5, _⟩
        rcases h2 with h | h | h
        · exact absurd h3.symm h
        · exact absurd h4.symm h
        · omega
    · rw [becB_on hk h2]
      simp only [Bool.or_eq_true, Bool.and_eq_true, decide_eq_true_eq]
      have g1 : r.in_ = s.in_ := by
        by_cases h : s.in_ = r.in_
        · exact h.symm
        · exact absurd (.inl h) h2
      have g2 : r.fn = s.fn := by
        by_cases h : s.fn = r.fn
        · exact h.symm
        · exact absurd (.inr (.inl h)) h2
      have g3 : kc l i ≤ kc m q := by
        by_cases h : (kc m q : Int) - (kc l i : Int) < 0
        · exact absurd (.inr (.inr h)) h2
        · omega
      constructor
      · intro h
        refine ⟨⟨g1, g2, fun h => absurd h hk, fun h1 => ?_⟩, g3, fun h => absurd h hk⟩
        rcases h with h | ⟨⟨h3, h4⟩, h5⟩
        · omega
        · exact ⟨h3, h4, h5⟩
      · rintro ⟨⟨_, _, _, h4⟩, _, _⟩
        by_cases hz : r.kind = 0
        · exact .inl hz
        · obtain ⟨a, b, c⟩ := h4 (by omega)
          exact .inr ⟨⟨a, b⟩, c⟩

/-- A kid of a row that stands well is there. -/
theorem img_next {l m : List Tw} (hl : Tabl l) {k p : Nat} (hk : k < l.length) (hp : parAt l k = p) (hok : OkAt l m p) :
    ∃ q : Nat, img l m k = q ∧ q < m.length ∧ (kidsN m (img l m p) m.length)[kidNo l k]? = some (q : Int) := by
  obtain ⟨q0, r, s, h1, h2, h3, h4, h5, h6⟩ := hok
  have hlow := parAt_low hl (i := (k : Int)) (by omega)
  have h7 : (kidsN l (parAt l k) k).length < (kidsN l (parAt l k) l.length).length := kidsN_lt hk rfl
  have h8 : kidNo l k < (kidsN m (img l m p) m.length).length := by
    unfold kidNo
    unfold kc at h5
    rw [h1]
    rw [hp] at h7 ⊢
    omega
  obtain ⟨y, h9⟩ : ∃ y, (kidsN m (img l m p) m.length)[kidNo l k]? = some y := ⟨_, List.getElem?_eq_getElem h8⟩
  obtain ⟨x, hx, hx2, _⟩ := kidsN_at _ h9
  refine ⟨x, ?_, hx2, by rw [h9, hx]⟩
  rw [img_up hl (by omega) hk, hp, Int.toNat_natCast, h1, if_neg (by omega)]
  rw [h1] at h9
  rw [h9]
  exact hx

/-- What is known of what rows became. -/
def ToOk (l m : List Tw) (t : Nat → Int) (i j : Nat) : Prop := ∀ k, k < l.length → (k = 0 ∨ (0 ≤ parAt l k ∧ parAt l k < i) ∨ (parAt l k = i ∧ kidNo l k < j)) → t k = img l m k

theorem ToOk.next {l m : List Tw} {t : Nat → Int} {i : Nat} (h : ToOk l m t i (kc l i)) : ToOk l m t (i + 1) 0 := fun k hk hh => by
  refine h k hk ?_
  rcases hh with hh | hh | hh
  · exact .inl hh
  · by_cases e : parAt l k = i
    · refine .inr (.inr ⟨e, ?_⟩)
      have : (kidsN l (parAt l k) k).length < (kidsN l (parAt l k) l.length).length := kidsN_lt hk rfl
      unfold kidNo kc
      rw [← e]
      exact this
    · exact .inr (.inl ⟨hh.1, by omega⟩)
  · omega

theorem ToOk.put {l m : List Tw} {t : Nat → Int} {i j k0 : Nat} (h : ToOk l m t i j) (hp : parAt l k0 = i) (hn : kidNo l k0 = j) : ToOk l m (fun k => if k = k0 then img l m k0 else t k) i (j + 1) := fun k hk hh => by
  simp only
  by_cases e : k = k0
  · rw [if_pos e, e]
  · rw [if_neg e]
    refine h k hk ?_
    rcases hh with hh | hh | ⟨h1, h2⟩
    · exact .inl hh
    · exact .inr (.inl hh)
    · refine .inr (.inr ⟨h1, ?_⟩)
      rcases Nat.lt_or_ge (kidNo l k) j with h3 | h3
      · exact h3
      · exfalso
        apply e
        have h4 : kidNo l k = kidNo l k0 := by omega
        unfold kidNo at h4
        rw [h1, hp] at h4
        rcases Nat.lt_trichotomy k k0 with h5 | h5 | h5
        · have := kidsN_lt h5 h1
          omega
        · exact h5
        · have := kidsN_lt h5 hp
          omega

/-- Numbers, one a cell. -/
def IntsB (w : World) (T n : Nat) (t : Nat → Int) : Prop := ∃ c : Array Value, TBlk w T c 3 ∧ c.size = n ∧ ∀ k, k < n → c[k]? = some (.int .i64 (t k))

theorem IntsB.keep {w w' : World} {T n : Nat} {t : Nat → Int} (h : IntsB w T n t) {S : Nat → Prop} (hf : Fr S w w') (hT : ¬ S T) : IntsB w' T n t := by
  obtain ⟨c, h1, h2⟩ := h
  exact ⟨c, h1.keep hf hT, h2⟩
theorem IntsB.at_ {w : World} {T n : Nat} {t : Nat → Int} (h : IntsB w T n t) {k : Nat} (hk : k < n) : w.cell? ⟨T, k, none⟩ = some (.int .i64 (t k)) ∧ w.frozen? ⟨T, k, none⟩ = false ∧ T < w.heap.size := by
  obtain ⟨c, h1, h2, h3⟩ := h
  exact ⟨(TBlk.blk h1).cell (h3 k hk), (TBlk.blk h1).frozen k, (TBlk.blk h1).lt⟩
theorem IntsB.set {w : World} {T n : Nat} {t : Nat → Int} (h : IntsB w T n t) (k : Nat) (x : Int) : IntsB (w.setCell ⟨T, k, none⟩ (.int .i64 x)) T n (fun j => if j = k then x else t j) := by
  obtain ⟨c, h1, h2, h3⟩ := h
  refine ⟨_, h1.set k (.int .i64 x), by simp [h2], fun j hj => ?_⟩
  rw [Array.getElem?_setIfInBounds]
  by_cases e : k = j
  · subst e
    rw [if_pos rfl, if_pos (by omega)]
    simp
  · rw [if_neg e]
    simp only
    rw [if_neg (Ne.symm e)]
    exact h3 j hj
theorem intsB_new (w : World) (n : Nat) : IntsB (w.alloc (.cells (madeCells #[.int .i64 0] n) 3)) w.heap.size n (fun _ => 0) :=
  ⟨_, TBlk.new _ _ _, size_madeCells _ _, fun i hi => by
    unfold madeCells
    simp [hi, Nat.mod_one]⟩

end Go.Proofs.YtnlbellbeepkaaaGreatDoor
