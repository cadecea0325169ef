/-
  The searches: the program's for all handles at once, the document's handle by handle.
-/
import Derived.Test.YthpkhcompkfcaaaDoorFlow
namespace Go.Proofs.YthpkhcompkfcaaaDoor
open Go.RowKit

/-- What an instruction gives, as a bit. -/
def gv (i : Ins) : Nat := if i.op = 8 ∧ 0 ≤ i.a ∧ i.a < 8 then 2 ^ i.a.toNat else 0

theorem gv_lt (i : Ins) : gv i < 256 := by
  unfold gv
  split
  · rename_i h
    have h1 : 2 ^ i.a.toNat ≤ 2 ^ 7 := Nat.pow_le_pow_right (by omega) (by omega)
    omega
  · omega

theorem gv_bit {i : Ins} {h : Nat} (hh : h < 8) : (gv i).testBit h = true ↔ forks i h := by
  unfold gv forks
  split
  · rename_i hc
    rw [Nat.testBit_two_pow, decide_eq_true_eq]
    constructor
    · intro e; exact ⟨hc.1, by omega⟩
    · intro e; omega
  · rename_i hc
    simp only [Nat.zero_testBit, Bool.false_eq_true, false_iff]
    intro e
    exact hc ⟨e.1, by omega, by omega⟩

/-- What the search knows: S is still to be looked at. -/
structure HInv (f : Fn) (S : Nat → Prop) (H : List Nat) : Prop where
  len : H.length = f.code.length
  lt : ∀ (k a : Nat), H[k]? = some a → a < 256
  zero : ∀ (a h : Nat), H[0]? = some a → h < 8 → a.testBit h = true → (low f.needs).testBit h = true
  snd : ∀ (k a h : Nat), H[k]? = some a → h < 8 → a.testBit h = false → holds f k h = false
  cls : ∀ (i : Nat) (x : Ins) (a : Nat), ¬ S i → f.code[i]? = some x → H[i]? = some a → ∀ j ∈ bhd f.code i, ∀ b, H[j]? = some b → ∀ h, h < 8 → b.testBit h = true → a.testBit h = true ∨ forks x h

theorem HInv.fin {f : Fn} {H : List Nat} (I : HInv f (fun _ => False) H) : H = heldL f := by
  apply List.ext_getElem?
  intro k
  rcases Nat.lt_or_ge k f.code.length with hk | hk
  · obtain ⟨a, ha⟩ : ∃ a, H[k]? = some a := ⟨_, List.getElem?_eq_getElem (by rw [I.len]; exact hk)⟩
    rw [heldL_at f hk, ha]
    congr 1
    refine mask_ext (I.lt k a ha) (heldN_lt f k) fun h hh => ?_
    rw [heldN_bit f k hh]
    have key : ∀ k, Free f.code h k → (low f.needs).testBit h = false → ∀ a, H[k]? = some a → a.testBit h = false := by
      intro k hF hn
      induction hF with
      | start h0 =>
        intro a ha
        cases hb : a.testBit h with
        | false => rfl
        | true => have := I.zero a h ha hh hb; rw [hn] at this; cases this
      | go hi hx hf hj ih =>
        intro b hb
        cases hbb : b.testBit h with
        | false => rfl
        | true =>
          obtain ⟨c, hc⟩ : ∃ c, H[_]? = some c := ⟨_, List.getElem?_eq_getElem (by rw [I.len]; exact hi.lt)⟩
          rcases I.cls _ _ _ (fun h => h) hx hc _ hj _ hb h hh hbb with h1 | h1
          · rw [ih c hc] at h1; cases h1
          · exact absurd h1 hf
    cases hb : a.testBit h with
    | false => exact (I.snd k a h ha hh hb).symm
    | true =>
      cases hc : holds f k h with
      | true => rfl
      | false =>
        obtain ⟨h1, h2⟩ := holds_not.1 hc
        rw [key k h2 h1 a ha] at hb
        cases hb
  · rw [List.getElem?_eq_none (by rw [I.len]; exact hk), List.getElem?_eq_none (by rw [heldL_len]; exact hk)]

/-- Where the search begins. -/
theorem HInv.begin_ (f : Fn) : HInv f (fun i => i = 0) ((List.replicate f.code.length 255).set 0 (low f.needs)) := by
  have hat : ∀ k a, ((List.replicate f.code.length 255).set 0 (low f.needs))[k]? = some a → k < f.code.length ∧ ((k = 0 ∧ a = low f.needs) ∨ (k ≠ 0 ∧ a = 255)) := by
    intro k a h
    rw [List.getElem?_set] at h
    split at h
    · rename_i h0
      subst h0
      split at h
      · rename_i hl
        rw [List.length_replicate] at hl
        simp at h
        exact ⟨hl, .inl ⟨rfl, h.symm⟩⟩
      · cases h
    · rename_i h0
      rw [List.getElem?_replicate] at h
      split at h
      · simp at h
        exact ⟨by assumption, .inr ⟨fun e => h0 e.symm, h.symm⟩⟩
      · cases h
  have all : ∀ h, h < 8 → (255 : Nat).testBit h = true := by decide
  refine ⟨by simp, fun k a h => ?_, fun a h ha hh hb => ?_, fun k a h ha hh hb => ?_, fun i x a hS hx ha j hj b hb h hh hbb => ?_⟩
  · rcases (hat k a h).2 with ⟨_, rfl⟩ | ⟨_, rfl⟩
    · exact low_lt _
    · omega
  · rcases (hat 0 a ha).2 with ⟨_, rfl⟩ | ⟨h0, _⟩
    · exact hb
    · exact absurd rfl h0
  · obtain ⟨hl, ⟨rfl, rfl⟩ | ⟨_, rfl⟩⟩ := hat k a ha
    · exact holds_not.2 ⟨hb, .start hl⟩
    · rw [all h hh] at hb; cases hb
  · rcases (hat i a ha).2 with ⟨rfl, _⟩ | ⟨_, rfl⟩
    · exact absurd rfl hS
    · exact .inl (all h hh)

theorem HInv.mono {f : Fn} {S T : Nat → Prop} {H : List Nat} (I : HInv f S H) (h : ∀ i, S i → T i) : HInv f T H :=
  ⟨I.len, I.lt, I.zero, I.snd, fun i x a hT => I.cls i x a (fun hS => hT (h i hS))⟩

/-- What the search knows while it looks at what comes behind the at_-th instruction; pre has been looked at. -/
structure HIn (f : Fn) (S : Nat → Prop) (at_ : Nat) (x : Ins) (a : Nat) (pre : List Nat) (H : List Nat) : Prop where
  inv : HInv f (fun i => S i ∨ i = at_) H
  ins : f.code[at_]? = some x
  cur : H[at_]? = some a
  part : ∀ j ∈ pre, ∀ b, H[j]? = some b → ∀ h, h < 8 → b.testBit h = true → a.testBit h = true ∨ forks x h

theorem HIn.begin_ {f : Fn} {S : Nat → Prop} {at_ : Nat} {x : Ins} {a : Nat} {H : List Nat} (I : HInv f (fun i => S i ∨ i = at_) H) (hx : f.code[at_]? = some x) (ha : H[at_]? = some a) : HIn f S at_ x a [] H :=
  ⟨I, hx, ha, fun j hj => by simp at hj⟩

theorem come_bit {a h : Nat} {x : Ins} (hh : h < 8) : (a ||| gv x).testBit h = true ↔ (a.testBit h = true ∨ forks x h) := by
  rw [Nat.testBit_or, Bool.or_eq_true, gv_bit hh]

theorem HIn.same {f : Fn} {S : Nat → Prop} {at_ : Nat} {x : Ins} {a : Nat} {pre H : List Nat} (I : HIn f S at_ x a pre H) {j b : Nat} (hb : H[j]? = some b) (he : b &&& (a ||| gv x) = b) : HIn f S at_ x a (pre ++ [j]) H := by
  refine ⟨I.inv, I.ins, I.cur, fun j' hj' b' hb' h hh hbb => ?_⟩
  rw [List.mem_append] at hj'
  rcases hj' with hj' | hj'
  · exact I.part j' hj' b' hb' h hh hbb
  · simp at hj'
    subst hj'
    rw [hb] at hb'
    cases hb'
    rw [← he, Nat.testBit_and, Bool.and_eq_true] at hbb
    exact (come_bit hh).1 hbb.2

theorem HIn.other {f : Fn} {S : Nat → Prop} {at_ : Nat} {x : Ins} {a : Nat} {pre H : List Nat} (I : HIn f S at_ x a pre H) {j b : Nat} (hb : H[j]? = some b) (he : b &&& (a ||| gv x) ≠ b) : j ≠ at_ := by
  rintro rfl
  rw [I.cur] at hb
  cases hb
  refine he (mask_ext (and_lt (I.inv.lt _ _ I.cur)) (I.inv.lt _ _ I.cur) fun h hh => ?_)
  rw [Nat.testBit_and, Bool.eq_iff_iff, Bool.and_eq_true, come_bit hh]
  exact ⟨fun h => h.1, fun h => ⟨h, .inl h⟩⟩

theorem HIn.set {f : Fn} {S : Nat → Prop} {at_ : Nat} {x : Ins} {a : Nat} {pre H : List Nat} (I : HIn f S at_ x a pre H) {j b : Nat} (hj : j ∈ bhd f.code at_) (hb : H[j]? = some b) (he : b &&& (a ||| gv x) ≠ b) :
    HIn f (fun i => S i ∨ i = j) at_ x a (pre ++ [j]) (H.set j (b &&& (a ||| gv x))) := by
  have hne := I.other hb he
  have hjl := (List.getElem?_eq_some_iff.1 hb).1
  have hat : ∀ k c, (H.set j (b &&& (a ||| gv x)))[k]? = some c → (k = j ∧ c = b &&& (a ||| gv x)) ∨ (k ≠ j ∧ H[k]? = some c) := by
    intro k c h
    rw [List.getElem?_set] at h
    split at h
    · rename_i h0
      subst h0
      simp at h
      exact .inl ⟨rfl, h.symm⟩
    · rename_i h0
      exact .inr ⟨fun e => h0 e.symm, h⟩
  have sub : ∀ h, (b &&& (a ||| gv x)).testBit h = true → b.testBit h = true := fun h hc => by
    rw [Nat.testBit_and, Bool.and_eq_true] at hc
    exact hc.1
  have sub2 : ∀ h, h < 8 → (b &&& (a ||| gv x)).testBit h = true → a.testBit h = true ∨ forks x h := fun h hh hc => by
    rw [Nat.testBit_and, Bool.and_eq_true] at hc
    exact (come_bit hh).1 hc.2
  refine ⟨⟨by rw [List.length_set]; exact I.inv.len, fun k c hc => ?_, fun c h hc hh hcb => ?_, fun k c h hc hh hcb => ?_, fun i y c hS hy hc j' hj' d hd h hh hdb => ?_⟩, I.ins, ?_, fun j' hj' d hd h hh hdb => ?_⟩
  · rcases hat k c hc with ⟨_, rfl⟩ | ⟨_, hc⟩
    · exact and_lt (I.inv.lt _ _ hb)
    · exact I.inv.lt _ _ hc
  · rcases hat 0 c hc with ⟨h0, rfl⟩ | ⟨_, hc⟩
    · subst h0
      exact I.inv.zero b h hb hh (sub h hcb)
    · exact I.inv.zero c h hc hh hcb
  · rcases hat k c hc with ⟨rfl, rfl⟩ | ⟨_, hc⟩
    · rw [Nat.testBit_and, Bool.and_eq_false_iff] at hcb
      rcases hcb with hcb | hcb
      · exact I.inv.snd _ b h hb hh hcb
      · have h1 : ¬ (a.testBit h = true ∨ forks x h) := fun e => by rw [(come_bit hh).2 e] at hcb; cases hcb
        have h2 : a.testBit h = false := by
          cases e : a.testBit h with
          | false => rfl
          | true => exact absurd (.inl e) h1
        obtain ⟨h3, h4⟩ := holds_not.1 (I.inv.snd at_ a h I.cur hh h2)
        exact holds_not.2 ⟨h3, .go h4 I.ins (fun e => h1 (.inr e)) hj⟩
    · exact I.inv.snd k c h hc hh hcb
  · have hij : i ≠ j := fun e => hS (.inl (.inr e))
    rcases hat i c hc with ⟨e, _⟩ | ⟨_, hc2⟩
    · exact absurd e hij
    · have hS' : ¬ (S i ∨ i = at_) := fun e => hS (e.elim (fun e => .inl (.inl e)) .inr)
      rcases hat j' d hd with ⟨rfl, rfl⟩ | ⟨_, hd⟩
      · exact I.inv.cls i y c hS' hy hc2 _ hj' b hb h hh (sub h hdb)
      · exact I.inv.cls i y c hS' hy hc2 _ hj' d hd h hh hdb
  · rw [List.getElem?_set, if_neg hne]
    exact I.cur
  · rcases hat j' d hd with ⟨rfl, rfl⟩ | ⟨h0, hd⟩
    · exact sub2 h hh hdb
    · rw [List.mem_append] at hj'
      rcases hj' with hj' | hj'
      · exact I.part j' hj' d hd h hh hdb
      · simp at hj'
        exact absurd hj' h0

theorem HIn.done {f : Fn} {S : Nat → Prop} {at_ : Nat} {x : Ins} {a : Nat} {H : List Nat} (I : HIn f S at_ x a (bhd f.code at_) H) : HInv f S H := by
  refine ⟨I.inv.len, I.inv.lt, I.inv.zero, I.inv.snd, fun i y c hS hy hc j hj d hd h hh hdb => ?_⟩
  by_cases e : i = at_
  · subst e
    rw [I.ins] at hy
    cases hy
    rw [I.cur] at hc
    cases hc
    exact I.part j hj d hd h hh hdb
  · exact I.inv.cls i y c (fun h => h.elim hS e) hy hc j hj d hd h hh hdb

theorem sum_set {l : List Nat} {k a b : Nat} (h : l[k]? = some a) : (l.set k b).sum + a = l.sum + b := by
  induction l generalizing k with
  | nil => simp at h
  | cons c r ih =>
    cases k with
    | zero =>
      simp at h
      subst h
      simp
      omega
    | succ k =>
      simp only [List.getElem?_cons_succ] at h
      have := ih h
      simp only [List.set_cons_succ, List.sum_cons]
      omega

theorem sum_le {l : List Nat} (h : ∀ (k a : Nat), l[k]? = some a → a < 256) : l.sum ≤ l.length * 255 := by
  induction l with
  | nil => simp
  | cons c r ih =>
    have h0 := h 0 c rfl
    have h1 := ih fun k a hk => h (k + 1) a (by simpa using hk)
    simp only [List.sum_cons, List.length_cons]
    omega

theorem and_le_ne {b c : Nat} (h : b &&& c ≠ b) : b &&& c < b := Nat.lt_of_le_of_ne Nat.and_le_left h

/-! ### Handle by handle -/

structure WInv (l : List Ins) (h : Nat) (S : Nat → Prop) (O : List Bool) : Prop where
  len : O.length = l.length
  start : 0 < l.length → O[0]? = some true
  snd : ∀ k : Nat, O[k]? = some true → Free l h k
  cls : ∀ (i : Nat) (x : Ins), ¬ S i → l[i]? = some x → O[i]? = some true → ¬ forks x h → ∀ j ∈ bhd l i, O[j]? = some true

open Classical in
noncomputable def freeL (l : List Ins) (h : Nat) : List Bool := (List.range l.length).map fun k => decide (Free l h k)

theorem freeL_len (l : List Ins) (h : Nat) : (freeL l h).length = l.length := by simp [freeL]
open Classical in
theorem freeL_at (l : List Ins) (h : Nat) {k : Nat} (hk : k < l.length) : (freeL l h)[k]? = some (decide (Free l h k)) := by simp [freeL, hk]

theorem WInv.fin {l : List Ins} {h : Nat} {O : List Bool} (I : WInv l h (fun _ => False) O) : O = freeL l h := by
  apply List.ext_getElem?
  intro k
  rcases Nat.lt_or_ge k l.length with hk | hk
  · obtain ⟨a, ha⟩ : ∃ a, O[k]? = some a := ⟨_, List.getElem?_eq_getElem (by rw [I.len]; exact hk)⟩
    rw [freeL_at l h hk, ha]
    congr 1
    have key : ∀ k, Free l h k → O[k]? = some true := by
      intro k hF
      induction hF with
      | start h0 => exact I.start h0
      | go hi hx hf hj ih => exact I.cls _ _ (fun h => h) hx ih hf _ hj
    cases a with
    | true => simp [I.snd k ha]
    | false =>
      symm
      rw [decide_eq_false_iff_not]
      intro hF
      rw [key k hF] at ha
      cases ha
  · rw [List.getElem?_eq_none (by rw [I.len]; exact hk), List.getElem?_eq_none (by rw [freeL_len]; exact hk)]

theorem WInv.begin_ (l : List Ins) (h : Nat) : WInv l h (fun i => i = 0) ((List.replicate l.length false).set 0 true) := by
  have hat : ∀ k : Nat, ((List.replicate l.length false).set 0 true)[k]? = some true → k = 0 ∧ 0 < l.length := by
    intro k hk
    rw [List.getElem?_set] at hk
    split at hk
    · rename_i h0
      split at hk
      · rename_i hl
        exact ⟨h0.symm, by simpa using hl⟩
      · cases hk
    · rw [List.getElem?_replicate] at hk
      split at hk <;> simp at hk
  refine ⟨by simp, fun h0 => by simp [h0], fun k hk => ?_, fun i x hS hx hi => absurd (hat i hi).1 hS⟩
  obtain ⟨rfl, hl⟩ := hat k hk
  exact .start hl

structure WIn (l : List Ins) (h : Nat) (S : Nat → Prop) (at_ : Nat) (pre : List Nat) (O : List Bool) : Prop where
  inv : WInv l h (fun i => S i ∨ i = at_) O
  free : Free l h at_
  part : ∀ j ∈ pre, O[j]? = some true

theorem WIn.same {l : List Ins} {h : Nat} {S : Nat → Prop} {at_ : Nat} {pre : List Nat} {O : List Bool} (I : WIn l h S at_ pre O) {j : Nat} (hj : O[j]? = some true) : WIn l h S at_ (pre ++ [j]) O :=
  ⟨I.inv, I.free, fun j' hj' => by
    rw [List.mem_append] at hj'
    rcases hj' with hj' | hj'
    · exact I.part j' hj'
    · simp at hj'; subst hj'; exact hj⟩

theorem WIn.set {l : List Ins} {h : Nat} {S : Nat → Prop} {at_ : Nat} {pre : List Nat} {O : List Bool} {x : Ins} (I : WIn l h S at_ pre O) (hx : l[at_]? = some x) (hf : ¬ forks x h) {j : Nat} (hj : j ∈ bhd l at_) :
    WIn l h (fun i => S i ∨ i = j) at_ (pre ++ [j]) (O.set j true) := by
  have hjl : j < O.length := by rw [I.inv.len]; exact bhd_lt hj
  have hup : ∀ k : Nat, O[k]? = some true → (O.set j true)[k]? = some true := fun k hk => by
    rw [List.getElem?_set]
    split
    · rfl
    · exact hk
  have hat : ∀ k : Nat, (O.set j true)[k]? = some true → k = j ∨ O[k]? = some true := fun k hk => by
    rw [List.getElem?_set] at hk
    split at hk
    · rename_i e; exact .inl e.symm
    · exact .inr hk
  have hself : (O.set j true)[j]? = some true := by rw [List.getElem?_set, if_pos rfl, if_pos hjl]
  refine ⟨⟨by rw [List.length_set]; exact I.inv.len, fun h0 => hup 0 (I.inv.start h0), fun k hk => ?_, fun i y hS hy hi hfi j' hj' => ?_⟩, I.free, fun j' hj' => ?_⟩
  · rcases hat k hk with rfl | hk
    · exact .go I.free hx hf hj
    · exact I.inv.snd k hk
  · rcases hat i hi with rfl | hi
    · exact absurd (.inl (.inr rfl)) hS
    · exact hup _ (I.inv.cls i y (fun e => hS (e.elim (fun e => .inl (.inl e)) .inr)) hy hi hfi j' hj')
  · rw [List.mem_append] at hj'
    rcases hj' with hj' | hj'
    · exact hup _ (I.part j' hj')
    · simp at hj'; subst hj'; exact hself

theorem WIn.done {l : List Ins} {h : Nat} {S : Nat → Prop} {at_ : Nat} {O : List Bool} (I : WIn l h S at_ (bhd l at_) O) : WInv l h S O :=
  ⟨I.inv.len, I.inv.start, I.inv.snd, fun i y hS hy hi hfi j hj => by
    by_cases e : i = at_
    · subst e
      exact I.part j hj
    · exact I.inv.cls i y (fun h => h.elim hS e) hy hi hfi j hj⟩

theorem WInv.skip {l : List Ins} {h : Nat} {S : Nat → Prop} {at_ : Nat} {O : List Bool} {x : Ins} (I : WInv l h (fun i => S i ∨ i = at_) O) (hx : l[at_]? = some x) (hf : forks x h) : WInv l h S O :=
  ⟨I.len, I.start, I.snd, fun i y hS hy hi hfi j hj => by
    by_cases e : i = at_
    · subst e
      rw [hx] at hy
      cases hy
      exact absurd hf hfi
    · exact I.cls i y (fun h => h.elim hS e) hy hi hfi j hj⟩

def offs (O : List Bool) : Nat := (O.filter fun b => !b).length

theorem offs_set {O : List Bool} {j : Nat} (h : O[j]? = some false) : offs (O.set j true) + 1 = offs O := by
  induction O generalizing j with
  | nil => simp at h
  | cons c r ih =>
    cases j with
    | zero =>
      simp at h
      subst h
      simp [offs]
    | succ j =>
      simp only [List.getElem?_cons_succ] at h
      have := ih h
      unfold offs at this ⊢
      simp only [List.set_cons_succ, List.filter_cons]
      split
      · simp only [List.length_cons]; omega
      · exact this

theorem offs_le (O : List Bool) : offs O ≤ O.length := List.length_filter_le _ _

/-- What the document's sums have come to when handles below n are done. -/
theorem sum_mask (p : Nat → Bool) (n : Nat) : maskOf p (n + 1) = maskOf p n + if p n then 2 ^ n else 0 := rfl

end Go.Proofs.YthpkhcompkfcaaaDoor
