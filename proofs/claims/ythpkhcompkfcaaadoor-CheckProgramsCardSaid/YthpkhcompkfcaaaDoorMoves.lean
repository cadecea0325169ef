/-
  The laws of stage 4 as plain mathematics: ways, needs, a Check more, what no way leads to.
-/
import Derived.Test.YthpkhcompkfcaaaDoorAcc
namespace Go.Proofs.YthpkhcompkfcaaaDoor
open Go.RowKit

/-! ### A way through a function -/

/-- Where a way stands: at an instruction, so many scopes open, these handles given. -/
structure Way (P : List Fn) (f : Fn) (k : Nat) (d : Int) (v : Nat) : Prop where
  lt : k < f.code.length
  dep : d = depN f.code k
  hv : v < 256
  held : ∀ h, h < 8 → (heldN f k).testBit h = true → v.testBit h = true

theorem Way.start {P : List Fn} {k0 : Nat} {f : Fn} (A : Acc P) (hf : P[k0]? = some f) : Way P f 0 0 (low f.needs) := by
  have h := A.fns k0 f hf
  exact ⟨by omega, rfl, low_lt _, fun h hh hb => by rw [heldN_zero f (by omega)] at hb; exact hb⟩

section
variable {P : List Fn} {k0 : Nat} {f : Fn} {k : Nat} {d : Int} {v : Nat} {x : Ins}

theorem Way.step {j : Nat} {d' : Int} {v' : Nat} (W : Way P f k d v) (hx : f.code[k]? = some x) (hj : j ∈ bhd f.code k) (hd : depN f.code j = d') (hv : v' < 256) (hs : ∀ h, h < 8 → v.testBit h = true → v'.testBit h = true) (hg : ∀ h, h < 8 → forks x h → v'.testBit h = true) : Way P f j d' v' :=
  ⟨bhd_lt hj, hd.symm, hv, fun h hh hb => by
    rcases heldN_step hx hj hh hb with h1 | h1
    · exact hs h hh (W.held h hh h1)
    · exact hg h hh h1⟩

theorem Way.next (A : Acc P) (hf : P[k0]? = some f) (W : Way P f k d v) (hx : f.code[k]? = some x) (hp : isP x = true) : k + 1 ∈ bhd f.code k := by
  have hw := (wrongAt_zero.1 (A.flow k0 f hf k x hx)).2.1
  unfold endW at hw
  rw [hp, Bool.and_true, decide_eq_false_iff_not] at hw
  rw [bhd_at hx]
  refine List.mem_append.2 (.inr ?_)
  unfold bhdP
  have := W.lt
  rw [if_pos ⟨hp, by omega⟩]
  simp

theorem Way.jump (A : Acc P) (hf : P[k0]? = some f) (hx : f.code[k]? = some x) (hp : isJ x = true) : 0 ≤ x.n ∧ x.n < f.code.length ∧ x.n.toNat ∈ bhd f.code k ∧ depN f.code x.n.toNat = depN f.code k := by
  obtain ⟨hg, _, hs, _⟩ := wrongAt_zero.1 (A.flow k0 f hf k x hx)
  unfold goalW at hg
  rw [hp, Bool.true_and, Bool.or_eq_false_iff] at hg
  have hn : 0 ≤ x.n ∧ x.n < f.code.length := by simpa using hg.1
  unfold scopeW at hs
  rw [hp, Bool.true_and, Bool.or_eq_false_iff] at hs
  refine ⟨hn.1, hn.2, ?_, by simpa using hs.2⟩
  rw [bhd_at hx]
  refine List.mem_append.2 (.inl ?_)
  unfold bhdJ
  rw [if_pos ⟨hp, hn⟩]
  simp

/-- Behind a jump. -/
theorem Way.jumped (A : Acc P) (hf : P[k0]? = some f) (W : Way P f k d v) (hx : f.code[k]? = some x) (hp : isJ x = true) : Way P f x.n.toNat d v := by
  obtain ⟨_, _, hj, hd⟩ := Way.jump A hf hx hp
  refine W.step hx hj (by rw [hd]; exact W.dep.symm) W.hv (fun _ _ h => h) (fun h _ hfk => ?_)
  have := isJ_op hp
  have := hfk.1
  omega

/-- Behind another one. -/
theorem Way.went (A : Acc P) (hf : P[k0]? = some f) (W : Way P f k d v) (hx : f.code[k]? = some x) (hp : isP x = true) {d' : Int} (hd : dstep x.op d = d') (h8 : x.op ≠ 8) : Way P f (k + 1) d' v :=
  W.step hx (Way.next A hf W hx hp) (by rw [depN_succ hx, ← W.dep]; exact hd) W.hv (fun _ _ h => h) (fun _ _ hfk => absurd hfk.1 h8)

/-- Behind a Fork. -/
theorem Way.forked (A : Acc P) (hf : P[k0]? = some f) (W : Way P f k d v) (hx : f.code[k]? = some x) (h8 : x.op = 8) : Way P f (k + 1) d (v ||| 2 ^ x.a.toNat) := by
  have hc := chk_8 ((A.fns k0 f hf).2.2.2.2 k x hx) h8
  have hp : isP x = true := by unfold isP; rw [h8]; decide
  have hlt : 2 ^ x.a.toNat < 256 := by
    have : 2 ^ x.a.toNat ≤ 2 ^ 7 := Nat.pow_le_pow_right (by omega) (by omega)
    omega
  refine W.step hx (Way.next A hf W hx hp) (by rw [depN_succ hx, ← W.dep, h8]; rfl) (or_lt W.hv hlt) (fun h _ hb => by rw [Nat.testBit_or, hb]; rfl) (fun h hh hfk => ?_)
  rw [Nat.testBit_or, Nat.testBit_two_pow]
  have := hfk.2
  have e : x.a.toNat = h := by omega
  rw [decide_eq_true e, Bool.or_true]

theorem Way.ret (A : Acc P) (hf : P[k0]? = some f) (W : Way P f k d v) (hx : f.code[k]? = some x) (h : x.op = 16) : d = 0 := by
  have hs := (wrongAt_zero.1 (A.flow k0 f hf k x hx)).2.2.1
  unfold scopeW at hs
  rw [h, Bool.or_eq_false_iff, Bool.or_eq_false_iff] at hs
  have := hs.1.2
  simp at this
  rw [W.dep]
  exact this

theorem Way.open_ (A : Acc P) (hf : P[k0]? = some f) (W : Way P f k d v) (hx : f.code[k]? = some x) (h : x.op = 12 ∨ x.op = 13) : 1 ≤ d := by
  have hs := (wrongAt_zero.1 (A.flow k0 f hf k x hx)).2.2.1
  unfold scopeW at hs
  have h2 : (x.op == 12 || x.op == 13) = true := by rcases h with h | h <;> simp [h]
  rw [h2, Bool.true_and, Bool.or_eq_false_iff, Bool.or_eq_false_iff, decide_eq_false_iff_not] at hs
  rw [W.dep]
  have := hs.1.1
  omega

theorem Way.hand (A : Acc P) (hf : P[k0]? = some f) (W : Way P f k d v) (hx : f.code[k]? = some x) {h : Nat} (hh : h < 8) (ht : (takes P x).testBit h = true) : v.testBit h = true := by
  have hs := (wrongAt_zero.1 (A.flow k0 f hf k x hx)).2.2.2
  unfold handW at hs
  have h2 : less (takes P x) (heldN f k) = 0 := by simpa using hs
  exact W.held h hh ((less_zero (takes_lt ((A.fns k0 f hf).2.2.2.2 k x hx))).1 h2 h hh ht)

theorem Way.join (A : Acc P) (hf : P[k0]? = some f) (W : Way P f k d v) (hx : f.code[k]? = some x) (h : x.op = 9) : 0 ≤ x.b ∧ x.b ≤ 7 ∧ v.testBit x.b.toNat = true := by
  have hc := chk_9 ((A.fns k0 f hf).2.2.2.2 k x hx) h
  refine ⟨hc.1, hc.2, W.hand A hf hx (by omega) ?_⟩
  unfold takes
  rw [if_pos h, Nat.testBit_two_pow]
  simp

theorem Way.try_ (A : Acc P) (hf : P[k0]? = some f) (W : Way P f k d v) (hx : f.code[k]? = some x) (h : x.op = 10) : 0 ≤ x.c ∧ x.c ≤ 7 ∧ v.testBit x.c.toNat = true := by
  have hc := chk_10 ((A.fns k0 f hf).2.2.2.2 k x hx) h
  refine ⟨hc.1, hc.2, W.hand A hf hx (by omega) ?_⟩
  unfold takes
  rw [if_neg (by omega), if_pos h, Nat.testBit_two_pow]
  simp

theorem Way.fork (A : Acc P) (hf : P[k0]? = some f) (W : Way P f k d v) (hx : f.code[k]? = some x) (h : x.op = 8) : 0 ≤ x.n ∧ x.n < P.length ∧ 0 ≤ x.a ∧ x.a ≤ 7 ∧ ∃ g, P[x.n.toNat]? = some g ∧ 0 ≤ g.needs ∧ g.needs ≤ 255 ∧ less (low g.needs) v = 0 := by
  have hc := chk_8 ((A.fns k0 f hf).2.2.2.2 k x hx) h
  have hg := (wrongAt_zero.1 (A.flow k0 f hf k x hx)).1
  unfold goalW at hg
  rw [Bool.or_eq_false_iff, show (x.op == 8) = true by simp [h], Bool.true_and] at hg
  have hn : 0 ≤ x.n ∧ x.n < P.length := by simpa using hg.2
  obtain ⟨g, hgg⟩ : ∃ g, P[x.n.toNat]? = some g := ⟨_, List.getElem?_eq_getElem (by omega)⟩
  refine ⟨hn.1, hn.2, hc.1, hc.2.1, g, hgg, (A.fns _ g hgg).1, (A.fns _ g hgg).2.1, (less_zero (low_lt _)).2 fun i hi hb => W.hand A hf hx hi ?_⟩
  unfold takes
  rw [if_neg (by omega), if_neg (by omega), if_pos h, hgg]
  exact hb
end

/-! ### Needs -/

theorem heldN_all {l : List Ins} {n : Int} (h : low n = 255) (k : Nat) : heldN ⟨n, l⟩ k = 255 := by
  refine mask_ext (heldN_lt _ _) (by omega) fun i hi => ?_
  rw [heldN_bit _ _ hi, (by decide : ∀ h, h < 8 → (255 : Nat).testBit h = true) i hi, holds_iff]
  exact .inl (by rw [show (Fn.mk n l).needs = n from rfl, h]; exact (by decide : ∀ h, h < 8 → (255 : Nat).testBit h = true) i hi)

theorem chk_ne (i : Ins) : chk i ≠ 16 := by
  unfold chk
  split
  · decide
  · split <;> decide

theorem needs_fault {P : List Fn} {k : Nat} {l : List Ins} (hk : 1 ≤ k) (hP : P[k]? = some ⟨255, l⟩) : (prgF P).fn ≠ k ∨ (prgF P).code ≠ 16 := by
  have hflt : ∀ k a e, flt k a e ≠ Flt.none → flt k a e = ⟨k, a, e⟩ := by
    intro k a e h
    unfold flt at h ⊢
    split
    · rename_i hh; rw [if_pos hh] at h; exact absurd rfl h
    · rfl
  unfold prgF
  split
  · rename_i h1
    unfold sizeF at h1 ⊢
    split
    · exact .inr (by simp)
    · rename_i h2; rw [if_neg h2] at h1; exact absurd rfl h1
  · split
    · rename_i h1
      obtain ⟨j, f, hj, e⟩ := firstW_is h1
      unfold partsF
      rw [e]
      refine .inr ?_
      unfold shapeF
      split
      · simp
      · split
        · simp
        · by_cases hn : firstW (fun j i => flt (0 + j : Nat) j (chk i)) 0 f.code = Flt.none
          · intro hh
            rw [show firstW (fun j_1 i => flt (↑(0 + j)) (↑j_1) (chk i)) 0 f.code = firstW (fun j_1 i => flt (↑(0 + j)) (↑j_1) (chk i)) 0 f.code from rfl] at hh
            obtain ⟨a, b, hc⟩ : ∃ a b, firstW (fun j_1 i => flt (↑(0 + j)) (↑j_1) (chk i)) 0 f.code = ⟨a, b, 16⟩ := ⟨_, _, by rw [← hh]⟩
            obtain ⟨q, y, hy, e2⟩ := firstW_is (l := f.code) (g := fun j_1 i => flt (↑(0 + j)) (↑j_1) (chk i)) (k0 := 0) (by rw [hc]; intro hq; injection hq with _ _ hq; exact absurd hq (by decide))
            rw [hc] at e2
            simp only [flt] at e2
            split at e2
            · injection e2 with _ _ e2; exact absurd e2 (by decide)
            · injection e2 with _ _ e2; exact chk_ne y e2.symm
          · intro hh
            obtain ⟨a, b, hc⟩ : ∃ a b, firstW (fun j_1 i => flt (↑(0 + j)) (↑j_1) (chk i)) 0 f.code = ⟨a, b, 16⟩ := ⟨_, _, by rw [← hh]⟩
            obtain ⟨q, y, hy, e2⟩ := firstW_is (l := f.code) (g := fun j_1 i => flt (↑(0 + j)) (↑j_1) (chk i)) (k0 := 0) (by rw [hc]; intro hq; injection hq with _ _ hq; exact absurd hq (by decide))
            rw [hc] at e2
            simp only [flt] at e2
            split at e2
            · injection e2 with _ _ e2; exact absurd e2 (by decide)
            · injection e2 with _ _ e2; exact chk_ne y e2.symm
    · split
      · rename_i h1
        refine .inl ?_
        unfold rootF at h1 ⊢
        split
        · rename_i f hf
          rw [hf] at h1
          simp only at h1
          split
          · rename_i h2; rw [if_pos h2] at h1; exact absurd rfl h1
          · show (0 : Int) ≠ k; omega
        · rename_i hf; rw [hf] at h1; exact absurd rfl h1
      · rename_i hs hp hr
        have hs' := Decidable.not_not.1 hs
        have hp' := Decidable.not_not.1 hp
        by_cases h1 : flowsF P = Flt.none
        · refine .inr ?_; rw [h1]; decide
        · obtain ⟨j, f, hj, e⟩ := firstW_is h1
          unfold flowsF
          have h1 : ¬ firstW (flowF P) 0 P = Flt.none := h1
          rw [e] at h1 ⊢
          unfold flowF at h1 ⊢
          obtain ⟨q, y, hy, e2⟩ := firstW_is h1
          rw [e2] at h1 ⊢
          simp only [Nat.zero_add] at h1 ⊢
          rw [hflt _ _ _ h1]
          by_cases hjk : j = k
          · subst hjk
            rw [hP] at hj
            cases hj
            refine .inr ?_
            have hch : chk y = 0 := by
              have h2 := firstW_none.1 hp' j _ hP
              exact (shapeF_none.1 h2).2.2.2.2 q y hy
            show wrongAt P ⟨255, l⟩ q y ≠ 16
            have hh : handW P ⟨255, l⟩ q y = false := by
              unfold handW
              rw [heldN_all (by decide), less_all (takes_lt hch)]
              rfl
            unfold wrongAt
            rw [hh]
            split
            · decide
            · split
              · decide
              · split <;> simp
          · refine .inl ?_
            show (j : Int) ≠ k
            omega

/-! ### What no way leads to -/

theorem dead_free {l : List Ins} {x : Ins} {h k : Nat} (hx : x.op = 16) (F : Free (x :: l) h k) : k = 0 := by
  induction F with
  | start _ => rfl
  | go _ hi _ hj ih =>
    subst ih
    simp at hi
    subst hi
    rw [bhd_at (i := x) rfl] at hj
    unfold bhdJ bhdP isJ isP at hj
    simp [hx] at hj

theorem dead_held {l : List Ins} {x : Ins} {n : Int} (hx : x.op = 16) {k : Nat} (hk : 1 ≤ k) : heldN ⟨n, x :: l⟩ k = 255 := by
  refine mask_ext (heldN_lt _ _) (by omega) fun i hi => ?_
  rw [heldN_bit _ _ hi, (by decide : ∀ h, h < 8 → (255 : Nat).testBit h = true) i hi, holds_iff]
  exact .inr fun F => by have := dead_free hx F; omega

/-! ### A Check more -/

def movI (i : Ins) : Ins := if isJ i = true then { i with n := i.n + 1 } else i
def chkI : Ins := ⟨14, 0, 0, 0, 0⟩
def movF (f : Fn) : Fn := ⟨f.needs, chkI :: f.code.map movI⟩

/-- Its jumps go from 0 to 126. -/
def Near (l : List Ins) : Prop := ∀ (j : Nat) i, l[j]? = some i → isJ i = true → 0 ≤ i.n ∧ i.n ≤ 126

theorem movI_op (i : Ins) : (movI i).op = i.op := by unfold movI; split <;> rfl
theorem movI_a (i : Ins) : (movI i).a = i.a := by unfold movI; split <;> rfl
theorem movI_b (i : Ins) : (movI i).b = i.b := by unfold movI; split <;> rfl
theorem movI_c (i : Ins) : (movI i).c = i.c := by unfold movI; split <;> rfl
theorem movI_isJ (i : Ins) : isJ (movI i) = isJ i := by unfold isJ; rw [movI_op]
theorem movI_isP (i : Ins) : isP (movI i) = isP i := by unfold isP; rw [movI_op]
theorem movI_nJ {i : Ins} (h : isJ i = true) : (movI i).n = i.n + 1 := by unfold movI; rw [if_pos h]
theorem movI_n {i : Ins} (h : ¬ isJ i = true) : movI i = i := by unfold movI; rw [if_neg h]

theorem movF_len (f : Fn) : (movF f).code.length = f.code.length + 1 := by simp [movF]
theorem movF_at {f : Fn} {j : Nat} {i : Ins} (h : f.code[j]? = some i) : (movF f).code[j + 1]? = some (movI i) := by simp [movF, h]
theorem movF_of {f : Fn} {j : Nat} {i : Ins} (h : (movF f).code[j + 1]? = some i) : ∃ x, f.code[j]? = some x ∧ i = movI x := by
  simp only [movF, List.getElem?_cons_succ, List.getElem?_map, Option.map_eq_some_iff] at h
  obtain ⟨x, h1, h2⟩ := h
  exact ⟨x, h1, h2.symm⟩

theorem dend_map (d : Int) (l : List Ins) : dend d (l.map movI) = dend d l := by
  induction l generalizing d with
  | nil => rfl
  | cons a r ih => simp only [List.map_cons, dend, movI_op, ih]

theorem movF_dep (f : Fn) (j : Nat) : depN (movF f).code (j + 1) = depN f.code j := by
  unfold depN movF
  simp only [List.take_succ_cons, dend, ← List.map_take, dend_map]
  rfl

theorem movF_bhd {f : Fn} {j : Nat} {x : Ins} (hx : f.code[j]? = some x) (hn : isJ x = true → 0 ≤ x.n) (m : Nat) : m + 1 ∈ bhd (movF f).code (j + 1) ↔ m ∈ bhd f.code j := by
  rw [bhd_at (movF_at hx), bhd_at hx, List.mem_append, List.mem_append]
  unfold bhdJ bhdP
  rw [movI_isJ, movI_isP, movF_len]
  by_cases hj : isJ x = true
  · have := hn hj
    rw [movI_nJ hj]
    have e1 : (m + 1 ∈ if isJ x = true ∧ 0 ≤ x.n + 1 ∧ x.n + 1 < ((f.code.length + 1 : Nat) : Int) then [(x.n + 1).toNat] else []) ↔ (m ∈ if isJ x = true ∧ 0 ≤ x.n ∧ x.n < (f.code.length : Int) then [x.n.toNat] else []) := by
      by_cases h1 : x.n < (f.code.length : Int)
      · rw [if_pos ⟨hj, by omega, by omega⟩, if_pos ⟨hj, by omega, h1⟩]
        simp only [List.mem_singleton]
        omega
      · rw [if_neg (by omega), if_neg (by omega)]
        simp
    rw [e1]
    refine or_congr Iff.rfl ?_
    by_cases h2 : isP x = true ∧ j + 1 < f.code.length
    · rw [if_pos ⟨h2.1, by omega⟩, if_pos h2]; simp
    · rw [if_neg (fun h => h2 ⟨h.1, by omega⟩), if_neg h2]; simp
  · rw [movI_n hj, if_neg (c := isJ x = true ∧ 0 ≤ x.n ∧ x.n < (↑(f.code.length + 1) : Int)) (fun h => hj h.1), if_neg (c := isJ x = true ∧ 0 ≤ x.n ∧ x.n < (↑f.code.length : Int)) (fun h => hj h.1)]
    refine or_congr (by simp) ?_
    by_cases h2 : isP x = true ∧ j + 1 < f.code.length
    · rw [if_pos ⟨h2.1, by omega⟩, if_pos h2]; simp
    · rw [if_neg (fun h => h2 ⟨h.1, by omega⟩), if_neg h2]; simp

theorem movF_free {f : Fn} (hN : Near f.code) (hl : 1 ≤ f.code.length) (h j : Nat) : Free (movF f).code h (j + 1) ↔ Free f.code h j := by
  constructor
  · intro F
    have key : ∀ m, Free (movF f).code h m → ∀ j, m = j + 1 → Free f.code h j := by
      intro m F
      induction F with
      | start _ => intro j e; omega
      | @go i m x hi hx hf hj ih =>
        intro j e
        subst e
        cases i with
        | zero =>
          have : x = chkI := by simpa [movF] using hx.symm
          subst this
          rw [bhd_at hx] at hj
          have e1 : bhdJ (movF f).code chkI = [] := by unfold bhdJ isJ chkI; simp
          have e2 : bhdP (movF f).code 0 chkI = [0 + 1] := by unfold bhdP isP chkI; rw [movF_len, if_pos ⟨by decide, by omega⟩]
          rw [e1, e2] at hj
          simp at hj
          subst hj
          exact .start (by omega)
        | succ i =>
          obtain ⟨y, hy, rfl⟩ := movF_of hx
          refine .go (ih i rfl) hy (fun hk => hf ⟨by rw [movI_op]; exact hk.1, by rw [movI_a]; exact hk.2⟩) ((movF_bhd hy (fun hJ => (hN _ _ hy hJ).1) j).1 hj)
    exact key _ F j rfl
  · intro F
    induction F with
    | start _ =>
      refine .go (i := 0) (x := chkI) (.start (by rw [movF_len]; omega)) rfl (fun hk => absurd hk.1 (by decide)) ?_
      rw [bhd_at (i := chkI) rfl]
      refine List.mem_append.2 (.inr ?_)
      unfold bhdP
      rw [movF_len, if_pos ⟨by decide, by omega⟩]
      simp
    | @go i m x hi hx hf hj ih =>
      exact .go ih (movF_at hx) (fun hk => hf ⟨by rw [← movI_op]; exact hk.1, by rw [← movI_a]; exact hk.2⟩) ((movF_bhd hx (fun hJ => (hN _ _ hx hJ).1) m).2 hj)

theorem movF_held {f : Fn} (hN : Near f.code) (hl : 1 ≤ f.code.length) (j : Nat) : heldN (movF f) (j + 1) = heldN f j := by
  refine mask_ext (heldN_lt _ _) (heldN_lt _ _) fun h hh => ?_
  rw [heldN_bit _ _ hh, heldN_bit _ _ hh, Bool.eq_iff_iff, holds_iff, holds_iff, movF_free hN hl]
  exact Iff.rfl

theorem movI_chk {i : Ins} (h : isJ i = true → 0 ≤ i.n ∧ i.n ≤ 126) : chk (movI i) = 0 ↔ chk i = 0 := by
  by_cases hj : isJ i = true
  · have hn := h hj
    obtain ⟨op, a, b, c, n⟩ := i
    have e : movI ⟨op, a, b, c, n⟩ = ⟨op, a, b, c, n + 1⟩ := by unfold movI; rw [if_pos hj]
    rw [e]
    simp only at hn
    rcases isJ_op hj with ho | ho
    · simp only at ho
      subst ho
      have b1 : bad 6 3 n = false := by unfold bad; rw [show lo 6 3 = 0 by decide, show hi 6 3 = 127 by decide]; simp; omega
      have b2 : bad 6 3 (n + 1) = false := by unfold bad; rw [show lo 6 3 = 0 by decide, show hi 6 3 = 127 by decide]; simp; omega
      unfold chk Ins.wrong
      simp only [show ((6 : Int).toNat) = 6 from rfl, b1, b2]
    · simp only at ho
      subst ho
      have b1 : bad 7 3 n = false := by unfold bad; rw [show lo 7 3 = 0 by decide, show hi 7 3 = 127 by decide]; simp; omega
      have b2 : bad 7 3 (n + 1) = false := by unfold bad; rw [show lo 7 3 = 0 by decide, show hi 7 3 = 127 by decide]; simp; omega
      unfold chk Ins.wrong
      simp only [show ((7 : Int).toNat) = 7 from rfl, b1, b2]
  · rw [movI_n hj]

theorem chkI_chk : chk chkI = 0 := by decide

section
variable {P : List Fn} {k : Nat} {f : Fn}

theorem set_at {Q : List Fn} {g : Fn} {j : Nat} {y : Fn} (hf : Q[k]? = some f) (h : (Q.set k g)[j]? = some y) : (j = k ∧ y = g) ∨ (j ≠ k ∧ Q[j]? = some y) := by
  rw [List.getElem?_set] at h
  have hk := (List.getElem?_eq_some_iff.1 hf).1
  split at h
  · rename_i e
    subst e
    first
      | exact .inl ⟨rfl, by simpa using h.symm⟩
      | (rw [if_pos hk] at h; exact .inl ⟨rfl, by simpa using h.symm⟩)
  · rename_i e
    exact .inr ⟨fun h => e h.symm, h⟩

theorem takes_set {g : Fn} (hf : P[k]? = some f) (hg : g.needs = f.needs) (x : Ins) : takes (P.set k g) x = takes P x := by
  unfold takes
  split
  · rfl
  · split
    · rfl
    · split
      · have hk := (List.getElem?_eq_some_iff.1 hf).1
        by_cases e : k = x.n.toNat
        · rw [← e, List.getElem?_set, if_pos rfl, if_pos hk, hf]
          simp only [hg]
        · rw [List.getElem?_set, if_neg e]
      · rfl

theorem takes_mov (x : Ins) : takes P (movI x) = takes P x := by
  by_cases h : isJ x = true
  · have ho := isJ_op h
    unfold takes
    rw [movI_op, if_neg (by omega), if_neg (by omega), if_neg (by omega), if_neg (by omega), if_neg (by omega), if_neg (by omega)]
  · rw [movI_n h]

theorem wrong_other {g : Fn} (hf : P[k]? = some f) (hg : g.needs = f.needs) (f' : Fn) (j : Nat) (x : Ins) : wrongAt (P.set k g) f' j x = wrongAt P f' j x := by
  unfold wrongAt goalW handW
  rw [takes_set hf hg, List.length_set]

theorem wrong_moved (hf : P[k]? = some f) (hN : Near f.code) (hl : 1 ≤ f.code.length) {j : Nat} {x : Ins} (hx : f.code[j]? = some x) : wrongAt (P.set k (movF f)) (movF f) (j + 1) (movI x) = wrongAt P f j x := by
  rw [wrong_other hf (g := movF f) rfl]
  have e1 : goalW P (movF f) (movI x) = goalW P f x := by
    unfold goalW
    rw [movI_isJ, movI_op, movF_len]
    by_cases hj : isJ x = true
    · have := hN _ _ hx hj
      have ho := isJ_op hj
      rw [movI_nJ hj, show (x.op == 8) = false by rw [beq_eq_false_iff_ne]; omega, hj]
      simp only [Bool.true_and, Bool.false_and, Bool.or_false]
      congr 1
      rw [decide_eq_decide]
      omega
    · rw [movI_n hj]
      have hj' : isJ x = false := by simpa using hj
      rw [hj']
      rfl
  have e2 : endW (movF f) (j + 1) (movI x) = endW f j x := by
    unfold endW
    rw [movI_isP, movF_len]
    congr 1
    rw [decide_eq_decide]
    omega
  have e3 : scopeW (movF f) (j + 1) (movI x) = scopeW f j x := by
    unfold scopeW
    rw [movI_op, movI_isJ, movF_dep]
    by_cases hj : isJ x = true
    · have := hN _ _ hx hj
      rw [movI_nJ hj, show (x.n + 1).toNat = x.n.toNat + 1 by omega, movF_dep]
    · have hj' : isJ x = false := by simpa using hj
      rw [hj']
      rfl
  have e4 : handW P (movF f) (j + 1) (movI x) = handW P f j x := by
    unfold handW
    rw [takes_mov, movF_held hN hl]
  unfold wrongAt
  rw [e1, e2, e3, e4]

theorem wrong_first (hl : 1 ≤ f.code.length) (Q : List Fn) : wrongAt Q (movF f) 0 chkI = 0 := by
  rw [wrongAt_zero]
  refine ⟨by unfold goalW isJ chkI; simp, ?_, by unfold scopeW isJ chkI; simp, ?_⟩
  · unfold endW
    rw [movF_len, decide_eq_false (by omega), Bool.false_and]
  · unfold handW takes chkI
    simp [less]

theorem acc_moved (hf : P[k]? = some f) (hN : Near f.code) (hl : 1 ≤ f.code.length) (hl2 : f.code.length ≤ 126) : Acc (P.set k (movF f)) ↔ Acc P := by
  have hk := (List.getElem?_eq_some_iff.1 hf).1
  have hat : ∀ j y, P[j]? = some y → j ≠ k → (P.set k (movF f))[j]? = some y := fun j y h hn => by rw [List.getElem?_set, if_neg (fun e => hn e.symm)]; exact h
  have hself : (P.set k (movF f))[k]? = some (movF f) := by rw [List.getElem?_set, if_pos rfl, if_pos hk]
  constructor
  · intro A
    refine ⟨by have := A.one; rwa [List.length_set] at this, by have := A.few; rwa [List.length_set] at this, fun j y hy => ?_, fun y hy => ?_, fun j y hy i x hx => ?_⟩
    · by_cases e : j = k
      · subst e
        rw [hf] at hy
        cases hy
        have h := A.fns _ _ hself
        rw [movF_len] at h
        exact ⟨h.1, h.2.1, hl, by omega, fun i x hx => (movI_chk (fun hJ => hN i x hx hJ)).1 (h.2.2.2.2 _ _ (movF_at hx))⟩
      · exact A.fns j y (hat j y hy e)
    · by_cases e : 0 = k
      · subst e
        rw [hf] at hy
        cases hy
        exact A.root (movF f) hself
      · exact A.root y (hat 0 y hy e)
    · by_cases e : j = k
      · subst e
        rw [hf] at hy
        cases hy
        rw [← wrong_moved hf hN hl hx]
        exact A.flow _ _ hself _ _ (movF_at hx)
      · rw [← wrong_other hf (g := movF f) rfl]
        exact A.flow j y (hat j y hy e) i x hx
  · intro A
    refine ⟨by rw [List.length_set]; exact A.one, by rw [List.length_set]; exact A.few, fun j y hy => ?_, fun y hy => ?_, fun j y hy i x hx => ?_⟩
    · rcases set_at hf hy with ⟨rfl, rfl⟩ | ⟨e, hy⟩
      · have h := A.fns _ _ hf
        rw [movF_len]
        refine ⟨h.1, h.2.1, by omega, by omega, fun i x hx => ?_⟩
        cases i with
        | zero =>
          have : x = chkI := by simpa [movF] using hx.symm
          rw [this]
          exact chkI_chk
        | succ i =>
          obtain ⟨y, hy, rfl⟩ := movF_of hx
          exact (movI_chk (fun hJ => hN i y hy hJ)).2 (h.2.2.2.2 i y hy)
      · exact A.fns j y hy
    · rcases set_at hf hy with ⟨rfl, rfl⟩ | ⟨e, hy⟩
      · exact A.root f hf
      · exact A.root y hy
    · rcases set_at hf hy with ⟨rfl, rfl⟩ | ⟨e, hy⟩
      · cases i with
        | zero =>
          have : x = chkI := by simpa [movF] using hx.symm
          rw [this]
          exact wrong_first hl _
        | succ i =>
          obtain ⟨y, hy, rfl⟩ := movF_of hx
          rw [wrong_moved hf hN hl hy]
          exact A.flow _ _ hf i y hy
      · rw [wrong_other hf (g := movF f) rfl]
        exact A.flow j y hy i x hx

theorem plainI_mov (x : Ins) : plainI (movI x) = plainI x := by
  by_cases h : isJ x = true
  · have ho := isJ_op h
    unfold plainI
    rw [movI_op, show (x.op == 13) = false by rw [beq_eq_false_iff_ne]; omega, show (x.op == 11) = false by rw [beq_eq_false_iff_ne]; omega]
    rfl
  · rw [movI_n h]

theorem all_set {α : Type} (p : α → Bool) {l : List α} {k : Nat} {x y : α} (hx : l[k]? = some x) (h : p y = p x) : (l.set k y).all p = l.all p := by
  induction l generalizing k with
  | nil => simp at hx
  | cons a r ih =>
    cases k with
    | zero => simp at hx; subst hx; simp [h]
    | succ k => simp only [List.set_cons_succ, List.all_cons]; rw [ih (by simpa using hx)]

theorem plain_moved (hf : P[k]? = some f) : plainP (P.set k (movF f)) = plainP P := by
  unfold plainP
  refine all_set _ hf ?_
  show (movF f).code.all plainI = f.code.all plainI
  unfold movF
  simp only [List.all_cons, List.all_map, Function.comp_def, plainI_mov]
  rfl
end

end Go.Proofs.YthpkhcompkfcaaaDoor
