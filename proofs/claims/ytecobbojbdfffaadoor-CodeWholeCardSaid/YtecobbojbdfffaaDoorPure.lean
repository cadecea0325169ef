/-
  Bytes and programs, as plain data: there and back.
-/
import Derived.Test.YtecobbojbdfffaaDoorUnpacks
import Derived.Test.YtecobbojbdfffaaDoorBack
namespace Go.Proofs.YtecobbojbdfffaaDoor
open Go.RowKit

theorem sl_mid {pre mid post : List Int} (h : mid.length = 8) : sl (pre ++ (mid ++ post)) pre.length = mid := by
  unfold sl
  rw [List.drop_left, List.take_append_of_le_length (by omega), List.take_of_length_le (by omega)]

theorem codeErr_cons {i : Ins} {r : List Ins} (h : codeErr (i :: r) = 0) : chk i = 0 ∧ codeErr r = 0 := by
  unfold codeErr at h
  split at h
  · rename_i h0
    exact ⟨h0, h⟩
  · rename_i h0
    exact absurd h h0

theorem prgErr_cons {f : Fn} {r : List Fn} (h : prgErr (f :: r) = 0) : fnErr f = 0 ∧ prgErr r = 0 := by
  unfold prgErr at h
  split at h
  · rename_i h0
    exact ⟨h0, h⟩
  · rename_i h0
    exact absurd h h0

theorem flat8 (cs : List Ins) : (cs.flatMap encB).length = 8 * cs.length := by
  induction cs with
  | nil => rfl
  | cons i r ih => rw [List.flatMap_cons, List.length_append, ih, encB_len, List.length_cons]; omega

theorem unCode_pack (cs : List Ins) (h : codeErr cs = 0) (pre post : List Int) (acc : List Ins) : unCode (pre ++ (cs.flatMap encB ++ post)) cs.length pre.length acc = (acc ++ cs, pre.length + 8 * cs.length, 0) := by
  induction cs generalizing pre acc with
  | nil => simp [unCode]
  | cons i r ih =>
    obtain ⟨h0, h1⟩ := codeErr_cons h
    have e : pre ++ ((i :: r).flatMap encB ++ post) = pre ++ (encB i ++ (r.flatMap encB ++ post)) := by rw [List.flatMap_cons, List.append_assoc]
    have es : sl (pre ++ (encB i ++ (r.flatMap encB ++ post))) pre.length = encB i := sl_mid (encB_len i)
    rw [e, List.length_cons, unCode, es, if_pos (decErr_enc h0), dec_enc h0]
    have := ih h1 (pre ++ encB i) (acc ++ [i])
    rw [List.length_append, encB_len, List.append_assoc] at this
    rw [this]
    simp only [List.append_assoc, List.singleton_append, Prod.mk.injEq, true_and, and_true]
    omega

theorem fn_ok {f : Fn} (h : fnErr f = 0) : 0 ≤ f.needs ∧ f.needs ≤ 255 ∧ 1 ≤ f.code.length ∧ f.code.length ≤ 128 ∧ codeErr f.code = 0 := fnErr_zero (needs := f.needs) (l := f.code) h

theorem getD_mid (pre post : List Int) (x : Int) : (pre ++ (x :: post)).getD pre.length 0 = x := by
  rw [List.getD_eq_getElem?_getD, List.getElem?_append_right (Nat.le_refl _), Nat.sub_self]
  rfl

theorem fnBytes_len (f : Fn) : (fnBytes f).length = 2 + 8 * f.code.length := by
  unfold fnBytes
  rw [List.length_append, flat8]
  rfl

theorem unFn_pack {f : Fn} (h : fnErr f = 0) (pre post : List Int) : unFn (pre ++ (fnBytes f ++ post)) pre.length = ⟨f, pre.length + (fnBytes f).length, 0⟩ := by
  obtain ⟨n0, n1, c0, c1, hc⟩ := fn_ok h
  obtain ⟨needs, code⟩ := f
  simp only at n0 n1 c0 c1 hc
  have e : fnBytes ⟨needs, code⟩ ++ post = needs :: (code.length : Int) :: (code.flatMap encB ++ post) := by
    unfold fnBytes
    simp only
    rw [Int.emod_eq_of_lt (by omega) (by omega)]
    simp
  rw [fnBytes_len, e]
  have g0 : (pre ++ needs :: (code.length : Int) :: (code.flatMap encB ++ post)).getD pre.length 0 = needs := getD_mid _ _ _
  have g1 : (pre ++ needs :: (code.length : Int) :: (code.flatMap encB ++ post)).getD (pre.length + 1) 0 = (code.length : Int) := by
    have := getD_mid (pre ++ [needs]) (code.flatMap encB ++ post) (code.length : Int)
    rw [List.length_append, List.append_assoc] at this
    exact this
  have hu := unCode_pack code hc (pre ++ [needs, (code.length : Int)]) post []
  rw [List.length_append, List.append_assoc] at hu
  refine (unFn_ok (x := (code.length : Int)) (by first | omega | (simp; done) | (simp; omega)) g1 (by omega) (q := pre.length + 2 + 8 * code.length) (c := code) ?_ g0).trans ?_
  · rw [Int.toNat_natCast]
    exact hu
  · simp only [UF.mk.injEq, true_and, and_true]
    omega

theorem unFns_pack (P : List Fn) (h : prgErr P = 0) (pre post : List Int) (acc : List Fn) : unFns (pre ++ (P.flatMap fnBytes ++ post)) P.length pre.length acc = (acc ++ P, pre.length + (P.flatMap fnBytes).length, 0) := by
  induction P generalizing pre acc with
  | nil => simp [unFns]
  | cons f r ih =>
    obtain ⟨h0, h1⟩ := prgErr_cons h
    have e : pre ++ ((f :: r).flatMap fnBytes ++ post) = pre ++ (fnBytes f ++ (r.flatMap fnBytes ++ post)) := by rw [List.flatMap_cons, List.append_assoc]
    rw [e, List.length_cons, unFns, unFn_pack h0, if_pos rfl]
    have := ih h1 (pre ++ fnBytes f) (acc ++ [f])
    rw [List.length_append, List.append_assoc] at this
    simp only
    rw [this]
    simp only [List.append_assoc, List.singleton_append, List.flatMap_cons, List.length_append, Prod.mk.injEq, true_and, and_true]
    omega

theorem packErr_zero {P : List Fn} (h : packErr P = 0) : 1 ≤ P.length ∧ P.length ≤ 32 ∧ prgErr P = 0 := by
  unfold packErr at h
  split at h
  · cases h
  · exact ⟨by omega, by omega, h⟩

/-- What is packed is unpacked. -/
theorem unProg_pack {P : List Fn} (h : packErr P = 0) : unProg (packBytes P) = ⟨P, 0, 0⟩ := by
  obtain ⟨h1, h2, h3⟩ := packErr_zero h
  have hu := unFns_pack P h3 [(P.length : Int)] [] []
  rw [List.append_nil] at hu
  have hl : (packBytes P).length = 1 + (P.flatMap fnBytes).length := by unfold packBytes; rw [List.length_append]; rfl
  refine unProg_ok (x := (P.length : Int)) (by omega) rfl (by omega) (q := 1 + (P.flatMap fnBytes).length) (c := P) ?_ (by omega)
  rw [Int.toNat_natCast]
  exact hu

theorem drop_sl (l : List Int) (p : Nat) : l.drop p = sl l p ++ l.drop (p + 8) := by
  unfold sl
  rw [← List.drop_drop, List.take_append_drop]

theorem unCode_back {l : List Int} (hl : AllB l) {n p q : Nat} {acc cs : List Ins} (h : unCode l n p acc = (cs, q, 0)) : ∃ c', cs = acc ++ c' ∧ c'.length = n ∧ codeErr c' = 0 ∧ l.drop p = c'.flatMap encB ++ l.drop q := by
  induction n generalizing p acc with
  | zero =>
    simp only [unCode, Prod.mk.injEq] at h
    obtain ⟨rfl, rfl, _⟩ := h
    exact ⟨[], by simp, rfl, rfl, by simp⟩
  | succ n ih =>
    unfold unCode at h
    split at h
    · rename_i hd
      obtain ⟨c', rfl, hc, he, hdr⟩ := ih h
      have h8 : (sl l p).length = 8 := sl_len (sl_ok hd)
      have hk : chk (dec (sl l p)) = 0 := by rw [← decErr_eq h8]; exact hd
      refine ⟨dec (sl l p) :: c', by simp, by simp [hc], ?_, ?_⟩
      · unfold codeErr
        rw [if_pos hk]
        exact he
      · rw [List.flatMap_cons, enc_dec h8 (sl_all hl p), List.append_assoc, ← hdr]
        exact drop_sl l p
    · rename_i hd
      simp only [Prod.mk.injEq] at h
      exact absurd h.2.2 hd

theorem unFn_back {l : List Int} (hl : AllB l) {p : Nat} (h : (unFn l p).err = 0) : fnErr (unFn l p).f = 0 ∧ l.drop p = fnBytes (unFn l p).f ++ l.drop (unFn l p).at_ := by
  by_cases h1 : l.length < p + 2
  · rw [unFn_short h1] at h
    cases h
  · by_cases h2 : l.getD (p + 1) 0 < 1 ∨ 128 < l.getD (p + 1) 0
    · rw [unFn_long h1 rfl h2] at h
      cases h
    · obtain ⟨⟨cs, q, y⟩, hu⟩ : ∃ r, unCode l (l.getD (p + 1) 0).toNat (p + 2) [] = r := ⟨_, rfl⟩
      by_cases hy : y = 0
      · subst hy
        rw [unFn_ok h1 rfl h2 hu rfl]
        obtain ⟨c', hc, hlen, he, hdr⟩ := unCode_back hl hu
        rw [List.nil_append] at hc
        subst hc
        have b0 := hl.getD p
        simp only
        refine ⟨?_, ?_⟩
        · rw [fnErr_code (by simp only; omega) (by simp only; omega)]
          exact he
        · have e2 : l.drop p = l.getD p 0 :: l.getD (p + 1) 0 :: l.drop (p + 2) := by
            rw [List.drop_eq_getElem_cons (by omega), List.drop_eq_getElem_cons (by omega)]
            rw [List.getD_eq_getElem?_getD, List.getD_eq_getElem?_getD, List.getElem?_eq_getElem (by omega), List.getElem?_eq_getElem (by omega)]
            rfl
          rw [e2, hdr]
          unfold fnBytes
          simp only
          rw [Int.emod_eq_of_lt (by omega) (by omega), hlen, Int.toNat_of_nonneg (by omega)]
          simp
      · have hno : (unFn l p).err = y := by
          unfold unFn
          rw [if_neg h1, if_neg h2, hu, if_neg hy]
        exact absurd (hno ▸ h) hy

theorem unFns_back {l : List Int} (hl : AllB l) {n p q : Nat} {acc fs : List Fn} (h : unFns l n p acc = (fs, q, 0)) : ∃ f', fs = acc ++ f' ∧ f'.length = n ∧ prgErr f' = 0 ∧ l.drop p = f'.flatMap fnBytes ++ l.drop q := by
  induction n generalizing p acc with
  | zero =>
    simp only [unFns, Prod.mk.injEq] at h
    obtain ⟨rfl, rfl, _⟩ := h
    exact ⟨[], by simp, rfl, rfl, by simp⟩
  | succ n ih =>
    unfold unFns at h
    split at h
    · rename_i hd
      obtain ⟨c', rfl, hc, he, hdr⟩ := ih h
      obtain ⟨hf, hfd⟩ := unFn_back hl hd
      refine ⟨(unFn l p).f :: c', by simp, by simp [hc], ?_, ?_⟩
      · unfold prgErr
        rw [if_pos hf]
        exact he
      · rw [List.flatMap_cons, List.append_assoc, ← hdr]
        exact hfd
    · rename_i hd
      simp only [Prod.mk.injEq] at h
      exact absurd h.2.2 hd

theorem unProg_parts {l : List Int} (h : (unProg l).err = 0) : l.length ≠ 0 ∧ ¬ (l.getD 0 0 < 1 ∨ 32 < l.getD 0 0) ∧ ∃ q, unFns l (l.getD 0 0).toNat 1 [] = ((unProg l).p, q, 0) ∧ ¬ q < l.length := by
  by_cases h0 : l.length = 0
  · rw [unProg_nil h0] at h
    cases h
  · by_cases h1 : l.getD 0 0 < 1 ∨ 32 < l.getD 0 0
    · rw [unProg_long h0 rfl h1] at h
      cases h
    · obtain ⟨⟨fs, q, y⟩, hu⟩ : ∃ r, unFns l (l.getD 0 0).toNat 1 [] = r := ⟨_, rfl⟩
      by_cases hy : y = 0
      · subst hy
        by_cases hq : q < l.length
        · rw [unProg_more h0 rfl h1 hu hq] at h
          cases h
        · refine ⟨h0, h1, q, ?_, hq⟩
          rw [unProg_ok h0 rfl h1 hu hq]
          exact hu
      · rw [unProg_bad h0 rfl h1 hu hy] at h
        exact absurd h hy

/-- What is unpacked is packed to the same bytes. -/
theorem unProg_back {l : List Int} (hl : AllB l) (h : (unProg l).err = 0) : packErr (unProg l).p = 0 ∧ packBytes (unProg l).p = l := by
  obtain ⟨h0, h1, q, hu, hq⟩ := unProg_parts h
  obtain ⟨f', hf, hlen, he, hdr⟩ := unFns_back hl hu
  rw [List.nil_append] at hf
  rw [hf]
  have hd1 : l = l.getD 0 0 :: l.drop 1 := by
    have : l.drop 0 = l[0] :: l.drop 1 := List.drop_eq_getElem_cons (by omega)
    rw [List.drop_zero] at this
    rw [List.getD_eq_getElem?_getD, List.getElem?_eq_getElem (by omega)]
    exact this
  refine ⟨?_, ?_⟩
  · unfold packErr
    rw [if_neg (by omega)]
    exact he
  · unfold packBytes
    rw [hlen, Int.toNat_of_nonneg (by omega)]
    have e : f'.flatMap fnBytes = l.drop 1 := by
      rw [hdr, List.drop_eq_nil_of_le (by omega), List.append_nil]
    rw [e]
    exact hd1.symm

theorem sl_more {l t : List Int} {p : Nat} (h : p + 8 ≤ l.length) : sl (l ++ t) p = sl l p := by
  unfold sl
  rw [List.drop_append_of_le_length (by omega), List.take_append_of_le_length (by simp; omega)]

theorem getD_more {l t : List Int} {k : Nat} (h : k < l.length) : (l ++ t).getD k 0 = l.getD k 0 := by
  rw [List.getD_eq_getElem?_getD, List.getD_eq_getElem?_getD, List.getElem?_append_left h]

theorem unCode_more {l t : List Int} {n p q : Nat} {acc cs : List Ins} (h : unCode l n p acc = (cs, q, 0)) : unCode (l ++ t) n p acc = (cs, q, 0) := by
  induction n generalizing p acc with
  | zero => exact h
  | succ n ih =>
    unfold unCode at h ⊢
    split at h
    · rename_i hd
      rw [sl_more (sl_ok hd), if_pos hd]
      exact ih h
    · rename_i hd
      simp only [Prod.mk.injEq] at h
      exact absurd h.2.2 hd

theorem unFn_more {l t : List Int} {p : Nat} (h : (unFn l p).err = 0) : unFn (l ++ t) p = unFn l p := by
  by_cases h1 : l.length < p + 2
  · rw [unFn_short h1] at h
    cases h
  · by_cases h2 : l.getD (p + 1) 0 < 1 ∨ 128 < l.getD (p + 1) 0
    · rw [unFn_long h1 rfl h2] at h
      cases h
    · obtain ⟨⟨cs, q, y⟩, hu⟩ : ∃ r, unCode l (l.getD (p + 1) 0).toNat (p + 2) [] = r := ⟨_, rfl⟩
      by_cases hy : y = 0
      · subst hy
        rw [unFn_ok h1 rfl h2 hu rfl]
        exact unFn_ok (x := l.getD (p + 1) 0) (by simp; omega) (getD_more (by omega)) h2 (unCode_more hu) (getD_more (by omega))
      · have hno : (unFn l p).err = y := by
          unfold unFn
          rw [if_neg h1, if_neg h2, hu, if_neg hy]
        exact absurd (hno ▸ h) hy

theorem unFns_more {l t : List Int} {n p q : Nat} {acc fs : List Fn} (h : unFns l n p acc = (fs, q, 0)) : unFns (l ++ t) n p acc = (fs, q, 0) := by
  induction n generalizing p acc with
  | zero => exact h
  | succ n ih =>
    unfold unFns at h ⊢
    split at h
    · rename_i hd
      rw [unFn_more hd, if_pos hd]
      exact ih h
    · rename_i hd
      simp only [Prod.mk.injEq] at h
      exact absurd h.2.2 hd

theorem unFns_at {l : List Int} {n p : Nat} {acc : List Fn} (h : (unFns l n p acc).2.2 = 0) (hp : p ≤ l.length) : (unFns l n p acc).2.1 ≤ l.length := by
  induction n generalizing p acc with
  | zero => exact hp
  | succ n ih =>
    unfold unFns at h ⊢
    split at h
    · rename_i hd
      rw [if_pos hd]
      exact ih h (unFn_at hd)
    · rename_i hd
      exact absurd h hd

/-- A program's bytes with a byte behind are none. -/
theorem unProg_tail {l : List Int} (x : Int) (h : (unProg l).err = 0) : unProg (l ++ [x]) = ⟨[], l.length, 11⟩ := by
  obtain ⟨h0, h1, q, hu, hq⟩ := unProg_parts h
  have hq2 : q ≤ l.length := by
    have := unFns_at (l := l) (n := (l.getD 0 0).toNat) (p := 1) (acc := []) (by rw [hu]) (by omega)
    rw [hu] at this
    exact this
  obtain rfl : q = l.length := by omega
  exact unProg_more (x := l.getD 0 0) (by simp) (getD_more (by omega)) h1 (unFns_more hu) (by simp)

theorem sl_cut {l : List Int} {n p : Nat} (h : p + 8 ≤ n) : sl (l.take n) p = sl l p := by
  unfold sl
  rw [List.drop_take, List.take_take, Nat.min_eq_left (by omega)]

theorem getD_cut {l : List Int} {n k : Nat} (h : k < n) : (l.take n).getD k 0 = l.getD k 0 := by
  rw [List.getD_eq_getElem?_getD, List.getD_eq_getElem?_getD, List.getElem?_take, if_pos h]

theorem unCode_cut {l : List Int} {m : Nat} (hm : m ≤ l.length) {n p q : Nat} {acc cs : List Ins} (h : unCode l n p acc = (cs, q, 0)) (hp : p ≤ m) : (unCode (l.take m) n p acc = (cs, q, 0) ∧ q ≤ m) ∨ ∃ q', unCode (l.take m) n p acc = ([], q', 11) ∧ q' ≤ m := by
  induction n generalizing p acc with
  | zero =>
    simp only [unCode, Prod.mk.injEq] at h
    obtain ⟨rfl, rfl, _⟩ := h
    exact .inl ⟨rfl, hp⟩
  | succ n ih =>
    unfold unCode at h ⊢
    split at h
    · rename_i hd
      by_cases h8 : p + 8 ≤ m
      · rw [sl_cut h8, if_pos hd]
        exact ih h h8
      · have e : decErr (sl (l.take m) p) = 11 := sl_short (by simp; omega)
        rw [e, if_neg (by decide)]
        exact .inr ⟨p, rfl, hp⟩
    · rename_i hd
      simp only [Prod.mk.injEq] at h
      exact absurd h.2.2 hd

theorem unFn_cut {l : List Int} {m : Nat} (hm : m ≤ l.length) {p : Nat} (h : (unFn l p).err = 0) (hp : p ≤ m) : (unFn (l.take m) p = unFn l p ∧ (unFn l p).at_ ≤ m) ∨ ((unFn (l.take m) p).err = 11 ∧ (unFn (l.take m) p).at_ ≤ m) := by
  by_cases hs : m < p + 2
  · right
    rw [unFn_short (by simp; omega)]
    exact ⟨rfl, hp⟩
  · by_cases h1 : l.length < p + 2
    · rw [unFn_short h1] at h
      cases h
    · by_cases h2 : l.getD (p + 1) 0 < 1 ∨ 128 < l.getD (p + 1) 0
      · rw [unFn_long h1 rfl h2] at h
        cases h
      · obtain ⟨⟨cs, q, y⟩, hu⟩ : ∃ r, unCode l (l.getD (p + 1) 0).toNat (p + 2) [] = r := ⟨_, rfl⟩
        by_cases hy : y = 0
        · subst hy
          rw [unFn_ok h1 rfl h2 hu rfl]
          have hl2 : ¬ (l.take m).length < p + 2 := by simp; omega
          rcases unCode_cut hm hu (by omega) with ⟨hc, hq⟩ | ⟨q', hc, hq⟩
          · left
            exact ⟨unFn_ok (x := l.getD (p + 1) 0) hl2 (getD_cut (by omega)) h2 hc (getD_cut (by omega)), hq⟩
          · right
            rw [unFn_bad (x := l.getD (p + 1) 0) hl2 (getD_cut (by omega)) h2 hc (by decide)]
            exact ⟨rfl, hq⟩
        · have hno : (unFn l p).err = y := by
            unfold unFn
            rw [if_neg h1, if_neg h2, hu, if_neg hy]
          exact absurd (hno ▸ h) hy

theorem unFns_cut {l : List Int} {m : Nat} (hm : m ≤ l.length) {n p q : Nat} {acc fs : List Fn} (h : unFns l n p acc = (fs, q, 0)) (hp : p ≤ m) : (unFns (l.take m) n p acc = (fs, q, 0) ∧ q ≤ m) ∨ ∃ q', unFns (l.take m) n p acc = ([], q', 11) ∧ q' ≤ m := by
  induction n generalizing p acc with
  | zero =>
    simp only [unFns, Prod.mk.injEq] at h
    obtain ⟨rfl, rfl, _⟩ := h
    exact .inl ⟨rfl, hp⟩
  | succ n ih =>
    unfold unFns at h ⊢
    split at h
    · rename_i hd
      rcases unFn_cut hm hd hp with ⟨he, ha⟩ | ⟨he, ha⟩
      · rw [he, if_pos hd]
        exact ih h ha
      · rw [he, if_neg (by decide)]
        exact .inr ⟨_, rfl, ha⟩
    · rename_i hd
      simp only [Prod.mk.injEq] at h
      exact absurd h.2.2 hd

/-- No beginning of a program's bytes is a program. -/
theorem unProg_cut {l : List Int} {m : Nat} (hm : m < l.length) (h : (unProg l).err = 0) : (unProg (l.take m)).err = 11 ∧ (unProg (l.take m)).at_ ≤ m := by
  obtain ⟨h0, h1, q, hu, hq⟩ := unProg_parts h
  by_cases hz : m = 0
  · subst hz
    rw [unProg_nil (by simp)]
    exact ⟨rfl, Nat.zero_le _⟩
  · have hl : (l.take m).length ≠ 0 := by rw [List.length_take]; omega
    rcases unFns_cut (Nat.le_of_lt hm) hu (by omega) with ⟨_, hb⟩ | ⟨q', hc, hb⟩
    · omega
    · rw [unProg_bad (x := l.getD 0 0) hl (getD_cut (by omega)) h1 hc (by decide)]
      exact ⟨rfl, hb⟩

theorem packBytes_all {P : List Fn} (h : packErr P = 0) : AllB (packBytes P) := by
  obtain ⟨h1, h2, h3⟩ := packErr_zero h
  intro x hx
  unfold packBytes at hx
  rw [List.mem_append] at hx
  rcases hx with hx | hx
  · simp at hx
    omega
  · rw [List.mem_flatMap] at hx
    obtain ⟨f, hf, hx⟩ := hx
    have hfe : fnErr f = 0 := by
      clear hx h1 h2 h
      induction P with
      | nil => cases hf
      | cons a r ih =>
        obtain ⟨q0, q1⟩ := prgErr_cons h3
        rw [List.mem_cons] at hf
        rcases hf with rfl | hf
        · exact q0
        · exact ih q1 hf
    obtain ⟨n0, n1, c0, c1, hc⟩ := fn_ok hfe
    unfold fnBytes at hx
    rw [List.mem_append] at hx
    rcases hx with hx | hx
    · simp at hx
      omega
    · rw [List.mem_flatMap] at hx
      obtain ⟨i, _, hx⟩ := hx
      exact encB_all i x hx

end Go.Proofs.YtecobbojbdfffaaDoor
