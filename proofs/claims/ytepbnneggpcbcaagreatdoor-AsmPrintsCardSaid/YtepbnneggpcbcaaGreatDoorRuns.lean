/-
  Programs as texts: a program's text is parsed as it, and what is parsed is written so.
-/
import Derived.Test.YtepbnneggpcbcaaGreatDoorFns
import Derived.Test.YtepbnneggpcbcaaGreatDoorText
namespace Go.Proofs.YtepbnneggpcbcaaGreatDoor
open Go.RowKit

/-! ### Lines -/

/-- A text's lines, each with the line feed that ends it. -/
def lns : Bs → List Bs
  | [] => []
  | x :: r => if x = 10 then [x] :: lns r else match lns r with
    | [] => [[x]]
    | h :: t => (x :: h) :: t

theorem lns_app (h : Bs) (hh : (10 : UInt8) ∉ h) (r : Bs) : lns (h ++ 10 :: r) = (h ++ [10]) :: lns r := by
  induction h with
  | nil => simp [lns]
  | cons x t ih =>
    have hx : x ≠ 10 := fun e => hh (by simp [e])
    have := ih (fun hm => hh (by simp [hm]))
    rw [List.cons_append, lns, if_neg hx, this]
    rfl

theorem lns_one (h : Bs) (hh : (10 : UInt8) ∉ h) (hn : h ≠ []) : lns h = [h] := by
  induction h with
  | nil => exact absurd rfl hn
  | cons x t ih =>
    have hx : x ≠ 10 := fun e => hh (by simp [e])
    rw [lns, if_neg hx]
    cases t with
    | nil => rfl
    | cons y s =>
      rw [ih (fun hm => hh (by simp [hm])) (by simp)]

/-- Lines by the first line feed. -/
theorem lns_cases (s : Bs) : (s = [] ∧ lns s = []) ∨ (s ≠ [] ∧ (10 : UInt8) ∉ s ∧ lns s = [s]) ∨ ∃ h r, (10 : UInt8) ∉ h ∧ s = h ++ 10 :: r ∧ lns s = (h ++ [10]) :: lns r := by
  by_cases hs : s = []
  · subst hs
    exact .inl ⟨rfl, rfl⟩
  · by_cases hm : (10 : UInt8) ∈ s
    · obtain ⟨a, r, ha, rfl⟩ := mem_parts 10 s hm
      exact .inr (.inr ⟨a, r, ha, rfl, lns_app a ha r⟩)
    · exact .inr (.inl ⟨hs, hm, lns_one s hm hs⟩)

theorem lns_flat (ls : List Bs) (h : ∀ l ∈ ls, (10 : UInt8) ∉ l) : lns (ls.flatMap (· ++ [10])) = ls.map (· ++ [10]) := by
  induction ls with
  | nil => rfl
  | cons a r ih =>
    rw [List.flatMap_cons, List.append_assoc, List.singleton_append, lns_app a (h a (by simp)), ih (fun l hl => h l (by simp [hl]))]
    rfl

theorem lns_flatten (s : Bs) : (lns s).flatten = s := by
  induction s with
  | nil => rfl
  | cons x r ih =>
    rw [lns]
    split
    · rw [List.flatten_cons, ih]; rfl
    · split
      · rename_i e
        rw [e] at ih
        rw [← ih]
        rfl
      · rename_i e
        rw [e] at ih
        rw [← ih]
        rfl

/-! ### One line -/

def wFunc : Bs := [102, 117, 110, 99]
def wNeeds : Bs := [110, 101, 101, 100, 115]

def header (k : Nat) (needs : Int) : Bs := glue 32 [wFunc, Lib.itoa k, wNeeds, Lib.itoa needs]

/-- Whether the last function has no instructions. -/
def bare (fs : List Fn) : Bool := match fs.getLast? with
  | none => false
  | some f => f.code.isEmpty

def begF (fs : List Fn) (ws : List Bs) : List Fn × Int :=
  if ws.length ≠ 4 ∨ ws.getD 2 [] ≠ wNeeds then ([], 11)
  else if isNum (ws.getD 1 []) = false ∨ isNum (ws.getD 3 []) = false then ([], 11)
  else if fs.length = 32 ∨ bare fs = true then ([], 12)
  else if val (ws.getD 1 []) ≠ fs.length ∨ 255 < val (ws.getD 3 []) then ([], 10)
  else (fs ++ [⟨val (ws.getD 3 []), []⟩], 0)

def pushI (fs : List Fn) (i : Ins) : List Fn := match fs.getLast? with
  | none => fs
  | some f => fs.dropLast ++ [⟨f.needs, f.code ++ [i]⟩]

def lastLen (fs : List Fn) : Nat := match fs.getLast? with
  | none => 0
  | some f => f.code.length

def extF (fs : List Fn) (l : Bs) : List Fn × Int :=
  if fs = [] then ([], 11)
  else if (rd l).2 ≠ 0 then ([], (rd l).2)
  else if lastLen fs = 128 then ([], 12)
  else (pushI fs (rd l).1, 0)

def putL (fs : List Fn) (l : Bs) : List Fn × Int :=
  if l.getLast? ≠ some 10 then ([], 11)
  else if (cut 32 l.dropLast).headD [] = wFunc then begF fs (words l.dropLast)
  else extF fs l.dropLast

def runL : List Bs → List Fn → Nat → List Fn × Nat × Int
  | [], fs, at_ => (fs, at_, 0)
  | l :: r, fs, at_ => if (putL fs l).2 = 0 then runL r (putL fs l).1 (at_ + 1) else ([], at_ + 1, (putL fs l).2)

def endL (q : List Fn × Nat × Int) : List Fn × Nat × Int :=
  if q.2.2 ≠ 0 then ([], q.2.1, q.2.2)
  else if q.1 = [] ∨ bare q.1 = true then ([], q.2.1 + 1, 12)
  else (q.1, 0, 0)

def prs (s : Bs) : List Fn × Nat × Int := if 131072 < s.length then ([], 0, 12) else endL (runL (lns s) [] 0)

/-! ### Programs as texts -/

def prLines : Nat → List Fn → List Bs
  | _, [] => []
  | k, f :: r => header k f.needs :: f.code.map txt ++ prLines (k + 1) r

def prTxt (P : List Fn) : Bs := (prLines 0 P).flatMap (· ++ [10])

theorem txt_free (i : Ins) (h : chk i = 0) : (10 : UInt8) ∉ txt i := by
  obtain ⟨ho, _, _⟩ := chk_zero h
  have key : ∀ ws : List Bs, (∀ w ∈ ws, (10 : UInt8) ∉ w) → (10 : UInt8) ∉ glue 32 ws := by
    intro ws
    induction ws with
    | nil => intro _; simp [glue]
    | cons x r ih =>
      intro hw
      cases r with
      | nil => exact hw x (by simp)
      | cons y r =>
        rw [glue_cons]
        intro hm
        rcases List.mem_append.1 hm with hm | hm
        · exact hw x (by simp) hm
        · rcases List.mem_cons.1 hm with e | hm
          · cases e
          · exact ih (fun w h => hw w (by simp [h])) hm
  refine key _ (fun w hw => ?_)
  unfold wordsOf at hw
  rcases List.mem_cons.1 hw with rfl | hw
  · have : ∀ op, op < 17 → (10 : UInt8) ∉ names.getD op [] := by decide
    exact this _ ho
  · obtain ⟨k, hk, rfl⟩ := List.mem_map.1 hw
    exact (wr_free _ (kinds_fit _ ho k (flds_lt hk).1).1 _).2

theorem header_cut (k : Nat) (n : Int) : cut 32 (header k n) = [wFunc, Lib.itoa k, wNeeds, Lib.itoa n] := by
  refine cut_glue 32 _ (fun w hw => ?_) (by simp)
  simp only [List.mem_cons, List.not_mem_nil, or_false] at hw
  rcases hw with rfl | rfl | rfl | rfl
  · decide
  · exact itoa_free _ 32 (by decide) (by decide)
  · decide
  · exact itoa_free _ 32 (by decide) (by decide)

theorem header_free (k : Nat) (n : Int) : (10 : UInt8) ∉ header k n := by
  have h1 : (10 : UInt8) ∉ Lib.itoa k := itoa_free _ 10 (by decide) (by decide)
  have h2 : (10 : UInt8) ∉ Lib.itoa n := itoa_free _ 10 (by decide) (by decide)
  unfold header
  rw [glue_cons, glue_cons, glue_cons]
  intro hm
  simp only [List.mem_append, List.mem_cons] at hm
  have h3 : (10 : UInt8) ∉ wFunc := by decide
  have h4 : (10 : UInt8) ∉ wNeeds := by decide
  rcases hm with hm | hm | hm | hm | hm | hm | hm
  · exact h3 hm
  · cases hm
  · exact h1 hm
  · cases hm
  · exact h4 hm
  · cases hm
  · exact h2 hm

theorem num_itoa (n : Nat) : isNum (Lib.itoa n) = true ∧ val (Lib.itoa n) = n := by
  rw [itoa_nat]
  exact ⟨dec_num n, dec_val n⟩

/-- A function's line begins it. -/
theorem put_header (fs : List Fn) (needs : Int) (h0 : 0 ≤ needs) (h1 : needs ≤ 255) (hl : fs.length < 32) (hb : bare fs = false) :
    putL fs (header fs.length needs ++ [10]) = (fs ++ [⟨needs, []⟩], 0) := by
  obtain ⟨n, rfl⟩ : ∃ n : Nat, needs = n := ⟨needs.toNat, by omega⟩
  have hc := header_cut fs.length n
  have hw : words (header fs.length n) = [wFunc, Lib.itoa fs.length, wNeeds, Lib.itoa n] := by rw [words_eq _ (by rw [hc]; simp), hc]
  unfold putL
  rw [if_neg (by simp), List.dropLast_concat, hc, List.headD_cons, if_pos rfl, hw]
  unfold begF
  show (if [wFunc, Lib.itoa fs.length, wNeeds, Lib.itoa n].length ≠ 4 ∨ wNeeds ≠ wNeeds then _ else if isNum (Lib.itoa fs.length) = false ∨ isNum (Lib.itoa n) = false then _ else if fs.length = 32 ∨ bare fs = true then _ else if val (Lib.itoa fs.length) ≠ fs.length ∨ 255 < val (Lib.itoa n) then _ else (fs ++ [⟨val (Lib.itoa n), []⟩], 0) : List Fn × Int) = _
  rw [if_neg (by simp), if_neg (by simp [(num_itoa fs.length).1, (num_itoa n).1]), if_neg (by simp [hb]; omega), if_neg (by rw [(num_itoa _).2, (num_itoa n).2]; omega), (num_itoa n).2]

theorem wFunc_no : nameIx wFunc = none := by decide

theorem rd_head {l : Bs} (h : (rd l).2 = 0) : (cut 32 l).headD [] ≠ wFunc := by
  intro e
  unfold rd at h
  rw [e, wFunc_no] at h
  cases h

theorem txt_head (i : Ins) (h : chk i = 0) : (cut 32 (txt i)).headD [] ≠ wFunc := rd_head (by rw [rd_txt i h])

theorem put_text (fs : List Fn) (i : Ins) (h : chk i = 0) (hn : fs ≠ []) (hl : lastLen fs < 128) : putL fs (txt i ++ [10]) = (pushI fs i, 0) := by
  unfold putL
  rw [if_neg (by simp), List.dropLast_concat, if_neg (txt_head i h)]
  unfold extF
  rw [if_neg hn, rd_txt i h, if_neg (by simp), if_neg (by omega)]

theorem runL_app (a b : List Bs) (fs gs : List Fn) (n m : Nat) (h : runL a fs n = (gs, m, 0)) : runL (a ++ b) fs n = runL b gs m := by
  induction a generalizing fs n with
  | nil =>
    simp only [runL, Prod.mk.injEq] at h
    obtain ⟨rfl, rfl, _⟩ := h
    rfl
  | cons x r ih =>
    rw [List.cons_append, runL]
    rw [runL] at h
    split at h
    · rename_i he
      rw [if_pos he]
      exact ih _ _ h
    · rename_i he
      simp only [Prod.mk.injEq] at h
      exact absurd h.2.2 he

theorem push_snoc (fs : List Fn) (f : Fn) (i : Ins) : pushI (fs ++ [f]) i = fs ++ [⟨f.needs, f.code ++ [i]⟩] := by
  unfold pushI
  simp

theorem lastLen_snoc (fs : List Fn) (f : Fn) : lastLen (fs ++ [f]) = f.code.length := by
  unfold lastLen
  simp

theorem bare_snoc (fs : List Fn) (f : Fn) : bare (fs ++ [f]) = f.code.isEmpty := by
  unfold bare
  simp

theorem run_codes (fs : List Fn) (needs : Int) (c d : List Ins) (n : Nat) (h : codeErr d = 0) (hl : c.length + d.length ≤ 128) :
    runL (d.map fun i => txt i ++ [10]) (fs ++ [⟨needs, c⟩]) n = (fs ++ [⟨needs, c ++ d⟩], n + d.length, 0) := by
  induction d generalizing c n with
  | nil => simp [runL]
  | cons i r ih =>
    have hi : chk i = 0 ∧ codeErr r = 0 := by
      simp only [codeErr] at h
      split at h
      · exact ⟨by assumption, h⟩
      · contradiction
    rw [List.length_cons] at hl
    rw [List.map_cons, runL, put_text _ i hi.1 (by simp) (by rw [lastLen_snoc]; simp only; omega), if_pos rfl, push_snoc, ih _ _ hi.2 (by simp; omega)]
    simp
    omega

theorem fnErr_zero' {f : Fn} (h : fnErr f = 0) : 0 ≤ f.needs ∧ f.needs ≤ 255 ∧ 1 ≤ f.code.length ∧ f.code.length ≤ 128 ∧ codeErr f.code = 0 := by
  unfold fnErr at h
  split at h
  · cases h
  · split at h
    · cases h
    · exact ⟨by omega, by omega, by omega, by omega, h⟩

def lineCount (P : List Fn) : Nat := (P.map fun f => 1 + f.code.length).sum

theorem run_prog (P fs : List Fn) (n : Nat) (h : prgErr P = 0) (hl : fs.length + P.length ≤ 32) (hb : bare fs = false) :
    runL ((prLines fs.length P).map (· ++ [10])) fs n = (fs ++ P, n + lineCount P, 0) := by
  induction P generalizing fs n with
  | nil => simp [prLines, runL, lineCount]
  | cons f r ih =>
    have hf : fnErr f = 0 ∧ prgErr r = 0 := by
      simp only [prgErr] at h
      split at h
      · exact ⟨by assumption, h⟩
      · contradiction
    obtain ⟨h0, h1, h2, h3, h4⟩ := fnErr_zero' hf.1
    rw [List.length_cons] at hl
    rw [prLines, List.cons_append, List.map_cons, runL, put_header fs f.needs h0 h1 (by omega) hb, if_pos rfl, List.map_append, List.map_map]
    have hc : runL (f.code.map ((fun x => x ++ [10]) ∘ txt)) (fs ++ [⟨f.needs, []⟩]) (n + 1) = _ := run_codes fs f.needs [] f.code (n + 1) h4 (by simp; omega)
    simp only
    rw [runL_app _ _ _ _ _ _ hc]
    have := ih (fs ++ [f]) (n + 1 + f.code.length) hf.2 (by simp; omega) (by rw [bare_snoc]; cases hcc : f.code with | nil => rw [hcc] at h2; simp at h2 | cons _ _ => rfl)
    rw [List.length_append, List.length_singleton] at this
    rw [List.nil_append, this]
    simp [lineCount]
    omega

theorem prLines_free (k : Nat) (P : List Fn) (h : prgErr P = 0) : ∀ l ∈ prLines k P, (10 : UInt8) ∉ l := by
  induction P generalizing k with
  | nil => intro l hl; simp [prLines] at hl
  | cons f r ih =>
    have hf : fnErr f = 0 ∧ prgErr r = 0 := by
      simp only [prgErr] at h
      split at h
      · exact ⟨by assumption, h⟩
      · contradiction
    intro l hl
    rw [prLines, List.cons_append] at hl
    rcases List.mem_cons.1 hl with rfl | hl
    · exact header_free _ _
    · rcases List.mem_append.1 hl with hl | hl
      · obtain ⟨i, hi, rfl⟩ := List.mem_map.1 hl
        refine txt_free i ?_
        have h4 := (fnErr_zero' hf.1).2.2.2.2
        revert h4 hi
        generalize f.code = c
        intro hi h4
        induction c with
        | nil => simp at hi
        | cons x t ihc =>
          simp only [codeErr] at h4
          split at h4
          · rcases List.mem_cons.1 hi with rfl | hi
            · assumption
            · exact ihc hi h4
          · contradiction
      · exact ih _ hf.2 l hl

/-! ### How long a text is -/

theorem dec_short : ∀ (k u : Nat), u < 10 ^ (k + 1) → (Lib.decDigits u).length ≤ k + 1 := by
  intro k
  induction k with
  | zero =>
    intro u hu
    rw [dec_small (by simpa using hu)]
    simp
  | succ k ih =>
    intro u hu
    by_cases h : u < 10
    · rw [dec_small h]; simp
    · rw [dec_big h, List.length_append, List.length_singleton]
      have := ih (u / 10) (by rw [Nat.pow_succ] at hu; omega)
      omega

theorem itoa_short (x : Int) (h0 : -4294967296 < x) (h1 : x < 4294967296) : (Lib.itoa x).length ≤ 11 := by
  have e : (10 : Nat) ^ (9 + 1) = 10000000000 := by decide
  unfold Lib.itoa
  split
  · rw [List.length_cons]
    have := dec_short 9 x.natAbs (by rw [e]; omega)
    omega
  · have := dec_short 9 x.toNat (by rw [e]; omega)
    omega

theorem itoa_small (x : Int) (k : Nat) (h0 : 0 ≤ x) (h1 : x < (10 ^ (k + 1) : Nat)) : (Lib.itoa x).length ≤ k + 1 := by
  obtain ⟨n, rfl⟩ : ∃ n : Nat, x = n := ⟨x.toNat, by omega⟩
  rw [itoa_nat]
  exact dec_short k n (by omega)

theorem glue_len (x : Bs) (r : List Bs) : (glue 32 (x :: r)).length = x.length + (r.map fun w => 1 + w.length).sum := by
  induction r generalizing x with
  | nil => simp [glue]
  | cons y r ih =>
    rw [glue_cons, List.length_append, List.length_cons, ih, List.map_cons, List.sum_cons]
    omega

def most1 (op k : Nat) : Nat := if ak op k = 4 then 11 else 3
theorem most_len : ∀ op, op < 17 → (names.getD op []).length + ((flds op).map fun k => 1 + most1 op k).sum ≤ 30 := by decide
theorem small_hi : ∀ op, op < 17 → ∀ k, k < 4 → ak op k ≠ 4 → hi op k < 100 := by decide

theorem sum_le {α : Type} (l : List α) (f g : α → Nat) (h : ∀ x ∈ l, f x ≤ g x) : (l.map f).sum ≤ (l.map g).sum := by
  induction l with
  | nil => simp
  | cons a r ih =>
    rw [List.map_cons, List.map_cons, List.sum_cons, List.sum_cons]
    have h1 := h a (by simp)
    have h2 := ih (fun x hx => h x (by simp [hx]))
    omega

theorem txt_len (i : Ins) (h : chk i = 0) : (txt i).length ≤ 30 := by
  obtain ⟨ho, _, hb⟩ := chk_zero h
  refine Nat.le_trans ?_ (most_len _ ho)
  unfold txt wordsOf
  rw [glue_len, List.map_map]
  refine Nat.add_le_add_left (sum_le _ _ _ (fun k hk => ?_)) _
  obtain ⟨h4, _⟩ := flds_lt hk
  obtain ⟨c1, _, c3, _, _, _, c7, c8⟩ := kinds_fit _ ho k h4
  have hbk := hb k h4
  simp only [bad, Bool.or_eq_false_iff, decide_eq_false_iff_not] at hbk
  have hm : ∀ kind, kind ≤ 4 → (mk kind).length ≤ 1 ∧ (kind = 4 → (mk kind).length = 0) := by decide
  obtain ⟨m1, m2⟩ := hm _ c1
  show 1 + (wrOpd (ak i.op.toNat k) (i.fld k)).length ≤ 1 + most1 i.op.toNat k
  unfold wrOpd most1
  rw [List.length_append]
  split
  · rename_i e
    have := itoa_short (i.fld k) (by omega) (by omega)
    have := m2 e
    omega
  · rename_i e
    have hs := small_hi _ ho k h4 e
    have e2 : (10 : Nat) ^ (1 + 1) = 100 := by decide
    have := c3 e
    have := itoa_small (i.fld k) 1 (by omega) (by rw [e2]; omega)
    omega

theorem header_len (k : Nat) (n : Int) (hk : k < 1000) (h0 : 0 ≤ n) (h1 : n < 1000) : (header k n).length ≤ 30 := by
  unfold header
  rw [glue_len]
  have e2 : (10 : Nat) ^ (2 + 1) = 1000 := by decide
  have a := itoa_small k 2 (by omega) (by rw [e2]; omega)
  have b := itoa_small n 2 h0 (by rw [e2]; omega)
  simp only [List.map_cons, List.map_nil, List.sum_cons, List.sum_nil]
  have : wFunc.length = 4 := rfl
  have : wNeeds.length = 5 := rfl
  omega

theorem codeErr_mem {l : List Ins} (h : codeErr l = 0) : ∀ i ∈ l, chk i = 0 := by
  induction l with
  | nil => intro i hi; simp at hi
  | cons x t ih =>
    intro i hi
    simp only [codeErr] at h
    split at h
    · rcases List.mem_cons.1 hi with rfl | hi
      · assumption
      · exact ih h i hi
    · contradiction

theorem flat_le (ls : List Bs) (h : ∀ l ∈ ls, l.length ≤ 30) : (ls.flatMap (· ++ [10])).length ≤ ls.length * 31 := by
  induction ls with
  | nil => simp
  | cons a r ih =>
    have h1 := h a (by simp)
    have h2 := ih (fun l hl => h l (by simp [hl]))
    rw [List.flatMap_cons, List.length_append, List.length_append, List.length_singleton, List.length_cons, Nat.succ_mul]
    omega

theorem prLines_short (k : Nat) (P : List Fn) (h : prgErr P = 0) (hk : k + P.length ≤ 1000) : (∀ l ∈ prLines k P, l.length ≤ 30) ∧ (prLines k P).length ≤ P.length * 129 := by
  induction P generalizing k with
  | nil => exact ⟨fun l hl => by simp [prLines] at hl, by simp [prLines]⟩
  | cons f r ih =>
    have hf : fnErr f = 0 ∧ prgErr r = 0 := by
      simp only [prgErr] at h
      split at h
      · exact ⟨by assumption, h⟩
      · contradiction
    obtain ⟨h0, h1, h2, h3, h4⟩ := fnErr_zero' hf.1
    rw [List.length_cons] at hk
    obtain ⟨i1, i2⟩ := ih (k + 1) hf.2 (by omega)
    refine ⟨fun l hl => ?_, ?_⟩
    · rw [prLines, List.cons_append] at hl
      rcases List.mem_cons.1 hl with rfl | hl
      · exact header_len k f.needs (by omega) h0 (by omega)
      · rcases List.mem_append.1 hl with hl | hl
        · obtain ⟨i, hi, rfl⟩ := List.mem_map.1 hl
          exact txt_len i (codeErr_mem h4 i hi)
        · exact i1 l hl
    · rw [prLines, List.length_append, List.length_cons, List.length_map, List.length_cons, Nat.succ_mul]
      omega

theorem pack_zero {P : List Fn} (h : packErr P = 0) : 1 ≤ P.length ∧ P.length ≤ 32 ∧ prgErr P = 0 := by
  unfold packErr at h
  split at h
  · cases h
  · exact ⟨by omega, by omega, h⟩

theorem prTxt_len (P : List Fn) (h : packErr P = 0) : (prTxt P).length ≤ 131072 := by
  obtain ⟨h1, h2, h3⟩ := pack_zero h
  obtain ⟨a, b⟩ := prLines_short 0 P h3 (by omega)
  have := flat_le _ a
  unfold prTxt
  omega

theorem bare_of (P : List Fn) (h : prgErr P = 0) : bare P = false := by
  unfold bare
  cases hl : P.getLast? with
  | none => rfl
  | some f =>
    have hm : f ∈ P := List.mem_of_getLast? hl
    have : ∀ f ∈ P, fnErr f = 0 := by
      clear hl hm
      induction P with
      | nil => intro f hf; simp at hf
      | cons x t ih =>
        intro f hf
        simp only [prgErr] at h
        split at h
        · rcases List.mem_cons.1 hf with rfl | hf
          · assumption
          · exact ih h f hf
        · contradiction
    have h2 := (fnErr_zero' (this f hm)).2.2.1
    show f.code.isEmpty = false
    cases hc : f.code with
    | nil => rw [hc] at h2; simp at h2
    | cons _ _ => rfl

/-- A program's text is parsed as it. -/
theorem prs_txt (P : List Fn) (h : packErr P = 0) : prs (prTxt P) = (P, 0, 0) := by
  obtain ⟨h1, h2, h3⟩ := pack_zero h
  unfold prs
  rw [if_neg (by have := prTxt_len P h; omega)]
  unfold prTxt
  rw [lns_flat _ (prLines_free 0 P h3)]
  have := run_prog P [] 0 h3 (by simp; omega) rfl
  rw [List.length_nil] at this
  rw [this]
  unfold endL
  rw [if_neg (by simp), if_neg ?_]
  · rfl
  · rw [List.nil_append, bare_of P h3]
    simp
    intro e
    rw [e] at h1
    simp at h1

/-! ### What is parsed is written so -/

def okS (fs : List Fn) : Prop := fs = [] ∨ ∃ gs f, fs = gs ++ [f] ∧ prgErr gs = 0 ∧ 0 ≤ f.needs ∧ f.needs ≤ 255 ∧ codeErr f.code = 0 ∧ f.code.length ≤ 128 ∧ gs.length + 1 ≤ 32

theorem prLines_app (k : Nat) (P Q : List Fn) : prLines k (P ++ Q) = prLines k P ++ prLines (k + P.length) Q := by
  induction P generalizing k with
  | nil => rfl
  | cons f r ih =>
    rw [List.cons_append, prLines, prLines, ih, List.length_cons, show k + 1 + r.length = k + (r.length + 1) by omega]
    simp

theorem prgErr_app (P Q : List Fn) (h : prgErr P = 0) : prgErr (P ++ Q) = prgErr Q := by
  induction P with
  | nil => rfl
  | cons f r ih =>
    simp only [prgErr] at h
    split at h
    · rename_i hf
      rw [List.cons_append, prgErr, if_pos hf, ih h]
    · contradiction

theorem codeErr_app (P Q : List Ins) (h : codeErr P = 0) : codeErr (P ++ Q) = codeErr Q := by
  induction P with
  | nil => rfl
  | cons f r ih =>
    simp only [codeErr] at h
    split at h
    · rename_i hf
      rw [List.cons_append, codeErr, if_pos hf, ih h]
    · contradiction

theorem last_split {l : Bs} (h : l.getLast? = some 10) : l = l.dropLast ++ [10] := by
  obtain ⟨ys, hy⟩ := List.getLast?_eq_some_iff.1 h
  rw [hy, List.dropLast_concat]

theorem four {l : List Bs} (h : l.length = 4) : l = [l.headD [], l.getD 1 [], l.getD 2 [], l.getD 3 []] := by
  match l, h with
  | [a, b, c, d], _ => rfl

theorem okS_fin {gs : List Fn} {f : Fn} (h : prgErr gs = 0) (h0 : 0 ≤ f.needs) (h1 : f.needs ≤ 255) (h2 : codeErr f.code = 0) (h3 : f.code.length ≤ 128) (hb : f.code.isEmpty = false) : prgErr (gs ++ [f]) = 0 := by
  rw [prgErr_app _ _ h]
  have : fnErr f = 0 := by
    unfold fnErr
    rw [if_neg (by omega), if_neg ?_, h2]
    have : f.code.length ≠ 0 := by
      intro e
      rw [List.eq_nil_of_length_eq_zero e] at hb
      cases hb
    omega
  rw [prgErr, if_pos this]
  rfl

theorem putL_ok {fs fs' : List Fn} {l : Bs} (h : okS fs) (hp : putL fs l = (fs', 0)) : okS fs' ∧ fs' ≠ [] ∧ (prLines 0 fs').map (· ++ [10]) = (prLines 0 fs).map (· ++ [10]) ++ [l] := by
  unfold putL at hp
  split at hp
  · simp at hp
  · rename_i hl
    simp only [ne_eq, Decidable.not_not] at hl
    have hls := last_split hl
    obtain ⟨l', hl'⟩ : ∃ l', l.dropLast = l' := ⟨_, rfl⟩
    rw [hl'] at hp hls
    clear hl hl'
    subst hls
    split at hp
    · rename_i hh
      unfold begF at hp
      split at hp
      · simp at hp
      · rename_i c1
        split at hp
        · simp at hp
        · rename_i c2
          split at hp
          · simp at hp
          · rename_i c3
            split at hp
            · simp at hp
            · rename_i c4
              simp only [not_or, ne_eq, Decidable.not_not, Bool.not_eq_false, Bool.not_eq_true] at c1 c2 c3 c4
              simp only [Prod.mk.injEq, and_true] at hp
              have hw : words l' = cut 32 l' := words_eq _ (by have := words_len l'; omega)
              rw [hw] at c1 c2 c4 hp
              have e4 := four c1.1
              have d1 := dec_of _ c2.1
              have d3 := dec_of _ c2.2
              rw [c4.1] at d1
              have hhead : header fs.length (val ((cut 32 l').getD 3 [])) = l' := by
                unfold header
                rw [itoa_nat, itoa_nat, d1, d3, ← c1.2, ← hh, ← e4, glue_cut]
              subst hp
              refine ⟨?_, by simp, ?_⟩
              · right
                refine ⟨fs, _, rfl, ?_, by simp only; omega, by simp only; omega, rfl, by simp, ?_⟩
                · rcases h with rfl | ⟨gs, f, rfl, h1, h2, h3, h4, h5, _⟩
                  · rfl
                  · exact okS_fin h1 h2 h3 h4 h5 (by rw [← bare_snoc gs f]; exact c3.2)
                · rcases h with rfl | ⟨gs, f, rfl, _, _, _, _, _, h6⟩
                  · simp
                  · have := c3.1
                    simp only [List.length_append, List.length_singleton] at this ⊢
                    omega
              · rw [prLines_app, Nat.zero_add, prLines, hhead]
                simp [prLines]
    · unfold extF at hp
      split at hp
      · simp at hp
      · rename_i hne
        split at hp
        · rename_i he
          simp only [Prod.mk.injEq] at hp
          exact absurd hp.2 he
        · rename_i he
          split at hp
          · simp at hp
          · rename_i h128
            simp only [ne_eq, Decidable.not_not] at he
            simp only [Prod.mk.injEq, and_true] at hp
            obtain ⟨i, hi⟩ : ∃ i, (rd l').1 = i := ⟨_, rfl⟩
            have hrd : rd l' = (i, 0) := Prod.ext hi he
            obtain ⟨g1, g2⟩ := txt_rd l' i hrd
            rw [hi] at hp
            rcases h with rfl | ⟨gs, f, rfl, h1, h2, h3, h4, h5, h6⟩
            · exact absurd rfl hne
            · rw [lastLen_snoc] at h128
              rw [push_snoc] at hp
              subst hp
              refine ⟨.inr ⟨gs, _, rfl, h1, h2, h3, ?_, ?_, h6⟩, by simp, ?_⟩
              · rw [codeErr_app _ _ h4, codeErr, if_pos g1]
                rfl
              · rw [List.length_append, List.length_singleton]
                omega
              · rw [prLines_app, prLines_app, prLines, prLines, g2.symm]
                simp [prLines]

theorem run_ok {ls : List Bs} {fs gs : List Fn} {n m : Nat} (h : okS fs) (hr : runL ls fs n = (gs, m, 0)) : okS gs ∧ (prLines 0 gs).map (· ++ [10]) = (prLines 0 fs).map (· ++ [10]) ++ ls ∧ m = n + ls.length := by
  induction ls generalizing fs n with
  | nil =>
    simp only [runL, Prod.mk.injEq] at hr
    obtain ⟨rfl, rfl, _⟩ := hr
    exact ⟨h, by simp, rfl⟩
  | cons l r ih =>
    rw [runL] at hr
    split at hr
    · rename_i he
      obtain ⟨h1, _, h3⟩ := putL_ok h (Prod.ext rfl he : putL fs l = ((putL fs l).1, 0))
      obtain ⟨i1, i2, i3⟩ := ih h1 hr
      refine ⟨i1, by rw [i2, h3]; simp, by rw [i3, List.length_cons]; omega⟩
    · rename_i he
      simp only [Prod.mk.injEq] at hr
      exact absurd hr.2.2 he

theorem run_part {a b : List Bs} {fs gs : List Fn} {n m : Nat} (hr : runL (a ++ b) fs n = (gs, m, 0)) : ∃ hs, runL a fs n = (hs, n + a.length, 0) ∧ runL b hs (n + a.length) = (gs, m, 0) := by
  induction a generalizing fs n with
  | nil => exact ⟨fs, rfl, hr⟩
  | cons l r ih =>
    rw [List.cons_append, runL] at hr
    split at hr
    · rename_i he
      obtain ⟨hs, h1, h2⟩ := ih hr
      refine ⟨hs, ?_, ?_⟩
      · rw [runL, if_pos he, h1, List.length_cons]
        congr 2
        omega
      · rw [List.length_cons, show n + (r.length + 1) = n + 1 + r.length by omega]
        exact h2
    · rename_i he
      simp only [Prod.mk.injEq] at hr
      exact absurd hr.2.2 he

theorem endL_ok {q : List Fn × Nat × Int} {P : List Fn} {n : Nat} (h : endL q = (P, n, 0)) : q.1 = P ∧ q.2.2 = 0 ∧ P ≠ [] ∧ bare P = false ∧ n = 0 := by
  unfold endL at h
  split at h
  · rename_i h2
    simp only [Prod.mk.injEq] at h
    exact absurd h.2.2 h2
  · rename_i h2
    split at h
    · simp at h
    · rename_i h3
      simp only [ne_eq, Decidable.not_not] at h2
      simp only [Prod.mk.injEq, and_true] at h
      obtain ⟨rfl, rfl⟩ := h
      simp only [not_or, Bool.not_eq_true] at h3
      exact ⟨rfl, h2, h3.1, h3.2, rfl⟩

theorem lines_map_inj (P : List Fn) (s : Bs) (h : (prLines 0 P).map (· ++ [10]) = lns s) : prTxt P = s := by
  unfold prTxt
  rw [List.flatMap_def, h, lns_flatten]

theorem runL_bad {ls : List Bs} {fs gs : List Fn} {n m : Nat} {e : Int} (h : runL ls fs n = (gs, m, e)) (he : e ≠ 0) : gs = [] := by
  induction ls generalizing fs n with
  | nil =>
    simp only [runL, Prod.mk.injEq] at h
    exact absurd h.2.2.symm he
  | cons l r ih =>
    rw [runL] at h
    split at h
    · exact ih h
    · simp only [Prod.mk.injEq] at h
      exact h.1.symm

theorem prs_bad {s : Bs} {P : List Fn} {n : Nat} {e : Int} (h : prs s = (P, n, e)) (he : e ≠ 0) : P = [] := by
  unfold prs at h
  split at h
  · simp only [Prod.mk.injEq] at h
    exact h.1.symm
  · unfold endL at h
    split at h
    · simp only [Prod.mk.injEq] at h
      exact h.1.symm
    · split at h
      · simp only [Prod.mk.injEq] at h
        exact h.1.symm
      · simp only [Prod.mk.injEq] at h
        exact absurd h.2.2.symm he

theorem txt_ne (i : Ins) (h : chk i = 0) : txt i ≠ [] := by
  intro e
  have := rd_txt i h
  rw [e] at this
  have h2 : rd [] = (Ins.zero, 14) := by decide
  rw [h2] at this
  simp at this

theorem prLines_ne (k : Nat) (P : List Fn) (h : prgErr P = 0) : ∀ l ∈ prLines k P, l ≠ [] := by
  induction P generalizing k with
  | nil => intro l hl; simp [prLines] at hl
  | cons f r ih =>
    have hf : fnErr f = 0 ∧ prgErr r = 0 := by
      simp only [prgErr] at h
      split at h
      · exact ⟨by assumption, h⟩
      · contradiction
    intro l hl
    rw [prLines, List.cons_append] at hl
    rcases List.mem_cons.1 hl with rfl | hl
    · intro e
      have := congrArg List.length e
      unfold header at this
      rw [glue_len] at this
      simp [wFunc] at this
    · rcases List.mem_append.1 hl with hl | hl
      · obtain ⟨i, hi, rfl⟩ := List.mem_map.1 hl
        exact txt_ne i (codeErr_mem (fnErr_zero' hf.1).2.2.2.2 i hi)
      · exact ih _ hf.2 l hl

theorem flat_lns (a : List Bs) (b : Bs) (ha : ∀ l ∈ a, (10 : UInt8) ∉ l) (hb : (10 : UInt8) ∉ b) (hn : b ≠ []) : lns (a.flatMap (· ++ [10]) ++ b) = a.map (· ++ [10]) ++ [b] := by
  induction a with
  | nil => exact lns_one b hb hn
  | cons x r ih =>
    rw [List.flatMap_cons, List.append_assoc, List.append_assoc, List.singleton_append, lns_app x (ha x (by simp)), ih (fun l hl => ha l (by simp [hl]))]
    rfl

/-- What is parsed is written so; and what becomes of a text that lacks its end, or has one more. -/
theorem prs_only {s : Bs} {P : List Fn} {n : Nat} (h : prs s = (P, n, 0)) :
    packErr P = 0 ∧ prTxt P = s ∧ n = 0 ∧ s ≠ [] ∧ (s.length ≤ 131071 → ∃ a, prs s.dropLast = ([], a, 11) ∧ prs (s ++ [10]) = ([], a + 1, 14)) := by
  unfold prs at h
  split at h
  · simp at h
  · rename_i hs
    obtain ⟨q1, q2, q3, q4, q5⟩ := endL_ok h
    obtain ⟨⟨gs, m, e⟩, hq⟩ : ∃ q, runL (lns s) [] 0 = q := ⟨_, rfl⟩
    rw [hq] at q1 q2
    simp only at q1 q2
    subst q1 q2
    obtain ⟨h1, h2, h3⟩ := run_ok (.inl rfl : okS []) hq
    have h2 : (prLines 0 gs).map (· ++ [10]) = lns s := by simpa [prLines] using h2
    have htx := lines_map_inj gs s h2
    have hpe : prgErr gs = 0 ∧ gs.length ≤ 32 := by
      rcases h1 with rfl | ⟨hs', f, rfl, g1, g2, g3, g4, g5, g6⟩
      · exact absurd rfl q3
      · exact ⟨okS_fin g1 g2 g3 g4 g5 (by rw [← bare_snoc hs' f]; exact q4), by simp; omega⟩
    have hl0 : 0 < gs.length := by
      rcases Nat.eq_zero_or_pos gs.length with e | e
      · exact absurd (List.eq_nil_of_length_eq_zero e) q3
      · exact e
    have hfree := prLines_free 0 gs hpe.1
    have hnem := prLines_ne 0 gs hpe.1
    have hlne : prLines 0 gs ≠ [] := by
      cases gs with
      | nil => exact absurd rfl q3
      | cons f r => simp [prLines]
    obtain ⟨a, b, hab⟩ : ∃ a b, prLines 0 gs = a ++ [b] := ⟨_, _, (List.dropLast_concat_getLast hlne).symm⟩
    have hsab : s = a.flatMap (· ++ [10]) ++ b ++ [10] := by
      rw [← htx]
      unfold prTxt
      rw [hab]
      simp
    refine ⟨?_, htx, q5, ?_, fun hlen => ⟨a.length + 1, ?_, ?_⟩⟩
    · unfold packErr
      rw [if_neg (by omega), hpe.1]
    · rw [hsab]; simp
    · have hd : s.dropLast = a.flatMap (· ++ [10]) ++ b := by rw [hsab, List.dropLast_concat]
      have hfb : (10 : UInt8) ∉ b := hfree b (by rw [hab]; simp)
      have hln := flat_lns a b (fun l hl => hfree l (by rw [hab]; simp [hl])) hfb (hnem b (by rw [hab]; simp))
      have hrun : runL (a.map (· ++ [10]) ++ [b ++ [10]]) [] 0 = (gs, m, 0) := by
        rw [← hq, ← h2, hab]
        simp
      obtain ⟨hs', r1, _⟩ := run_part hrun
      unfold prs
      rw [if_neg (by rw [List.length_dropLast]; omega), hd, hln, runL_app _ _ _ _ _ _ r1]
      have hput : putL hs' b = ([], 11) := by
        unfold putL
        rw [if_pos (fun e => hfb (List.mem_of_getLast? e))]
      rw [runL, hput, if_neg (by decide)]
      unfold endL
      rw [if_pos (by simp)]
      simp
    · have hls : s ++ [10] = ((prLines 0 gs) ++ [[]]).flatMap (· ++ [10]) := by
        rw [← htx]
        unfold prTxt
        simp
      have hln := lns_flat (prLines 0 gs ++ [[]]) (fun l hl => by
        rcases List.mem_append.1 hl with hl | hl
        · exact hfree l hl
        · simp at hl; subst hl; simp)
      unfold prs
      rw [if_neg (by simp; omega), hls, hln, List.map_append, h2, runL_app _ _ _ _ _ _ hq]
      have hput : putL gs [10] = ([], 14) := by
        unfold putL
        rw [if_neg (by decide)]
        show (if (cut 32 []).headD [] = wFunc then begF gs (words []) else extF gs []) = _
        rw [if_neg (by decide)]
        unfold extF
        rw [if_neg q3]
        have h2 : rd [] = (Ins.zero, 14) := by decide
        rw [h2, if_pos (by decide)]
      show endL (runL [[10]] gs m) = _
      rw [runL, hput, if_neg (by decide)]
      unfold endL
      rw [if_pos (by simp)]
      have : m = a.length + 1 := by
        rw [h3, ← h2, hab]
        simp
      simp only [this]

end Go.Proofs.YtepbnneggpcbcaaGreatDoor
