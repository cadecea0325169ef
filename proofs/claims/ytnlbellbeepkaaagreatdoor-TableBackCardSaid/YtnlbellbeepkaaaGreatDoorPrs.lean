/-
  Stage 7, plain: the rows of a text.
-/
import Derived.Test.YtnlbellbeepkaaaGreatDoorNums
import Derived.Test.YtnlbellbeepkaaaGreatDoorChk
namespace Go.Proofs.YtnlbellbeepkaaaGreatDoor
open Go.RowKit

/-! ### Numbers -/

def digs (w : Bs) : Bs := if w.headD 0 = 45 then w.tail else w
def wrtn (w : Bs) : Bool := !((digs w).isEmpty || ((digs w).headD 0 == 48 && w != [48])) && (digs w).all isDig
def numX (w : Bs) : Int := if w.headD 0 = 45 then -(val (digs w) : Int) else val (digs w)
def inI (x : Int) : Prop := -9223372036854775808 ≤ x ∧ x ≤ 9223372036854775807
instance (x : Int) : Decidable (inI x) := inferInstanceAs (Decidable (_ ∧ _))
def numV (w : Bs) : Int × Int := if wrtn w = true then (if inI (numX w) then (numX w, 0) else (0, 10)) else (0, 11)

theorem wrtn_itoa {w : Bs} (h : wrtn w = true) : Lib.itoa (numX w) = w := by
  unfold wrtn at h
  simp only [Bool.and_eq_true, Bool.not_eq_true', Bool.or_eq_false_iff] at h
  obtain ⟨⟨h1, h2⟩, h3⟩ := h
  unfold numX
  by_cases h45 : w.headD 0 = 45
  · rw [if_pos h45]
    have hd : digs w = w.tail := by unfold digs; rw [if_pos h45]
    rw [hd] at h1 h2 h3 ⊢
    cases w with
    | nil => simp at h1
    | cons a d =>
      simp only [List.headD_cons] at h45
      subst h45
      simp only [List.tail_cons] at h1 h2 h3 ⊢
      have hne : (d.headD 0 == 48) = false := by
        have : ((45 :: d : Bs) != [48]) = true := by simp
        rw [this, Bool.and_true] at h2
        exact h2
      have hn : isNum d = true := by
        unfold isNum lead
        rw [h1, hne, h3]
        rfl
      have hdo := dec_of d hn
      have hp : 0 < val d := by
        rcases Nat.eq_zero_or_pos (val d) with h0 | h0
        · rw [h0] at hdo
          rw [← hdo, dec_small (by omega)] at hne
          simp at hne
        · exact h0
      rw [itoa_neg' _ hp, hdo]
  · rw [if_neg h45]
    have hd : digs w = w := by unfold digs; rw [if_neg h45]
    rw [hd] at h1 h2 h3 ⊢
    have hn : isNum w = true := by
      unfold isNum lead
      rw [h1, h3, Bool.and_true, Bool.false_or, Bool.not_eq_true']
      by_cases h48 : (w.headD 0 == 48) = true
      · rw [h48, Bool.true_and] at h2
        have : w = [48] := by simpa using h2
        rw [this]
        rfl
      · rw [Bool.not_eq_true] at h48
        rw [h48]
        rfl
    rw [itoa_nat, dec_of w hn]

theorem numV_ok {w : Bs} (h : (numV w).2 = 0) : Lib.itoa (numV w).1 = w ∧ inI (numV w).1 := by
  unfold numV at h ⊢
  by_cases h1 : wrtn w = true
  · rw [if_pos h1] at h ⊢
    by_cases h2 : inI (numX w)
    · rw [if_pos h2]
      exact ⟨wrtn_itoa h1, h2⟩
    · rw [if_neg h2] at h
      simp at h
  · rw [if_neg h1] at h
    simp at h

theorem numV_itoa {x : Int} (h : inI x) : numV (Lib.itoa x) = (x, 0) := by
  have key : wrtn (Lib.itoa x) = true ∧ numX (Lib.itoa x) = x := by
    by_cases hx : x < 0
    · obtain ⟨n, rfl⟩ : ∃ n : Nat, x = -(n : Int) := ⟨x.natAbs, by omega⟩
      have hn : 0 < n := by omega
      rw [itoa_neg' n hn]
      have hd : digs (45 :: Lib.decDigits n) = Lib.decDigits n := by unfold digs; rw [if_pos (show (45 :: Lib.decDigits n : Bs).headD 0 = 45 from rfl)]; rfl
      constructor
      · unfold wrtn
        rw [hd, dec_all, Bool.and_true]
        have h1 := dec_len n
        have h2 := dec_head n hn
        have h3 : (Lib.decDigits n).isEmpty = false := by
          cases hh : Lib.decDigits n with
          | nil => rw [hh] at h1; simp at h1
          | cons a b => rfl
        have h4 : ((Lib.decDigits n).headD 0 == 48) = false := by rw [beq_eq_false_iff_ne]; exact h2
        rw [h3, h4]
        rfl
      · unfold numX
        rw [hd, if_pos (show (45 :: Lib.decDigits n : Bs).headD 0 = 45 from rfl), dec_val]
    · obtain ⟨n, rfl⟩ : ∃ n : Nat, x = (n : Int) := ⟨x.toNat, by omega⟩
      rw [itoa_nat]
      have h1 := dec_len n
      have ha := dec_all n
      have h45 : (Lib.decDigits n).headD 0 ≠ 45 := by
        cases hh : Lib.decDigits n with
        | nil => rw [hh] at h1; simp at h1
        | cons a b =>
          rw [hh] at ha
          simp only [List.all_cons, Bool.and_eq_true] at ha
          have := dig_of ha.1
          intro e
          simp only [List.headD_cons] at e
          subst e
          have : (45 : UInt8).toNat = 45 := rfl
          omega
      have hd : digs (Lib.decDigits n) = Lib.decDigits n := by unfold digs; rw [if_neg h45]
      constructor
      · unfold wrtn
        rw [hd, ha, Bool.and_true]
        have h3 : (Lib.decDigits n).isEmpty = false := by
          cases hh : Lib.decDigits n with
          | nil => rw [hh] at h1; simp at h1
          | cons a b => rfl
        rw [h3, Bool.false_or, Bool.not_eq_true']
        by_cases h0 : n = 0
        · subst h0
          rw [dec_small (by omega)]
          rfl
        · have h4 : ((Lib.decDigits n).headD 0 == 48) = false := by rw [beq_eq_false_iff_ne]; exact dec_head n (by omega)
          rw [h4]
          rfl
      · unfold numX
        rw [hd, if_neg h45, dec_val]
  unfold numV
  rw [if_pos key.1, key.2, if_pos h]

/-! ### Rows -/

def parE (w : Bs) : Int := if w = [45] then 0 else if (numV w).2 = 0 then (if (numV w).1 < 0 then 11 else 0) else (numV w).2
def parV (w : Bs) : Int := if w = [45] then -1 else (numV w).1
def kindN (w : Bs) : Option Nat := kindT.findIdx? (· == w)
def clW (w : Bs) : Bs := if w = [45] then [] else if w = [] then [32] else w

def lnE (ws : List Bs) : Nat → Int
  | 0 => parE (ws.getD 0 [])
  | 1 => (numV (ws.getD 1 [])).2
  | 2 => (numV (ws.getD 2 [])).2
  | 3 => if (kindN (ws.getD 3 [])).isSome then 0 else 14
  | 4 => (numV (ws.getD 4 [])).2
  | 5 => (numV (ws.getD 5 [])).2
  | _ => 0
def lnR (ws : List Bs) : Tw := ⟨parV (ws.getD 0 []), (numV (ws.getD 1 [])).1, (numV (ws.getD 2 [])).1, ((kindN (ws.getD 3 [])).getD 0 : Nat), (numV (ws.getD 4 [])).1, (numV (ws.getD 5 [])).1, bs (clW (ws.getD 6 []))⟩

theorem kindN_some {w : Bs} {k : Nat} (h : kindN w = some k) : k < 5 ∧ kindW (k : Int) = w := by
  unfold kindN at h
  rw [List.findIdx?_eq_some_iff_getElem] at h
  obtain ⟨h1, h2, _⟩ := h
  have h5 : kindT.length = 5 := rfl
  refine ⟨by omega, ?_⟩
  unfold kindW
  rw [Int.toNat_natCast, List.getD_eq_getElem?_getD, List.getElem?_eq_getElem h1]
  simpa using h2
theorem kindN_kind : ∀ k : Nat, k < 5 → kindN (kindT.getD k []) = some k := by decide

/-- What a good line's words are. -/
structure Good (ws : List Bs) : Prop where
  len : ws.length = 7
  ok : ∀ j, j < 7 → lnE ws j = 0

theorem bin_free {r : Tw} (h : binB r = true) (c : UInt8) (h0 : c ≠ 48) (h1 : c ≠ 49) : c ∉ r.cl.data.toList := fun hm => by
  unfold binB binL at h
  rw [List.all_eq_true] at h
  have := h c hm
  simp [h0, h1] at this

theorem line_back {ws : List Bs} (hg : Good ws) (hb : binB (lnR ws) = true) : rowT (lnR ws) = glue 32 ws ++ [10] ∧ Bnd (lnR ws) ∧ (0 ≤ (lnR ws).kind ∧ (lnR ws).kind ≤ 4) := by
  obtain ⟨hl, hok⟩ := hg
  match ws, hl with
  | [w0, w1, w2, w3, w4, w5, w6], _ =>
    have e0 : parE w0 = 0 := hok 0 (by omega)
    have e1 : (numV w1).2 = 0 := hok 1 (by omega)
    have e2 : (numV w2).2 = 0 := hok 2 (by omega)
    have e3 : (if (kindN w3).isSome then (0 : Int) else 14) = 0 := hok 3 (by omega)
    have e4 : (numV w4).2 = 0 := hok 4 (by omega)
    have e5 : (numV w5).2 = 0 := hok 5 (by omega)
    have n1 := numV_ok e1
    have n2 := numV_ok e2
    have n4 := numV_ok e4
    have n5 := numV_ok e5
    have hp : (if parV w0 = -1 then ([45] : Bs) else Lib.itoa (parV w0)) = w0 ∧ inI (parV w0) := by
      unfold parE at e0
      unfold parV
      by_cases h45 : w0 = [45]
      · rw [if_pos h45, if_pos rfl]
        exact ⟨h45.symm, by unfold inI; omega⟩
      · rw [if_neg h45] at e0 ⊢
        by_cases hz : (numV w0).2 = 0
        · rw [if_pos hz] at e0
          have n0 := numV_ok hz
          by_cases hlt : (numV w0).1 < 0
          · rw [if_pos hlt] at e0
            simp at e0
          · rw [if_neg (by omega)]
            exact n0
        · rw [if_neg hz] at e0
          exact absurd e0 hz
    have hk : kindW (((kindN w3).getD 0 : Nat) : Int) = w3 ∧ (kindN w3).getD 0 < 5 := by
      cases hh : kindN w3 with
      | none => rw [hh] at e3; simp at e3
      | some k =>
        have := kindN_some hh
        exact ⟨this.2, this.1⟩
    have hc : (if (bs (clW w6)).size = 0 then ([45] : Bs) else (bs (clW w6)).data.toList) = w6 := by
      have hb2 : binL (clW w6) = true := hb
      rw [bs_size, bs_data]
      unfold clW at hb2 ⊢
      by_cases h45 : w6 = [45]
      · rw [if_pos h45]
        exact h45.symm
      · rw [if_neg h45] at hb2 ⊢
        by_cases h0 : w6 = []
        · rw [if_pos h0] at hb2
          exact absurd hb2 (by decide)
        · rw [if_neg h0, if_neg]
          intro hh
          exact h0 (List.eq_nil_of_length_eq_zero hh)
    refine ⟨?_, ⟨hp.2.1, hp.2.2, n1.2.1, n1.2.2, n2.2.1, n2.2.2, n4.2.1, n4.2.2, n5.2.1, n5.2.2⟩, ?_⟩
    · have hw : rowW (lnR [w0, w1, w2, w3, w4, w5, w6]) = [w0, w1, w2, w3, w4, w5, w6] := by
        show [if parV w0 = -1 then ([45] : Bs) else Lib.itoa (parV w0), Lib.itoa (numV w1).1, Lib.itoa (numV w2).1, kindW (((kindN w3).getD 0 : Nat) : Int), Lib.itoa (numV w4).1, Lib.itoa (numV w5).1, if (bs (clW w6)).size = 0 then ([45] : Bs) else (bs (clW w6)).data.toList] = _
        rw [hp.1, n1.1, n2.1, hk.1, n4.1, n5.1, hc]
      unfold rowT
      rw [hw]
    · show (0 : Int) ≤ (((kindN w3).getD 0 : Nat) : Int) ∧ (((kindN w3).getD 0 : Nat) : Int) ≤ 4
      have := hk.2
      omega

theorem kindW_free : ∀ k : Nat, k < 5 → (32 : UInt8) ∉ kindT.getD k [] ∧ (10 : UInt8) ∉ kindT.getD k [] := by decide

theorem line_words {r : Tw} (b : Bnd r) (hk : 0 ≤ r.kind ∧ r.kind ≤ 4) (hp : r.par = -1 ∨ 0 ≤ r.par) (hb : binB r = true) :
    Good (rowW r) ∧ lnR (rowW r) = r ∧ (∀ w ∈ rowW r, (32 : UInt8) ∉ w) ∧ (10 : UInt8) ∉ glue 32 (rowW r) := by
  obtain ⟨k, hkk⟩ : ∃ k : Nat, r.kind = k := ⟨r.kind.toNat, by omega⟩
  have hk5 : k < 5 := by omega
  have hkw : kindW r.kind = kindT.getD k [] := by unfold kindW; rw [hkk, Int.toNat_natCast]
  have m1 := numV_itoa (x := r.in_) ⟨b.i0, b.i1⟩
  have m2 := numV_itoa (x := r.fn) ⟨b.f0, b.f1⟩
  have m4 := numV_itoa (x := r.v) ⟨b.v0, b.v1⟩
  have m5 := numV_itoa (x := r.st) ⟨b.s0, b.s1⟩
  have m0 : parE (if r.par = -1 then ([45] : Bs) else Lib.itoa r.par) = 0 ∧ parV (if r.par = -1 then ([45] : Bs) else Lib.itoa r.par) = r.par := by
    by_cases h : r.par = -1
    · rw [if_pos h]
      exact ⟨rfl, by rw [h]; rfl⟩
    · rw [if_neg h]
      have n0 := numV_itoa (x := r.par) ⟨b.p0, b.p1⟩
      have h45 : Lib.itoa r.par ≠ [45] := fun e => by
        rw [e] at n0
        have : numV [45] = (0, 11) := by decide
        rw [this] at n0
        simp at n0
      unfold parE parV
      rw [if_neg h45, if_neg h45, n0]
      exact ⟨by rw [if_pos rfl, if_neg (by omega)], rfl⟩
  have mk : kindN (kindW r.kind) = some k := by rw [hkw]; exact kindN_kind k hk5
  have mc : bs (clW (if r.cl.size = 0 then ([45] : Bs) else r.cl.data.toList)) = r.cl := by
    by_cases h : r.cl.size = 0
    · rw [if_pos h]
      apply ByteArray.ext
      exact (Array.eq_empty_of_size_eq_zero h).symm
    · rw [if_neg h]
      have h45 := bin_free hb 45 (by decide) (by decide)
      have hne : r.cl.data.toList ≠ [45] := fun e => h45 (by rw [e]; simp)
      have hne2 : r.cl.data.toList ≠ [] := fun e => h (by have := congrArg List.length e; simpa using this)
      unfold clW
      rw [if_neg hne, if_neg hne2]
      exact bs_of r.cl
  have hf : ∀ c : UInt8, isDig c = false → c ≠ 45 → c ∉ kindT.getD k [] → ∀ w ∈ rowW r, c ∉ w := fun c hd h45 hkf w hw => by
    have hcl := bin_free hb c (fun e => by rw [e] at hd; cases hd) (fun e => by rw [e] at hd; cases hd)
    have h45' : c ∉ ([45] : Bs) := by simpa using h45
    unfold rowW at hw
    simp only [List.mem_cons, List.mem_nil_iff, or_false] at hw
    rcases hw with rfl | rfl | rfl | rfl | rfl | rfl | rfl
    · split
      · exact h45'
      · exact itoa_free _ _ hd h45
    · exact itoa_free _ _ hd h45
    · exact itoa_free _ _ hd h45
    · rw [hkw]; exact hkf
    · exact itoa_free _ _ hd h45
    · exact itoa_free _ _ hd h45
    · split
      · exact h45'
      · exact hcl
  refine ⟨⟨rfl, fun j hj => ?_⟩, ?_, hf 32 (by decide) (by decide) (kindW_free k hk5).1, ?_⟩
  · match j, hj with
    | 0, _ => exact m0.1
    | 1, _ => show (numV (Lib.itoa r.in_)).2 = 0; rw [m1]
    | 2, _ => show (numV (Lib.itoa r.fn)).2 = 0; rw [m2]
    | 3, _ => show (if (kindN (kindW r.kind)).isSome then (0 : Int) else 14) = 0; rw [mk]; rfl
    | 4, _ => show (numV (Lib.itoa r.v)).2 = 0; rw [m4]
    | 5, _ => show (numV (Lib.itoa r.st)).2 = 0; rw [m5]
    | 6, _ => rfl
  · show Tw.mk (parV (if r.par = -1 then ([45] : Bs) else Lib.itoa r.par)) (numV (Lib.itoa r.in_)).1 (numV (Lib.itoa r.fn)).1 (((kindN (kindW r.kind)).getD 0 : Nat) : Int) (numV (Lib.itoa r.v)).1 (numV (Lib.itoa r.st)).1 (bs (clW (if r.cl.size = 0 then ([45] : Bs) else r.cl.data.toList))) = r
    rw [m0.2, m1, m2, mk, m4, m5, mc, Option.getD_some, ← hkk]
  · have h10 := hf 10 (by decide) (by decide) (kindW_free k hk5).2
    have : ∀ ws : List Bs, (∀ w ∈ ws, (10 : UInt8) ∉ w) → (10 : UInt8) ∉ glue 32 ws := by
      intro ws
      induction ws with
      | nil => intro _; simp [glue]
      | cons x t ih =>
        intro h
        cases t with
        | nil => exact h x (by simp)
        | cons y t =>
          rw [glue_cons]
          intro hm
          rcases List.mem_append.1 hm with hm | hm
          · exact h x (by simp) hm
          · rcases List.mem_cons.1 hm with hm | hm
            · cases hm
            · exact ih (fun w hw => h w (by simp [hw])) hm
    exact this _ h10

/-! ### Texts -/

def wrds (s : Bs) : List Bs := cutN 32 7 s
/-- A line that can be read. -/
def rdG (x : Bs) : Prop := ∃ t, x = t ++ [10] ∧ Good (wrds t)
def rdR (x : Bs) : Tw := lnR (wrds x.dropLast)

theorem wrds_glue {t : Bs} (h : (wrds t).length = 7) : wrds t = cut 32 t ∧ glue 32 (wrds t) = t := by
  have h1 : wrds t = cut 32 t := by
    refine cutN_eq 32 7 t ?_
    unfold wrds at h
    rw [cutN_len] at h
    omega
  exact ⟨h1, by rw [h1, glue_cut]⟩

/-- Lines that make a table, one by one. -/
structure Steps (L : List Bs) (m : List Tw) : Prop where
  len : m.length = L.length
  at_ : ∀ (i : Nat) x, L[i]? = some x → rdG x ∧ m[i]? = some (rdR x) ∧ rightE (m.take i) (rdR x) = 0

theorem Steps.nil : Steps [] [] := ⟨rfl, fun i x h => by simp at h⟩

theorem Steps.snoc {L : List Bs} {m : List Tw} (h : Steps L m) {x : Bs} (hg : rdG x) (he : rightE m (rdR x) = 0) : Steps (L ++ [x]) (m ++ [rdR x]) := by
  have hl := h.len
  refine ⟨by simp [hl], fun i y hy => ?_⟩
  rcases Nat.lt_or_ge i L.length with hi | hi
  · rw [List.getElem?_append_left hi] at hy
    obtain ⟨h1, h2, h3⟩ := h.at_ i y hy
    exact ⟨h1, by rw [List.getElem?_append_left (by omega)]; exact h2, by rw [List.take_append_of_le_length (by omega)]; exact h3⟩
  · rw [List.getElem?_append_right hi] at hy
    obtain rfl : i = L.length := by
      have := (List.getElem?_eq_some_iff.1 hy).1
      simp at this
      omega
    simp at hy
    subst hy
    refine ⟨hg, by rw [List.getElem?_append_right (by omega)]; simp [hl], ?_⟩
    rw [List.take_append_of_le_length (by omega), List.take_of_length_le (by omega)]
    exact he

/-- Behind a line that is wrong there is no table. -/
theorem Steps.stop {L R : List Bs} {m : List Tw} (h : Steps L m) {x : Bs} (hx : ¬ (rdG x ∧ rightE m (rdR x) = 0)) : ¬ ∃ n, Steps (L ++ x :: R) n := by
  rintro ⟨n, hn⟩
  have hnl := hn.len
  simp at hnl
  obtain ⟨h1, h2, h3⟩ := hn.at_ L.length x (by rw [List.getElem?_append_right (Nat.le_refl _)]; simp)
  have e : n.take L.length = m := by
    apply List.ext_getElem?
    intro i
    rw [List.getElem?_take]
    by_cases hi : i < L.length
    · rw [if_pos hi]
      have hy : L[i]? = some L[i] := List.getElem?_eq_getElem hi
      rw [(h.at_ i _ hy).2.1]
      exact (hn.at_ i L[i] (by rw [List.getElem?_append_left hi]; exact hy)).2.1
    · rw [if_neg hi, List.getElem?_eq_none (by have := h.len; omega)]
  rw [e] at h3
  exact hx ⟨h1, h3⟩

theorem Steps.uniq {L : List Bs} {m n : List Tw} (h : Steps L m) (k : Steps L n) : m = n := by
  apply List.ext_getElem?
  intro i
  rcases Nat.lt_or_ge i L.length with hi | hi
  · have hy : L[i]? = some L[i] := List.getElem?_eq_getElem hi
    rw [(h.at_ i _ hy).2.1, (k.at_ i _ hy).2.1]
  · rw [List.getElem?_eq_none (by have := h.len; omega), List.getElem?_eq_none (by have := k.len; omega)]

theorem Steps.right {L : List Bs} {m : List Tw} (h : Steps L m) : RightN m m.length := fun i r hi hr => by
  have hl := h.len
  have hy : L[i]? = some (L[i]'(by omega)) := List.getElem?_eq_getElem (by omega)
  obtain ⟨_, h2, h3⟩ := h.at_ i _ hy
  rw [hr] at h2
  injection h2 with h2
  rw [h2]
  exact h3

/-- What is told of a row that was read. -/
theorem Steps.row {L : List Bs} {m : List Tw} (h : Steps L m) {i : Nat} {r : Tw} (hr : m[i]? = some r) : ∃ x, L[i]? = some x ∧ rowT r = x ∧ Bnd r := by
  have hl := h.len
  have hi := (List.getElem?_eq_some_iff.1 hr).1
  have hy : L[i]? = some (L[i]'(by omega)) := List.getElem?_eq_getElem (by omega)
  obtain ⟨⟨t, ht, hg⟩, h2, h3⟩ := h.at_ i _ hy
  rw [hr] at h2
  injection h2 with h2
  have hb := (rightE_zero.1 h3).2.2.1
  have hrr : rdR (L[i]'(by omega)) = lnR (wrds t) := by unfold rdR; rw [ht, List.dropLast_concat]
  rw [hrr] at h2 hb
  obtain ⟨g1, g2, _⟩ := line_back hg hb
  refine ⟨_, hy, ?_, by rw [h2]; exact g2⟩
  rw [h2, g1, (wrds_glue hg.len).2]
  exact ht.symm

theorem Steps.text {L : List Bs} {m : List Tw} (h : Steps L m) : tabT m = L.flatten := by
  have e : m.map rowT = L := by
    apply List.ext_getElem?
    intro i
    rw [List.getElem?_map]
    cases hr : m[i]? with
    | none =>
      have := List.getElem?_eq_none_iff.1 hr
      rw [List.getElem?_eq_none (by have := h.len; omega)]
      rfl
    | some r =>
      obtain ⟨x, hx, hxr, _⟩ := h.row hr
      rw [hx, ← hxr]
      rfl
  unfold tabT
  rw [← e, List.flatMap_def]

theorem steps_back {s : Bs} {m : List Tw} (hs : s ≠ []) (h : Steps (lns s) m) : chk m = 0 ∧ tabT m = s ∧ ∀ (i : Nat) r, m[i]? = some r → Bnd r ∧ r.cl.size ≤ s.length := by
  have ht : tabT m = s := by rw [h.text, lns_flatten]
  refine ⟨chk_zero.2 ⟨?_, h.right⟩, ht, fun i r hr => ?_⟩
  · rcases Nat.eq_zero_or_pos m.length with h0 | h0
    · rw [List.eq_nil_of_length_eq_zero h0] at ht
      exact absurd ht.symm hs
    · exact h0
  · obtain ⟨x, _, hx, hb⟩ := h.row hr
    refine ⟨hb, ?_⟩
    have h1 : (rowT r).length ≤ (tabT m).length := by
      have e : tabT m = tabT (m.take i) ++ (rowT r ++ tabT (m.drop (i + 1))) := by
        have h2 : tabT m = tabT (m.take (i + 1)) ++ tabT (m.drop (i + 1)) := by unfold tabT; rw [← List.flatMap_append, List.take_append_drop]
        rw [h2, tabT_snoc hr, List.append_assoc]
      rw [e]
      simp only [List.length_append]
      omega
    rw [ht] at h1
    have h3 : r.cl.size ≤ (rowT r).length := by
      unfold rowT rowW
      have h8 : r.cl.size ≤ (if r.cl.size = 0 then ([45] : Bs) else r.cl.data.toList).length := by
        split
        · rename_i h0
          simp [h0]
        · simp
      simp only [glue, List.length_append, List.length_cons, List.length_nil]
      omega
    omega

theorem steps_of {l : List Tw} (hc : chk l = 0) (hb : ∀ (i : Nat) r, l[i]? = some r → Bnd r) : Steps (lns (tabT l)) l ∧ tabT l ≠ [] := by
  have hr := (chk_zero.1 hc).2
  have hpos := (chk_zero.1 hc).1
  have htab := tabl_of_chk hc
  have hrow : ∀ (i : Nat) r, l[i]? = some r → Good (rowW r) ∧ lnR (rowW r) = r ∧ (∀ w ∈ rowW r, (32 : UInt8) ∉ w) ∧ (10 : UInt8) ∉ glue 32 (rowW r) := fun i r hi => by
    have hil := (List.getElem?_eq_some_iff.1 hi).1
    have h0 := rightE_zero.1 (hr i r hil hi)
    have hrng : (0 ≤ r.kind ∧ r.kind ≤ 4) := by
      have := h0.2.1
      unfold rngB at this
      simp only [decide_eq_true_eq] at this
      exact this.2.2.2.1
    refine line_words (hb i r hi) hrng ?_ h0.2.2.1
    have hp := parAt_of' hi
    by_cases h00 : i = 0
    · left
      subst h00
      rw [← hp]
      exact htab.1 (by rintro rfl; simp at hi)
    · right
      have := htab.2 i (by omega) (by omega)
      rw [hp] at this
      exact this.1
  have hlns : lns (tabT l) = l.map rowT := by
    have e : tabT l = (l.map (fun r => glue 32 (rowW r))).flatMap (· ++ [10]) := by
      unfold tabT rowT
      rw [List.flatMap_map]
    rw [e, lns_flat _ (fun x hx => by
      obtain ⟨r, hrm, rfl⟩ := List.mem_map.1 hx
      obtain ⟨i, hi, rfl⟩ := List.getElem_of_mem hrm
      exact (hrow i _ (List.getElem?_eq_getElem hi)).2.2.2), List.map_map]
    rfl
  refine ⟨⟨by rw [hlns, List.length_map], fun i x hx => ?_⟩, fun h => ?_⟩
  · rw [hlns, List.getElem?_map] at hx
    obtain ⟨r, hi, rfl⟩ := Option.map_eq_some_iff.1 hx
    obtain ⟨g1, g2, g3, _⟩ := hrow i r hi
    have hw : wrds (glue 32 (rowW r)) = rowW r := by
      have hcg := cut_glue 32 (rowW r) g3 (by unfold rowW; simp)
      unfold wrds
      rw [cutN_eq 32 7 _ (by rw [hcg]; exact Nat.le_of_lt (by rw [g1.len]; omega)), hcg]
    have hrd : rdR (rowT r) = r := by
      unfold rdR rowT
      rw [List.dropLast_concat, hw, g2]
    refine ⟨⟨_, rfl, by rw [hw]; exact g1⟩, by rw [hrd]; exact hi, ?_⟩
    rw [hrd]
    exact hr i r (List.getElem?_eq_some_iff.1 hi).1 hi
  · have : lns (tabT l) = [] := by rw [h]; rfl
    rw [hlns] at this
    have := congrArg List.length this
    simp at this
    rw [this] at hpos
    simp at hpos

end Go.Proofs.YtnlbellbeepkaaaGreatDoor
