/-
  Who is forked twice, the same: rows further behind.
-/
import Derived.Test.YtpjcdjooiaefdaaDoorVSer
namespace Go.Proofs.YtpjcdjooiaefdaaDoor
open Go.RowKit
set_option linter.unusedVariables false

def shI (p d : Nat) (j : Int) : Int := if (p : Int) ≤ j then j + d else j
def Frm.sh (p d : Nat) (F : Frm) : Frm := { F with h := fun k => shI p d (F.h k) }
def Rw.sh (p d : Nat) (c : Int → Int) (r : Rw) : Rw := { r with par := shI p d r.par, in_ := if r.par < p then c r.in_ else r.in_ }
def Tk.sh (p d : Nat) (c : Int → Int) (T : Tk) : Tk := { T with F := T.F.sh p d, row := T.row.sh p d c }
def shL (p d : Nat) (c : Int → Int) (L : List Rw) : List Rw := L.map (Rw.sh p d c)
theorem shL_add (p d : Nat) (c : Int → Int) (L M : List Rw) : shL p d c (L ++ M) = shL p d c L ++ shL p d c M := List.map_append
theorem shL_len (p d : Nat) (c : Int → Int) (L : List Rw) : (shL p d c L).length = L.length := List.length_map _

section
variable {P : List Fn} {p d : Nat} {c : Int → Int}

theorem shI_neg : shI p d (-1) = -1 := by unfold shI; rw [if_neg (by omega)]
theorem shI_big {j : Int} (h : (p : Int) ≤ j) : shI p d j = j + d := by unfold shI; rw [if_pos h]

theorem Frm.did_sh (F : Frm) (o a b c : Nat) (n : Int) : (F.sh p d).did o a b c n = (F.did o a b c n).sh p d := by
  unfold Frm.did
  split
  all_goals first | rfl | skip
  show (if F.r a = 0 then _ else _) = _
  split <;> rfl

theorem Frm.forked_sh (F : Frm) (x : Ins) (id : Nat) (h : p ≤ id) : (F.sh p d).forked x ((id + d : Nat) : Int) = (F.forked x id).sh p d := by
  unfold Frm.forked
  split
  · unfold Frm.on Frm.to Frm.setPc Frm.setSt Frm.hold Frm.sh
    simp only [Frm.mk.injEq, true_and, and_true]
    funext j
    split
    · rw [shI_big (by omega)]; omega
    · rfl
  · rfl

theorem Frm.kid_sh (F : Frm) (q : Nat) (nd : Int) : (F.sh p d).kid q nd 8 = (F.kid q nd 8).sh p d := by
  unfold Frm.kid Frm.sh
  simp only [Frm.mk.injEq, true_and, and_true]
  funext j
  split
  · rfl
  · exact shI_neg.symm

theorem Frm.joined_sh (F : Frm) (x : Ins) (kd v : Int) : (F.sh p d).joined x kd v = (F.joined x kd v).sh p d := by
  unfold Frm.joined
  split
  · split
    · rfl
    · split
      · split <;> rfl
      · rfl
  · rfl

theorem Frm.closed_sh (F : Frm) (x : Ins) (b : Bool) : (F.sh p d).closed x b = (F.closed x b).sh p d := by
  unfold Frm.closed
  split <;> rfl

/-- Its handles are further behind, or none. -/
def Hands (p : Nat) (F : Frm) : Prop := ∀ k, F.h k = -1 ∨ (p : Int) ≤ F.h k

theorem Hands.did {F : Frm} (h : Hands p F) (o a b c : Nat) (n : Int) : Hands p (F.did o a b c n) := fun k => by rw [(F.did_keep o a b c n).2]; exact h k
theorem Hands.on {F : Frm} (h : Hands p F) : Hands p F.on := h
theorem Hands.forked {F : Frm} (h : Hands p F) (x : Ins) (id : Nat) (hi : p ≤ id) : Hands p (F.forked x id) := fun k => by
  unfold Frm.forked
  split
  · show (if k = x.a.toNat then (id : Int) else F.h k) = -1 ∨ _ ≤ (if k = x.a.toNat then (id : Int) else F.h k)
    split
    · exact .inr (by omega)
    · exact h k
  · exact h k
theorem Hands.kid {F : Frm} (h : Hands p F) (q : Nat) (nd : Int) : Hands p (F.kid q nd 8) := fun k => by
  show (if k < 8 ∧ nbit nd k = true then F.h k else -1) = -1 ∨ _ ≤ (if k < 8 ∧ nbit nd k = true then F.h k else -1)
  split
  · exact h k
  · exact .inl rfl
theorem Hands.joined {F : Frm} (h : Hands p F) (x : Ins) (kd v : Int) : Hands p (F.joined x kd v) := fun k => by
  unfold Frm.joined
  split
  · split
    · exact h k
    · split
      · split <;> exact h k
      · exact h k
  · exact h k
theorem Hands.closed {F : Frm} (h : Hands p F) (x : Ins) (b : Bool) : Hands p (F.closed x b) := fun k => by
  unfold Frm.closed
  split <;> exact h k

/-- The same instruction, further behind. -/
def ActSh (p d : Nat) (c : Int → Int) (X Y L : List Rw) (s2 : Nat) (y' : Act1) : Act1 → Prop
  | .stop _ => True
  | .fin T' k v G' => y' = .fin (T'.sh p d c) k v ⟨Y ++ shL p d c L, s2 + 1⟩
  | .go T' G' => ∃ L', G'.rows = X ++ L' ∧ Hands p T'.F ∧ y' = .go (T'.sh p d c) ⟨Y ++ shL p d c L', s2 + 1⟩
  | .sub K T' G' => ∃ L', G'.rows = X ++ L' ∧ Hands p K.F ∧ Hands p T'.F ∧ y' = .sub (K.sh p d c) (T'.sh p d c) ⟨Y ++ shL p d c L', s2 + 1⟩

theorem act_sh {N N2 base base2 a s1 s2 : Nat} {T : Tk} {X Y L : List Rw} (A : Acc P) (I : Inv P N base a T ⟨X ++ L, s1⟩) (hX : X.length = p) (hY : Y.length = p + d) (ha : p ≤ a) (hb : base2 ≤ base) (hh : Hands p T.F)
    (h1 : s1 < N) (h2 : s2 < N2) : ActSh p d c X Y L s2 (act P N2 base2 (a + d) (T.sh p d c) ⟨Y ++ shL p d c L, s2⟩ (insAt P T.F)) (act P N base a T ⟨X ++ L, s1⟩ (insAt P T.F)) := by
  have HD := I.hand A
  generalize insAt P T.F = x at *
  have hlen : (Y ++ shL p d c L).length = (X ++ L).length + d := by rw [List.length_append, shL_len, List.length_append]; omega
  have hpl : p ≤ (X ++ L).length := by rw [List.length_append]; omega
  have hkr : kidRow (a + d) (T.sh p d c) x = (kidRow a T x).sh p d c := by
    unfold kidRow Rw.sh Rw.new
    simp only [Rw.mk.injEq, and_true]
    exact ⟨by rw [shI_big (by omega)]; omega, by rw [if_neg (by omega)]; rfl⟩
  unfold act
  simp only [Gl.more]
  rw [if_neg (by omega : ¬ N ≤ s1), if_neg (by omega : ¬ N2 ≤ s2)]
  by_cases h7 : x.op ≤ 7
  · rw [if_pos h7, if_pos h7]
    refine ⟨L, rfl, hh.did _ _ _ _ _, ?_⟩
    simp only [Tk.sh, Frm.did_sh]
  rw [if_neg h7, if_neg h7]
  by_cases h8 : x.op = 8
  · rw [if_pos h8, if_pos h8]
    by_cases hd : 32 ≤ base + T.os.length
    · rw [if_pos hd]; trivial
    rw [if_neg hd, if_neg (show ¬ 32 ≤ base2 + (T.sh p d c).os.length by show ¬ 32 ≤ base2 + T.os.length; omega)]
    by_cases ho : askd T.os = true
    · rw [if_pos ho, if_pos (show askd (T.sh p d c).os = true from ho)]
      refine ⟨L ++ [(kidRow a T x).lost], by simp only [List.append_assoc], hh.forked _ _ hpl, ?_⟩
      rw [hlen, hkr]
      simp only [Tk.sh, Frm.forked_sh _ _ _ hpl, shL_add, List.append_assoc]
      rfl
    · rw [if_neg ho, if_neg (show ¬ askd (T.sh p d c).os = true from ho)]
      refine ⟨L ++ [kidRow a T x], by simp only [List.append_assoc], hh.kid _ _, hh.forked _ _ hpl, ?_⟩
      rw [hlen, hkr]
      have e1 : kidOf P (a + d) (T.sh p d c) x = (kidOf P a T x).sh p d c := by
        unfold kidOf
        rw [hkr]
        simp only [Tk.sh, Frm.kid_sh]
      rw [e1]
      simp only [Tk.sh, Frm.forked_sh _ _ _ hpl, shL_add, List.append_assoc]
      rfl
  rw [if_neg h8, if_neg h8]
  by_cases h9 : x.op = 9 ∨ x.op = 10
  · rw [if_pos h9, if_pos h9]
    obtain ⟨h8', j, r, hj, hr, hd, hrow⟩ := HD h9
    have hpj : p ≤ j := by
      rcases hh (handOf x) with e | e
      · rw [hj] at e; omega
      · rw [hj] at e; omega
    have hrow2 : rowOf (T.sh p d c).F x ⟨Y ++ shL p d c L, s2⟩ = r.sh p d c := by
      unfold rowOf
      have e : (T.sh p d c).F.h (handOf x) = ((j + d : Nat) : Int) := by
        show shI p d (T.F.h (handOf x)) = _
        rw [hj, shI_big (by omega)]
        omega
      rw [e, Int.toNat_natCast, List.getD_eq_getElem?_getD]
      simp only at hr ⊢
      rw [List.getElem?_append_right (by omega)] at hr
      rw [List.getElem?_append_right (by omega)]
      unfold shL
      rw [List.getElem?_map, show j + d - Y.length = j - X.length by omega, hr]
      rfl
    rw [hrow, hrow2]
    have ek : (r.sh p d c).kind = r.kind := rfl
    have ev : (r.sh p d c).v = r.v := rfl
    rw [ek, ev]
    by_cases hp : panics x r.kind = true
    · rw [if_pos hp, if_pos hp]
      show Act1.fin _ _ _ _ = _
      simp only [Tk.sh, Frm.joined_sh]
    · rw [if_neg hp, if_neg hp]
      refine ⟨L, rfl, hh.joined _ _ _, ?_⟩
      simp only [Tk.sh, Frm.joined_sh]
  rw [if_neg h9, if_neg h9]
  by_cases h11 : x.op = 11
  · rw [if_pos h11, if_pos h11]
    by_cases hd : 32 ≤ base + T.os.length
    · rw [if_pos hd]; trivial
    rw [if_neg hd, if_neg (show ¬ 32 ≤ base2 + (T.sh p d c).os.length by show ¬ 32 ≤ base2 + T.os.length; omega)]
    exact ⟨L, rfl, hh, rfl⟩
  rw [if_neg h11, if_neg h11]
  by_cases h12 : x.op = 12
  · rw [if_pos h12, if_pos h12]
    refine ⟨L, rfl, hh.closed _ _, ?_⟩
    simp only [Tk.sh, Frm.closed_sh]
  rw [if_neg h12, if_neg h12]
  by_cases h13 : x.op = 13
  · rw [if_pos h13, if_pos h13]; exact ⟨L, rfl, hh, rfl⟩
  rw [if_neg h13, if_neg h13]
  by_cases h14 : x.op = 14
  · rw [if_pos h14, if_pos h14]; exact ⟨L, rfl, hh, rfl⟩
  rw [if_neg h14, if_neg h14]
  rfl

theorem insAt_sh (F : Frm) : insAt P (F.sh p d) = insAt P F := rfl

theorem exec_sh {N N2 : Nat} (A : Acc P) (hN : N ≤ 1048576) : ∀ (n base base2 a s1 s2 : Nat) (T : Tk) (X Y L : List Rw) (G' : Gl), Inv P N base a T ⟨X ++ L, s1⟩ → X.length = p → Y.length = p + d → p ≤ a → base2 ≤ base → Hands p T.F → N + s2 ≤ N2 + s1 →
    exec P N n base a T ⟨X ++ L, s1⟩ = some (.done G') →
    ∃ L' k, G' = ⟨X ++ L', s1 + k⟩ ∧ exec P N2 n base2 (a + d) (T.sh p d c) ⟨Y ++ shL p d c L, s2⟩ = some (.done ⟨Y ++ shL p d c L', s2 + k⟩) := by
  intro n
  induction n with
  | zero => intro base base2 a s1 s2 T X Y L G' I _ _ _ _ _ _ h; cases h
  | succ n ih =>
    intro base base2 a s1 s2 T X Y L G' I hX hY ha hb hh hs h
    have hok := act_ok A hN I
    have hlt : s1 < N := by
      have h1 := (exec_ext A hN _ _ _ _ _ _ I h)
      have := h1.1.steps
      have := h1.2
      simp only at *
      omega
    have hsh := act_sh (d := d) (c := c) (N2 := N2) (s2 := s2) (base2 := base2) A I hX hY ha hb hh hlt (by omega)
    have hrl := I.row
    unfold exec at h ⊢
    rw [show insAt P (T.sh p d c).F = insAt P T.F from rfl]
    generalize act P N base a T ⟨X ++ L, s1⟩ (insAt P T.F) = x at h hok hsh
    generalize act P N2 base2 (a + d) (T.sh p d c) ⟨Y ++ shL p d c L, s2⟩ (insAt P T.F) = y at hsh
    cases x with
    | stop e => cases h
    | fin T' kind v G1 =>
      obtain ⟨_, rfl, _, hr, _, _⟩ := hok
      obtain rfl : y = _ := hsh
      simp only [Option.some.injEq, Out.done.injEq] at h
      subst h
      simp only [Gl.more]
      refine ⟨L.set (a - p) (T'.told kind v), 1, ?_, ?_⟩
      · rw [List.set_append, if_neg (by omega), hX]
      · rw [List.set_append, if_neg (by omega), show a + d - Y.length = a - p by omega]
        unfold shL
        rw [List.map_set]
        rfl
    | go T' G1 =>
      obtain ⟨I', hrow, hst, hg⟩ := hok
      obtain ⟨L1, hL1, hh', rfl⟩ := hsh
      obtain ⟨l1, t1⟩ := G1
      simp only at hL1 hst
      subst hL1 hst
      obtain ⟨L', k, e1, e2⟩ := ih base base2 a (s1 + 1) (s2 + 1) T' X Y L1 G' I' hX hY ha hb hh' (by omega) h
      refine ⟨L', k + 1, by rw [e1]; simp only [Gl.mk.injEq, true_and]; omega, ?_⟩
      simp only
      rw [e2]
      simp only [Option.some.injEq, Out.done.injEq, Gl.mk.injEq, true_and]
      omega
    | sub K T' G1 =>
      obtain ⟨IK, hst, _, hr, hst2, hpar⟩ := hok
      obtain ⟨L1, hL1, hhK, hh', rfl⟩ := hsh
      obtain ⟨l1, t1⟩ := G1
      simp only at hL1 hst
      subst hL1 hst
      simp only at h ⊢
      split at h
      · cases h
      · cases h
      · rename_i G2 he
        obtain ⟨E2, hle2⟩ := exec_ext A hN _ _ _ _ _ _ IK he
        have I2 := hpar G2 E2 hle2
        have hlen : (Y ++ shL p d c L).length = (X ++ L).length + d := by rw [List.length_append, shL_len, List.length_append]; omega
        obtain ⟨L2, k2, e1, e2⟩ := ih (base + T.os.length) (base2 + T.os.length) (X ++ L).length (s1 + 1) (s2 + 1) K X Y L1 G2 IK hX hY (by rw [List.length_append]; omega) (by omega) hhK (by omega) he
        subst e1
        rw [← hlen] at e2
        rw [show (T.sh p d c).os.length = T.os.length from rfl, e2]
        simp only
        obtain ⟨L', k, e3, e4⟩ := ih base base2 a (s1 + 1 + k2) (s2 + 1 + k2) T' X Y L2 G' I2 hX hY ha hb hh' (by omega) h
        refine ⟨L', 1 + k2 + k, by rw [e3]; simp only [Gl.mk.injEq, true_and]; omega, ?_⟩
        rw [e4]
        simp only [Option.some.injEq, Out.done.injEq, Gl.mk.injEq, true_and]
        omega
end

end Go.Proofs.YtpjcdjooiaefdaaDoor

/-
  Programs with a first function that is given: who is forked twice, and scopes that are cancelled.
-/
namespace Go.Proofs.YtpjcdjooiaefdaaDoor
open Go.RowKit
set_option linter.unusedVariables false

section
variable {P : List Fn} {N base a : Nat} {T T1 K : Tk} {G G1 G' : Gl}

/-- A task that comes to its end, and all is right with it. -/
structure Doe (P : List Fn) (N base a : Nat) (T : Tk) (G G' : Gl) : Prop where
  inv : Inv P N base a T G
  does : ∃ n, exec P N n base a T G = some (.done G')

theorem Doe.lt (h : Doe P N base a T G G') : G.st < N := by
  obtain ⟨_, n, h⟩ := h
  cases n with
  | zero => cases h
  | succ n =>
    unfold exec at h
    rcases Nat.lt_or_ge G.st N with h1 | h1
    · exact h1
    · rw [act_dry h1] at h
      simp at h

theorem Doe.go (A : Acc P) (hN : N ≤ 1048576) (h : Doe P N base a T G G') {x : Ins} (hx : insAt P T.F = x) (e : act P N base a T G x = .go T1 G1) : Doe P N base a T1 G1 G' := by
  subst hx
  have hok := act_ok A hN h.inv
  obtain ⟨_, n, h⟩ := h
  rw [e] at hok
  cases n with
  | zero => cases h
  | succ n =>
    unfold exec at h
    rw [e] at h
    exact ⟨hok.1, n, h⟩

theorem Doe.sub (A : Acc P) (hN : N ≤ 1048576) (h : Doe P N base a T G G') {x : Ins} (hx : insAt P T.F = x) (e : act P N base a T G x = .sub K T1 G1) : ∃ G2, Doe P N (base + T.os.length) G.rows.length K G1 G2 ∧ Doe P N base a T1 G2 G' := by
  subst hx
  have hok := act_ok A hN h.inv
  obtain ⟨_, n, h⟩ := h
  rw [e] at hok
  obtain ⟨IK, _, _, _, _, hp⟩ := hok
  cases n with
  | zero => cases h
  | succ n =>
    unfold exec at h
    rw [e] at h
    simp only at h
    split at h
    · cases h
    · cases h
    · rename_i G2 he
      obtain ⟨E, hle⟩ := exec_ext A hN _ _ _ _ _ _ IK he
      exact ⟨G2, ⟨IK, n, he⟩, hp G2 E hle, n, h⟩

theorem Doe.fin {k v : Int} (h : Doe P N base a T G G') {x : Ins} (hx : insAt P T.F = x) (e : act P N base a T G x = .fin T1 k v G1) : G' = ⟨G1.rows.set a (T1.told k v), G1.st⟩ := by
  subst hx
  obtain ⟨_, n, h⟩ := h
  cases n with
  | zero => cases h
  | succ n =>
    unfold exec at h
    rw [e] at h
    simp only [Option.some.injEq, Out.done.injEq] at h
    exact h.symm

/-- What is forked comes to a number, or panics. -/
theorem exec_kind (A : Acc P) (hN : N ≤ 1048576) : ∀ (n base a : Nat) (T : Tk) (G G' : Gl), Inv P N base a T G → exec P N n base a T G = some (.done G') → ∃ r, G'.rows[a]? = some r ∧ (r.kind = 2 ∨ r.kind = 3) := by
  intro n
  induction n with
  | zero => intro base a T G G' I h; cases h
  | succ n ih =>
    intro base a T G G' I h
    have hok := act_ok A hN I
    have hfm := act_form (P := P) N base a T G (insAt P T.F)
    have hia := (List.getElem?_eq_some_iff.1 I.row).1
    unfold exec at h
    generalize act P N base a T G (insAt P T.F) = x at h hok hfm
    cases x with
    | stop e => cases h
    | fin T' kind v G1 =>
      obtain ⟨hk, hr, _, _⟩ := hfm
      simp only [Option.some.injEq, Out.done.injEq] at h
      subst h
      refine ⟨_, by simp only; rw [hr]; exact List.getElem?_set_self hia, hk⟩
    | go T' G1 => exact ih _ _ _ _ _ hok.1 h
    | sub K T' G1 =>
      obtain ⟨IK, hs, _, hr, hst, hpar⟩ := hok
      simp only at h
      split at h
      · cases h
      · cases h
      · rename_i G2 hk
        obtain ⟨E2, hle2⟩ := exec_ext A hN n _ _ K G1 G2 IK hk
        exact ih _ _ _ _ _ (hpar G2 E2 hle2) h

/-- The same is forked anew, further behind. -/
theorem Doe.again (A : Acc P) (hN : N ≤ 1048576) {c : Int → Int} {p d base2 a2 s1 s2 : Nat} {K2 : Tk} {X Y L : List Rw} {G2 : Gl} (h : Doe P N base a K ⟨X ++ L, s1⟩ G') (hX : X.length = p) (hY : Y.length = p + d) (ha : p ≤ a) (hb : base2 ≤ base) (hh : Hands p K.F)
    (hK : K2 = K.sh p d c) (ha2 : a2 = a + d) (h2 : Doe P N base2 a2 K2 ⟨Y ++ shL p d c L, s2⟩ G2) : ∃ L' k, G' = ⟨X ++ L', s1 + k⟩ ∧ G2 = ⟨Y ++ shL p d c L', s2 + k⟩ := by
  subst hK ha2
  obtain ⟨I, n, h⟩ := h
  obtain ⟨I2, n2, h2⟩ := h2
  obtain ⟨L', k, e1, e2⟩ := exec_sh (c := c) (d := d) (N2 := N + s2) A hN n base base2 a s1 s2 K X Y L G' I hX hY ha hb hh (by omega) h
  refine ⟨L', k, e1, ?_⟩
  have e3 := exec_more (N := N) (N' := N + s2) (by omega) n2 _ _ _ _ _ h2 (by simp)
  have := exec_one e3 e2
  injection this

/-- The rows of one that was forked. -/
structure Brood (q : Int) (i0 : Int) (L : List Rw) : Prop where
  first : ∃ r, L[0]? = some r ∧ r.par = 0 ∧ r.in_ = i0 ∧ r.fn = q ∧ (r.kind = 2 ∨ r.kind = 3)
  more : ∀ (i : Nat) (r : Rw), 1 ≤ i → L[i]? = some r → 1 ≤ r.par ∧ r.par < (i : Int) + 1

theorem Doe.brood (A : Acc P) (hN : N ≤ 1048576) {X L L' : List Rw} {s1 s2 : Nat} (hX : X.length = 1) (hL : L.length = 1) (h : Doe P N base 1 K ⟨X ++ L, s1⟩ ⟨X ++ L', s2⟩) (hp : K.row.par = 0) : Brood K.row.fn K.row.in_ L' := by
  obtain ⟨I, n, h⟩ := h
  obtain ⟨h1, r, hr, e1, e2, e3⟩ := exec_par A hN n _ _ _ _ _ I h
  obtain ⟨r', hr', hk⟩ := exec_kind A hN n _ _ _ _ _ I h
  rw [hr] at hr'
  injection hr' with hr'
  subst hr'
  simp only at hr h1
  rw [List.getElem?_append_right (by omega), hX] at hr
  refine ⟨⟨r, hr, e1.trans hp, e2, e3, hk⟩, fun i r hi hr => ?_⟩
  have := h1 (i + 1) r (by rw [List.length_append]; omega) (by rw [List.getElem?_append_right (by omega), hX, Nat.add_sub_cancel]; exact hr)
  omega
end

/-! ### Forked twice -/

def twCode (V q : Int) : List Ins := [⟨0, 1, 0, 0, V⟩, ⟨8, 1, 0, 0, q⟩, ⟨8, 2, 0, 0, q⟩, ⟨16, 0, 0, 0, 0⟩]
def kidT (q : Nat) (r : Nat → Int) (i : Int) : Tk := ⟨⟨q, 0, r, fun _ => -1, 0⟩, [(0, false)], 0, [], Rw.new 0 i q⟩

theorem kid_is {P : List Fn} {q : Nat} {T : Tk} {x : Ins} (hx : x.n = q) (hq : needsOf P q = 0) {r : Nat → Int} (hr : T.F.r = r) {i : Nat} (hi : (hd T.os).1 = i) : kidOf P 0 T x = kidT q r i := by
  unfold kidOf kidT kidRow Frm.kid
  rw [hx, hq, hr, hi]
  simp only [Int.toNat_natCast, Tk.mk.injEq, Frm.mk.injEq, and_true, true_and]
  refine ⟨?_, ?_⟩
  · funext j
    rw [if_neg]
    rintro ⟨h8, h⟩
    have : nbit 0 j = false := by
      have := nbit_testBit 0 h8
      rw [show low ((0 : Nat) : Int) = 0 from rfl, Nat.zero_testBit] at this
      exact this
    rw [this] at h
    cases h
  · rfl

theorem kid_sh {p d q : Nat} {r : Nat → Int} {i : Int} {c : Int → Int} (hp : 1 ≤ p) : (kidT q r i).sh p d c = kidT q r (c i) := by
  unfold kidT Tk.sh Frm.sh Rw.sh Rw.new
  simp only [Tk.mk.injEq, Frm.mk.injEq, Rw.mk.injEq, and_true, true_and]
  refine ⟨?_, ?_, ?_⟩
  · funext j; exact shI_neg
  · unfold shI; rw [if_neg (by omega)]
  · rw [if_pos (by omega)]

theorem kid_hands {p q : Nat} {r : Nat → Int} {i : Int} : Hands p (kidT q r i).F := fun _ => .inl rfl

theorem act_const {P : List Fn} {N base a : Nat} {T : Tk} {G : Gl} {k : Nat} {v : Int} (h : G.st < N) : act P N base a T G ⟨0, k, 0, 0, v⟩ = .go { T with F := (T.F.put k v).on } G.more := by
  unfold act
  rw [if_neg (by omega), if_pos (by simp)]
  rfl
theorem act_sub {P : List Fn} {N base a : Nat} {T : Tk} {G : Gl} {k : Nat} {q : Int} (h : G.st < N) (hd : base + T.os.length < 32) (ho : askd T.os = false) (hc : chk ⟨8, k, 0, 0, q⟩ = 0) :
    act P N base a T G ⟨8, k, 0, 0, q⟩ = .sub (kidOf P a T ⟨8, k, 0, 0, q⟩) { T with F := (T.F.hold k G.rows.length).on } ⟨G.rows ++ [kidRow a T ⟨8, k, 0, 0, q⟩], G.st + 1⟩ := by
  unfold act
  rw [if_neg (by omega), if_neg (by simp), if_pos rfl, if_neg (by omega), if_neg (by rw [ho]; simp), Frm.forked_of _ (isOp_of hc rfl)]
  rfl
theorem act_lost {P : List Fn} {N base a : Nat} {T : Tk} {G : Gl} {k : Nat} {q : Int} (h : G.st < N) (hd : base + T.os.length < 32) (ho : askd T.os = true) (hc : chk ⟨8, k, 0, 0, q⟩ = 0) :
    act P N base a T G ⟨8, k, 0, 0, q⟩ = .go { T with F := (T.F.hold k G.rows.length).on } ⟨G.rows ++ [(kidRow a T ⟨8, k, 0, 0, q⟩).lost], G.st + 1⟩ := by
  unfold act
  rw [if_neg (by omega), if_neg (by simp), if_pos rfl, if_neg (by omega), if_pos ho, Frm.forked_of _ (isOp_of hc rfl)]
  rfl
theorem act_opens {P : List Fn} {N base a : Nat} {T : Tk} {G : Gl} (h : G.st < N) (hd : base + T.os.length < 32) :
    act P N base a T G ⟨11, 0, 0, 0, 0⟩ = .go { T with F := T.F.on, os := (T.op + 1, false) :: T.os, op := T.op + 1 } G.more := by
  unfold act
  rw [if_neg (by omega), if_neg (by simp), if_neg (by simp), if_neg (by simp), if_pos rfl, if_neg (by omega)]
theorem act_asks {P : List Fn} {N base a : Nat} {T : Tk} {G : Gl} (h : G.st < N) : act P N base a T G ⟨13, 0, 0, 0, 0⟩ = .go { T with F := T.F.on, os := asks T.os } G.more := by
  unfold act
  rw [if_neg (by omega), if_neg (by simp), if_neg (by simp), if_neg (by simp), if_neg (by simp), if_neg (by simp), if_pos rfl]
theorem act_closes {P : List Fn} {N base a : Nat} {T : Tk} {G : Gl} {k : Nat} (h : G.st < N) (hc : chk ⟨12, k, 0, 0, 0⟩ = 0) : act P N base a T G ⟨12, k, 0, 0, 0⟩ = .go { T with F := (T.F.put k (if (hd T.os).2 then 1 else 0)).on, os := T.os.tail, cl := T.cl ++ [(hd T.os).2] } G.more := by
  unfold act
  rw [if_neg (by omega), if_neg (by simp), if_neg (by simp), if_neg (by simp), if_neg (by simp), if_pos rfl, Frm.closed_of _ (isOp_of hc rfl)]
  rfl
theorem act_ret {P : List Fn} {N base a : Nat} {T : Tk} {G : Gl} (h : G.st < N) : act P N base a T G ⟨16, 0, 0, 0, 0⟩ = .fin { T with F := T.F.on } 2 (T.F.r 0) G.more := by
  unfold act
  rw [if_neg (by omega), if_neg (by simp), if_neg (by simp), if_neg (by simp), if_neg (by simp), if_neg (by simp), if_neg (by simp), if_neg (by simp)]
  rfl

theorem chk_at {P : List Fn} (A : Acc P) {c : List Ins} (h0 : P[0]? = some ⟨0, c⟩) {j : Nat} {x : Ins} (hx : c[j]? = some x) : chk x = 0 := (A.fns 0 _ h0).2.2.2.2 j x hx
theorem ins_at {P : List Fn} {c : List Ins} (h0 : P[0]? = some ⟨0, c⟩) {F : Frm} {j : Nat} {x : Ins} (hf : F.f = 0) (hp : F.pc = j) (hx : c[j]? = some x) : insAt P F = x := by
  unfold insAt
  rw [hf, hp]
  simp only [Int.toNat_zero, Int.toNat_natCast, h0]
  rw [List.getD_eq_getElem?_getD, hx]
  rfl

/-- Where the first function stands. -/
structure At (j : Nat) (r : Nat → Int) (F : Frm) : Prop where
  f : F.f = 0
  pc : F.pc = j
  r : F.r = r

section
variable {P : List Fn} {N : Nat} {c : List Ins} {F : Frm} {os : List (Nat × Bool)} {op : Nat} {cl : List Bool} {R : Rw} {L : List Rw} {st : Nat} {G' : Gl} {j : Nat} {r : Nat → Int}

theorem Doe.consts (A : Acc P) (hN : N ≤ 1048576) (h0 : P[0]? = some ⟨0, c⟩) (h : Doe P N 0 0 ⟨F, os, op, cl, R⟩ ⟨L, st⟩ G') (a : At j r F) {k : Nat} {v : Int} (hx : c[j]? = some ⟨0, k, 0, 0, v⟩) (hj : j < 100) :
    ∃ F1, At (j + 1) (fun i => if i = k then v else r i) F1 ∧ Doe P N 0 0 ⟨F1, os, op, cl, R⟩ ⟨L, st + 1⟩ G' :=
  ⟨(F.put k v).on, ⟨a.f, Frm.on_pc _ j a.pc (by omega), by rw [← a.r]; rfl⟩, h.go A hN (ins_at h0 a.f a.pc hx) (act_const h.lt)⟩
theorem Doe.opens (A : Acc P) (hN : N ≤ 1048576) (h0 : P[0]? = some ⟨0, c⟩) (h : Doe P N 0 0 ⟨F, os, op, cl, R⟩ ⟨L, st⟩ G') (a : At j r F) (hx : c[j]? = some ⟨11, 0, 0, 0, 0⟩) (hj : j < 100) (hd : os.length < 32) :
    ∃ F1, At (j + 1) r F1 ∧ Doe P N 0 0 ⟨F1, (op + 1, false) :: os, op + 1, cl, R⟩ ⟨L, st + 1⟩ G' :=
  ⟨F.on, ⟨a.f, Frm.on_pc _ j a.pc (by omega), a.r⟩, h.go A hN (ins_at h0 a.f a.pc hx) (act_opens h.lt (by simp only; omega))⟩
theorem Doe.asks (A : Acc P) (hN : N ≤ 1048576) (h0 : P[0]? = some ⟨0, c⟩) (h : Doe P N 0 0 ⟨F, os, op, cl, R⟩ ⟨L, st⟩ G') (a : At j r F) (hx : c[j]? = some ⟨13, 0, 0, 0, 0⟩) (hj : j < 100) :
    ∃ F1, At (j + 1) r F1 ∧ Doe P N 0 0 ⟨F1, Proofs.YtpjcdjooiaefdaaDoor.asks os, op, cl, R⟩ ⟨L, st + 1⟩ G' :=
  ⟨F.on, ⟨a.f, Frm.on_pc _ j a.pc (by omega), a.r⟩, h.go A hN (ins_at h0 a.f a.pc hx) (act_asks h.lt)⟩
theorem Doe.closes (A : Acc P) (hN : N ≤ 1048576) (h0 : P[0]? = some ⟨0, c⟩) {y : Nat × Bool} (h : Doe P N 0 0 ⟨F, y :: os, op, cl, R⟩ ⟨L, st⟩ G') (a : At j r F) {k : Nat} (hx : c[j]? = some ⟨12, k, 0, 0, 0⟩) (hj : j < 100) :
    ∃ F1, At (j + 1) (fun i => if i = k then (if y.2 then 1 else 0) else r i) F1 ∧ Doe P N 0 0 ⟨F1, os, op, cl ++ [y.2], R⟩ ⟨L, st + 1⟩ G' :=
  ⟨(F.put k (if y.2 then 1 else 0)).on, ⟨a.f, Frm.on_pc _ j a.pc (by omega), by rw [← a.r]; rfl⟩, h.go A hN (ins_at h0 a.f a.pc hx) (act_closes h.lt (chk_at A h0 hx))⟩
theorem Doe.loses (A : Acc P) (hN : N ≤ 1048576) (h0 : P[0]? = some ⟨0, c⟩) {y : Nat × Bool} (h : Doe P N 0 0 ⟨F, y :: os, op, cl, R⟩ ⟨L, st⟩ G') (a : At j r F) {k q : Nat} (hx : c[j]? = some ⟨8, k, 0, 0, q⟩) (hj : j < 100) (hd : os.length < 31) (ho : askd (y :: os) = true) :
    ∃ F1, At (j + 1) r F1 ∧ Doe P N 0 0 ⟨F1, y :: os, op, cl, R⟩ ⟨L ++ [⟨0, y.1, q, 4, 0, 0, []⟩], st + 1⟩ G' :=
  ⟨(F.hold k L.length).on, ⟨a.f, Frm.on_pc _ j a.pc (by omega), a.r⟩, h.go A hN (ins_at h0 a.f a.pc hx) (act_lost h.lt (by simp only [List.length_cons]; omega) ho (chk_at A h0 hx))⟩
theorem Doe.forks (A : Acc P) (hN : N ≤ 1048576) (h0 : P[0]? = some ⟨0, c⟩) {y : Nat × Bool} (h : Doe P N 0 0 ⟨F, y :: os, op, cl, R⟩ ⟨L, st⟩ G') (a : At j r F) {k q : Nat} (hx : c[j]? = some ⟨8, k, 0, 0, q⟩) (hj : j < 100) (hd : os.length < 31) (ho : askd (y :: os) = false) (hq : needsOf P q = 0) :
    ∃ F1 L2 s2, At (j + 1) r F1 ∧ Doe P N (os.length + 1) L.length (kidT q r y.1) ⟨L ++ [Rw.new 0 y.1 q], st + 1⟩ ⟨L2, s2⟩ ∧ Doe P N 0 0 ⟨F1, y :: os, op, cl, R⟩ ⟨L2, s2⟩ G' := by
  obtain ⟨⟨L2, s2⟩, hk, hd⟩ := h.sub A hN (ins_at h0 a.f a.pc hx) (act_sub h.lt (by simp only [List.length_cons]; omega) ho (chk_at A h0 hx))
  rw [kid_is (q := q) rfl hq a.r (i := y.1) rfl] at hk
  refine ⟨_, L2, s2, ⟨?_, ?_, ?_⟩, ?_, hd⟩
  · exact a.f
  · exact Frm.on_pc _ j a.pc (by omega)
  · exact a.r
  · simp only [List.length_cons, Nat.zero_add] at hk
    exact hk
theorem Doe.rets (A : Acc P) (h0 : P[0]? = some ⟨0, c⟩) (h : Doe P N 0 0 ⟨F, os, op, cl, R⟩ ⟨L, st⟩ G') (a : At j r F) (hx : c[j]? = some ⟨16, 0, 0, 0, 0⟩) : ∃ r0 : Rw, r0.kind = 2 ∧ r0.cl = cl ∧ r0.par = R.par ∧ G'.rows = L.set 0 r0 := by
  have := h.fin (ins_at h0 a.f a.pc hx) (act_ret h.lt)
  exact ⟨Tk.told ⟨F.on, os, op, cl, R⟩ 2 (F.r 0), rfl, rfl, rfl, congrArg Gl.rows this⟩

/-- The first one's rows stay at the beginning. -/
theorem Doe.front (A : Acc P) (hN : N ≤ 1048576) {base a : Nat} {K : Tk} {r0 r1 : Rw} {s1 s2 : Nat} {L2 : List Rw} (h : Doe P N base 1 K ⟨[r0] ++ [r1], s1⟩ ⟨L2, s2⟩) : ∃ M, L2 = [r0] ++ M ∧ 1 ≤ M.length := by
  obtain ⟨I, n, h⟩ := h
  obtain ⟨e, _⟩ := exec_ext A hN _ _ _ _ _ _ I h
  have hl : 2 ≤ L2.length := e.len
  have hs := e.same 0 (by show 0 < 2; decide) (by decide)
  cases L2 with
  | nil => simp at hl
  | cons x M =>
    simp only [List.getElem?_cons_zero, List.cons_append] at hs
    injection hs with hs
    subst hs
    exact ⟨M, rfl, by simp only [List.length_cons] at hl; omega⟩
end

theorem root_at : At 0 (fun _ => 0) Frm.root := ⟨rfl, rfl, rfl⟩

theorem tw_exec {P : List Fn} {N : Nat} {V : Int} {q : Nat} {G' : Gl} (A : Acc P) (hN : N ≤ 1048576) (h0 : P[0]? = some ⟨0, twCode V q⟩) (hq : needsOf P q = 0) (h : Doe P N 0 0 rootT rootG G') :
    ∃ r0 L, Brood q 0 L ∧ G'.rows = r0 :: L ++ shL 1 L.length id L := by
  obtain ⟨F1, a1, h1⟩ := Doe.consts (L := [Rw.new (-1) 0 0]) (st := 0) (k := 1) (v := V) A hN h0 h root_at rfl (by decide)
  obtain ⟨F2, L2, s2, a2, k2, h2⟩ := Doe.forks (k := 1) A hN h0 h1 a1 rfl (by decide) (by decide) rfl hq
  obtain ⟨F3, L3, s3, a3, k3, h3⟩ := Doe.forks (k := 2) A hN h0 h2 a2 rfl (by decide) (by decide) rfl hq
  obtain ⟨r0, _, _, _, hr0⟩ := Doe.rets A h0 h3 a3 rfl
  clear h h1 h2 h3 a1 a2 a3
  obtain ⟨L, rfl, hl⟩ := Doe.front (a := 1) A hN k2
  obtain ⟨L', k, e3, e4⟩ := k2.again (c := id) (p := 1) (d := L.length) (X := [Rw.new (-1) 0 0]) (L := [Rw.new 0 0 q]) (Y := [Rw.new (-1) 0 0] ++ L) A hN rfl (by simp; omega) (Nat.le_refl _) (Nat.le_refl _) kid_hands (kid_sh (c := id) (Nat.le_refl _)).symm (by simp; omega) k3
  simp only [Gl.mk.injEq] at e3 e4
  obtain ⟨e3, _⟩ := e3
  obtain ⟨e4, _⟩ := e4
  have e5 := List.append_cancel_left e3
  subst e5
  have hb := Doe.brood (L' := L) (s2 := s2) A hN (X := [Rw.new (-1) 0 0]) (L := [Rw.new 0 0 q]) rfl rfl k2 rfl
  refine ⟨r0, L, hb, ?_⟩
  rw [hr0, e4]
  rfl

/-! ### Scopes that are cancelled -/

def scCode (q : Int) : List Ins := [⟨11, 0, 0, 0, 0⟩, ⟨8, 0, 0, 0, q⟩, ⟨13, 0, 0, 0, 0⟩, ⟨8, 1, 0, 0, q⟩, ⟨11, 0, 0, 0, 0⟩, ⟨8, 1, 0, 0, q⟩, ⟨12, 2, 0, 0, 0⟩, ⟨12, 3, 0, 0, 0⟩, ⟨0, 2, 0, 0, 0⟩, ⟨0, 3, 0, 0, 0⟩, ⟨8, 2, 0, 0, q⟩, ⟨16, 0, 0, 0, 0⟩]
def lostR (i q : Int) : Rw := ⟨0, i, q, 4, 0, 0, []⟩

theorem sc_exec {P : List Fn} {N : Nat} {q : Nat} {G' : Gl} (A : Acc P) (hN : N ≤ 1048576) (h0 : P[0]? = some ⟨0, scCode q⟩) (hq : needsOf P q = 0) (h : Doe P N 0 0 rootT rootG G') :
    ∃ r0 L, r0.kind = 2 ∧ r0.cl = [false, true] ∧ r0.par = -1 ∧ Brood q 1 L ∧ G'.rows = r0 :: L ++ [lostR 1 q, lostR 2 q] ++ shL 1 (L.length + 2) (fun _ => 0) L := by
  obtain ⟨F1, a1, h1⟩ := Doe.opens (L := [Rw.new (-1) 0 0]) (st := 0) A hN h0 h root_at rfl (by decide) (by decide)
  obtain ⟨F2, L2, s2, a2, k2, h2⟩ := Doe.forks (k := 0) A hN h0 h1 a1 rfl (by decide) (by decide) rfl hq
  obtain ⟨F3, a3, h3⟩ := Doe.asks A hN h0 h2 a2 rfl (by decide)
  obtain ⟨F4, a4, h4⟩ := Doe.loses (k := 1) A hN h0 h3 a3 rfl (by decide) (by decide) rfl
  obtain ⟨F5, a5, h5⟩ := Doe.opens A hN h0 h4 a4 rfl (by decide) (by decide)
  obtain ⟨F6, a6, h6⟩ := Doe.loses (k := 1) A hN h0 h5 a5 rfl (by decide) (by decide) rfl
  obtain ⟨F7, a7, h7⟩ := Doe.closes (k := 2) A hN h0 h6 a6 rfl (by decide)
  obtain ⟨F8, a8, h8⟩ := Doe.closes (k := 3) A hN h0 h7 a7 rfl (by decide)
  obtain ⟨F9, a9, h9⟩ := Doe.consts (k := 2) (v := 0) A hN h0 h8 a8 rfl (by decide)
  obtain ⟨F10, a10, h10⟩ := Doe.consts (k := 3) (v := 0) A hN h0 h9 a9 rfl (by decide)
  have a10 := (⟨a10.f, a10.pc, a10.r.trans (by
    funext j
    by_cases h3 : j = 3
    · rw [if_pos h3]
    · rw [if_neg h3]
      by_cases h2 : j = 2
      · rw [if_pos h2]
      · rw [if_neg h2, if_neg h3, if_neg h2])⟩ : At 10 (fun _ => 0) F10)
  obtain ⟨F11, L3, s3, a11, k3, h11⟩ := Doe.forks (k := 2) A hN h0 h10 a10 rfl (by decide) (by decide) rfl hq
  obtain ⟨r0, q1, q2, q3, hr0⟩ := Doe.rets A h0 h11 a11 rfl
  clear h h1 h2 h3 h4 h5 h6 h7 h8 h9 h10 h11 a1 a2 a3 a4 a5 a6 a7 a8 a9 a10 a11
  obtain ⟨L, rfl, hl⟩ := Doe.front (a := 1) A hN k2
  obtain ⟨L', k, e3, e4⟩ := k2.again (c := fun _ => 0) (p := 1) (d := L.length + 2) (base2 := 1) (X := [Rw.new (-1) 0 0]) (L := [Rw.new 0 1 q]) (Y := [Rw.new (-1) 0 0] ++ L ++ [lostR 1 q] ++ [lostR 2 q]) A hN rfl (by simp; omega) (Nat.le_refl _) (by decide) kid_hands (kid_sh (c := fun _ => 0) (Nat.le_refl _)).symm (by simp; omega) k3
  simp only [Gl.mk.injEq] at e3 e4
  obtain ⟨e3, _⟩ := e3
  obtain ⟨e4, _⟩ := e4
  have e5 := List.append_cancel_left e3
  subst e5
  have hb := Doe.brood (L' := L) (s2 := s2) A hN (X := [Rw.new (-1) 0 0]) (L := [Rw.new 0 1 q]) rfl rfl k2 rfl
  refine ⟨r0, L, q1, q2, q3, hb, ?_⟩
  rw [hr0, e4]
  simp only [List.append_assoc, List.cons_append, List.nil_append]
  rfl

end Go.Proofs.YtpjcdjooiaefdaaDoor

/-
  A program with another first function may be.
-/
namespace Go.Proofs.YtpjcdjooiaefdaaDoor
open Go.RowKit
set_option linter.unusedVariables false

theorem takes_with {P : List Fn} {g : Fn} (x : Ins) (h : ∀ f, P[0]? = some f → f.needs = g.needs) : takes (P.set 0 g) x = takes P x := by
  unfold takes
  split
  · rfl
  split
  · rfl
  split
  · cases P with
    | nil => rfl
    | cons f t =>
      rw [List.set_cons_zero]
      generalize x.n.toNat = k
      cases k with
      | zero =>
        simp only [List.getElem?_cons_zero]
        rw [h f rfl]
      | succ k => simp only [List.getElem?_cons_succ]
  · rfl

theorem wrongAt_with {P : List Fn} {g : Fn} (f : Fn) (k : Nat) (x : Ins) (h : ∀ f, P[0]? = some f → f.needs = g.needs) : wrongAt (P.set 0 g) f k x = wrongAt P f k x := by
  unfold wrongAt goalW handW
  rw [takes_with x h, List.length_set]

theorem less_zero_left (b : Nat) : less 0 b = 0 := by unfold less; exact Nat.zero_and _

/-- A function of which each instruction is right where it stands. -/
theorem Acc.with_ {P : List Fn} (A : Acc P) {c : List Ins} (h1 : 1 ≤ c.length) (h2 : c.length ≤ 128) (hc : ∀ (j : Nat) i, c[j]? = some i → chk i = 0) (hw : ∀ (j : Nat) i, c[j]? = some i → wrongAt P ⟨0, c⟩ j i = 0) : Acc (P.set 0 ⟨0, c⟩) := by
  have hr : ∀ f, P[0]? = some f → f.needs = (⟨0, c⟩ : Fn).needs := fun f hf => A.root f hf
  have hone := A.one
  have at0 : (P.set 0 ⟨0, c⟩)[0]? = some ⟨0, c⟩ := List.getElem?_set_self (by omega)
  have atk : ∀ k, (P.set 0 ⟨0, c⟩)[k + 1]? = P[k + 1]? := fun k => List.getElem?_set_ne (by omega)
  refine ⟨by rw [List.length_set]; exact A.one, by rw [List.length_set]; exact A.few, fun k f hf => ?_, fun f hf => ?_, fun k f hf j i hi => ?_⟩
  · cases k with
    | zero =>
      rw [at0] at hf
      injection hf with hf
      subst hf
      exact ⟨Int.le_refl _, by simp, h1, h2, hc⟩
    | succ k =>
      rw [atk] at hf
      exact A.fns _ f hf
  · rw [at0] at hf
    injection hf with hf
    subst hf
    rfl
  · rw [wrongAt_with f j i hr]
    cases k with
    | zero =>
      rw [at0] at hf
      injection hf with hf
      subst hf
      exact hw j i hi
    | succ k =>
      rw [atk] at hf
      exact A.flow _ f hf j i hi

theorem chk_small (o : Nat) (a b c n : Int) (ho : o ≤ 16) (h : ∀ k, k < 4 → bad o k ([a, b, c, n].getD k 0) = false) : chk ⟨o, a, b, c, n⟩ = 0 := by
  rw [chk_in (o := o) rfl ho]
  have h0 := h 0 (by omega)
  have h1 := h 1 (by omega)
  have h2 := h 2 (by omega)
  have h3 := h 3 (by omega)
  simp only [List.getD_cons_zero, List.getD_cons_succ] at h0 h1 h2 h3
  simp only
  rw [h0, h1, h2, h3]
  rfl

theorem bad_in {o k : Nat} {x : Int} (h1 : lo o k ≤ x) (h2 : x ≤ hi o k) : bad o k x = false := by
  unfold bad
  rw [decide_eq_false (by omega), decide_eq_false (by omega)]
  rfl

theorem tw_acc {P : List Fn} (A : Acc P) {V : Int} {q : Nat} (hq : q < P.length) (hn : needsOf P q = 0) (hV0 : -2147483648 ≤ V) (hV1 : V ≤ 2147483647) : Acc (P.set 0 ⟨0, twCode V q⟩) := by
  have hfew := A.few
  have tk : ∀ k, takes P ⟨8, k, 0, 0, q⟩ = 0 := fun k => by
    unfold takes
    rw [if_neg (by simp), if_neg (by simp), if_pos rfl]
    simp only [Int.toNat_natCast]
    unfold needsOf at hn
    simp only [Int.toNat_natCast] at hn
    cases h : P[q]? with
    | none => rfl
    | some f =>
      rw [h] at hn
      simp only at hn
      simp only
      rw [hn]
      rfl
  have w0 : ∀ (j : Nat) (i : Ins), (isJ i = false) → (i.op = 8 → 0 ≤ i.n ∧ i.n < P.length) → (j + 1 = 4 → isP i = false) → (i.op ≠ 12 ∧ i.op ≠ 13) → (i.op = 16 → depN (twCode V q) j = 0) → takes P i = 0 → wrongAt P ⟨0, twCode V q⟩ j i = 0 := by
    intro j i e1 e2 e3 e4 e5 e6
    unfold wrongAt
    rw [if_neg, if_neg, if_neg, if_neg]
    · unfold handW
      rw [e6, less_zero_left]
      simp
    · unfold scopeW
      rw [e1]
      have : (i.op == 12) = false := beq_eq_false_iff_ne.2 e4.1
      have h13 : (i.op == 13) = false := beq_eq_false_iff_ne.2 e4.2
      rw [this, h13]
      by_cases h16 : i.op = 16
      · rw [e5 h16]; simp
      · have h16' : (i.op == 16) = false := beq_eq_false_iff_ne.2 h16
        rw [h16']
        simp
    · unfold endW
      by_cases h4 : j + 1 = 4
      · rw [e3 h4]; simp
      · rw [decide_eq_false (show ¬ j + 1 = (⟨0, twCode V q⟩ : Fn).code.length from h4)]; simp
    · unfold goalW
      rw [e1]
      by_cases h8 : i.op = 8
      · rw [decide_eq_true (e2 h8)]; simp
      · have h8' : (i.op == 8) = false := beq_eq_false_iff_ne.2 h8
        rw [h8']
        simp
  refine A.with_ (by simp [twCode]) (by simp [twCode]) (fun j i hi => ?_) (fun j i hi => ?_)
  · match j, hi with
    | 0, hi =>
      injection hi with hi
      subst hi
      refine chk_small 0 1 0 0 V (by omega) (fun k hk => ?_)
      match k, hk with
      | 0, _ => rfl
      | 1, _ => rfl
      | 2, _ => rfl
      | 3, _ => exact bad_in (by show (-2147483648 : Int) ≤ V; exact hV0) (by show V ≤ (2147483647 : Int); exact hV1)
    | 1, hi =>
      injection hi with hi
      subst hi
      refine chk_small 8 1 0 0 q (by omega) (fun k hk => ?_)
      match k, hk with
      | 0, _ => rfl
      | 1, _ => rfl
      | 2, _ => rfl
      | 3, _ => exact bad_in (by show (0 : Int) ≤ q; omega) (by show (q : Int) ≤ 31; omega)
    | 2, hi =>
      injection hi with hi
      subst hi
      refine chk_small 8 2 0 0 q (by omega) (fun k hk => ?_)
      match k, hk with
      | 0, _ => rfl
      | 1, _ => rfl
      | 2, _ => rfl
      | 3, _ => exact bad_in (by show (0 : Int) ≤ q; omega) (by show (q : Int) ≤ 31; omega)
    | 3, hi =>
      injection hi with hi
      subst hi
      decide
    | j + 4, hi => cases hi
  · match j, hi with
    | 0, hi =>
      injection hi with hi
      subst hi
      exact w0 0 _ rfl (fun h => by cases h) (fun h => by cases h) ⟨by simp, by simp⟩ (fun h => by cases h) rfl
    | 1, hi =>
      injection hi with hi
      subst hi
      exact w0 1 _ rfl (fun _ => by simp only; omega) (fun h => by cases h) ⟨by simp, by simp⟩ (fun h => by cases h) (tk 1)
    | 2, hi =>
      injection hi with hi
      subst hi
      exact w0 2 _ rfl (fun _ => by simp only; omega) (fun h => by cases h) ⟨by simp, by simp⟩ (fun h => by cases h) (tk 2)
    | 3, hi =>
      injection hi with hi
      subst hi
      exact w0 3 _ rfl (fun h => by cases h) (fun _ => rfl) ⟨by simp, by simp⟩ (fun _ => rfl) rfl
    | j + 4, hi => cases hi

theorem needs_set {P : List Fn} {g : Fn} {q : Nat} (h1 : 1 ≤ q) : needsOf (P.set 0 g) q = needsOf P q := by
  unfold needsOf
  simp only [Int.toNat_natCast]
  rw [List.getElem?_set_ne (by omega)]

end Go.Proofs.YtpjcdjooiaefdaaDoor
