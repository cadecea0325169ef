/-
  The program's tree and the document's beside one another; calls on both.
-/
import Derived.Test.YtoajdknhllaoeaaRop
import Derived.Test.YtoajdknhllaoeaaAw
namespace Go.Proofs.Ytoajdknhllaoeaa
open Go.RowKit
set_option linter.unusedVariables false

section
variable {n : Nat} {par nst par' nst' : Nat → Nat}

theorem Tre.nst_eq (h : Tre n par nst) (h' : Tre n par' nst') (e : ∀ k, 0 < k → k < n → par k = par' k) : ∀ k, k < n → nst k = nst' k := by
  intro k
  induction k using Nat.strongRecOn with
  | ind k ih =>
    intro hk
    by_cases e0 : k = 0
    · subst e0; rw [h.zero, h'.zero]
    · have h0 : 0 < k := by omega
      rw [h.one k h0 hk, h'.one k h0 hk, ← e k h0 hk, ih _ (h.lt k h0 hk) (by have := h.lt k h0 hk; omega)]

theorem Tre.up_eq (h : Tre n par nst) (e : ∀ k, 0 < k → k < n → par k = par' k) {s : Nat} (hs : s < n) : ∀ j, j ≤ nst s → up par s j = up par' s j := by
  intro j
  induction j with
  | zero => intro _; rfl
  | succ j ih =>
    intro hj
    have h1 := h.up_pos hs (show j < nst s by omega)
    have h2 := (h.up_in hs j (by omega)).1
    show par (up par s j) = par' (up par' s j)
    rw [← ih (by omega), e _ h1 h2]

theorem Tre.ard_eq (h : Tre n par nst) (h' : Tre n par' nst') (e : ∀ k, 0 < k → k < n → par k = par' k) {s : Nat} (hs : s < n) (o : Nat) : Ard par nst s o ↔ Ard par' nst' s o := by
  have hn := h.nst_eq h' e s hs
  constructor
  · rintro ⟨j, hj, hu⟩
    exact ⟨j, by omega, by rw [← h.up_eq e hs j hj]; exact hu⟩
  · rintro ⟨j, hj, hu⟩
    exact ⟨j, by omega, by rw [h.up_eq e hs j (by omega)]; exact hu⟩
end

/-- Two tell the same. -/
structure Agr (T R : Sc) : Prop where
  n : T.n = R.n
  par : ∀ k, 0 < k → k < T.n → T.par k = R.par k

theorem Agr.par_eq {T R : Sc} (h : Agr T R) (x : Int) : parV T x = parV R x := by
  unfold parV
  rw [← h.n]
  cases hb : isB T.n x with
  | false => rfl
  | true =>
    obtain ⟨k, rfl, hk⟩ := isB_of hb
    simp only [cond_true, Int.toNat_natCast]
    by_cases e : k = 0
    · subst e; rfl
    · rw [pI_pos _ (by omega), pI_pos _ (by omega), h.par k (by omega) hk]

theorem Agr.nest_eq {T R : Sc} (h : Agr T R) (hT : T.ok) (hR : R.ok) (x : Int) : nestV T x = nestV R x := by
  have hR2 : Tre T.n R.par R.nst := by rw [h.n]; exact hR
  unfold nestV
  rw [← h.n]
  cases hb : isB T.n x with
  | false => rfl
  | true =>
    obtain ⟨k, rfl, hk⟩ := isB_of hb
    simp only [cond_true, Int.toNat_natCast]
    rw [Tre.nst_eq hT hR2 h.par k hk]

theorem Agr.ins_eq {T R : Sc} (h : Agr T R) (hT : T.ok) (hR : R.ok) (x y : Int) : insV T x y = insV R x y := by
  have hR2 : Tre T.n R.par R.nst := by rw [h.n]; exact hR
  cases hb : (isB T.n x && isB T.n y) with
  | false => rw [insV_out T hb, insV_out R (by rw [← h.n]; exact hb)]
  | true =>
    obtain ⟨h1, h2⟩ := Bool.and_eq_true_iff.1 hb
    obtain ⟨k, rfl, hk⟩ := isB_of h1
    obtain ⟨o, rfl, ho⟩ := isB_of h2
    have e1 := insV_in T hk ho
    have e2 := insV_in R (show k < R.n by rw [← h.n]; exact hk) (show o < R.n by rw [← h.n]; exact ho)
    have e3 := Tre.ard_eq hT hR2 h.par hk o
    exact Bool.eq_iff_iff.2 (e1.trans (e3.trans e2.symm))

structure NsM (w0 : World) (b : MB) (tb rb : Nat) (T R : Sc) (A1 : Option Addr) (c1 : Nat) (w : World) : Prop where
  ex : ∃ O P, Trm w O b tb T ∧ RfM w P rb R ∧ (∀ k, O k → w0.heap.size ≤ k) ∧ (∀ k, P k → w0.heap.size ≤ k) ∧ (∀ k, O k → ¬ P k) ∧ (∀ k, ownB A1 k → ¬ P k) ∧ (∀ k, ownB A1 k → ¬ O k)
  fr : Fr (fun _ => False) w0 w
  r1 : OwnR w w0.heap.size 3 1 A1 T.n c1 (fV (pI T.par) T.n)

section
variable {w0 : World} {b : MB} {tb rb : Nat} {T R : Sc} {A1 : Option Addr} {c1 : Nat}

theorem NsM.same {w w' : World} (h : NsM w0 b tb rb T R A1 c1 w) (F : Fr (fun _ => False) w w') : NsM w0 b tb rb T R A1 c1 w' := by
  obtain ⟨O, P, h1, h2, h3⟩ := h.ex
  exact ⟨⟨O, P, h1.same F, h2.same F, h3⟩, h.fr.trans F, OwnR.same h.r1 F⟩

theorem NsM.okT {w : World} (h : NsM w0 b tb rb T R A1 c1 w) : T.ok := by obtain ⟨O, P, h1, h2, h3⟩ := h.ex; exact h1.ok
theorem NsM.okR {w : World} (h : NsM w0 b tb rb T R A1 c1 w) : R.ok := by obtain ⟨O, P, h1, h2, h3⟩ := h.ex; exact h2.ok
theorem NsM.smallT {w : World} (h : NsM w0 b tb rb T R A1 c1 w) : T.n < 1000000 := by obtain ⟨O, P, h1, h2, h3⟩ := h.ex; have := h1.small; omega

variable (w : World)

/-- The document's tree of its own, beside. -/
theorem ns_new {c : Nat} (h : GrD w0 b tb c T A1 c1 w) : Calls Try.prog 12 #[] w fun e w' => ∃ rb, e = .returned (.pointer (some ⟨rb, 0, none⟩)) ∧ NsM w0 b tb rb T (scT 0 []) A1 c1 w' := by
  refine (r_new w 0 []).mono ?_
  rintro e w' ⟨rb, P, he, hR, hF, hlo⟩
  obtain ⟨O, k1, k2, k3⟩ := h.ex
  have hs := h.fr.size
  refine ⟨rb, he, ⟨O, P, k1.same hF, hR, k2, fun k hk => by have := hlo k hk; omega, fun k hk hp => ?_, fun k hk hp => ?_, k3⟩, h.fr.trans hF, OwnR.same h.r1 hF⟩
  · have := hlo k hp; have := k1.lt k hk; omega
  · have := hlo k hp; have := (OwnR.lt h.r1 k hk).2; omega

theorem ns_open (x mo lf y : Int) (p : Nat) (hy : y = p) (hp : p < R.n) (hd : R.nst p < 32) (hx0 : 0 ≤ x) (hx1 : x ≤ mo) (hlf : 2 ≤ lf) (hs : R.n < 1000000) (h : NsM w0 b tb rb T R A1 c1 w) :
    Calls Try.prog 15 #[.pointer (some ⟨rb, 0, none⟩), .int .i64 x, .int .i64 mo, .int .i64 lf, .int .i64 y] w fun e w' => e = .returned (.tuple #[.int .i64 (R.n : Nat), .int .i64 0]) ∧ NsM w0 b tb rb T (R.opn p) A1 c1 w' := by
  obtain ⟨O, P, h1, h2, h3, h4, h5, h6, h7⟩ := h.ex
  refine (r_open_ok w x mo lf y p hy hp hd hx0 hx1 hlf hs h2).mono ?_
  rintro e w' ⟨he, P', k1, k2, k3⟩
  have hs := h.fr.size
  refine ⟨he, ⟨O, P', h1.keep k2 h5, k1, h3, fun k hk => ?_, fun k hk hp => ?_, fun k hk hp => ?_, h7⟩, h.fr.since k2 (fun i hi hl => by have := h4 i hi; omega), OwnR.keep h.r1 k2 h6⟩
  · rcases k3 k hk with h | h; exact h4 k h; omega
  · rcases k3 k hp with h | h
    · exact h5 k hk h
    · have := h1.lt k hk; omega
  · rcases k3 k hp with h8 | h8
    · exact h6 k hk h8
    · have := (OwnR.lt h.r1 k hk).2; omega

theorem ns_len (h : NsM w0 b tb rb T R A1 c1 w) : Calls Try.prog 22 #[.pointer (some ⟨tb, 0, none⟩)] w fun e w' => e = .returned (.int .i64 T.n) ∧ Fr (fun _ => False) w w' := by
  obtain ⟨O, P, h1, _⟩ := h.ex
  exact (len_ok w h1).mono fun e w' ⟨he, hw⟩ => ⟨he, hw ▸ Fr.refl _ _⟩
theorem ns_parent (x v : Int) (hv : parV T x = v) (h : NsM w0 b tb rb T R A1 c1 w) : Calls Try.prog 26 #[.pointer (some ⟨tb, 0, none⟩), .int .i64 x] w fun e w' => e = .returned (.int .i64 v) ∧ Fr (fun _ => False) w w' := by
  subst hv
  obtain ⟨O, P, h1, _⟩ := h.ex
  exact parent_any w x h1
theorem ns_nest (x v : Int) (hv : nestV T x = v) (h : NsM w0 b tb rb T R A1 c1 w) : Calls Try.prog 28 #[.pointer (some ⟨tb, 0, none⟩), .int .i64 x] w fun e w' => e = .returned (.int .i64 v) ∧ Fr (fun _ => False) w w' := by
  subst hv
  obtain ⟨O, P, h1, _⟩ := h.ex
  exact nest_any w x h1
theorem ns_inside (x y : Int) (v : Bool) (hv : insV T x y = v) (h : NsM w0 b tb rb T R A1 c1 w) : Calls Try.prog 30 #[.pointer (some ⟨tb, 0, none⟩), .int .i64 x, .int .i64 y] w fun e w' => e = .returned (.bool v) ∧ Fr (fun _ => False) w w' := by
  subst hv
  obtain ⟨O, P, h1, _⟩ := h.ex
  exact inside_any w x y h1
theorem ns_rparent (x v : Int) (hv : parV R x = v) (h : NsM w0 b tb rb T R A1 c1 w) : Calls Try.prog 27 #[.pointer (some ⟨rb, 0, none⟩), .int .i64 x] w fun e w' => e = .returned (.int .i64 v) ∧ Fr (fun _ => False) w w' := by
  subst hv
  obtain ⟨O, P, _, h2, _⟩ := h.ex
  exact (r_parent w x h2).mono fun e w' ⟨he, hw⟩ => ⟨he, hw ▸ Fr.refl _ _⟩
theorem ns_rnest (x v : Int) (hs : R.n < 1000000) (hv : nestV R x = v) (h : NsM w0 b tb rb T R A1 c1 w) : Calls Try.prog 29 #[.pointer (some ⟨rb, 0, none⟩), .int .i64 x] w fun e w' => e = .returned (.int .i64 v) ∧ Fr (fun _ => False) w w' := by
  subst hv
  obtain ⟨O, P, _, h2, _⟩ := h.ex
  exact (r_nest w x hs h2).mono fun e w' ⟨he, hw⟩ => ⟨he, hw ▸ Fr.refl _ _⟩
theorem ns_rinside (x y : Int) (v : Bool) (hv : insV R x y = v) (h : NsM w0 b tb rb T R A1 c1 w) : Calls Try.prog 31 #[.pointer (some ⟨rb, 0, none⟩), .int .i64 x, .int .i64 y] w fun e w' => e = .returned (.bool v) ∧ Fr (fun _ => False) w w' := by
  subst hv
  obtain ⟨O, P, _, h2, _⟩ := h.ex
  exact (r_inside w x y h2).mono fun e w' ⟨he, hw⟩ => ⟨he, hw ▸ Fr.refl _ _⟩
end

/-- The document's tree has the first i of the program's scopes. -/
def NoRel (w0 : World) (b : MB) (tb rb : Nat) (T : Sc) (A1 : Option Addr) (c1 : Nat) (d : Nat) (z : Value) (w : World) : Prop :=
  ∃ (i : Nat) (R : Sc), 0 < i ∧ i ≤ T.n ∧ d = T.n + 1 - i ∧ z = .int .i64 i ∧ R.n = i ∧ (∀ k, 0 < k → k < i → T.par k = R.par k) ∧ NsM w0 b tb rb T R A1 c1 w

theorem opn_agr {T R : Sc} {i : Nat} (hn : R.n = i) (h : ∀ k, 0 < k → k < i → T.par k = R.par k) : ∀ k, 0 < k → k < i + 1 → T.par k = (R.opn (T.par i)).par k := by
  intro k h0 hk
  show T.par k = if k = R.n then T.par i else R.par k
  by_cases e : k = i
  · rw [if_pos (by omega), e]
  · rw [if_neg (by omega)]; exact h k h0 (by omega)
end Go.Proofs.Ytoajdknhllaoeaa
