/-
  grow of the laws: scopes opened in those that numbers tell (walk).
-/
import Derived.Test.YtoajdknhllaoeaaAw
import Derived.Test.YtoajdknhllaoeaaOpb
namespace Go.Proofs.Ytoajdknhllaoeaa
open Go.RowKit
set_option linter.unusedVariables false

theorem wrapped_n (a : Int) (n : Nat) (h0 : 0 < n) (h1 : n < 1000000) : ∃ u : Nat, u < n ∧ (Int.tmod (wrap64 (Int.tmod a n + n)) n) = u := by
  have h2 := Int.tmod_lt_of_pos a (show (0 : Int) < n by omega)
  have h3 := Int.tmod_lt_of_pos (-a) (show (0 : Int) < n by omega)
  rw [Int.neg_tmod] at h3
  generalize Int.tmod a n = t at h2 h3
  rw [show wrap64 (t + n) = t + n by unfold wrap64; omega]
  have h4 : 0 ≤ t + n := by omega
  rw [Int.tmod_eq_emod_of_nonneg h4]
  have h5 := Int.emod_nonneg (t + n) (show (n : Int) ≠ 0 by omega)
  have h6 := Int.emod_lt_of_pos (t + n) (show (0 : Int) < n by omega)
  exact ⟨((t + n) % n).toNat, by omega, by omega⟩

theorem infon : (Try.prog.info? 3).map (fun i => (i.zero, i.size, i.bytes)) = some (some (.int .i64 0), 1, 8) := by kernel_rfl

/-- Numbers told by a function, in a row. -/
def fV (f : Nat → Int) : Nat → List Value
  | 0 => []
  | n + 1 => fV f n ++ [.int .i64 (f n)]

theorem fV_len (f : Nat → Int) (n : Nat) : (fV f n).length = n := by
  induction n with
  | zero => rfl
  | succ n ih => rw [fV, List.length_append, ih]; rfl

theorem fV_at (f : Nat → Int) {n k : Nat} (h : k < n) : (fV f n)[k]? = some (.int .i64 (f k)) := by
  induction n with
  | zero => omega
  | succ n ih =>
    rw [fV]
    by_cases e : k = n
    · subst e
      rw [List.getElem?_append_right (by rw [fV_len]; omega), fV_len]
      simp
    · rw [List.getElem?_append_left (by rw [fV_len]; omega)]
      exact ih (by omega)

theorem fV_cong {f g : Nat → Int} {n : Nat} (h : ∀ k, k < n → f k = g k) : fV f n = fV g n := by
  induction n with
  | zero => rfl
  | succ n ih => rw [fV, fV, ih (fun k hk => h k (by omega)), h n (by omega)]

/-- A row of one's own is read. -/
theorem OwnR.at_ {w : World} {B : Nat} {e : TypeId} {A : Option Addr} {n cap : Nat} {f : Nat → Int} (h : OwnR w B e 1 A n cap (fV f n)) {k : Nat} (hk : k < n) :
    ∃ g, A = some ⟨g, 0, none⟩ ∧ n ≤ cap ∧ g < w.heap.size ∧ w.cell? ⟨g, k, none⟩ = some (.int .i64 (f k)) := by
  obtain ⟨g, hA, hB, hg, _, hc⟩ := h.cell (by omega)
  refine ⟨g, hA, ?_, hg, hc k _ (fV_at f hk)⟩
  rcases h.2 with ⟨h3, h4⟩ | ⟨g', c', cur, hv, _, _, h5, _⟩
  · omega
  · injection hv with _ _ hv; omega

def nsI (nst : Nat → Nat) (k : Nat) : Int := nst k

structure GrM (w0 : World) (b : MB) (tb c : Nat) (T : Sc) (A1 A2 : Option Addr) (c1 c2 : Nat) (w : World) : Prop where
  ex : ∃ O, Trm w O b tb T ∧ (∀ k, O k → w0.heap.size ≤ k) ∧ (∀ k, ownB A1 k → ¬ O k) ∧ (∀ k, ownB A2 k → ¬ O k)
  fr : Fr (fun _ => False) w0 w
  r1 : OwnR w w0.heap.size 3 1 A1 T.n c1 (fV (pI T.par) T.n)
  r2 : OwnR w w0.heap.size 3 1 A2 T.n c2 (fV (nsI T.nst) T.n)
  ap : ∀ k, ownB A1 k → ¬ ownB A2 k
  z : T.z = 200
  did : Did T.s c T.n
  d : ∀ k, k < T.n → T.nst k ≤ 32
  na : ∀ k, T.asked k = false

/-- What grow tells. -/
structure GrD (w0 : World) (b : MB) (tb c : Nat) (T : Sc) (A1 : Option Addr) (c1 : Nat) (w : World) : Prop where
  ex : ∃ O, Trm w O b tb T ∧ (∀ k, O k → w0.heap.size ≤ k) ∧ (∀ k, ownB A1 k → ¬ O k)
  fr : Fr (fun _ => False) w0 w
  r1 : OwnR w w0.heap.size 3 1 A1 T.n c1 (fV (pI T.par) T.n)
  z : T.z = 200
  did : Did T.s c T.n
  d : ∀ k, k < T.n → T.nst k ≤ 32
  na : ∀ k, T.asked k = false

section
variable {w0 w w' : World} {b : MB} {tb c : Nat} {T : Sc} {A1 A2 : Option Addr} {c1 c2 : Nat}

theorem GrM.told (h : GrM w0 b tb c T A1 A2 c1 c2 w) : GrD w0 b tb c T A1 c1 w := by
  obtain ⟨O, h1, h2, h3, h4⟩ := h.ex
  exact ⟨⟨O, h1, h2, h3⟩, h.fr, h.r1, h.z, h.did, h.d, h.na⟩

theorem GrM.same (h : GrM w0 b tb c T A1 A2 c1 c2 w) (F : Fr (fun _ => False) w w') : GrM w0 b tb c T A1 A2 c1 c2 w' := by
  obtain ⟨O, h1, h2, h3, h4⟩ := h.ex
  exact ⟨⟨O, h1.same F, h2, h3, h4⟩, h.fr.trans F, OwnR.same h.r1 F, OwnR.same h.r2 F, h.ap, h.z, h.did, h.d, h.na⟩

/-- Behind an Open, ahead of the rows. -/
structure GrN (w0 : World) (b : MB) (tb c : Nat) (T T' : Sc) (A1 A2 : Option Addr) (c1 c2 : Nat) (w : World) : Prop where
  ex : ∃ O, Trm w O b tb T' ∧ (∀ k, O k → w0.heap.size ≤ k) ∧ (∀ k, ownB A1 k → ¬ O k) ∧ (∀ k, ownB A2 k → ¬ O k)
  fr : Fr (fun _ => False) w0 w
  r1 : OwnR w w0.heap.size 3 1 A1 T.n c1 (fV (pI T.par) T.n)
  r2 : OwnR w w0.heap.size 3 1 A2 T.n c2 (fV (nsI T.nst) T.n)
  ap : ∀ k, ownB A1 k → ¬ ownB A2 k

theorem gr_open (w : World) (p : Nat) (hp : p < T.n) (hd : T.nst p ≠ 32) (hs : T.n ≤ 90) (hc : 0 < c) (h : GrM w0 b tb c T A1 A2 c1 c2 w) :
    Calls Try.prog 14 #[.pointer (some ⟨tb, 0, none⟩), .pointer (some ⟨b.m, 0, none⟩), .int .i64 0, .int .i64 p] w fun e w' => e = .returned (.tuple #[.int .i64 (T.n : Nat), .int .i64 0]) ∧ GrN w0 b tb c T ((T.step 0).opn p) A1 A2 c1 c2 w' := by
  obtain ⟨O, h1, h2, h3, h4⟩ := h.ex
  refine (open_ok w 0 p 0 rfl (by rw [h.did.len]; exact hc) hp hd (by rw [h.z]; omega) h1).mono ?_
  rintro e w' ⟨he, O', k1, k2, k3⟩
  have q1 := fun k hk => (OwnR.lt h.r1 k hk)
  have q2 := fun k hk => (OwnR.lt h.r2 k hk)
  refine ⟨he, ⟨O', k1, fun k hk => ?_, fun k hk hk2 => ?_, fun k hk hk2 => ?_⟩, h.fr.since k2 (fun i hi hl => by have := h2 i hi; omega), OwnR.keep h.r1 k2 h3, OwnR.keep h.r2 k2 h4, h.ap⟩
  · rcases k3 k hk with h6 | h6
    · exact h2 k h6
    · have := h.fr.size; omega
  · rcases k3 k hk2 with h6 | h6
    · exact h3 k hk h6
    · have := (q1 k hk).2; omega
  · rcases k3 k hk2 with h6 | h6
    · exact h4 k hk h6
    · have := (q2 k hk).2; omega

theorem gr_deep (w : World) (p : Nat) (hp : p < T.n) (hd : T.nst p = 32) (h : GrM w0 b tb c T A1 A2 c1 c2 w) :
    Calls Try.prog 14 #[.pointer (some ⟨tb, 0, none⟩), .pointer (some ⟨b.m, 0, none⟩), .int .i64 0, .int .i64 p] w fun e w' => e = .returned (.tuple #[.int .i64 0, .int .i64 23]) ∧ GrM w0 b tb c T A1 A2 c1 c2 w' := by
  obtain ⟨O, h1, h2, h3, h4⟩ := h.ex
  exact (open_deep w p 0 hp hd h1).mono fun e w' ⟨he, hF⟩ => ⟨he, h.same hF⟩

/-- The rows have grown. -/
theorem GrN.grown {T : Sc} {p : Nat} {g1 g2 d1 d2 : Nat} {w w1 w2 : World} {o1 o2 : Obj} (hG : GrM w0 b tb c T A1 A2 c1 c2 w') (h : GrN w0 b tb c T ((T.step 0).opn p) A1 A2 c1 c2 w) (hp : p < T.n) (hd : T.nst p ≠ 32) (hs : T.n ≤ 90) (hc : 0 < c)
    (k1 : OwnR w1 w0.heap.size 3 1 (some ⟨g1, 0, none⟩) (T.n + 1) d1 (fV (pI T.par) T.n ++ [.int .i64 (p : Nat)])) (f1 : Fr (ownB A1) (w.alloc o1) w1) (l1 : ownB A1 g1 ∨ g1 = w.heap.size + 1)
    (k2 : OwnR w2 w0.heap.size 3 1 (some ⟨g2, 0, none⟩) (T.n + 1) d2 (fV (nsI T.nst) T.n ++ [.int .i64 ((T.nst p : Nat) + 1)])) (f2 : Fr (ownB A2) (w1.alloc o2) w2) (l2 : ownB A2 g2 ∨ g2 = w1.heap.size + 1) :
    GrM w0 b tb c ((T.step 0).opn p) (some ⟨g1, 0, none⟩) (some ⟨g2, 0, none⟩) d1 d2 w2 := by
  obtain ⟨O, h1, h2, h3, h4⟩ := h.ex
  have F1 : Fr (ownB A1) w w1 := (Fr.alloc _ _ _).trans f1
  have F2 : Fr (ownB A2) w1 w2 := (Fr.alloc _ _ _).trans f2
  have hlt := h1.lt
  have q1 := fun k hk => (OwnR.lt h.r1 k hk)
  have q2 := fun k hk => (OwnR.lt h.r2 k hk)
  have o1 : ∀ k, ownB (some ⟨g1, 0, none⟩) k → ¬ O k := by
    rintro k ⟨a, ha, rfl⟩ hk
    cases ha
    rcases l1 with l1 | l1
    · exact h3 _ l1 hk
    · have := hlt _ hk
      have hk2 : g1 < w.heap.size := hlt _ hk
      omega
  have o2 : ∀ k, ownB (some ⟨g2, 0, none⟩) k → ¬ O k := by
    rintro k ⟨a, ha, rfl⟩ hk
    cases ha
    rcases l2 with l2 | l2
    · exact h4 _ l2 hk
    · have hk2 : g2 < w.heap.size := hlt _ hk
      have := F1.size
      omega
  have hn : ((T.step 0).opn p).n = T.n + 1 := rfl
  have e1 : fV (pI ((T.step 0).opn p).par) (T.n + 1) = fV (pI T.par) T.n ++ [.int .i64 (p : Nat)] := by
    rw [fV, fV_cong (g := pI T.par) (fun k hk => ?_)]
    · rw [pI_pos _ hG.ex.choose_spec.1.pos]
      rw [show ((T.step 0).opn p).par T.n = p from if_pos rfl]
    · unfold pI
      rw [show ((T.step 0).opn p).par k = T.par k from if_neg (by show ¬ k = T.n; omega)]
  have e2 : fV (nsI ((T.step 0).opn p).nst) (T.n + 1) = fV (nsI T.nst) T.n ++ [.int .i64 ((T.nst p : Nat) + 1)] := by
    rw [fV, fV_cong (g := nsI T.nst) (fun k hk => ?_)]
    · unfold nsI
      rw [show ((T.step 0).opn p).nst T.n = T.nst p + 1 from if_pos rfl]
      rfl
    · unfold nsI
      rw [show ((T.step 0).opn p).nst k = T.nst k from if_neg (by show ¬ k = T.n; omega)]
  have apx : ∀ k, ownB (some ⟨g1, 0, none⟩) k → ¬ ownB A2 k := by
    rintro k ⟨a, ha, rfl⟩ hk
    cases ha
    rcases l1 with l1 | l1
    · exact h.ap _ l1 hk
    · have hk2 : g1 < w.heap.size := (q2 _ hk).2
      omega
  refine ⟨⟨O, (h1.keep F1 (fun k hk hk2 => h3 k hk2 hk)).keep F2 (fun k hk hk2 => h4 k hk2 hk), h2, o1, o2⟩, (h.fr.since F1 (fun i hi hl => by have := (q1 i hi).1; omega)).since F2 (fun i hi hl => by have := (q2 i hi).1; omega), ?_, ?_, ?_, hG.z, ?_, fun k hk => ?_, fun k => ?_⟩
  · rw [hn, e1]; exact OwnR.keep k1 F2 apx
  · rw [hn, e2]; exact k2
  · rintro k hk ⟨a, ha, rfl⟩
    cases ha
    rcases l2 with l2 | l2
    · exact apx _ hk l2
    · have h5 := (OwnR.lt k1 _ hk).2
      have h6 : g2 < w1.heap.size := h5
      omega
  · exact hG.did.stp hc (by omega)
  · have hk' : k < T.n + 1 := hk
    show (if k = T.n then T.nst p + 1 else T.nst k) ≤ 32
    split
    · have := hG.d p hp; omega
    · exact hG.d k (by omega)
  · show (if k = T.n then false else T.asked k) = false
    split
    · rfl
    · exact hG.na k
end
end Go.Proofs.Ytoajdknhllaoeaa
