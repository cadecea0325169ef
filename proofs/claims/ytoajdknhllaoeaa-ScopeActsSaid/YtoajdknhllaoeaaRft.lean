/-
  The document's tree of scopes, in memory; Is, Parent, Nest, Inside of both (walks).
-/
import Derived.Test.YtoajdknhllaoeaaGrx
namespace Go.Proofs.Ytoajdknhllaoeaa
open Go.RowKit
set_option linter.unusedVariables false

/-- Truths told by a function, in a row. -/
def bV (f : Nat → Bool) : Nat → List Value
  | 0 => []
  | n + 1 => bV f n ++ [.bool (f n)]

theorem bV_len (f : Nat → Bool) (n : Nat) : (bV f n).length = n := by
  induction n with
  | zero => rfl
  | succ n ih => rw [bV, List.length_append, ih]; rfl

theorem bV_at (f : Nat → Bool) {n k : Nat} (h : k < n) : (bV f n)[k]? = some (.bool (f k)) := by
  induction n with
  | zero => omega
  | succ n ih =>
    rw [bV]
    by_cases e : k = n
    · subst e
      rw [List.getElem?_append_right (by rw [bV_len]; omega), bV_len]
      simp
    · rw [List.getElem?_append_left (by rw [bV_len]; omega)]
      exact ih (by omega)

theorem bV_cong {f g : Nat → Bool} {n : Nat} (h : ∀ k, k < n → f k = g k) : bV f n = bV g n := by
  induction n with
  | zero => rfl
  | succ n ih => rw [bV, bV, ih (fun k hk => h k (by omega)), h n (by omega)]

/-- The document's tree at rb; P bears its blocks. -/
structure RfM (w : World) (P : Nat → Prop) (rb : Nat) (T : Sc) : Prop where
  ex : ∃ A1 c1 A2 c2 A3 c3, TBlk w rb #[.slice A1 T.n c1, .slice A2 T.n c2, .slice A3 T.n c3] 43 ∧ OwnR w 0 3 1 A1 T.n c1 (fV (pI T.par) T.n) ∧ OwnR w 0 4 1 A2 T.n c2 (bV T.asked T.n) ∧ OwnR w 0 2 1 A3 T.n c3 (fV T.live T.n) ∧ P rb ∧ (∀ k, ownB A1 k → P k) ∧ (∀ k, ownB A2 k → P k) ∧ ∀ k, ownB A3 k → P k
  ok : T.ok
  lt : ∀ k, P k → k < w.heap.size

section
variable {w w' : World} {P : Nat → Prop} {rb : Nat} {T : Sc}

theorem RfM.keep (h : RfM w P rb T) {S : Nat → Prop} (F : Fr S w w') (hs : ∀ k, P k → ¬ S k) : RfM w' P rb T := by
  obtain ⟨A1, c1, A2, c2, A3, c3, h1, h2, h3, h4, h5, h6, h7, h8⟩ := h.ex
  exact ⟨⟨A1, c1, A2, c2, A3, c3, h1.keep F (hs _ h5), OwnR.keep h2 F (fun k hk => hs k (h6 k hk)), OwnR.keep h3 F (fun k hk => hs k (h7 k hk)), OwnR.keep h4 F (fun k hk => hs k (h8 k hk)), h5, h6, h7, h8⟩, h.ok, fun k hk => Nat.lt_of_lt_of_le (h.lt k hk) F.size⟩
theorem RfM.same (h : RfM w P rb T) (F : Fr (fun _ => False) w w') : RfM w' P rb T := h.keep F (fun _ _ hh => hh)

/-- What is read of it: where its rows lie. -/
theorem RfM.par_ (h : RfM w P rb T) : ∃ g c q r, w.cell? ⟨rb, 0, none⟩ = some (.slice (some ⟨g, 0, none⟩) T.n c) ∧ T.n ≤ c ∧ rb < w.heap.size ∧ (∀ k, k < T.n → w.cell? ⟨g, k, none⟩ = some (.int .i64 (pI T.par k))) ∧ w.cell? ⟨rb, 1, none⟩ = some q ∧ w.cell? ⟨rb, 2, none⟩ = some r := by
  obtain ⟨A1, c1, A2, c2, A3, c3, h1, h2, h3, h4, h5, h6, h7, h8⟩ := h.ex
  obtain ⟨g, rfl, hc, hg, _⟩ := h2.at_ h.ok.pos
  refine ⟨g, c1, _, _, h1.cell rfl, hc, h1.lt, fun k hk => ?_, h1.cell rfl, h1.cell rfl⟩
  obtain ⟨g', hA, _, _, hcl⟩ := h2.at_ hk
  injection hA with hA
  injection hA with hA
  subst hA
  exact hcl
end

/-- What Parent, Nest, Inside tell of any numbers. -/
def parV (T : Sc) (x : Int) : Int := bif isB T.n x then pI T.par x.toNat else -1
def nestV (T : Sc) (x : Int) : Int := bif isB T.n x then (T.nst x.toNat : Int) else -1
noncomputable def insV (T : Sc) (x y : Int) : Bool := isB T.n x && isB T.n y && @decide (Ard T.par T.nst x.toNat y.toNat) (Classical.propDecidable _)

theorem parV_in (T : Sc) {k : Nat} (h : k < T.n) : parV T k = pI T.par k := by unfold parV; rw [isB_yes h]; rfl
theorem parV_out (T : Sc) {x : Int} (h : isB T.n x = false) : parV T x = -1 := by unfold parV; rw [h]; rfl
theorem nestV_in (T : Sc) {k : Nat} (h : k < T.n) : nestV T k = T.nst k := by unfold nestV; rw [isB_yes h]; rfl
theorem nestV_out (T : Sc) {x : Int} (h : isB T.n x = false) : nestV T x = -1 := by unfold nestV; rw [h]; rfl
theorem insV_in (T : Sc) {k o : Nat} (h : k < T.n) (h2 : o < T.n) : insV T k o = true ↔ Ard T.par T.nst k o := by unfold insV; rw [isB_yes h, isB_yes h2]; simp
theorem insV_out (T : Sc) {x y : Int} (h : (isB T.n x && isB T.n y) = false) : insV T x y = false := by unfold insV; rw [h]; rfl

section
variable {O P : Nat → Prop} {b : MB} {tb rb : Nat} {T : Sc} (w : World)

theorem parent_any (x : Int) (h : Trm w O b tb T) : Calls Try.prog 26 #[.pointer (some ⟨tb, 0, none⟩), .int .i64 x] w fun e w' => e = .returned (.int .i64 (parV T x)) ∧ Fr (fun _ => False) w w' := by
  cases hb : isB T.n x with
  | true => obtain ⟨k, rfl, hk⟩ := isB_of hb; rw [parV_in T hk]; exact parent_ok w k hk h
  | false => rw [parV_out T hb]; exact parent_no w x hb h

theorem nest_any (x : Int) (h : Trm w O b tb T) : Calls Try.prog 28 #[.pointer (some ⟨tb, 0, none⟩), .int .i64 x] w fun e w' => e = .returned (.int .i64 (nestV T x)) ∧ Fr (fun _ => False) w w' := by
  cases hb : isB T.n x with
  | true => obtain ⟨k, rfl, hk⟩ := isB_of hb; rw [nestV_in T hk]; exact nest_ok w k hk h
  | false => rw [nestV_out T hb]; exact nest_no w x hb h

theorem inside_any (x y : Int) (h : Trm w O b tb T) : Calls Try.prog 30 #[.pointer (some ⟨tb, 0, none⟩), .int .i64 x, .int .i64 y] w fun e w' => e = .returned (.bool (insV T x y)) ∧ Fr (fun _ => False) w w' := by
  cases hb : (isB T.n x && isB T.n y) with
  | true =>
    obtain ⟨h1, h2⟩ := Bool.and_eq_true_iff.1 hb
    obtain ⟨k, rfl, hk⟩ := isB_of h1
    obtain ⟨o, rfl, ho⟩ := isB_of h2
    exact inside_ok w k o _ hk ho (insV_in T hk ho) h
  | false => rw [insV_out T hb]; exact inside_no w x y hb h

/-! ### The document's -/

set_option maxHeartbeats 1000000 in
theorem r_is (x : Int) (h : RfM w P rb T) : Calls Try.prog 33 #[.pointer (some ⟨rb, 0, none⟩), .int .i64 x] w fun e w' => e = .returned (.bool (isB T.n x)) ∧ w = w' := by
  obtain ⟨g, c, q, r, c0, hc, hl, -, -, -⟩ := h.par_
  obtain ⟨n, hn⟩ : ∃ n, T.n = n := ⟨_, rfl⟩
  rw [hn] at c0 hc ⊢
  clear h hn
  by_cases hx : 0 ≤ x
  · obtain ⟨k, rfl⟩ := Int.eq_ofNat_of_zero_le hx
    have t1 : decide ((0 : Int) ≤ (k : Int)) = true := decide_eq_true (by omega)
    have t2 : isB n k = decide (k < n) := by unfold isB; rw [t1]; simp
    rw [t2]
    clear t2 hx
    go_enter Try.func33, Try.ntmps33
    go_wp2_with fail
    go_ret
    exact ⟨by simp, rfl⟩
  · have t1 : decide ((0 : Int) ≤ x) = false := decide_eq_false hx
    have t2 : isB n x = false := isB_no (by omega)
    rw [t2]
    clear t2 hx
    go_enter Try.func33, Try.ntmps33
    go_wp2_with fail
    go_ret
    exact ⟨rfl, rfl⟩

set_option maxRecDepth 100000 in
set_option maxHeartbeats 1000000 in
theorem r_parent (x : Int) (h : RfM w P rb T) : Calls Try.prog 27 #[.pointer (some ⟨rb, 0, none⟩), .int .i64 x] w fun e w' => e = .returned (.int .i64 (parV T x)) ∧ w = w' := by
  have HIS := hid (r_is w x h)
  cases hb : isB T.n x with
  | true =>
    rw [hb] at HIS
    obtain ⟨k, rfl, hk⟩ := isB_of hb
    rw [parV_in T hk]
    obtain ⟨g, c, q, r, c0, hc, hl, hcl, -, -⟩ := h.par_
    have c1 := hcl k hk
    obtain ⟨n, hn⟩ : ∃ n, T.n = n := ⟨_, rfl⟩
    obtain ⟨v, hv⟩ : ∃ n, pI T.par k = n := ⟨_, rfl⟩
    rw [hn] at c0 hc hk
    rw [hv] at c1 ⊢
    have hk2 : (k : Int) < n := by omega
    clear h hn hv hcl hb
    go_enter Try.func27, Try.ntmps27
    go_wp2_with fail
    refine HIS.out.mono ?_
    rintro e w2 ⟨rfl, rfl⟩
    go_wp2_with fail
    go_ret
    exact ⟨rfl, rfl⟩
  | false =>
    rw [hb] at HIS
    rw [parV_out T hb]
    clear h hb
    go_enter Try.func27, Try.ntmps27
    go_wp2_with fail
    refine HIS.out.mono ?_
    rintro e w2 ⟨rfl, rfl⟩
    go_wp2_with fail
    go_ret
    exact ⟨rfl, rfl⟩

def RnRel (w : World) (T : Sc) (s : Nat) (d : Nat) (x y : Value) (wr : World) : Prop := ∃ t : Nat, t ≤ T.nst s ∧ d = T.nst s + 1 - t ∧ x = .int .i64 (up T.par s t : Nat) ∧ y = .int .i64 t ∧ w = wr

set_option maxRecDepth 100000 in
set_option maxHeartbeats 2000000 in
theorem r_nest (x : Int) (hs : T.n < 1000000) (h : RfM w P rb T) : Calls Try.prog 29 #[.pointer (some ⟨rb, 0, none⟩), .int .i64 x] w fun e w' => e = .returned (.int .i64 (nestV T x)) ∧ w = w' := by
  have HIS := hid (r_is w x h)
  cases hb : isB T.n x with
  | true =>
    rw [hb] at HIS
    obtain ⟨k, rfl, hk⟩ := isB_of hb
    rw [nestV_in T hk]
    obtain ⟨g, c, q, r, c0, hc, hl, hcl, -, -⟩ := h.par_
    have HCL := hid hcl
    have HOK := hid h.ok
    have HK := hid hk
    have HNB := hid (show T.nst k < 1000000 from by have := Tre.nst_le h.ok k hk; omega)
    have HREL := hid (show RnRel w T k (T.nst k + 1) (.int .i64 k) (.int .i64 0) w from ⟨0, by omega, by omega, rfl, rfl, rfl⟩)
    clear h hcl hb hk hs
    go_enter Try.func29, Try.ntmps29
    go_wp2_with fail
    refine HIS.out.mono ?_
    rintro e w2 ⟨rfl, rfl⟩
    go_wp2_with fail
    go_loopg [1, 5] (T.nst k + 1) (fun d x y wr => RnRel w T k d x y wr)
    case atStart => exact HREL.out
    case round =>
      clear HREL
      obtain ⟨t, ht, rfl, rfl, rfl, hw⟩ := hrel
      subst hw
      have HTT := hid ht
      have HUP := hid (Tre.up_in HOK.out HK.out t ht)
      by_cases hlt : t < T.nst k
      · have hp := Tre.up_pos HOK.out HK.out hlt
        have HPU := hid (pI_up HOK.out HK.out hlt)
        have hin := HUP.out.1
        have c1 := HCL.out _ hin
        have htb : t < 1000000 := by have := HNB.out; omega
        obtain ⟨j, hj⟩ : ∃ j, up T.par k t = j := ⟨_, rfl⟩
        rw [hj] at hp HPU hin c1 ⊢
        obtain ⟨v, hv⟩ : ∃ v, pI T.par j = v := ⟨_, rfl⟩
        rw [hv] at c1 HPU
        have t1 : ((j : Int) != 0) = true := by simp; omega
        have hin2 : (j : Int) < T.n := by omega
        clear hj hv ht
        go_wp2_with fail
        go_roundg (T.nst k + 1 - (t + 1))
        case rel => exact ⟨t + 1, hlt, by omega, by rw [HPU.out], by go_num, rfl⟩
        case measure => omega
      · obtain rfl : t = T.nst k := by omega
        rw [Tre.up_top HOK.out HK.out]
        go_wp2_with fail
        go_ret
        exact ⟨rfl, rfl⟩
  | false =>
    rw [hb] at HIS
    rw [nestV_out T hb]
    clear h hb
    go_enter Try.func29, Try.ntmps29
    go_wp2_with fail
    refine HIS.out.mono ?_
    rintro e w2 ⟨rfl, rfl⟩
    go_wp2_with fail
    go_ret
    exact ⟨rfl, rfl⟩
end
end Go.Proofs.Ytoajdknhllaoeaa
