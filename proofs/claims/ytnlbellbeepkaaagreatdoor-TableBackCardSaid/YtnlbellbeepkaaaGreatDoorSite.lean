/-
  Stage 7: what is wrong with a row: the program's questions.
-/
import Derived.Test.YtnlbellbeepkaaaGreatDoorWay
import Derived.Test.YtnlbellbeepkaaaGreatDoorChk
import Derived.Test.YtnlbellbeepkaaaGreatDoorWithin
namespace Go.Proofs.YtnlbellbeepkaaaGreatDoor
open Go.RowKit
set_option linter.unusedVariables false

theorem ret_int {a b : Int} (h : a = b) : Ending.returned (.int .i64 a) = .returned (.int .i64 b) := by rw [h]

def tol (b : Bool) (e : Int) : Int := if b then e else 0

theorem told_any (b : Bool) (e : Int) (w : World) : Calls Tryz.prog 50 #[.bool b, .int .i64 e] w fun x w' => x = .returned (.int .i64 (tol b e)) ∧ w = w' := by
  cases b
  all_goals
    go_enter Tryz.func50, Tryz.ntmps50
    go_wp2
    go_ret
    exact ⟨rfl, rfl⟩

/-- A row and those ahead of it, by value. -/
def sitC (A : Option Addr) (n c : Nat) (r : Tw) : Array Value := #[.slice A n c, .int .i64 r.par, .int .i64 r.in_, .int .i64 r.fn, .int .i64 r.kind, .int .i64 r.v, .int .i64 r.st, .string r.cl]

/-- Where the climb stands. -/
def ClRel (a : List Tw) (t X : Int) (n : Nat) (w : World) (d : Nat) (x : Value) (wr : World) : Prop := ∃ (y : Int) (f : Nat), x = .int .i64 y ∧ d = (y + 1).toNat ∧ y ≤ f ∧ -1 ≤ y ∧ y < n ∧ climb a t f y = X ∧ Fr (fun _ => False) w wr

theorem climb_at {a : List Tw} {t X y : Int} {f : Nat} (h : climb a t f y = X) (hs : ¬ (0 < y ∧ y ≠ t)) : X = y := by
  rw [← h]
  cases f with
  | zero => rfl
  | succ f => simp only [climb]; rw [if_neg hs]

theorem climb_on {a : List Tw} {t X y : Int} {f : Nat} (h : climb a t f y = X) (hf : y ≤ f) (hs : 0 < y ∧ y ≠ t) : ∃ g, f = g + 1 ∧ climb a t g (parAt a y) = X := by
  cases f with
  | zero => omega
  | succ f => simp only [climb] at h; rw [if_pos hs] at h; exact ⟨f, rfl, h⟩

set_option maxRecDepth 100000 in
set_option maxHeartbeats 1000000 in
theorem parent_any (A : Option Addr) (n c : Nat) (a : List Tw) (r : Tw) (w : World) (hA : RdT w A a) (hl : a.length = n) (hn : n ≤ 4000000) (ht : Tabl a) :
    Calls Tryz.prog 28 #[.agg (sitC A n c r)] w fun e w' => e = .returned (.int .i64 (tol (!parB a r.par) 11)) ∧ Fr (fun _ => False) w w' := by
  obtain ⟨X, hX⟩ : ∃ X, climb a r.par a.length ((a.length : Int) - 1) = X := ⟨_, rfl⟩
  have HQ := hid (show (X != r.par) = !parB a r.par by unfold parB; rw [hX]; rfl)
  rw [hl] at hX
  have HX := hid hX
  have HL := hid hl
  have HT := hid ht
  clear hX hl ht
  have hF0 := Fr.alloc (fun _ => False) w (.cells (sitC A n c r) 68)
  have hB0 := Blk.new w (sitC A n c r) 68
  obtain ⟨p, i, f, k, v, s, cl⟩ := r
  unfold sitC at *
  simp only at HQ HX hF0 hB0 ⊢
  obtain ⟨w1, hw1⟩ : ∃ w1, w1 = w.alloc (.cells #[.slice A n c, .int .i64 p, .int .i64 i, .int .i64 f, .int .i64 k, .int .i64 v, .int .i64 s, .string cl] 68) := ⟨_, rfl⟩
  rw [← hw1] at hF0 hB0
  have HB0 := hid hB0
  have HF0 := hid hF0
  have b0 := hB0.cell (i := 0) rfl
  have b1 := hB0.cell (i := 1) rfl
  simp only [List.getElem_toArray, List.getElem_cons_zero, List.getElem_cons_succ] at b0 b1
  have l0 := hB0.lt
  clear hB0 hF0
  go_enter Tryz.func28, Tryz.ntmps28
  go_upto_region 1 with fail
  rw [← hw1]
  clear hw1
  go_wp2_with fail
  go_loopg [3] n (fun d x wr => ClRel a p X n w1 d x wr)
  case atStart => exact ⟨(n : Int) - 1, n, rfl, by omega, by omega, by omega, by omega, HX.out, Fr.refl _ _⟩
  case round =>
    obtain ⟨y, g, rfl, hd, hg, hy0, hy1, hc, hF⟩ := hrel
    have HC := hid hc
    have HD := hid hd
    have HF := hid hF
    have hB := HB0.out.keep hF (fun h => h)
    have b0 := hB.cell (i := 0) rfl
    have b1 := hB.cell (i := 1) rfl
    simp only [List.getElem_toArray, List.getElem_cons_zero, List.getElem_cons_succ] at b0 b1
    have l0 := hB.lt
    clear hc hd hF hB
    by_cases h0 : 0 < y
    · by_cases hyp : y = p
      · have t1 : (y != p) = false := by simp [hyp]
        have HE := hid (climb_at HC.out (fun h => h.2 hyp))
        have HP := hid hyp
        clear hyp
        go_wp2_with fail
        have t2 : (X != p) = false := by rw [HE.out, HP.out]; simp
        refine (told_any _ _ _).mono ?_
        rintro e w' ⟨rfl, rfl⟩
        go_wp2_with fail
        go_ret
        exact ⟨ret_int (by rw [← HQ.out, t2]), HF0.out.trans HF.out⟩
      · have t1 : (y != p) = true := by simpa using hyp
        obtain ⟨g', hg', hc'⟩ := climb_on HC.out hg ⟨h0, hyp⟩
        have HE := hid hc'
        obtain ⟨z, rfl⟩ : ∃ z : Nat, y = z := ⟨y.toNat, by omega⟩
        obtain ⟨q, hq⟩ : ∃ q, a[z]? = some q := ⟨_, List.getElem?_eq_getElem (by rw [HL.out]; omega)⟩
        obtain ⟨ga, oga, rfl, hga, hcc⟩ := ((hA.same HF0.out).same HF.out).cell hq
        have q0 : wr.cell? ⟨ga, oga + z * 7, none⟩ = some (.int .i64 q.par) := hcc 0 _ rfl
        have HR := hid hq
        have hz0 : (0 : Int) ≤ z ∧ (z : Int) < n := by omega
        have hlow := HT.out.2 z (by omega) (by rw [HL.out]; omega)
        rw [parAt_of' hq] at hlow
        clear hq hcc hyp hc'
        go_wp2_with fail
        go_roundg ((q.par + 1).toNat)
        case rel => exact ⟨q.par, g', rfl, rfl, by omega, by omega, by omega, by rw [← HE.out, parAt_of' HR.out], HF.out⟩
        case measure => have := HD.out; omega
    · have HE := hid (climb_at HC.out (fun h => h0 h.1))
      go_wp2_with fail
      have t2 : (y != p) = (X != p) := by rw [HE.out]
      refine (told_any _ _ _).mono ?_
      rintro e w' ⟨rfl, rfl⟩
      go_wp2_with fail
      go_ret
      exact ⟨ret_int (by rw [← HQ.out, ← t2]), HF0.out.trans HF.out⟩

theorem rng_form (a : List Tw) (r : Tw) : ∃ x : Bool, rngB a r = (x && (upB r.fn 31 && (upB r.kind 4 && upB r.st 1048576))) ∧ x = (!(decide (r.in_ < 0)) && !(decide (a.length = 0) && !decide (r.in_ = 0))) := by
  refine ⟨_, ?_, rfl⟩
  unfold rngB upB
  rw [Bool.eq_iff_iff]
  simp only [decide_eq_true_eq, Bool.and_eq_true, Bool.not_eq_true', Bool.and_eq_false_iff, Bool.not_eq_false', decide_eq_false_iff_not]
  omega

def sitB (w w1 : World) (A : Option Addr) (n c : Nat) (r : Tw) : Prop := w1 = w.alloc (.cells (sitC A n c r) 68)

set_option maxRecDepth 100000 in
set_option maxHeartbeats 2000000 in
theorem ranges_any (A : Option Addr) (n c : Nat) (a : List Tw) (r : Tw) (w : World) (hl : a.length = n) (hn : n ≤ 4000000) :
    Calls Tryz.prog 29 #[.agg (sitC A n c r)] w fun e w' => e = .returned (.int .i64 (tol (!rngB a r) 10)) ∧ Fr (fun _ => False) w w' := by
  obtain ⟨x, hx, hx2⟩ := rng_form a r
  rw [hl] at hx2
  have HX := hid hx
  clear hx
  have hF0 := Fr.alloc (fun _ => False) w (.cells (sitC A n c r) 68)
  have hB0 := Blk.new w (sitC A n c r) 68
  obtain ⟨p, i, f, k, v, s, cl⟩ := r
  unfold sitC at *
  simp only at HX hF0 hB0 hx2 ⊢
  obtain ⟨w1, hw1⟩ : ∃ w1, w1 = w.alloc (.cells #[.slice A n c, .int .i64 p, .int .i64 i, .int .i64 f, .int .i64 k, .int .i64 v, .int .i64 s, .string cl] 68) := ⟨_, rfl⟩
  rw [← hw1] at hF0 hB0
  have HF0 := hid hF0
  have b0 := hB0.cell (i := 0) rfl
  have b1 := hB0.cell (i := 1) rfl
  have b2 := hB0.cell (i := 2) rfl
  have b3 := hB0.cell (i := 3) rfl
  have b4 := hB0.cell (i := 4) rfl
  have b5 := hB0.cell (i := 5) rfl
  have b6 := hB0.cell (i := 6) rfl
  have b7 := hB0.cell (i := 7) rfl
  simp only [List.getElem_toArray, List.getElem_cons_zero, List.getElem_cons_succ] at b0 b1 b2 b3 b4 b5 b6 b7
  have l0 := hB0.lt
  clear hB0 hF0
  have hx3 : x = true ↔ (¬ i < 0 ∧ ¬ (n = 0 ∧ ¬ i = 0)) := by
    rw [hx2]
    simp only [decide_eq_true_eq, Bool.and_eq_true, Bool.not_eq_true', Bool.and_eq_false_iff, Bool.not_eq_false', decide_eq_false_iff_not]
    omega
  have xf : ¬ (¬ i < 0 ∧ ¬ (n = 0 ∧ ¬ i = 0)) → x = false := fun h => by
    cases x
    · rfl
    · exact absurd (hx3.1 rfl) h
  have hcase : (i < 0 ∧ x = false) ∨ (0 ≤ i ∧ 0 < n ∧ x = true) ∨ (0 = i ∧ n = 0 ∧ x = true) ∨ (0 < i ∧ n = 0 ∧ x = false) := by
    rcases Int.lt_or_le i 0 with g | g
    · exact .inl ⟨g, xf (by omega)⟩
    · rcases Nat.eq_zero_or_pos n with g2 | g2
      · by_cases g3 : i = 0
        · exact .inr (.inr (.inl ⟨g3.symm, g2, hx3.2 (by omega)⟩))
        · exact .inr (.inr (.inr ⟨by omega, g2, xf (by omega)⟩))
      · exact .inr (.inl ⟨g, g2, hx3.2 (by omega)⟩)
  clear hx2 hx3 xf
  have HP := hid hl
  clear hl
  rcases hcase with ⟨h1, hx⟩ | ⟨h1, h2, hx⟩ | ⟨h1, h2, hx⟩ | ⟨h1, h2, hx⟩
  all_goals
    try subst h1
    try subst h2
    subst hx
    go_enter Tryz.func29, Tryz.ntmps29
    go_upto_region 1 with fail
    rw [← hw1]
    clear hw1
    go_wp2_with fail
    refine (upTo_any _ _ _).mono ?_
    rintro e w' ⟨rfl, rfl⟩
    obtain ⟨y1, hy1⟩ : ∃ y, upB f 31 = y := ⟨_, rfl⟩
    rw [hy1] at HX ⊢
    clear hy1
    cases y1 with
    | false =>
      go_wp2_with fail
      refine (told_any _ _ _).mono ?_
      rintro e w' ⟨rfl, rfl⟩
      go_wp2_with fail
      go_ret
      exact ⟨ret_int (by rw [HX.out]; rfl), HF0.out.trans (Fr.alloc _ _ _)⟩
    | true =>
      go_wp2_with fail
      refine (upTo_any _ _ _).mono ?_
      rintro e w' ⟨rfl, rfl⟩
      obtain ⟨y2, hy2⟩ : ∃ y, upB k 4 = y := ⟨_, rfl⟩
      rw [hy2] at HX ⊢
      clear hy2
      cases y2 with
      | false =>
        go_wp2_with fail
        refine (told_any _ _ _).mono ?_
        rintro e w' ⟨rfl, rfl⟩
        go_wp2_with fail
        go_ret
        exact ⟨ret_int (by rw [HX.out]; rfl), HF0.out.trans (Fr.alloc _ _ _)⟩
      | true =>
        go_wp2_with fail
        refine (upTo_any _ _ _).mono ?_
        rintro e w' ⟨rfl, rfl⟩
        obtain ⟨y3, hy3⟩ : ∃ y, upB s 1048576 = y := ⟨_, rfl⟩
        rw [hy3] at HX ⊢
        clear hy3
        go_wp2_with fail
        refine (told_any _ _ _).mono ?_
        rintro e w' ⟨rfl, rfl⟩
        go_wp2_with fail
        go_ret
        exact ⟨ret_int (by rw [HX.out]; first | rfl | (simp; done) | (rw [show decide (i < 0) = false from decide_eq_false (by omega)]; simp)), HF0.out.trans (Fr.alloc _ _ _)⟩

end Go.Proofs.YtnlbellbeepkaaaGreatDoor
