/-
  RingMoves: a copying of all places.
-/
import Derived.Test.YthomjenkemepiaaMovesA
import Derived.Test.YthomjenkemepiaaRef
import Derived.Deep.RegionHeld3
import Derived.Deep.DeepCutAuto
import Derived.Deep.LoopGhost
namespace Go.Proofs.Ythomjenkemepiaa
open Go.RowKit
set_option linter.unusedVariables false

def z520 : List Int := List.replicate 520 0
theorem z520_len : z520.length = 520 := List.length_replicate
theorem z520_get (k : Nat) : z520.getD k 0 = 0 := by
  unfold z520
  rw [List.getD_eq_getElem?_getD, List.getElem?_replicate]
  split <;> rfl
theorem z520_cnt (n : Nat) : cnt z520 n = 0 := cnt_zero 520 n

theorem wrap_i64m (n : Int) (h0 : -9223372036854775808 ≤ n) (h1 : n ≤ 9223372036854775807) : IntKind.i64.wrap n = n := by
  have e : IntKind.i64.wrap n = (n + 9223372036854775808) % 18446744073709551616 - 9223372036854775808 := by
    simp only [IntKind.wrap, IntKind.bits, IntKind.signed]
    simp
    split <;> omega
  omega

theorem Row.at_one {w : World} {a : Option Addr} {len i : Nat} {f : Nat → Nat → Int} (h : Row w a len 1 f) (hi : i < len) :
    ∃ b off, a = some ⟨b, off, none⟩ ∧ (∀ v, Fr (fun _ => False) w v → v.cell? ⟨b, off + i, none⟩ = some (.int .i64 (f i 0))) := by
  obtain ⟨b, off, ha, hb, hc⟩ := h (by omega)
  refine ⟨b, off, ha, fun v hf => ?_⟩
  have := (hc i 0 hi (by omega)).1
  rw [show off + (i * 1 + 0) = off + i by omega] at this
  rw [← this]
  exact World.cell?_of_block (w := w) (hf.block b hb id)

/-- What lies in memory while places are moved. -/
structure MvIn (w : World) (m : MB) (c gA gB P : Nat) (a b : Int) (M : Mach) (C : Cp) (wr : World) : Prop where
  im : IsM wr m M
  ic : IsC wr c C
  ha : Blk wr gA #[.int .i64 0, .int .i64 a]
  hb : Blk wr gB #[.int .i64 (P : Int), .int .i64 b]
  fr : Fr (fun _ => False) w wr

theorem MvIn.same {w : World} {m : MB} {c gA gB P : Nat} {a b : Int} {M : Mach} {C : Cp} {wr v : World} (h : MvIn w m c gA gB P a b M C wr) (F : Fr (fun _ => False) wr v) : MvIn w m c gA gB P a b M C v :=
  ⟨h.im.same F, h.ic.same F, h.ha.keep F id, h.hb.keep F id, h.fr.trans F⟩

def mach1 (P Q : Nat) (fr : Int) (f : Nat → Nat → Int) (q : Nat) : Mach := ⟨fill z520 (spot 0 fr P) (fun i => f i 0) q, P + Q, [2, (q : Int)]⟩
def mach2 (P Q : Nat) (fr : Int) (f : Nat → Nat → Int) (n p t : Nat) : Mach := ⟨fill (fill z520 (spot 0 fr P) (fun i => f i 0) n) (spot P fr Q) (fun i => f i 0) p, P + Q, [2 + (t : Int), (n : Int)]⟩

def MvRel1 (w : World) (m : MB) (c gA gB P Q : Nat) (a b fr : Int) (f : Nat → Nat → Int) (n d : Nat) (x : Value) (wr : World) : Prop :=
  ∃ q : Nat, q ≤ n ∧ d = n - q ∧ x = .int .i64 q ∧ MvIn w m c gA gB P a b (mach1 P Q fr f q) ⟨0, a, P, b, fr, fr + n, 0, false⟩ wr

def MvRel2 (w : World) (m : MB) (c gA gB P Q : Nat) (a b fr : Int) (f : Nat → Nat → Int) (n d : Nat) (x : Value) (wr : World) : Prop :=
  ∃ (t p : Nat) (h : Bool) (z : Int), t ≤ 2 * n ∧ d = 2 * n - t ∧ x = .int .i64 t ∧ (t = if h then 2 * p + 1 else 2 * p) ∧ (h = true → z = f p 0) ∧ MvIn w m c gA gB P a b (mach2 P Q fr f n p t) ⟨0, a, P, b, fr + p, fr + n, z, h⟩ wr

def MvRel3 (w : World) (m : MB) (c gA gB P : Nat) (a b : Int) (M : Mach) (C : Cp) (f : Nat → Nat → Int) (n d : Nat) (x y : Value) (wr : World) : Prop :=
  ∃ i : Nat, i ≤ n ∧ d = n - i ∧ x = .int .i64 (2 * (cntF (fun i => f i 0) i : Int)) ∧ y = .int .i64 i ∧ MvIn w m c gA gB P a b M C wr

def MvRel4 (w : World) (m : MB) (c gA gB P : Nat) (a b : Int) (M : Mach) (C : Cp) (s N d : Nat) (x y : Value) (wr : World) : Prop :=
  ∃ k : Nat, k ≤ N ∧ d = N - k ∧ x = .int .i64 (2 * (s : Int) - cnt M.all k) ∧ y = .int .i64 k ∧ MvIn w m c gA gB P a b M C wr

theorem mach1_next {P Q : Nat} {fr : Int} {f : Nat → Nat → Int} {q : Nat} (hq : q ≤ 256) : Mach.put (Mach.step (mach1 P Q fr f q) 1) (spot 0 fr P q) (f q 0) = mach1 P Q fr f (q + 1) := by
  have hw : wrap64 ((q : Int) + 1) = ((q + 1 : Nat) : Int) := by unfold wrap64; omega
  simp [mach1, Mach.put, Mach.step, fill, hw]

theorem mach2_load {P Q : Nat} {fr : Int} {f : Nat → Nat → Int} {n p t : Nat} (ht : t ≤ 1000) : Mach.step (mach2 P Q fr f n p t) 0 = mach2 P Q fr f n p (t + 1) := by
  have hw : wrap64 (2 + (t : Int) + 1) = 2 + ((t + 1 : Nat) : Int) := by unfold wrap64; omega
  simp [mach2, Mach.step, hw]

theorem mach2_store {P Q : Nat} {fr : Int} {f : Nat → Nat → Int} {n p t : Nat} (ht : t ≤ 1000) : Mach.put (Mach.step (mach2 P Q fr f n p t) 0) (spot P fr Q p) (f p 0) = mach2 P Q fr f n (p + 1) (t + 1) := by
  have hw : wrap64 (2 + (t : Int) + 1) = 2 + ((t + 1 : Nat) : Int) := by unfold wrap64; omega
  simp [mach2, Mach.put, Mach.step, fill, hw]

theorem mach2_zero {P Q : Nat} {fr : Int} {f : Nat → Nat → Int} {n : Nat} : mach1 P Q fr f n = mach2 P Q fr f n 0 0 := by simp [mach1, mach2, fill]

/-- The places of a: what was put there. -/
theorem mach2_a {P Q : Nat} {fr : Int} {f : Nat → Nat → Int} {n p t i : Nat} (hP : 1 ≤ P) (hQ : 1 ≤ Q) (hPQ : P + Q ≤ 520) (hn : n ≤ P) (hn2 : n ≤ Q) (hp : p ≤ n) (hi : i < n) : (mach2 P Q fr f n p t).all.getD (spot 0 fr P i) 0 = f i 0 := by
  have ha := fun i => spot_lt 0 fr P i hP
  have hb := fun i => spot_lt P fr Q i hQ
  show (fill _ _ _ p).getD _ 0 = _
  rw [fill_far _ _ _ _ _ (fun j hj => by rw [fill_len, z520_len]; have := hb j; omega) (fun j hj => by have := hb j; have := ha i; omega)]
  exact fill_at _ _ _ n n i (Nat.le_refl _) (fun j hj => by rw [z520_len]; have := ha j; omega) (spot_inj 0 fr P n hP hn) hi

theorem mach2_b {P Q : Nat} {fr : Int} {f : Nat → Nat → Int} {n t i : Nat} (hP : 1 ≤ P) (hQ : 1 ≤ Q) (hPQ : P + Q ≤ 520) (hn : n ≤ P) (hn2 : n ≤ Q) (hi : i < n) : (mach2 P Q fr f n n t).all.getD (spot P fr Q i) 0 = f i 0 := by
  have hb := fun i => spot_lt P fr Q i hQ
  exact fill_at _ _ _ n n i (Nat.le_refl _) (fun j hj => by rw [fill_len, z520_len]; have := hb j; omega) (spot_inj P fr Q n hQ hn2) hi

theorem mach2_cnt {P Q : Nat} {fr : Int} {f : Nat → Nat → Int} {n t : Nat} (hP : 1 ≤ P) (hQ : 1 ≤ Q) (hPQ : P + Q ≤ 520) (hn : n ≤ P) (hn2 : n ≤ Q) : cnt (mach2 P Q fr f n n t).all (P + Q) = 2 * cntF (fun i => f i 0) n := by
  have ha := fun i => spot_lt 0 fr P i hP
  have hb := fun i => spot_lt P fr Q i hQ
  show cnt (fill _ _ _ n) _ = _
  rw [cnt_fill _ _ _ n n (P + Q) (Nat.le_refl _) (fun j hj => by rw [fill_len, z520_len]; have := hb j; omega) (fun j hj => by have := hb j; omega) (spot_inj P fr Q n hQ hn2)
    (fun j hj => by
      rw [fill_far _ _ _ _ _ (fun i hi => by rw [z520_len]; have := ha i; omega) (fun i hi => by have := hb j; have := ha i; omega)]
      exact z520_get _),
    cnt_fill _ _ _ n n (P + Q) (Nat.le_refl _) (fun j hj => by rw [z520_len]; have := ha j; omega) (fun j hj => by have := ha j; omega) (spot_inj 0 fr P n hP hn) (fun j hj => z520_get _), z520_cnt]
  omega

set_option maxRecDepth 100000 in
set_option maxHeartbeats 8000000 in
theorem moves_ok (a b fr : Int) (A : Option Addr) (len cap : Nat) (f : Nat → Nat → Int) (w : World) (hfr : Fits fr) (h0 : 0 ≤ a) (h1 : a ≤ 8) (h2 : 0 ≤ b) (h3 : b ≤ 8) (h4 : len ≤ 256) (h5 : fr ≤ 9223372036854775807 - (len : Int)) (hlen : (len : Int) ≤ pow a ∧ (len : Int) ≤ pow b) (hr : Row w A len 1 f) :
    Calls Try.prog 8 #[.agg #[.int .i64 a, .int .i64 b], .int .i64 fr, .slice A len cap] w fun e w' => e = .returned (.bool true) ∧ Below w.heap.size w w' := by
  have t1 : decide (a < 0) = false := by simp; omega
  have t2 : decide (8 < a) = false := by simp; omega
  have t3 : decide (b < 0) = false := by simp; omega
  have t4 : decide (8 < b) = false := by simp; omega
  have t5 : decide ((256 : Int) < len) = false := by simp; omega
  have t6 : decide (9223372036854775807 - (len : Int) < fr) = false := by simp; omega
  have p1 := pow_pos a
  have p2 := pow_le a h1
  have q1 := pow_pos b
  have q2 := pow_le b h3
  obtain ⟨P, hP⟩ : ∃ P : Nat, pow a = P := Int.eq_ofNat_of_zero_le (by omega)
  obtain ⟨Q, hQ⟩ : ∃ Q : Nat, pow b = Q := Int.eq_ofNat_of_zero_le (by omega)
  rw [hP] at p1 p2
  rw [hQ] at q1 q2
  have HP := hid hP
  have HQ := hid hQ
  have hRA : Rg.Right ⟨0, a⟩ := ⟨h0, h1, by simp only; omega, by simp only; rw [hP]; omega⟩
  have hRB : Rg.Right ⟨(P : Int), b⟩ := ⟨h2, h3, by simp only; omega, by simp only; rw [hQ]; omega⟩
  have HRA := hid hRA
  have HRB := hid hRB
  have HZA := hid (fun v => size_yes 0 a v hRA)
  have HZB := hid (fun v => size_yes (P : Int) b v hRB)
  rw [hP] at HZA
  rw [hQ] at HZB
  have HH := hid (show 0 ≤ a ∧ a ≤ 8 ∧ 0 ≤ b ∧ b ≤ 8 from ⟨h0, h1, h2, h3⟩)
  have HB0 := hid (Blk.new w #[.int .i64 a, .int .i64 b] 71)
  have HT0 := hid (Fr.alloc (fun _ => False) w (.cells #[.int .i64 a, .int .i64 b] 71))
  have HR := hid hr
  rw [hP, hQ] at hlen
  have n1 : len ≤ P := by omega
  have n2 : len ≤ Q := by omega
  have PQ : P + Q ≤ 520 := by omega
  have p1' : 1 ≤ P := by omega
  have q1' : 1 ≤ Q := by omega
  clear h0 h1 h2 h3 hP hQ hRA hRB hr hlen
  go_enter Try.func8, Try.ntmps8
  go_wp2_with fail
  refine (new_ok 520 1 _ (by omega) (by omega) (by omega) (by omega)).mono ?_
  rintro e w1 ⟨m, rfl, hM, hF, hN⟩
  have HM1 := hid (show IsM w1 m ⟨List.replicate 520 0, 0, [0, 0]⟩ from hM)
  have HO := hid (show ∀ i, m.own i → w.heap.size + 1 ≤ i from fun i hi => by have := hN i hi; simpa using this)
  have HT1 := hid (HT0.out.trans hF)
  have HB1 := hid (HB0.out.keep hF id)
  clear hM hF hN HB0 HT0
  have HOW := hid (show ∀ i, m.own i → i < w.heap.size → False from fun i hi hh => by have := HO.out i hi; omega)
  have HOB := hid (show ¬ m.own w.heap.size from fun hh => by have := HO.out _ hh; omega)
  have b0 := HB1.out.cell (i := 0) rfl
  have b1 := HB1.out.cell (i := 1) rfl
  go_wp2_with fail
  refine (rnew_ok m _ 0 0 a _ HM1.out rfl (by simp) HH.out.1 HH.out.2.1 (by rw [HP.out]; simp; omega)).mono ?_
  rintro e w2 ⟨rfl, hM, hF⟩
  have e1 : (Mach.give (Mach.step ⟨List.replicate 520 0, 0, [0, 0]⟩ 0) (pow a).toNat) = ⟨List.replicate 520 0, P, [1, 0]⟩ := by rw [HP.out]; simp [Mach.give, Mach.step, wrap64]
  rw [e1] at hM
  have HM2 := hid (hM.same (Fr.alloc _ w2 (.cells #[.int .i64 0, .int .i64 a] 24)))
  have HT2 := hid ((HT1.out.since hF HOW.out).trans (Fr.alloc _ w2 (.cells #[.int .i64 0, .int .i64 a] 24)))
  have HB2 := hid ((HB1.out.keep hF HOB.out).alloc (.cells #[.int .i64 0, .int .i64 a] 24))
  have HWA := hid (show w.heap.size < w2.heap.size from (HB1.out.keep hF HOB.out).lt)
  have HA2 := hid (Blk.new w2 #[.int .i64 0, .int .i64 a] 24)
  have HOA := hid (show ¬ m.own w2.heap.size from fun hh => Nat.lt_irrefl _ (hM.own_lt _ hh))
  clear hM hF HM1 HT1 HB1 b0 b1 e1
  have b0 := HB2.out.cell (i := 0) rfl
  have b1 := HB2.out.cell (i := 1) rfl
  go_wp2_with fail
  refine (rnew_ok m _ 0 0 b _ HM2.out rfl (by simp) HH.out.2.2.1 HH.out.2.2.2 (by rw [HQ.out]; simp; omega)).mono ?_
  rintro e w3 ⟨rfl, hM, hF⟩
  have e1 : (Mach.give (Mach.step ⟨List.replicate 520 0, P, [1, 0]⟩ 0) (pow b).toNat) = ⟨List.replicate 520 0, P + Q, [2, 0]⟩ := by rw [HQ.out]; simp [Mach.give, Mach.step, wrap64]
  rw [e1] at hM
  obtain ⟨w4, hw4⟩ : ∃ w4, w4 = w3.alloc (.cells #[.int .i64 (P : Int), .int .i64 b] 24) := ⟨_, rfl⟩
  have HM4 := hid (show IsM w4 m _ from hw4 ▸ hM.same (Fr.alloc _ w3 _))
  have HT4 := hid (show Fr (fun _ => False) w w4 from hw4 ▸ (HT2.out.since hF HOW.out).trans (Fr.alloc _ w3 _))
  have HA4 := hid (show Blk w4 w2.heap.size #[.int .i64 0, .int .i64 a] from hw4 ▸ (HA2.out.keep hF HOA.out).alloc _)
  have HB4 := hid (show Blk w4 w3.heap.size #[.int .i64 (P : Int), .int .i64 b] from hw4 ▸ Blk.new w3 _ _)
  have HOB4 := hid (show ¬ m.own w3.heap.size from fun hh => Nat.lt_irrefl _ (hM.own_lt _ hh))
  clear hM hF HM2 HT2 HB2 HA2 b0 b1 e1
  have a0 := HA4.out.cell (i := 0) rfl
  have a1 := HA4.out.cell (i := 1) rfl
  have b0 := HB4.out.cell (i := 0) rfl
  have b1 := HB4.out.cell (i := 1) rfl
  have k1 : -9223372036854775808 ≤ fr + len := by have := hfr.1; omega
  have k2 : fr + len ≤ 9223372036854775807 := by omega
  go_upto_region 8 with fail
  rw [← hw4]
  clear hw4
  have HFR := hid hfr
  have u1 : decide ((P : Int) < len) = false := by simp; omega
  have u1' : decide (P < len) = false := by simp; omega
  have u2 : decide ((Q : Int) < len) = false := by simp; omega
  have u2' : decide (Q < len) = false := by simp; omega
  have HFA := hid (fun v => copy_ok 0 a (P : Int) b fr (fr + len) v HRA.out HRB.out HFR.out ⟨k1, k2⟩ ⟨by omega, by rw [HP.out, HQ.out]; omega⟩)
  go_wp2_with fail
  refine (HFA.out _).mono ?_
  rintro e w5 ⟨c, rfl, hC, hF, hc⟩
  have HA5 := hid (HA4.out.keep hF id)
  have HB5 := hid (HB4.out.keep hF id)
  have HOC := hid (show ¬ m.own c from fun hh => by have := HM4.out.own_lt _ hh; omega)
  have HWC := hid (show w.heap.size ≤ c from Nat.le_trans HT4.out.size hc)
  have HGAC := hid (show w2.heap.size ≠ c from fun hh => by have := HA4.out.lt; omega)
  have HGBC := hid (show w3.heap.size ≠ c from fun hh => by have := HB4.out.lt; omega)
  have HI5 := hid (show MvIn w m c w2.heap.size w3.heap.size P a b (mach1 P Q fr f 0) ⟨0, a, P, b, fr, fr + len, 0, false⟩ w5 from ⟨HM4.out.same hF, hC, HA5.out, HB5.out, HT4.out.trans hF⟩)
  clear hF hC hc a0 a1 b0 b1 HM4 HT4 HA4 HB4 HFA
  have a0 := HA5.out.cell (i := 0) rfl
  have a1 := HA5.out.cell (i := 1) rfl
  go_wp2_with fail
  refine (HZA.out _).mono ?_
  rintro e w6 ⟨rfl, hF⟩
  have HI6 := hid (HI5.out.same hF)
  clear hF a0 a1 HI5 HA5 HB5
  have b0 := HI6.out.hb.cell (i := 0) rfl
  have b1 := HI6.out.hb.cell (i := 1) rfl
  go_wp2_with fail
  refine (HZB.out _).mono ?_
  rintro e w7 ⟨rfl, hF⟩
  have HI7 := hid (HI6.out.same hF)
  clear hF b0 b1 HI6
  obtain ⟨gA, hgA⟩ : ∃ gA, w2.heap.size = gA := ⟨_, rfl⟩
  obtain ⟨gB, hgB⟩ : ∃ gB, w3.heap.size = gB := ⟨_, rfl⟩
  rw [hgA] at HI7 HOA HGAC
  rw [hgB] at HI7 HOB4 HGBC
  rw [hgA, hgB]
  clear hgA hgB HWA
  go_wp2_with fail
  have HDA := hid (show ¬ CM m c gA from fun hh => by
    rcases hh with hh | hh
    · exact HOA.out hh
    · exact HGAC.out hh)
  have HDB := hid (show ¬ CM m c gB from fun hh => by
    rcases hh with hh | hh
    · exact HOB4.out hh
    · exact HGBC.out hh)
  have HOWC := hid (show ∀ i, CM m c i → i < w.heap.size → False from fun i hi hh => by
    rcases hi with hi | rfl
    · exact HOW.out i hi hh
    · have := HWC.out; omega)
  go_loopg [14] len (fun d x wr => MvRel1 w m c gA gB P Q a b fr f len d x wr)
  case atStart => exact ⟨0, Nat.zero_le _, rfl, rfl, HI7.out⟩
  case round =>
    clear HI7
    obtain ⟨q, hq, rfl, rfl, hI⟩ := hrel
    by_cases hlt : q < len
    · have HI := hid hI
      obtain ⟨bl, off, rfl, hc⟩ := HR.out.at_one hlt
      have HCC := hid hc
      clear hc hI
      obtain ⟨z, hz⟩ : ∃ z, f q 0 = z := ⟨_, rfl⟩
      have HZ := hid hz
      rw [hz] at HCC
      clear hz
      obtain ⟨k, hk⟩ : ∃ k, spot 0 fr P q = k := ⟨_, rfl⟩
      have HPL := hid (fun v => place_yes 0 a (fr + q) v HRA.out)
      rw [HP.out, show (0 : Int) + (fr + q) % (P : Int) = ((spot 0 fr P q : Nat) : Int) by rw [spot_int _ _ _ _ p1']; rfl, hk] at HPL
      have hk2 := spot_lt 0 fr P q p1'
      rw [hk] at hk2
      have HST := hid (fun (v : World) (F : Fr (fun _ => False) wr v) => store_ok m _ 1 k z v (HI.out.im.same F) (by simp [mach1]) (by show k < P + Q; omega))
      rw [← hk, ← HZ.out, mach1_next (by omega), hk, HZ.out] at HST
      replace HST := hid (show ∀ v, Fr (fun _ => False) wr v → Calls Try.prog 26 #[.pointer (some ⟨m.m, 0, none⟩), .int .i64 1, .int .i64 k, .int .i64 z] v fun e w' => e = .returned (.int .i64 0) ∧ IsM w' m (mach1 P Q fr f (q + 1)) ∧ Fr m.own v w' from HST.out)
      have HS := hid (show ∀ w', Fr m.own wr w' → w'.cell? ⟨gA, 0, none⟩ = some (.int .i64 0) ∧ w'.cell? ⟨gA, 1, none⟩ = some (.int .i64 a) ∧ w'.cell? ⟨bl, off + q, none⟩ = some (.int .i64 z) from
        fun w' F => ⟨(HI.out.ha.keep F HOA.out).cell rfl, (HI.out.ha.keep F HOA.out).cell rfl, HCC.out w' (HI.out.fr.since F HOW.out)⟩)
      have HFd := hid (Fr.refl (fun _ => False) wr)
      have v1 : fr + (q : Int) ≤ 9223372036854775807 := by omega
      have v2 : -9223372036854775808 ≤ fr + (q : Int) := by have := HFR.out.1; omega
      clear hk hk2
      go_upto_region 16 with fail
      have wn1 : IntKind.i64.wrap (fr + (q : Int)) = fr + (q : Int) := wrap_i64m _ v2 v1
      obtain ⟨r0, r1, r2⟩ := HS.out _ (Fr.refl _ _)
      go_region_held3 (fun w' => w'.cell? ⟨gA, 0, none⟩ = some (.int .i64 0) ∧ w'.cell? ⟨gA, 1, none⟩ = some (.int .i64 a) ∧ w'.cell? ⟨bl, off + q, none⟩ = some (.int .i64 z))
        (first | exact HS.out _ HG.out | exact HS.out _ (HFd.out.mono (fun _ h => h.elim)) | exact HS.out _ ((HFd.out.trans (Fr.drew _ _)).mono (fun _ h => h.elim)))
        (first
          | (go_at_call 12; (with_reducible refine (HPL.out _).mono ?_); rintro e w6 ⟨rfl, hF6⟩; have HFd := hid (HFd.out.trans (Fr.trans (by first | exact Fr.refl _ _ | exact Fr.drew _ _) hF6)); clear hF6)
          | (go_at_call 26; (with_reducible refine (HST.out _ (by first | exact HFd.out | exact HFd.out.trans (Fr.drew _ _))).mono ?_); rintro e w8 ⟨rfl, hM7, hF7⟩; have HM7 := hid hM7; have HG := hid ((HFd.out.mono (fun _ h => h.elim)).trans (Fr.trans (by first | exact Fr.refl _ _ | exact Fr.drew _ _) hF7)); clear hF7 hM7))
      all_goals
        go_wp2_with fail
        go_roundg (len - (q + 1))
        case measure => omega
        case rel => exact ⟨q + 1, by omega, rfl, by go_num, ⟨HM7.out, HI.out.ic.keep HG.out HOC.out, HI.out.ha.keep HG.out HOA.out, HI.out.hb.keep HG.out HOB4.out, HI.out.fr.since HG.out HOW.out⟩⟩
    · obtain rfl : q = len := by omega
      rw [mach2_zero] at hI
      have HI := hid hI
      clear hI hq hlt
      obtain ⟨wo, rfl⟩ : ∃ wo, wo = wr := ⟨_, rfl⟩
      have HSP := hid (fun v h => steps_in m (mach2 P Q fr f q 0 0) 0 v h (by simp [mach2]))
      rw [show (mach2 P Q fr f q 0 0).steps.getD 0 0 = 2 by simp [mach2]] at HSP
      go_wp2_with fail
      refine (HSP.out _ HI.out.im).mono ?_
      rintro e w' ⟨rfl, rfl⟩
      go_wp2_with fail
      go_loopg [16] (2 * q) (fun d x wr => MvRel2 w m c gA gB P Q a b fr f q d x wr)
      case atStart => exact ⟨0, 0, false, 0, by omega, rfl, rfl, rfl, (fun h => by cases h), by simpa using HI.out⟩
      case round =>
        clear HI HSP
        obtain ⟨t, p, h, z, ht, rfl, rfl, htp, hzz, hI⟩ := hrel
        by_cases hlt : t < 2 * q
        · have tl : (t : Int) < 2 * (q : Int) := by omega
          have HI := hid hI
          have HHZ := hid hzz
          have HTP := hid htp
          cases h
          · have htp' : t = 2 * p := by simpa using htp
            have te : ((t : Int) == 2 * (q : Int) - 1) = false := by simp; omega
            have HT2 := hid htp'
            have hO : Cp.Ok ⟨0, a, P, b, fr + p, fr + q, z, false⟩ := ⟨HRA.out, HRB.out, by simp only; omega, by have := HFR.out.1; simp only; omega, by simp only; omega⟩
            have hk2 := spot_lt 0 fr P p p1'
            have HSt := hid (step_load m _ c _ 0 (spot 0 fr P p) wr hI.im hI.ic hO (by simp only; omega) rfl HOC.out (by simp [mach2]) (by show Rg.place ⟨0, a⟩ (fr + p) = _; unfold Rg.place; rw [if_pos HRA.out]; show (0 : Int) + (fr + p) % pow a = _; rw [HP.out, spot_int _ _ _ _ p1']; rfl) (by show _ < P + Q; omega))
            rw [mach2_load (by omega), mach2_a p1' q1' PQ n1 n2 (by omega) (by omega)] at HSt
            clear hI hzz htp hO hk2 htp'
            go_wp2_with fail
            refine HSt.out.mono ?_
            rintro e w8 ⟨rfl, hC8, hM8, hF8⟩
            have HI8 := hid (show MvIn w m c gA gB P a b (mach2 P Q fr f q p (t + 1)) ⟨0, a, P, b, fr + p, fr + q, f p 0, true⟩ w8 from
              ⟨hM8, hC8, HI.out.ha.keep hF8 HDA.out, HI.out.hb.keep hF8 HDB.out, HI.out.fr.since hF8 HOWC.out⟩)
            clear hC8 hM8 hF8 HSt
            go_wp2_with fail
            go_roundg (2 * q - (t + 1))
            case measure => omega
            case rel => exact ⟨t + 1, p, true, f p 0, by omega, rfl, by go_num, by have := HT2.out; simp; omega, fun _ => rfl, HI8.out⟩
          · have htp' : t = 2 * p + 1 := by simpa using htp
            obtain rfl : z = f p 0 := hzz rfl
            have hO : Cp.Ok ⟨0, a, P, b, fr + p, fr + q, f p 0, true⟩ := ⟨HRA.out, HRB.out, by simp only; omega, by have := HFR.out.1; simp only; omega, by simp only; omega⟩
            have hk2 := spot_lt P fr Q p q1'
            have HSt := hid (step_store m _ c _ 0 (spot P fr Q p) wr hI.im hI.ic hO (by simp only; omega) rfl HOC.out (by simp [mach2]) (by show Rg.place ⟨(P : Int), b⟩ (fr + p) = _; unfold Rg.place; rw [if_pos HRB.out]; show (P : Int) + (fr + p) % pow b = _; rw [HQ.out, spot_int _ _ _ _ q1']) (by show _ < P + Q; omega))
            rw [mach2_store (by omega)] at HSt
            obtain ⟨dn, hdn⟩ : ∃ dn, (fr + (p : Int) + 1 == fr + (q : Int)) = dn := ⟨_, rfl⟩
            have te : ((t : Int) == 2 * (q : Int) - 1) = dn := by
              rw [← hdn]
              by_cases hpq : p + 1 = q
              · have e1 : ((t : Int) == 2 * (q : Int) - 1) = true := by simp; omega
                have e2 : (fr + (p : Int) + 1 == fr + (q : Int)) = true := by simp; omega
                rw [e1, e2]
              · have e1 : ((t : Int) == 2 * (q : Int) - 1) = false := by simp; omega
                have e2 : (fr + (p : Int) + 1 == fr + (q : Int)) = false := by simp; omega
                rw [e1, e2]
            have td : (dn != dn) = false := by cases dn <;> rfl
            simp only at HSt
            rw [hdn] at HSt
            have HT2 := hid htp'
            clear hI hzz htp hO hk2 hdn htp'
            go_wp2_with fail
            refine HSt.out.mono ?_
            rintro e w8 ⟨rfl, hC8, hM8, hF8⟩
            have HI8 := hid (show MvIn w m c gA gB P a b (mach2 P Q fr f q (p + 1) (t + 1)) ⟨0, a, P, b, fr + p + 1, fr + q, f p 0, false⟩ w8 from
              ⟨hM8, hC8, HI.out.ha.keep hF8 HDA.out, HI.out.hb.keep hF8 HDB.out, HI.out.fr.since hF8 HOWC.out⟩)
            clear hC8 hM8 hF8 HSt
            go_wp2_with fail
            go_roundg (2 * q - (t + 1))
            case measure => omega
            case rel => exact ⟨t + 1, p + 1, false, f p 0, by omega, rfl, by go_num, by have := HT2.out; simp; omega, (fun h => by cases h), by have := HI8.out; rw [show fr + (p : Int) + 1 = fr + ((p + 1 : Nat) : Int) by omega] at this; exact this⟩
        · obtain rfl : t = 2 * q := by omega
          have hh : h = false := by cases h <;> simp at htp <;> first | rfl | omega
          subst hh
          have hp : q = p := by simp at htp; omega
          subst hp
          obtain ⟨M, hM⟩ : ∃ M, mach2 P Q fr f q q (2 * q) = M := ⟨_, rfl⟩
          obtain ⟨C, hC⟩ : ∃ C : Cp, ⟨0, a, P, b, fr + q, fr + q, z, false⟩ = C := ⟨_, rfl⟩
          have hCd : C.pl = C.til := by rw [← hC]
          rw [hM, hC] at hI
          have mu : M.used = P + Q := by rw [← hM]; rfl
          have ms : M.steps.getD 0 0 = 2 + 2 * (q : Int) := by rw [← hM]; simp [mach2]
          have mls : 0 < M.steps.length := by rw [← hM]; simp [mach2]
          have HMA := hid (fun i hi => hM ▸ mach2_a (fr := fr) (f := f) (t := 2 * q) p1' q1' PQ n1 n2 (Nat.le_refl q) (i := i) hi)
          have HMB := hid (fun i hi => hM ▸ mach2_b (fr := fr) (f := f) (t := 2 * q) p1' q1' PQ n1 n2 (i := i) hi)
          have HMC := hid (show cnt M.all (P + Q) = _ from hM ▸ mach2_cnt (fr := fr) (f := f) (t := 2 * q) p1' q1' PQ n1 n2)
          have HSD := hid (fun v h => step_done c m.m C 0 v h hCd)
          have HUS := hid (fun v h => used_ok m M v h)
          have HSP := hid (show ∀ v, IsM v m M → Calls Try.prog 22 #[.pointer (some ⟨m.m, 0, none⟩), .int .i64 0] v fun e w' => e = .returned (.int .i64 (2 + 2 * (q : Int))) ∧ v = w' from fun v h => by rw [← ms]; exact steps_in m M 0 v h mls)
          rw [mu, show ((P + Q : Nat) : Int) = (P : Int) + Q by omega] at HUS
          have MU := hid mu
          have HI := hid hI
          have tl : decide (((2 * q : Nat) : Int) < 2 * (q : Int)) = false := by simp
          have tl2 : (((2 : Int) + 2 * (q : Int)) != 2 + 2 * (q : Int)) = false := by simp
          clear hI hM hC hCd mu ms mls htp hzz ht hlt
          go_wp2_with fail
          refine (HSD.out _ HI.out.ic).mono ?_
          rintro e w8 ⟨rfl, hF8⟩
          have HI8 := hid (HI.out.same hF8)
          clear hF8 HI HSD
          have HS := hid (show ∀ w', Fr (fun _ => False) w8 w' → w'.cell? ⟨gA, 0, none⟩ = some (.int .i64 0) ∧ w'.cell? ⟨gA, 1, none⟩ = some (.int .i64 a) ∧ w'.cell? ⟨gB, 0, none⟩ = some (.int .i64 (P : Int)) ∧ w'.cell? ⟨gB, 1, none⟩ = some (.int .i64 b) from
            fun w' F => ⟨(HI8.out.ha.keep F id).cell rfl, (HI8.out.ha.keep F id).cell rfl, (HI8.out.hb.keep F id).cell rfl, (HI8.out.hb.keep F id).cell rfl⟩)
          have HFd := hid (Fr.refl (fun _ => False) w8)
          go_upto_region 26 with fail
          have wnA : IntKind.i64.wrap (2 * (q : Int)) = 2 * (q : Int) := wrap_i64m _ (by omega) (by omega)
          have wnB : IntKind.i64.wrap (2 + 2 * (q : Int)) = 2 + 2 * (q : Int) := wrap_i64m _ (by omega) (by omega)
          have wnC : IntKind.i64.wrap ((P : Int) + Q) = (P : Int) + Q := wrap_i64m _ (by omega) (by omega)
          obtain ⟨r0, r1, r2, r3⟩ := HS.out _ (Fr.refl _ _)
          go_region_held3 (fun w' => w'.cell? ⟨gA, 0, none⟩ = some (.int .i64 0) ∧ w'.cell? ⟨gA, 1, none⟩ = some (.int .i64 a) ∧ w'.cell? ⟨gB, 0, none⟩ = some (.int .i64 (P : Int)) ∧ w'.cell? ⟨gB, 1, none⟩ = some (.int .i64 b))
            (first | exact HS.out _ HFd.out | exact HS.out _ (HFd.out.trans (Fr.drew _ _)))
            (first
              | (go_at_call 22; (with_reducible refine (HSP.out _ (HI8.out.im.same (by first | exact HFd.out | exact HFd.out.trans (Fr.drew _ _)))).mono ?_); rintro e w6 ⟨rfl, rfl⟩; have HFd := hid (HFd.out.trans (by first | exact Fr.refl _ _ | exact Fr.drew _ _)))
              | (go_at_call 21; (with_reducible refine (HUS.out _ (HI8.out.im.same (by first | exact HFd.out | exact HFd.out.trans (Fr.drew _ _)))).mono ?_); rintro e w6 ⟨rfl, rfl⟩; have HFd := hid (HFd.out.trans (by first | exact Fr.refl _ _ | exact Fr.drew _ _)))
              | (go_at_call 10; first
                  | ((with_reducible refine (HZA.out _).mono ?_); rintro e w6 ⟨rfl, hF6⟩; have HFd := hid (HFd.out.trans (Fr.trans (by first | exact Fr.refl _ _ | exact Fr.drew _ _) hF6)); clear hF6)
                  | ((with_reducible refine (HZB.out _).mono ?_); rintro e w6 ⟨rfl, hF6⟩; have HFd := hid (HFd.out.trans (Fr.trans (by first | exact Fr.refl _ _ | exact Fr.drew _ _) hF6)); clear hF6)))
          all_goals
            have HI9 := hid (HI8.out.same HFd.out)
            clear r0 r1 r2 r3 HS HFd HI8 HSP HUS wnA wnB wnC
            go_wp2_with fail
            go_loopg [20, 21] q (fun d x y wr => MvRel3 w m c gA gB P a b M C f q d x y wr)
            case atStart => exact ⟨0, Nat.zero_le _, rfl, rfl, rfl, HI9.out⟩
            case round =>
              clear HI9
              obtain ⟨i, hi, rfl, rfl, rfl, hI⟩ := hrel
              by_cases hlt : i < q
              · have HI := hid hI
                obtain ⟨bl, off, rfl, hc⟩ := HR.out.at_one hlt
                have HCC := hid hc
                have hma := HMA.out i hlt
                have hmb := HMB.out i hlt
                have hcs : cntF (fun i => f i 0) (i + 1) = cntF (fun i => f i 0) i + nz (f i 0) := rfl
                have hcl := cntF_le (fun i => f i 0) i
                obtain ⟨s, hs⟩ : ∃ s, cntF (fun i => f i 0) i = s := ⟨_, rfl⟩
                rw [hs] at hcs hcl
                rw [hs]
                obtain ⟨z, hz⟩ : ∃ z, f i 0 = z := ⟨_, rfl⟩
                rw [hz] at HCC hma hmb hcs
                have HCS := hid hcs
                obtain ⟨k1, hk1⟩ : ∃ k, spot 0 fr P i = k := ⟨_, rfl⟩
                obtain ⟨k2, hk2⟩ : ∃ k, spot P fr Q i = k := ⟨_, rfl⟩
                have hb1 := spot_lt 0 fr P i p1'
                have hb2 := spot_lt P fr Q i q1'
                have HPA := hid (fun v => place_yes 0 a (fr + i) v HRA.out)
                have HPB := hid (fun v => place_yes (P : Int) b (fr + i) v HRB.out)
                rw [HP.out, show (0 : Int) + (fr + i) % (P : Int) = ((spot 0 fr P i : Nat) : Int) by rw [spot_int _ _ _ _ p1']; rfl, hk1] at HPA
                rw [HQ.out, ← spot_int _ _ _ _ q1', hk2] at HPB
                rw [hk1] at hb1 hma
                rw [hk2] at hb2 hmb
                have mu := MU.out
                have HKA := hid (fun v h => peek_in m M k1 v h (by omega))
                have HKB := hid (fun v h => peek_in m M k2 v h (by omega))
                rw [hma] at HKA
                rw [hmb] at HKB
                have HS := hid (show ∀ w', Fr (fun _ => False) wr w' → w'.cell? ⟨gA, 0, none⟩ = some (.int .i64 0) ∧ w'.cell? ⟨gA, 1, none⟩ = some (.int .i64 a) ∧ w'.cell? ⟨gB, 0, none⟩ = some (.int .i64 (P : Int)) ∧ w'.cell? ⟨gB, 1, none⟩ = some (.int .i64 b) ∧ w'.cell? ⟨bl, off + i, none⟩ = some (.int .i64 z) from
                  fun w' F => ⟨(HI.out.ha.keep F id).cell rfl, (HI.out.ha.keep F id).cell rfl, (HI.out.hb.keep F id).cell rfl, (HI.out.hb.keep F id).cell rfl, HCC.out w' (HI.out.fr.trans F)⟩)
                have HFd := hid (Fr.refl (fun _ => False) wr)
                have v1 : fr + (i : Int) ≤ 9223372036854775807 := by omega
                have v2 : -9223372036854775808 ≤ fr + (i : Int) := by have := HFR.out.1; omega
                clear hI hc hma hmb hcs hs hz hk1 hk2 hb1 hb2 mu
                go_upto_region 32 with fail
                have wn1 : IntKind.i64.wrap (fr + (i : Int)) = fr + (i : Int) := wrap_i64m _ v2 v1
                obtain ⟨r0, r1, r2, r3, r4⟩ := HS.out _ (Fr.refl _ _)
                go_region_held3 (fun w' => w'.cell? ⟨gA, 0, none⟩ = some (.int .i64 0) ∧ w'.cell? ⟨gA, 1, none⟩ = some (.int .i64 a) ∧ w'.cell? ⟨gB, 0, none⟩ = some (.int .i64 (P : Int)) ∧ w'.cell? ⟨gB, 1, none⟩ = some (.int .i64 b) ∧ w'.cell? ⟨bl, off + i, none⟩ = some (.int .i64 z))
                  (first | exact HS.out _ HFd.out | exact HS.out _ (HFd.out.trans (Fr.drew _ _)))
                  (first
                    | (go_at_call 29; first
                        | ((with_reducible refine (HKA.out _ (HI.out.im.same (by first | exact HFd.out | exact HFd.out.trans (Fr.drew _ _)))).mono ?_); rintro e w6 ⟨rfl, rfl⟩; have HFd := hid (HFd.out.trans (by first | exact Fr.refl _ _ | exact Fr.drew _ _)))
                        | ((with_reducible refine (HKB.out _ (HI.out.im.same (by first | exact HFd.out | exact HFd.out.trans (Fr.drew _ _)))).mono ?_); rintro e w6 ⟨rfl, rfl⟩; have HFd := hid (HFd.out.trans (by first | exact Fr.refl _ _ | exact Fr.drew _ _))))
                    | (go_at_call 12; first
                        | ((with_reducible refine (HPA.out _).mono ?_); rintro e w6 ⟨rfl, hF6⟩; have HFd := hid (HFd.out.trans (Fr.trans (by first | exact Fr.refl _ _ | exact Fr.drew _ _) hF6)); clear hF6)
                        | ((with_reducible refine (HPB.out _).mono ?_); rintro e w6 ⟨rfl, hF6⟩; have HFd := hid (HFd.out.trans (Fr.trans (by first | exact Fr.refl _ _ | exact Fr.drew _ _) hF6)); clear hF6)))
                all_goals
                  have HI9 := hid (HI.out.same HFd.out)
                  have r4 := HCC.out _ HI9.out.fr
                  clear r0 r1 r2 r3
                  by_cases hz0 : z = 0
                  · have hz1 : (z != 0) = false := by simp [hz0]
                    have hz2 : nz z = 0 := by simp [nz, hz0]
                    have HZ2 := hid hz2
                    clear hz0 hz2
                    go_wp2_with fail
                    go_roundg (q - (i + 1))
                    case measure => omega
                    case rel => exact ⟨i + 1, by omega, rfl, by rw [HCS.out, HZ2.out]; rfl, by go_num, HI9.out⟩
                  · have hz1 : (z != 0) = true := by simpa using hz0
                    have hz2 : nz z = 1 := by simp [nz, hz0]
                    have HZ2 := hid hz2
                    clear hz0 hz2
                    go_wp2_with fail
                    go_roundg (q - (i + 1))
                    case measure => omega
                    case rel => exact ⟨i + 1, by omega, rfl, by rw [HCS.out, HZ2.out]; first | rfl | (congr 1; done) | (congr 1; omega), by go_num, HI9.out⟩
              · obtain rfl : i = q := by omega
                have HI := hid hI
                obtain ⟨wo, rfl⟩ : ∃ wo, wo = wr := ⟨_, rfl⟩
                have hmc := HMC.out
                obtain ⟨s, hs⟩ : ∃ s, cntF (fun i => f i 0) i = s := ⟨_, rfl⟩
                have hcl := cntF_le (fun i => f i 0) i
                rw [hs] at hmc hcl
                rw [hs]
                have HMC2 := hid hmc
                clear hI hs hmc HMC HMA HMB hlt
                go_wp2_with fail
                go_loopg [20, 22] (P + Q) (fun d x y wr => MvRel4 w m c gA gB P a b M C s (P + Q) d x y wr)
                case atStart => exact ⟨0, Nat.zero_le _, rfl, by simp [cnt], rfl, HI.out⟩
                case round =>
                  clear HI
                  obtain ⟨k, hk, rfl, rfl, rfl, hI⟩ := hrel
                  have HI := hid hI
                  have hck := cnt_le M.all k
                  obtain ⟨ck, hck2⟩ : ∃ ck, cnt M.all k = ck := ⟨_, rfl⟩
                  rw [hck2] at hck
                  rw [hck2]
                  have HCK := hid hck2
                  have HS := hid (show ∀ w', Fr (fun _ => False) wr w' → w'.cell? ⟨gA, 0, none⟩ = some (.int .i64 0) ∧ w'.cell? ⟨gA, 1, none⟩ = some (.int .i64 a) ∧ w'.cell? ⟨gB, 0, none⟩ = some (.int .i64 (P : Int)) ∧ w'.cell? ⟨gB, 1, none⟩ = some (.int .i64 b) from
                    fun w' F => ⟨(HI.out.ha.keep F id).cell rfl, (HI.out.ha.keep F id).cell rfl, (HI.out.hb.keep F id).cell rfl, (HI.out.hb.keep F id).cell rfl⟩)
                  have HFd := hid (Fr.refl (fun _ => False) wr)
                  clear hI hck2
                  go_upto_region 37 with fail
                  obtain ⟨r0, r1, r2, r3⟩ := HS.out _ (Fr.refl _ _)
                  have wn2 : IntKind.i64.wrap ((P : Int) + Q) = (P : Int) + Q := wrap_i64m _ (by omega) (by omega)
                  go_region_held3 (fun w' => w'.cell? ⟨gA, 0, none⟩ = some (.int .i64 0) ∧ w'.cell? ⟨gA, 1, none⟩ = some (.int .i64 a) ∧ w'.cell? ⟨gB, 0, none⟩ = some (.int .i64 (P : Int)) ∧ w'.cell? ⟨gB, 1, none⟩ = some (.int .i64 b))
                    (first | exact HS.out _ HFd.out | exact HS.out _ (HFd.out.trans (Fr.drew _ _)))
                    (first
                      | (go_at_call 10; first
                          | ((with_reducible refine (HZA.out _).mono ?_); rintro e w6 ⟨rfl, hF6⟩; have HFd := hid (HFd.out.trans (Fr.trans (by first | exact Fr.refl _ _ | exact Fr.drew _ _) hF6)); clear hF6)
                          | ((with_reducible refine (HZB.out _).mono ?_); rintro e w6 ⟨rfl, hF6⟩; have HFd := hid (HFd.out.trans (Fr.trans (by first | exact Fr.refl _ _ | exact Fr.drew _ _) hF6)); clear hF6)))
                  all_goals
                    have HI9 := hid (HI.out.same HFd.out)
                    clear r0 r1 r2 r3 wn2
                    by_cases hlk : k < P + Q
                    · have tk : decide ((k : Int) < (P : Int) + Q) = true := by simp; omega
                      have hck3 : cnt M.all (k + 1) = ck + nz (M.all.getD k 0) := by rw [cnt, HCK.out]
                      obtain ⟨z, hz⟩ : ∃ z, M.all.getD k 0 = z := ⟨_, rfl⟩
                      have mu := MU.out
                      have HKP := hid (fun v h => peek_in m M k v h (by omega))
                      rw [hz] at HKP hck3
                      have HC3 := hid hck3
                      clear hz hck3 mu
                      go_wp2_with fail
                      refine (HKP.out _ HI9.out.im).mono ?_
                      rintro e w' ⟨rfl, rfl⟩
                      by_cases hz0 : z = 0
                      · have hz1 : (z != 0) = false := by simp [hz0]
                        have HZ2 := hid (show nz z = 0 by simp [nz, hz0])
                        clear hz0
                        go_wp2_with fail
                        go_roundg (P + Q - (k + 1))
                        case measure => omega
                        case rel => exact ⟨k + 1, by omega, rfl, by rw [HC3.out, HZ2.out]; rfl, by go_num, HI9.out⟩
                      · have hz1 : (z != 0) = true := by simpa using hz0
                        have HZ2 := hid (show nz z = 1 by simp [nz, hz0])
                        clear hz0
                        go_wp2_with fail
                        go_roundg (P + Q - (k + 1))
                        case measure => omega
                        case rel => exact ⟨k + 1, by omega, rfl, by rw [HC3.out, HZ2.out]; first | rfl | (congr 1; done) | (congr 1; omega), by go_num, HI9.out⟩
                    · have tk : decide ((k : Int) < (P : Int) + Q) = false := by simp; omega
                      obtain rfl : k = P + Q := by omega
                      have h0 : 2 * (s : Int) - (ck : Int) = 0 := by have := HCK.out; rw [HMC2.out] at this; omega
                      rw [h0]
                      go_wp2_with fail
                      refine (awake_ok _).mono ?_
                      rintro e wz ⟨rfl, hFz⟩
                      go_wp2_with fail
                      go_ret
                      exact ⟨rfl, (HI9.out.fr.trans hFz).below (Nat.le_refl _) (fun _ hh => hh.elim)⟩

theorem movesLaw (a b fr : Int) (hfr : Fits fr) (A : Option Addr) (len cap : Nat) (f : Nat → Nat → Int) (w : World) (hr : Row w A len 1 f) :
    Calls Try.prog 8 #[.agg #[.int .i64 a, .int .i64 b], .int .i64 fr, .slice A len cap] w fun e w' => e = .returned (.bool true) ∧ Below w.heap.size w w' := by
  by_cases h0 : a < 0
  · exact moves_a a b fr A len cap w h0
  by_cases h1 : 8 < a
  · exact moves_b a b fr A len cap w h1
  by_cases h2 : b < 0
  · exact moves_c a b fr A len cap w (by omega) (by omega) h2
  by_cases h3 : 8 < b
  · exact moves_d a b fr A len cap w (by omega) (by omega) h3
  by_cases h4 : 256 < len
  · exact moves_e a b fr A len cap w (by omega) (by omega) (by omega) (by omega) h4
  by_cases h5 : 9223372036854775807 - (len : Int) < fr
  · exact moves_f a b fr A len cap w (by omega) (by omega) (by omega) (by omega) (by omega) h5
  by_cases h6 : pow a < (len : Int)
  · exact moves_g a b fr A len cap w hfr (by omega) (by omega) (by omega) (by omega) (by omega) (by omega) h6
  by_cases h7 : pow b < (len : Int)
  · exact moves_h a b fr A len cap w hfr (by omega) (by omega) (by omega) (by omega) (by omega) (by omega) ⟨by omega, h7⟩
  exact moves_ok a b fr A len cap f w hfr (by omega) (by omega) (by omega) (by omega) (by omega) (by omega) ⟨by omega, by omega⟩ hr
end Go.Proofs.Ythomjenkemepiaa
