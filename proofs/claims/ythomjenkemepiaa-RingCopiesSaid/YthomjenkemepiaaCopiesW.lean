/-
  RingCopies answers true at any two rings, any places, any Acts.
-/
import Derived.Test.YthomjenkemepiaaAwake
import Derived.Test.YthomjenkemepiaaOpen
import Derived.Test.YthomjenkemepiaaRefC
import Derived.Deep.RegionHeld3
import Derived.Deep.DeepCutAuto
import Derived.Deep.LoopGhost
namespace Go.Proofs.Ythomjenkemepiaa
open Go.RowKit
set_option linter.unusedVariables false

theorem Row.at_four {w : World} {a : Option Addr} {len i : Nat} {f : Nat → Nat → Int} (h : Row w a len 4 f) (hi : i < len) :
    ∃ b off, a = some ⟨b, off, none⟩ ∧ (∀ v, Fr (fun _ => False) w v → v.cell? ⟨b, off + i * 4, none⟩ = some (.int .i64 (f i 0)) ∧ v.cell? ⟨b, off + i * 4 + 1, none⟩ = some (.int .i64 (f i 1)) ∧ v.cell? ⟨b, off + i * 4 + 2, none⟩ = some (.int .i64 (f i 2)) ∧ v.cell? ⟨b, off + i * 4 + 3, none⟩ = some (.int .i64 (f i 3))) := by
  obtain ⟨b, off, ha, hb, hc⟩ := h (by omega)
  have key : ∀ v, Fr (fun _ => False) w v → ∀ j, j < 4 → v.cell? ⟨b, off + i * 4 + j, none⟩ = some (.int .i64 (f i j)) := by
    intro v hf j hj
    have := (hc i j hi hj).1
    rw [← Nat.add_assoc] at this
    rw [← this]
    exact World.cell?_of_block (w := w) (hf.block b hb id)
  exact ⟨b, off, ha, fun v hf => ⟨key v hf 0 (by omega), key v hf 1 (by omega), key v hf 2 (by omega), key v hf 3 (by omega)⟩⟩

/-- The three callers' steps. -/
structure Three (s : List Int) (did : Nat) : Prop where
  eq : ∃ a b c : Nat, s = [(a : Int), b, c] ∧ a + b + c = did

theorem Three.step {s : List Int} {did : Nat} (h : Three s did) (hd : did ≤ 1000) {j : Nat} (hj : j < 3) : Three (s.set j (wrap64 (s.getD j 0 + 1))) (did + 1) := by
  obtain ⟨a, b, c, rfl, he⟩ := h.eq
  have key : ∀ n : Nat, n ≤ 1000 → wrap64 ((n : Int) + 1) = ((n + 1 : Nat) : Int) := by
    intro n hn
    unfold wrap64
    omega
  match j, hj with
  | 0, _ => exact ⟨⟨a + 1, b, c, by simp [key a (by omega)], by omega⟩⟩
  | 1, _ => exact ⟨⟨a, b + 1, c, by simp [key b (by omega)], by omega⟩⟩
  | 2, _ => exact ⟨⟨a, b, c + 1, by simp [key c (by omega)], by omega⟩⟩

theorem Three.len {s : List Int} {did : Nat} (h : Three s did) : s.length = 3 := by
  obtain ⟨a, b, c, rfl, he⟩ := h.eq
  rfl

/-- What lies in memory while both copy. -/
structure CopIn (w : World) (m : MB) (c r g did : Nat) (M : Mach) (C : Cp) (wr : World) : Prop where
  im : IsM wr m M
  ic : IsC wr c C
  id_ : IsD wr r C
  hg : Blk wr g (ints M.all)
  ok : C.Ok
  al : M.all.length = 40
  us : M.used = 40
  st : Three M.steps did
  fr : Fr (fun _ => False) w wr

theorem CopIn.same {w : World} {m : MB} {c r g did : Nat} {M : Mach} {C : Cp} {wr v : World} (h : CopIn w m c r g did M C wr) (F : Fr (fun _ => False) wr v) : CopIn w m c r g did M C v :=
  { h with im := h.im.same F, ic := h.ic.same F, id_ := h.id_.same F, hg := h.hg.keep F id, fr := h.fr.trans F }

theorem place_nonneg {r : Rg} (h : r.Right) (i : Int) : 0 ≤ r.place i := by
  unfold Rg.place
  rw [if_pos h]
  have := h.2.2.1
  have := Int.emod_nonneg i (show pow r.l ≠ 0 by have := pow_pos r.l; omega)
  omega

def CopRel (w : World) (m : MB) (c r g n : Nat) (d : Nat) (x y : Value) (wr : World) : Prop :=
  ∃ (q did : Nat) (M : Mach) (C : Cp), q ≤ n ∧ d = n - q ∧ x = .int .i64 did ∧ y = .int .i64 q ∧ did ≤ q + 1 ∧ CopIn w m c r g did M C wr

def CopCame (w : World) (m : MB) (c r g q : Nat) (x : Value) (wr : World) : Prop :=
  ∃ (did : Nat) (M : Mach) (C : Cp), x = .int .i64 did ∧ did ≤ q + 2 ∧ CopIn w m c r g did M C wr

def PeekRel (w : World) (m : MB) (c r g did : Nat) (M : Mach) (C : Cp) (d : Nat) (x : Value) (wr : World) : Prop :=
  ∃ j : Nat, j ≤ 40 ∧ d = 40 - j ∧ x = .int .i64 j ∧ CopIn w m c r g did M C wr

set_option maxRecDepth 100000 in
set_option maxHeartbeats 8000000 in
theorem cop_arg (a l b k x y : Int) (A : Option Addr) (len cap : Nat) (f : Nat → Nat → Int) (w : World) (hx : Fits x) (hy : Fits y) (h : ¬ (Rg.Right ⟨a, l⟩ ∧ Rg.Right ⟨b, k⟩)) :
    Calls Try.prog 7 #[.agg #[.int .i64 a, .int .i64 l, .int .i64 b, .int .i64 k], .agg #[.int .i64 x, .int .i64 y], .slice A len cap] w fun e w' => e = .returned (.bool true) ∧ Below w.heap.size w w' := by
  have HC := hid (fun v => copy_arg a l b k x y v h)
  have HD := hid (fun v => begin_arg' a l b k x y v h)
  clear h
  have HB0 := hid ((Blk.new w #[.int .i64 a, .int .i64 l, .int .i64 b, .int .i64 k] 50).alloc (.cells #[.int .i64 x, .int .i64 y] 51))
  have HB1 := hid ((Blk.new (w.alloc (.cells #[.int .i64 a, .int .i64 l, .int .i64 b, .int .i64 k] 50)) #[.int .i64 x, .int .i64 y] 51).at (n := w.heap.size + 1) (by simp))
  have HT := hid (show Fr (fun _ => False) w ((w.alloc (.cells #[.int .i64 a, .int .i64 l, .int .i64 b, .int .i64 k] 50)).alloc (.cells #[.int .i64 x, .int .i64 y] 51)) from (Fr.alloc _ _ _).trans (Fr.alloc _ _ _))
  go_enter Try.func7, Try.ntmps7
  go_wp2_with fail
  refine (new_ok 40 2 _ (by omega) (by omega) (by omega) (by omega)).mono ?_
  rintro e w1 ⟨m, rfl, hM, hF, hN⟩
  have HM := hid (show IsM w1 m ⟨List.replicate 40 0, 0, [0, 0, 0]⟩ from hM)
  have HO := hid (show ∀ i, m.own i → w.heap.size + 2 ≤ i from fun i hi => by have := hN i hi; simpa using this)
  have HT := hid (HT.out.trans hF)
  have HB0 := hid (HB0.out.keep hF id)
  have HB1 := hid (HB1.out.keep hF id)
  clear hM hF hN
  have HOW := hid (show ∀ i, m.own i → i < w.heap.size → False from fun i hi hh => by have := HO.out i hi; omega)
  have HN0 := hid (show ¬ m.own w.heap.size from fun hh => by have := HO.out _ hh; omega)
  have HN1 := hid (show ¬ m.own (w.heap.size + 1) from fun hh => by have := HO.out _ hh; omega)
  go_wp2_with fail
  refine (alloc_ok m _ 2 40 _ HM.out (by simp) (by omega) (by simp)).mono ?_
  rintro e w2 ⟨rfl, hM, hF⟩
  replace hM : IsM w2 m ⟨List.replicate 40 0, 40, [0, 0, 1]⟩ := by simpa [Mach.step, Mach.give, wrap64] using hM
  have HM2 := hid hM
  have HT := hid (HT.out.since hF HOW.out)
  have HB0 := hid (HB0.out.keep hF HN0.out)
  have HB1 := hid (HB1.out.keep hF HN1.out)
  have HWS2 := hid (show w.heap.size ≤ w2.heap.size from HT.out.size)
  clear hM hF HM HN0 HN1
  have s0 := HB0.out.cell (i := 0) rfl
  have s1 := HB0.out.cell (i := 1) rfl
  have s2 := HB0.out.cell (i := 2) rfl
  have s3 := HB0.out.cell (i := 3) rfl
  have p0 := HB1.out.cell (i := 0) rfl
  have p1 := HB1.out.cell (i := 1) rfl
  have l0 := HB0.out.lt
  have l1 := HB1.out.lt
  go_wp2_with fail
  refine (HC.out _).mono ?_
  rintro e w3 ⟨rfl, hF⟩
  have HT := hid (HT.out.trans ((Fr.alloc _ _ _).trans ((Fr.alloc _ _ _).trans hF)))
  have HM3 := hid (HM2.out.same ((Fr.alloc _ _ _).trans ((Fr.alloc _ _ _).trans hF)))
  have HB0 := hid (((HB0.out.alloc (.cells #[.int .i64 a, .int .i64 l] 24)).alloc (.cells #[.int .i64 b, .int .i64 k] 24)).keep hF id)
  have HB1 := hid (((HB1.out.alloc (.cells #[.int .i64 a, .int .i64 l] 24)).alloc (.cells #[.int .i64 b, .int .i64 k] 24)).keep hF id)
  clear hF s0 s1 s2 s3 p0 p1 l0 l1
  have s0 := HB0.out.cell (i := 0) rfl
  have s1 := HB0.out.cell (i := 1) rfl
  have s2 := HB0.out.cell (i := 2) rfl
  have s3 := HB0.out.cell (i := 3) rfl
  have p0 := HB1.out.cell (i := 0) rfl
  have p1 := HB1.out.cell (i := 1) rfl
  go_wp2_with fail
  refine (HD.out _).mono ?_
  rintro e w4 ⟨rfl, hF⟩
  have HT := hid (HT.out.trans hF)
  clear hF
  go_wp2_with fail
  refine (awake_ok _).mono ?_
  rintro e w9 ⟨rfl, hF⟩
  go_wp2_with fail
  go_ret
  exact ⟨rfl, (HT.out.trans hF).below (Nat.le_refl _) (fun _ hh => hh.elim)⟩

set_option maxRecDepth 100000 in
set_option maxHeartbeats 8000000 in
theorem cop_low (a l b k x y : Int) (A : Option Addr) (len cap : Nat) (f : Nat → Nat → Int) (w : World) (hx : Fits x) (hy : Fits y) (h1 : Rg.Right ⟨a, l⟩) (h2 : Rg.Right ⟨b, k⟩) (h : y < x) :
    Calls Try.prog 7 #[.agg #[.int .i64 a, .int .i64 l, .int .i64 b, .int .i64 k], .agg #[.int .i64 x, .int .i64 y], .slice A len cap] w fun e w' => e = .returned (.bool true) ∧ Below w.heap.size w w' := by
  have HC := hid (fun v => copy_low a l b k x y v h1 h2 hx hy h)
  have HD := hid (fun v => begin_low' a l b k x y v h1 h2 hx hy h)
  clear h h1 h2 hx hy
  have HB0 := hid ((Blk.new w #[.int .i64 a, .int .i64 l, .int .i64 b, .int .i64 k] 50).alloc (.cells #[.int .i64 x, .int .i64 y] 51))
  have HB1 := hid ((Blk.new (w.alloc (.cells #[.int .i64 a, .int .i64 l, .int .i64 b, .int .i64 k] 50)) #[.int .i64 x, .int .i64 y] 51).at (n := w.heap.size + 1) (by simp))
  have HT := hid (show Fr (fun _ => False) w ((w.alloc (.cells #[.int .i64 a, .int .i64 l, .int .i64 b, .int .i64 k] 50)).alloc (.cells #[.int .i64 x, .int .i64 y] 51)) from (Fr.alloc _ _ _).trans (Fr.alloc _ _ _))
  go_enter Try.func7, Try.ntmps7
  go_wp2_with fail
  refine (new_ok 40 2 _ (by omega) (by omega) (by omega) (by omega)).mono ?_
  rintro e w1 ⟨m, rfl, hM, hF, hN⟩
  have HM := hid (show IsM w1 m ⟨List.replicate 40 0, 0, [0, 0, 0]⟩ from hM)
  have HO := hid (show ∀ i, m.own i → w.heap.size + 2 ≤ i from fun i hi => by have := hN i hi; simpa using this)
  have HT := hid (HT.out.trans hF)
  have HB0 := hid (HB0.out.keep hF id)
  have HB1 := hid (HB1.out.keep hF id)
  clear hM hF hN
  have HOW := hid (show ∀ i, m.own i → i < w.heap.size → False from fun i hi hh => by have := HO.out i hi; omega)
  have HN0 := hid (show ¬ m.own w.heap.size from fun hh => by have := HO.out _ hh; omega)
  have HN1 := hid (show ¬ m.own (w.heap.size + 1) from fun hh => by have := HO.out _ hh; omega)
  go_wp2_with fail
  refine (alloc_ok m _ 2 40 _ HM.out (by simp) (by omega) (by simp)).mono ?_
  rintro e w2 ⟨rfl, hM, hF⟩
  replace hM : IsM w2 m ⟨List.replicate 40 0, 40, [0, 0, 1]⟩ := by simpa [Mach.step, Mach.give, wrap64] using hM
  have HM2 := hid hM
  have HT := hid (HT.out.since hF HOW.out)
  have HB0 := hid (HB0.out.keep hF HN0.out)
  have HB1 := hid (HB1.out.keep hF HN1.out)
  have HWS2 := hid (show w.heap.size ≤ w2.heap.size from HT.out.size)
  clear hM hF HM HN0 HN1
  have s0 := HB0.out.cell (i := 0) rfl
  have s1 := HB0.out.cell (i := 1) rfl
  have s2 := HB0.out.cell (i := 2) rfl
  have s3 := HB0.out.cell (i := 3) rfl
  have p0 := HB1.out.cell (i := 0) rfl
  have p1 := HB1.out.cell (i := 1) rfl
  have l0 := HB0.out.lt
  have l1 := HB1.out.lt
  go_wp2_with fail
  refine (HC.out _).mono ?_
  rintro e w3 ⟨rfl, hF⟩
  have HT := hid (HT.out.trans ((Fr.alloc _ _ _).trans ((Fr.alloc _ _ _).trans hF)))
  have HM3 := hid (HM2.out.same ((Fr.alloc _ _ _).trans ((Fr.alloc _ _ _).trans hF)))
  have HB0 := hid (((HB0.out.alloc (.cells #[.int .i64 a, .int .i64 l] 24)).alloc (.cells #[.int .i64 b, .int .i64 k] 24)).keep hF id)
  have HB1 := hid (((HB1.out.alloc (.cells #[.int .i64 a, .int .i64 l] 24)).alloc (.cells #[.int .i64 b, .int .i64 k] 24)).keep hF id)
  clear hF s0 s1 s2 s3 p0 p1 l0 l1
  have s0 := HB0.out.cell (i := 0) rfl
  have s1 := HB0.out.cell (i := 1) rfl
  have s2 := HB0.out.cell (i := 2) rfl
  have s3 := HB0.out.cell (i := 3) rfl
  have p0 := HB1.out.cell (i := 0) rfl
  have p1 := HB1.out.cell (i := 1) rfl
  go_wp2_with fail
  refine (HD.out _).mono ?_
  rintro e w4 ⟨rfl, hF⟩
  have HT := hid (HT.out.trans hF)
  clear hF
  go_wp2_with fail
  refine (awake_ok _).mono ?_
  rintro e w9 ⟨rfl, hF⟩
  go_wp2_with fail
  go_ret
  exact ⟨rfl, (HT.out.trans hF).below (Nat.le_refl _) (fun _ hh => hh.elim)⟩

set_option maxRecDepth 100000 in
set_option maxHeartbeats 8000000 in
theorem cop_far1 (a l b k x y : Int) (A : Option Addr) (len cap : Nat) (f : Nat → Nat → Int) (w : World) (hx : Fits x) (hy : Fits y) (h1 : Rg.Right ⟨a, l⟩) (h2 : Rg.Right ⟨b, k⟩) (h : x ≤ y ∧ pow l < y - x) :
    Calls Try.prog 7 #[.agg #[.int .i64 a, .int .i64 l, .int .i64 b, .int .i64 k], .agg #[.int .i64 x, .int .i64 y], .slice A len cap] w fun e w' => e = .returned (.bool true) ∧ Below w.heap.size w w' := by
  have HC := hid (fun v => copy_far a l b k x y v h1 h2 hx hy ⟨h.1, fun hh => by omega⟩)
  have HD := hid (fun v => begin_far1 a l b k x y v h1 h2 hx hy h)
  clear h h1 h2 hx hy
  have HB0 := hid ((Blk.new w #[.int .i64 a, .int .i64 l, .int .i64 b, .int .i64 k] 50).alloc (.cells #[.int .i64 x, .int .i64 y] 51))
  have HB1 := hid ((Blk.new (w.alloc (.cells #[.int .i64 a, .int .i64 l, .int .i64 b, .int .i64 k] 50)) #[.int .i64 x, .int .i64 y] 51).at (n := w.heap.size + 1) (by simp))
  have HT := hid (show Fr (fun _ => False) w ((w.alloc (.cells #[.int .i64 a, .int .i64 l, .int .i64 b, .int .i64 k] 50)).alloc (.cells #[.int .i64 x, .int .i64 y] 51)) from (Fr.alloc _ _ _).trans (Fr.alloc _ _ _))
  go_enter Try.func7, Try.ntmps7
  go_wp2_with fail
  refine (new_ok 40 2 _ (by omega) (by omega) (by omega) (by omega)).mono ?_
  rintro e w1 ⟨m, rfl, hM, hF, hN⟩
  have HM := hid (show IsM w1 m ⟨List.replicate 40 0, 0, [0, 0, 0]⟩ from hM)
  have HO := hid (show ∀ i, m.own i → w.heap.size + 2 ≤ i from fun i hi => by have := hN i hi; simpa using this)
  have HT := hid (HT.out.trans hF)
  have HB0 := hid (HB0.out.keep hF id)
  have HB1 := hid (HB1.out.keep hF id)
  clear hM hF hN
  have HOW := hid (show ∀ i, m.own i → i < w.heap.size → False from fun i hi hh => by have := HO.out i hi; omega)
  have HN0 := hid (show ¬ m.own w.heap.size from fun hh => by have := HO.out _ hh; omega)
  have HN1 := hid (show ¬ m.own (w.heap.size + 1) from fun hh => by have := HO.out _ hh; omega)
  go_wp2_with fail
  refine (alloc_ok m _ 2 40 _ HM.out (by simp) (by omega) (by simp)).mono ?_
  rintro e w2 ⟨rfl, hM, hF⟩
  replace hM : IsM w2 m ⟨List.replicate 40 0, 40, [0, 0, 1]⟩ := by simpa [Mach.step, Mach.give, wrap64] using hM
  have HM2 := hid hM
  have HT := hid (HT.out.since hF HOW.out)
  have HB0 := hid (HB0.out.keep hF HN0.out)
  have HB1 := hid (HB1.out.keep hF HN1.out)
  have HWS2 := hid (show w.heap.size ≤ w2.heap.size from HT.out.size)
  clear hM hF HM HN0 HN1
  have s0 := HB0.out.cell (i := 0) rfl
  have s1 := HB0.out.cell (i := 1) rfl
  have s2 := HB0.out.cell (i := 2) rfl
  have s3 := HB0.out.cell (i := 3) rfl
  have p0 := HB1.out.cell (i := 0) rfl
  have p1 := HB1.out.cell (i := 1) rfl
  have l0 := HB0.out.lt
  have l1 := HB1.out.lt
  go_wp2_with fail
  refine (HC.out _).mono ?_
  rintro e w3 ⟨rfl, hF⟩
  have HT := hid (HT.out.trans ((Fr.alloc _ _ _).trans ((Fr.alloc _ _ _).trans hF)))
  have HM3 := hid (HM2.out.same ((Fr.alloc _ _ _).trans ((Fr.alloc _ _ _).trans hF)))
  have HB0 := hid (((HB0.out.alloc (.cells #[.int .i64 a, .int .i64 l] 24)).alloc (.cells #[.int .i64 b, .int .i64 k] 24)).keep hF id)
  have HB1 := hid (((HB1.out.alloc (.cells #[.int .i64 a, .int .i64 l] 24)).alloc (.cells #[.int .i64 b, .int .i64 k] 24)).keep hF id)
  clear hF s0 s1 s2 s3 p0 p1 l0 l1
  have s0 := HB0.out.cell (i := 0) rfl
  have s1 := HB0.out.cell (i := 1) rfl
  have s2 := HB0.out.cell (i := 2) rfl
  have s3 := HB0.out.cell (i := 3) rfl
  have p0 := HB1.out.cell (i := 0) rfl
  have p1 := HB1.out.cell (i := 1) rfl
  go_wp2_with fail
  refine (HD.out _).mono ?_
  rintro e w4 ⟨rfl, hF⟩
  have HT := hid (HT.out.trans hF)
  clear hF
  go_wp2_with fail
  refine (awake_ok _).mono ?_
  rintro e w9 ⟨rfl, hF⟩
  go_wp2_with fail
  go_ret
  exact ⟨rfl, (HT.out.trans hF).below (Nat.le_refl _) (fun _ hh => hh.elim)⟩

set_option maxRecDepth 100000 in
set_option maxHeartbeats 8000000 in
theorem cop_far2 (a l b k x y : Int) (A : Option Addr) (len cap : Nat) (f : Nat → Nat → Int) (w : World) (hx : Fits x) (hy : Fits y) (h1 : Rg.Right ⟨a, l⟩) (h2 : Rg.Right ⟨b, k⟩) (h : x ≤ y ∧ y - x ≤ pow l ∧ pow k < y - x) :
    Calls Try.prog 7 #[.agg #[.int .i64 a, .int .i64 l, .int .i64 b, .int .i64 k], .agg #[.int .i64 x, .int .i64 y], .slice A len cap] w fun e w' => e = .returned (.bool true) ∧ Below w.heap.size w w' := by
  have HC := hid (fun v => copy_far a l b k x y v h1 h2 hx hy ⟨h.1, fun hh => by omega⟩)
  have HD := hid (fun v => begin_far2 a l b k x y v h1 h2 hx hy h)
  clear h h1 h2 hx hy
  have HB0 := hid ((Blk.new w #[.int .i64 a, .int .i64 l, .int .i64 b, .int .i64 k] 50).alloc (.cells #[.int .i64 x, .int .i64 y] 51))
  have HB1 := hid ((Blk.new (w.alloc (.cells #[.int .i64 a, .int .i64 l, .int .i64 b, .int .i64 k] 50)) #[.int .i64 x, .int .i64 y] 51).at (n := w.heap.size + 1) (by simp))
  have HT := hid (show Fr (fun _ => False) w ((w.alloc (.cells #[.int .i64 a, .int .i64 l, .int .i64 b, .int .i64 k] 50)).alloc (.cells #[.int .i64 x, .int .i64 y] 51)) from (Fr.alloc _ _ _).trans (Fr.alloc _ _ _))
  go_enter Try.func7, Try.ntmps7
  go_wp2_with fail
  refine (new_ok 40 2 _ (by omega) (by omega) (by omega) (by omega)).mono ?_
  rintro e w1 ⟨m, rfl, hM, hF, hN⟩
  have HM := hid (show IsM w1 m ⟨List.replicate 40 0, 0, [0, 0, 0]⟩ from hM)
  have HO := hid (show ∀ i, m.own i → w.heap.size + 2 ≤ i from fun i hi => by have := hN i hi; simpa using this)
  have HT := hid (HT.out.trans hF)
  have HB0 := hid (HB0.out.keep hF id)
  have HB1 := hid (HB1.out.keep hF id)
  clear hM hF hN
  have HOW := hid (show ∀ i, m.own i → i < w.heap.size → False from fun i hi hh => by have := HO.out i hi; omega)
  have HN0 := hid (show ¬ m.own w.heap.size from fun hh => by have := HO.out _ hh; omega)
  have HN1 := hid (show ¬ m.own (w.heap.size + 1) from fun hh => by have := HO.out _ hh; omega)
  go_wp2_with fail
  refine (alloc_ok m _ 2 40 _ HM.out (by simp) (by omega) (by simp)).mono ?_
  rintro e w2 ⟨rfl, hM, hF⟩
  replace hM : IsM w2 m ⟨List.replicate 40 0, 40, [0, 0, 1]⟩ := by simpa [Mach.step, Mach.give, wrap64] using hM
  have HM2 := hid hM
  have HT := hid (HT.out.since hF HOW.out)
  have HB0 := hid (HB0.out.keep hF HN0.out)
  have HB1 := hid (HB1.out.keep hF HN1.out)
  have HWS2 := hid (show w.heap.size ≤ w2.heap.size from HT.out.size)
  clear hM hF HM HN0 HN1
  have s0 := HB0.out.cell (i := 0) rfl
  have s1 := HB0.out.cell (i := 1) rfl
  have s2 := HB0.out.cell (i := 2) rfl
  have s3 := HB0.out.cell (i := 3) rfl
  have p0 := HB1.out.cell (i := 0) rfl
  have p1 := HB1.out.cell (i := 1) rfl
  have l0 := HB0.out.lt
  have l1 := HB1.out.lt
  go_wp2_with fail
  refine (HC.out _).mono ?_
  rintro e w3 ⟨rfl, hF⟩
  have HT := hid (HT.out.trans ((Fr.alloc _ _ _).trans ((Fr.alloc _ _ _).trans hF)))
  have HM3 := hid (HM2.out.same ((Fr.alloc _ _ _).trans ((Fr.alloc _ _ _).trans hF)))
  have HB0 := hid (((HB0.out.alloc (.cells #[.int .i64 a, .int .i64 l] 24)).alloc (.cells #[.int .i64 b, .int .i64 k] 24)).keep hF id)
  have HB1 := hid (((HB1.out.alloc (.cells #[.int .i64 a, .int .i64 l] 24)).alloc (.cells #[.int .i64 b, .int .i64 k] 24)).keep hF id)
  clear hF s0 s1 s2 s3 p0 p1 l0 l1
  have s0 := HB0.out.cell (i := 0) rfl
  have s1 := HB0.out.cell (i := 1) rfl
  have s2 := HB0.out.cell (i := 2) rfl
  have s3 := HB0.out.cell (i := 3) rfl
  have p0 := HB1.out.cell (i := 0) rfl
  have p1 := HB1.out.cell (i := 1) rfl
  go_wp2_with fail
  refine (HD.out _).mono ?_
  rintro e w4 ⟨rfl, hF⟩
  have HT := hid (HT.out.trans hF)
  clear hF
  go_wp2_with fail
  refine (awake_ok _).mono ?_
  rintro e w9 ⟨rfl, hF⟩
  go_wp2_with fail
  go_ret
  exact ⟨rfl, (HT.out.trans hF).below (Nat.le_refl _) (fun _ hh => hh.elim)⟩

set_option maxRecDepth 100000 in
set_option maxHeartbeats 8000000 in
theorem cop_long (a l b k x y : Int) (A : Option Addr) (len cap : Nat) (f : Nat → Nat → Int) (w : World) (hx : Fits x) (hy : Fits y) (h1 : Rg.Right ⟨a, l⟩) (h2 : Rg.Right ⟨b, k⟩) (h : x ≤ y ∧ y - x ≤ pow l ∧ y - x ≤ pow k) (hl : 300 < len) :
    Calls Try.prog 7 #[.agg #[.int .i64 a, .int .i64 l, .int .i64 b, .int .i64 k], .agg #[.int .i64 x, .int .i64 y], .slice A len cap] w fun e w' => e = .returned (.bool true) ∧ Below w.heap.size w w' := by
  have HC := hid (fun v => copy_ok a l b k x y v h1 h2 hx hy h)
  have HD := hid (fun v => begin_ok' a l b k x y v h1 h2 hx hy h)
  have t5 : decide ((300 : Int) < len) = true := by simp; omega
  clear h h1 h2 hx hy
  have HB0 := hid ((Blk.new w #[.int .i64 a, .int .i64 l, .int .i64 b, .int .i64 k] 50).alloc (.cells #[.int .i64 x, .int .i64 y] 51))
  have HB1 := hid ((Blk.new (w.alloc (.cells #[.int .i64 a, .int .i64 l, .int .i64 b, .int .i64 k] 50)) #[.int .i64 x, .int .i64 y] 51).at (n := w.heap.size + 1) (by simp))
  have HT := hid (show Fr (fun _ => False) w ((w.alloc (.cells #[.int .i64 a, .int .i64 l, .int .i64 b, .int .i64 k] 50)).alloc (.cells #[.int .i64 x, .int .i64 y] 51)) from (Fr.alloc _ _ _).trans (Fr.alloc _ _ _))
  go_enter Try.func7, Try.ntmps7
  go_wp2_with fail
  refine (new_ok 40 2 _ (by omega) (by omega) (by omega) (by omega)).mono ?_
  rintro e w1 ⟨m, rfl, hM, hF, hN⟩
  have HM := hid (show IsM w1 m ⟨List.replicate 40 0, 0, [0, 0, 0]⟩ from hM)
  have HO := hid (show ∀ i, m.own i → w.heap.size + 2 ≤ i from fun i hi => by have := hN i hi; simpa using this)
  have HT := hid (HT.out.trans hF)
  have HB0 := hid (HB0.out.keep hF id)
  have HB1 := hid (HB1.out.keep hF id)
  clear hM hF hN
  have HOW := hid (show ∀ i, m.own i → i < w.heap.size → False from fun i hi hh => by have := HO.out i hi; omega)
  have HN0 := hid (show ¬ m.own w.heap.size from fun hh => by have := HO.out _ hh; omega)
  have HN1 := hid (show ¬ m.own (w.heap.size + 1) from fun hh => by have := HO.out _ hh; omega)
  go_wp2_with fail
  refine (alloc_ok m _ 2 40 _ HM.out (by simp) (by omega) (by simp)).mono ?_
  rintro e w2 ⟨rfl, hM, hF⟩
  replace hM : IsM w2 m ⟨List.replicate 40 0, 40, [0, 0, 1]⟩ := by simpa [Mach.step, Mach.give, wrap64] using hM
  have HM2 := hid hM
  have HT := hid (HT.out.since hF HOW.out)
  have HB0 := hid (HB0.out.keep hF HN0.out)
  have HB1 := hid (HB1.out.keep hF HN1.out)
  have HWS2 := hid (show w.heap.size ≤ w2.heap.size from HT.out.size)
  clear hM hF HM HN0 HN1
  have s0 := HB0.out.cell (i := 0) rfl
  have s1 := HB0.out.cell (i := 1) rfl
  have s2 := HB0.out.cell (i := 2) rfl
  have s3 := HB0.out.cell (i := 3) rfl
  have p0 := HB1.out.cell (i := 0) rfl
  have p1 := HB1.out.cell (i := 1) rfl
  have l0 := HB0.out.lt
  have l1 := HB1.out.lt
  go_wp2_with fail
  refine (HC.out _).mono ?_
  rintro e w3 ⟨c, rfl, hC, hF, hcs⟩
  have HT := hid (HT.out.trans ((Fr.alloc _ _ _).trans ((Fr.alloc _ _ _).trans hF)))
  have HM3 := hid (HM2.out.same ((Fr.alloc _ _ _).trans ((Fr.alloc _ _ _).trans hF)))
  have HB0 := hid (((HB0.out.alloc (.cells #[.int .i64 a, .int .i64 l] 24)).alloc (.cells #[.int .i64 b, .int .i64 k] 24)).keep hF id)
  have HB1 := hid (((HB1.out.alloc (.cells #[.int .i64 a, .int .i64 l] 24)).alloc (.cells #[.int .i64 b, .int .i64 k] 24)).keep hF id)
  clear hF s0 s1 s2 s3 p0 p1 l0 l1
  have s0 := HB0.out.cell (i := 0) rfl
  have s1 := HB0.out.cell (i := 1) rfl
  have s2 := HB0.out.cell (i := 2) rfl
  have s3 := HB0.out.cell (i := 3) rfl
  have p0 := HB1.out.cell (i := 0) rfl
  have p1 := HB1.out.cell (i := 1) rfl
  go_wp2_with fail
  refine (HD.out _).mono ?_
  rintro e w4 ⟨r, rfl, hD, hF, hrs⟩
  have HT := hid (HT.out.trans hF)
  clear hC hcs hD hrs
  clear hF
  go_wp2_with fail
  refine (awake_ok _).mono ?_
  rintro e w9 ⟨rfl, hF⟩
  go_wp2_with fail
  go_ret
  exact ⟨rfl, (HT.out.trans hF).below (Nat.le_refl _) (fun _ hh => hh.elim)⟩

set_option maxRecDepth 100000 in
set_option maxHeartbeats 8000000 in
theorem cop_ok (a l b k x y : Int) (A : Option Addr) (len cap : Nat) (f : Nat → Nat → Int) (w : World) (hx : Fits x) (hy : Fits y) (h1 : Rg.Right ⟨a, l⟩) (h2 : Rg.Right ⟨b, k⟩) (h : x ≤ y ∧ y - x ≤ pow l ∧ y - x ≤ pow k) (hl : len ≤ 300) (hr : Row w A len 4 f) :
    Calls Try.prog 7 #[.agg #[.int .i64 a, .int .i64 l, .int .i64 b, .int .i64 k], .agg #[.int .i64 x, .int .i64 y], .slice A len cap] w fun e w' => e = .returned (.bool true) ∧ Below w.heap.size w w' := by
  have HC := hid (fun v => copy_ok a l b k x y v h1 h2 hx hy h)
  have HD := hid (fun v => begin_ok' a l b k x y v h1 h2 hx hy h)
  have HO9 := hid (show Cp.Ok ⟨a, l, b, k, x, y, 0, false⟩ from ⟨h1, h2, h.1, hx.1, hy.2⟩)
  have HR := hid hr
  have t5 : decide ((300 : Int) < len) = false := by simp; omega
  clear h h1 h2 hx hy hr
  have HB0 := hid ((Blk.new w #[.int .i64 a, .int .i64 l, .int .i64 b, .int .i64 k] 50).alloc (.cells #[.int .i64 x, .int .i64 y] 51))
  have HB1 := hid ((Blk.new (w.alloc (.cells #[.int .i64 a, .int .i64 l, .int .i64 b, .int .i64 k] 50)) #[.int .i64 x, .int .i64 y] 51).at (n := w.heap.size + 1) (by simp))
  have HT := hid (show Fr (fun _ => False) w ((w.alloc (.cells #[.int .i64 a, .int .i64 l, .int .i64 b, .int .i64 k] 50)).alloc (.cells #[.int .i64 x, .int .i64 y] 51)) from (Fr.alloc _ _ _).trans (Fr.alloc _ _ _))
  go_enter Try.func7, Try.ntmps7
  go_wp2_with fail
  refine (new_ok 40 2 _ (by omega) (by omega) (by omega) (by omega)).mono ?_
  rintro e w1 ⟨m, rfl, hM, hF, hN⟩
  have HM := hid (show IsM w1 m ⟨List.replicate 40 0, 0, [0, 0, 0]⟩ from hM)
  have HO := hid (show ∀ i, m.own i → w.heap.size + 2 ≤ i from fun i hi => by have := hN i hi; simpa using this)
  have HT := hid (HT.out.trans hF)
  have HB0 := hid (HB0.out.keep hF id)
  have HB1 := hid (HB1.out.keep hF id)
  clear hM hF hN
  have HOW := hid (show ∀ i, m.own i → i < w.heap.size → False from fun i hi hh => by have := HO.out i hi; omega)
  have HN0 := hid (show ¬ m.own w.heap.size from fun hh => by have := HO.out _ hh; omega)
  have HN1 := hid (show ¬ m.own (w.heap.size + 1) from fun hh => by have := HO.out _ hh; omega)
  go_wp2_with fail
  refine (alloc_ok m _ 2 40 _ HM.out (by simp) (by omega) (by simp)).mono ?_
  rintro e w2 ⟨rfl, hM, hF⟩
  replace hM : IsM w2 m ⟨List.replicate 40 0, 40, [0, 0, 1]⟩ := by simpa [Mach.step, Mach.give, wrap64] using hM
  have HM2 := hid hM
  have HT := hid (HT.out.since hF HOW.out)
  have HB0 := hid (HB0.out.keep hF HN0.out)
  have HB1 := hid (HB1.out.keep hF HN1.out)
  have HWS2 := hid (show w.heap.size ≤ w2.heap.size from HT.out.size)
  clear hM hF HM HN0 HN1
  have s0 := HB0.out.cell (i := 0) rfl
  have s1 := HB0.out.cell (i := 1) rfl
  have s2 := HB0.out.cell (i := 2) rfl
  have s3 := HB0.out.cell (i := 3) rfl
  have p0 := HB1.out.cell (i := 0) rfl
  have p1 := HB1.out.cell (i := 1) rfl
  have l0 := HB0.out.lt
  have l1 := HB1.out.lt
  go_wp2_with fail
  refine (HC.out _).mono ?_
  rintro e w3 ⟨c, rfl, hC, hF, hcs⟩
  have HT := hid (HT.out.trans ((Fr.alloc _ _ _).trans ((Fr.alloc _ _ _).trans hF)))
  have HM3 := hid (HM2.out.same ((Fr.alloc _ _ _).trans ((Fr.alloc _ _ _).trans hF)))
  have HB0 := hid (((HB0.out.alloc (.cells #[.int .i64 a, .int .i64 l] 24)).alloc (.cells #[.int .i64 b, .int .i64 k] 24)).keep hF id)
  have HB1 := hid (((HB1.out.alloc (.cells #[.int .i64 a, .int .i64 l] 24)).alloc (.cells #[.int .i64 b, .int .i64 k] 24)).keep hF id)
  clear hF s0 s1 s2 s3 p0 p1 l0 l1
  have s0 := HB0.out.cell (i := 0) rfl
  have s1 := HB0.out.cell (i := 1) rfl
  have s2 := HB0.out.cell (i := 2) rfl
  have s3 := HB0.out.cell (i := 3) rfl
  have p0 := HB1.out.cell (i := 0) rfl
  have p1 := HB1.out.cell (i := 1) rfl
  go_wp2_with fail
  refine (HD.out _).mono ?_
  rintro e w4 ⟨r, rfl, hD, hF, hrs⟩
  have HT := hid (HT.out.trans hF)
  have HC3 := hid hC
  have HCS := hid hcs
  have HD4 := hid hD
  have HC4 := hid (HC3.out.same hF)
  have HM4 := hid (HM3.out.same hF)
  have HNC := hid (show ¬ m.own c from fun hh => by have := HM2.out.own_lt _ hh; simp at hcs; omega)
  have HNR := hid (show ¬ m.own r from fun hh => by have := HM3.out.own_lt _ hh; omega)
  have HCR := hid (show c ≠ r from fun hh => by have := Blk.lt hC; omega)
  have HWC := hid (show w.heap.size ≤ c from by have := HWS2.out; simp at hcs; omega)
  have HWR := hid (show w.heap.size ≤ r from by have := HB0.out.lt; omega)
  clear hC hD hcs hrs hF s0 s1 s2 s3 p0 p1 HM3 HC3 HB0 HB1
  have mk := run_make_row' (P := Try.prog) 61 2 (.int .i64 0) 8 Try.underlying61 Try.infol rfl .i64 .i64 40 (by omega) (by omega)
  rw [show ((40 : Nat) : Int) = 40 from rfl] at mk
  go_wp2_with fail
  rw [made_ints 40]
  obtain ⟨g, hg⟩ : ∃ g, w4.heap.size = g := ⟨_, rfl⟩
  have HI := hid (show CopIn w m c r g 1 ⟨List.replicate 40 0, 40, [0, 0, 1]⟩ ⟨a, l, b, k, x, y, 0, false⟩ (w4.alloc (.cells (ints (List.replicate 40 0)) 2)) from
    ⟨HM4.out.same (Fr.alloc _ _ _), HC4.out.same (Fr.alloc _ _ _), HD4.out.same (Fr.alloc _ _ _), (Blk.new w4 _ _).at hg, HO9.out, by simp, rfl, ⟨⟨0, 0, 1, rfl, rfl⟩⟩, HT.out.trans (Fr.alloc _ _ _)⟩)
  have HNG := hid (show ¬ m.own g from fun hh => by have := HM4.out.own_lt _ hh; omega)
  have HCG := hid (show c ≠ g from fun hh => by have := Blk.lt HC4.out; omega)
  have HRG := hid (show r ≠ g from fun hh => by have := Blk.lt HD4.out; omega)
  have HWG := hid (show w.heap.size ≤ g from by have := HT.out.size; omega)
  rw [hg]
  clear hg mk HM4 HC4 HD4 HT HM2
  obtain ⟨wx, hwx⟩ : ∃ wx, wx = w4.alloc (.cells (ints (List.replicate 40 0)) 2) := ⟨_, rfl⟩
  rw [← hwx] at HI ⊢
  clear hwx
  go_loopg [16, 17] len (fun d x y wr => CopRel w m c r g len d x y wr)
  case atStart => exact ⟨0, 1, _, _, Nat.zero_le _, rfl, rfl, rfl, Nat.le_refl _, HI.out⟩
  case round =>
    clear HI
    obtain ⟨q, did, M, C, hq, rfl, rfl, rfl, hdq, hI⟩ := hrel
    by_cases hlt : q < len
    · have HI := hid hI
      clear hI
      obtain ⟨bl, off, rfl, hc⟩ := HR.out.at_four hlt
      have HCC := hid hc
      clear hc
      obtain ⟨K, hK⟩ : ∃ K, f q 0 = K := ⟨_, rfl⟩
      obtain ⟨W, hW⟩ : ∃ W, f q 1 = W := ⟨_, rfl⟩
      obtain ⟨T, hT⟩ : ∃ T, f q 2 = T := ⟨_, rfl⟩
      obtain ⟨X, hX⟩ : ∃ X, f q 3 = X := ⟨_, rfl⟩
      rw [hK, hW, hT, hX] at HCC
      clear hK hW hT hX
      obtain ⟨r0, r1, r2, r3⟩ := HCC.out _ HI.out.fr
      have HMM := hid (show M.all.length = 40 ∧ M.used = 40 ∧ M.steps.length = 3 from ⟨HI.out.al, HI.out.us, HI.out.st.len⟩)
      go_upto_if 115 with fail
      go_cut [16, 18, 19, 20, 21, 22, 23] from 104 to 198 (fun u _ _ _ _ _ _ wx => CopCame w m c r g q u wx)
      case first =>
        by_cases hk0 : K = 0
        · have tk : (K != 0) = false := by simp [hk0]
          clear hk0
          by_cases hdn : C.pl = C.til
          · have HS1 := hid (step_done c m.m C W wr HI.out.ic hdn)
            have HS2 := hid (fun v F => rstep_done r g 40 C M.all W v (HI.out.id_.same F) hdn)
            rw [HMM.out.1] at HS2
            clear hdn
            go_wp2_with fail
            refine HS1.out.mono ?_
            rintro e w5 ⟨rfl, hF⟩
            have HI5 := hid (HI.out.same hF)
            have HS2 := hid (HS2.out w5 hF)
            clear hF r0 r1 r2 r3
            obtain ⟨r0, r1, r2, r3⟩ := HCC.out _ HI5.out.fr
            go_wp2_with fail
            refine HS2.out.mono ?_
            rintro e w6 ⟨rfl, hF⟩
            have HI6 := hid (HI5.out.same hF)
            clear hF r0 r1 r2 r3
            go_wp2_with fail
            go_meet
            exact ⟨did, M, C, rfl, by omega, HI6.out⟩
          obtain ⟨a', l', b', k', pl', til', x', h'⟩ := C
          cases h'
          · have hO := HI.out.ok
            have hpp := place_nonneg hO.r1 pl'
            simp only at hdn hpp
            by_cases hok : 0 ≤ W ∧ W ≤ 2 ∧ Rg.place ⟨a', l'⟩ pl' < 40
            · obtain ⟨j, hj⟩ := Int.eq_ofNat_of_zero_le hok.1
              obtain ⟨n, hn⟩ := Int.eq_ofNat_of_zero_le hpp
              have hj3 : j < 3 := by omega
              have hn40 : n < 40 := by omega
              have HS1 := hid (step_load m M c ⟨a', l', b', k', pl', til', x', false⟩ j n wr HI.out.im HI.out.ic hO hdn rfl HNC.out (by rw [HMM.out.2.2]; exact hj3) hn (by rw [HMM.out.2.1]; exact hn40))
              have HS2 := hid (fun v (hd : IsD v r ⟨a', l', b', k', pl', til', x', false⟩) (hgg : Blk v g (ints M.all)) => rstep_load r g 40 ⟨a', l', b', k', pl', til', x', false⟩ M.all W v hd hdn rfl n ⟨hok.1, hok.2.1⟩ hn (by rw [HMM.out.1]; exact hn40) hgg HRG.out)
              rw [HMM.out.1] at HS2
              have HJ := hid (show W = (j : Int) from hj)
              rw [← HJ.out] at HS1
              have HOK := hid hO
              have HDN := hid hdn
              simp only at HS1 HS2
              clear hok hpp hO hdn hn hj
              go_wp2_with fail
              refine HS1.out.mono ?_
              rintro e w5 ⟨rfl, hC5, hM5, hF⟩
              have HC5 := hid hC5
              have HM5 := hid hM5
              have HD5 := hid (HI.out.id_.keep hF (fun hh => by rcases hh with hh | hh; exact HNR.out hh; exact HCR.out hh.symm))
              have HG5 := hid (HI.out.hg.keep hF (fun hh => by rcases hh with hh | hh; exact HNG.out hh; exact HCG.out hh.symm))
              have HT5 := hid (HI.out.fr.since hF (fun z hz hh => by rcases hz with hz | hz; exact HOW.out z hz hh; have := HWC.out; omega))
              clear hC5 hM5 hF r0 r1 r2 r3
              obtain ⟨r0, r1, r2, r3⟩ := HCC.out _ HT5.out
              go_wp2_with fail
              refine (HS2.out _ HD5.out HG5.out).mono ?_
              rintro e w6 ⟨rfl, hD6, hG6, hF⟩
              have HD6 := hid hD6
              have HG6 := hid hG6
              have HF6 := hid hF
              clear hD6 hG6 hF r0 r1 r2 r3
              go_wp2_with fail
              go_meet
              refine ⟨did + 1, (M.step j), ⟨a', l', b', k', pl', til', M.all.getD n 0, true⟩, by go_num, by omega, ?_⟩
              have e1 : Fr (fun i => i = r) w5 w6 := HF6.out
              exact ⟨HM5.out.keep e1 (fun z hz hh => HNR.out (hh ▸ hz)), HC5.out.keep e1 HCR.out, HD6.out, HG6.out,
                ⟨HOK.out.r1, HOK.out.r2, HOK.out.le, HOK.out.lo, HOK.out.hi⟩, HMM.out.1, HMM.out.2.1, HI.out.st.step (by omega) hj3, HT5.out.since e1 (fun z hz hh => by have := HWR.out; omega)⟩
            · have HS1 := hid (step_loadno m M c ⟨a', l', b', k', pl', til', x', false⟩ W wr HI.out.im HI.out.ic hdn rfl HNC.out (fun hh => hok (by have h1 := HMM.out.2.1; have h2 := HMM.out.2.2; simp only at hh ⊢; omega)))
              have HS2 := hid (fun v F => rstep_noA r g 40 ⟨a', l', b', k', pl', til', x', false⟩ M.all W v (HI.out.id_.same F) hdn rfl (by rw [HMM.out.1]; exact hok) hpp)
              rw [HMM.out.1] at HS2
              clear hok hpp hO hdn
              go_wp2_with fail
              refine HS1.out.mono ?_
              rintro e w5 ⟨rfl, hF⟩
              have HI5 := hid (HI.out.same hF)
              have HS2 := hid (HS2.out w5 hF)
              clear hF r0 r1 r2 r3
              obtain ⟨r0, r1, r2, r3⟩ := HCC.out _ HI5.out.fr
              go_wp2_with fail
              refine HS2.out.mono ?_
              rintro e w6 ⟨rfl, hF⟩
              have HI6 := hid (HI5.out.same hF)
              clear hF r0 r1 r2 r3
              go_wp2_with fail
              go_meet
              exact ⟨did, M, _, rfl, by omega, HI6.out⟩
          · have hO := HI.out.ok
            have hpp := place_nonneg hO.r2 pl'
            simp only at hdn hpp
            by_cases hok : 0 ≤ W ∧ W ≤ 2 ∧ Rg.place ⟨b', k'⟩ pl' < 40
            · obtain ⟨j, hj⟩ := Int.eq_ofNat_of_zero_le hok.1
              obtain ⟨n, hn⟩ := Int.eq_ofNat_of_zero_le hpp
              have hj3 : j < 3 := by omega
              have hn40 : n < 40 := by omega
              have HS1 := hid (step_store m M c ⟨a', l', b', k', pl', til', x', true⟩ j n wr HI.out.im HI.out.ic hO hdn rfl HNC.out (by rw [HMM.out.2.2]; exact hj3) hn (by rw [HMM.out.2.1]; exact hn40))
              have HS2 := hid (fun v (hd : IsD v r ⟨a', l', b', k', pl', til', x', true⟩) (hgg : Blk v g (ints M.all)) => rstep_store r g 40 ⟨a', l', b', k', pl', til', x', true⟩ M.all W v hd hdn rfl n ⟨hok.1, hok.2.1⟩ hn (by rw [HMM.out.1]; exact hn40) hgg HRG.out hO.lo (by have h1 := hO.le; have h2 := hO.hi; simp only at h1 h2 hdn ⊢; omega))
              rw [HMM.out.1] at HS2
              have HJ := hid (show W = (j : Int) from hj)
              rw [← HJ.out] at HS1
              have HOK := hid hO
              have HDN := hid hdn
              obtain ⟨dn, hdn2⟩ : ∃ dn, (pl' + 1 == til') = dn := ⟨_, rfl⟩
              simp only at HS1 HS2
              rw [hdn2] at HS1 HS2
              have td : (dn != dn) = false := by cases dn <;> rfl
              clear hdn2
              clear hok hpp hO hdn hn hj
              go_wp2_with fail
              refine HS1.out.mono ?_
              rintro e w5 ⟨rfl, hC5, hM5, hF⟩
              have HC5 := hid hC5
              have HM5 := hid hM5
              have HD5 := hid (HI.out.id_.keep hF (fun hh => by rcases hh with hh | hh; exact HNR.out hh; exact HCR.out hh.symm))
              have HG5 := hid (HI.out.hg.keep hF (fun hh => by rcases hh with hh | hh; exact HNG.out hh; exact HCG.out hh.symm))
              have HT5 := hid (HI.out.fr.since hF (fun z hz hh => by rcases hz with hz | hz; exact HOW.out z hz hh; have := HWC.out; omega))
              clear hC5 hM5 hF r0 r1 r2 r3
              obtain ⟨r0, r1, r2, r3⟩ := HCC.out _ HT5.out
              go_wp2_with fail
              refine (HS2.out _ HD5.out HG5.out).mono ?_
              rintro e w6 ⟨rfl, hD6, hG6, hF⟩
              have HD6 := hid hD6
              have HG6 := hid hG6
              have HF6 := hid hF
              clear hD6 hG6 hF r0 r1 r2 r3
              go_wp2_with fail
              go_meet
              refine ⟨did + 1, ((M.step j).put n x'), ⟨a', l', b', k', pl' + 1, til', x', false⟩, by go_num, by omega, ?_⟩
              have e1 : Fr (fun i => i = r ∨ i = g) w5 w6 := HF6.out
              exact ⟨HM5.out.keep e1 (fun z hz hh => by rcases hh with hh | hh; exact HNR.out (hh ▸ hz); exact HNG.out (hh ▸ hz)), HC5.out.keep e1 (fun hh => by rcases hh with hh | hh; exact HCR.out hh; exact HCG.out hh), HD6.out, HG6.out,
                ⟨HOK.out.r1, HOK.out.r2, by have h1 := HOK.out.le; have h2 := HDN.out; simp only at h1 h2 ⊢; omega, by have h1 := HOK.out.lo; simp only at h1 ⊢; omega, HOK.out.hi⟩, (by show (M.all.set n x').length = 40; rw [List.length_set]; exact HMM.out.1), HMM.out.2.1, HI.out.st.step (by omega) hj3, HT5.out.since e1 (fun z hz hh => by have := HWR.out; have := HWG.out; omega)⟩
            · have HS1 := hid (step_storeno m M c ⟨a', l', b', k', pl', til', x', true⟩ W wr HI.out.im HI.out.ic hdn rfl HNC.out (fun hh => hok (by have h1 := HMM.out.2.1; have h2 := HMM.out.2.2; simp only at hh ⊢; omega)))
              have HS2 := hid (fun v F => rstep_noB r g 40 ⟨a', l', b', k', pl', til', x', true⟩ M.all W v (HI.out.id_.same F) hdn rfl (by rw [HMM.out.1]; exact hok) hpp)
              rw [HMM.out.1] at HS2
              clear hok hpp hO hdn
              go_wp2_with fail
              refine HS1.out.mono ?_
              rintro e w5 ⟨rfl, hF⟩
              have HI5 := hid (HI.out.same hF)
              have HS2 := hid (HS2.out w5 hF)
              clear hF r0 r1 r2 r3
              obtain ⟨r0, r1, r2, r3⟩ := HCC.out _ HI5.out.fr
              go_wp2_with fail
              refine HS2.out.mono ?_
              rintro e w6 ⟨rfl, hF⟩
              have HI6 := hid (HI5.out.same hF)
              clear hF r0 r1 r2 r3
              go_wp2_with fail
              go_meet
              exact ⟨did, M, _, rfl, by omega, HI6.out⟩
        · have tk : (K != 0) = true := by simpa using hk0
          clear hk0
          have hm := tmod_round T 40 (by omega)
          have y0 := Int.emod_nonneg T (show (40 : Int) ≠ 0 by omega)
          have y1 := Int.emod_lt_of_pos T (show (0 : Int) < 40 by omega)
          obtain ⟨i, hi⟩ := Int.eq_ofNat_of_zero_le y0
          have hb := tmod_bounds T 40 (by omega)
          obtain ⟨t1, ht1⟩ : ∃ t1, T.tmod 40 = t1 := ⟨_, rfl⟩
          rw [ht1] at hm hb
          rw [hi] at hm y1
          have q1 : -9223372036854775808 ≤ t1 + 40 := by omega
          have q2 : t1 + 40 ≤ 9223372036854775807 := by omega
          have HST := hid (store_ok m M 2 i X wr HI.out.im (by rw [HMM.out.2.2]; omega) (by rw [HMM.out.2.1]; omega))
          have hi40 : i < 40 := by omega
          clear hi y0 y1 hb
          go_wp2_with fail
          refine HST.out.mono ?_
          rintro e w5 ⟨rfl, hM5, hF⟩
          have HM5 := hid hM5
          have HG := hid hF
          have HT5 := hid (HI.out.fr.since hF HOW.out)
          clear hF hM5 r0 r1 r2 r3
          obtain ⟨r0, r1, r2, r3⟩ := HCC.out _ HT5.out
          have hg5 := HI.out.hg.keep HG.out HNG.out
          have gf := hg5.frozen i
          have gc : w5.cell? ⟨g, i, none⟩ = some (.int .i64 (M.all.getD i 0)) := hg5.cell (ints_at _ _ (by rw [HMM.out.1]; omega))
          have ml := HMM.out.1
          obtain ⟨z9, hz9⟩ : ∃ z9, M.all.getD i 0 = z9 := ⟨_, rfl⟩
          rw [hz9] at gc
          clear hz9
          have HMl := hid ml
          clear ml
          have HG5 := hid hg5
          clear hg5
          go_wp2_with fail
          go_meet
          have hF9 : Fr (fun z => z = g) w5 (w5.setCell ⟨g, i, none⟩ (.int .i64 X)) := Fr.setCell (S := fun z => z = g) _ _ _ rfl
          refine ⟨did + 1, (M.step 2).put i X, C, by go_num, by omega, ?_⟩
          have hst := HI.out.st.step (by omega) (show 2 < 3 by omega)
          exact ⟨HM5.out.keep hF9 (fun z hz hh => HNG.out (hh ▸ hz)), (HI.out.ic.keep HG.out HNC.out).keep hF9 HCG.out, (HI.out.id_.keep HG.out HNR.out).keep hF9 HRG.out,
            (by show Blk _ g (ints (M.all.set i X)); rw [← ints_set]; exact HG5.out.set i _), HI.out.ok, (by show (M.all.set i X).length = 40; rw [List.length_set]; exact HMl.out), HI.out.us, hst, HT5.out.since hF9 (fun z hz hh => by have := HWG.out; omega)⟩
      case rest =>
        obtain ⟨did, M, C, rfl, hdq2, hI⟩ := hcut
        obtain ⟨wy, hwy⟩ : ∃ wy, wy = wc := ⟨_, rfl⟩
        rw [← hwy] at hI ⊢
        clear hwy HI HMM HCC r0 r1 r2 r3
        have HI := hid hI
        clear hI
        have HMl := hid HI.out.al
        have HMu := hid HI.out.us
        go_wp2_with fail
        go_loopg [24] 40 (fun d x wr => PeekRel w m c r g did M C d x wr)
        case atStart => exact ⟨0, Nat.zero_le _, rfl, rfl, HI.out⟩
        case round =>
          clear HI
          obtain ⟨j, hj, rfl, rfl, hI⟩ := hrel
          have HI := hid hI
          clear hI
          by_cases hjt : j < 40
          · have tj : (j : Int) < 40 := by omega
            have hu := HMu.out
            have ha := HMl.out
            have HPK := hid (fun v h => peek_in m M j v h (by omega))
            have gc := HI.out.hg.cell (ints_at M.all j (by omega))
            obtain ⟨z, hz⟩ : ∃ z, M.all.getD j 0 = z := ⟨_, rfl⟩
            rw [hz] at HPK gc
            have HGC := hid (show ∀ w', Fr (fun _ => False) wr w' → w'.cell? ⟨g, j, none⟩ = some (.int .i64 z) from fun w' F => by have := (HI.out.hg.keep F id).cell (ints_at M.all j (by omega)); rw [hz] at this; exact this)
            have HFd := hid (Fr.refl (fun _ => False) wr)
            clear hu ha hz gc
            go_upto_region 35 with fail
            have gc := HGC.out _ HFd.out
            go_region_held3 (fun w' => w'.cell? ⟨g, j, none⟩ = some (.int .i64 z))
              (first | exact HGC.out _ HFd.out | exact HGC.out _ (HFd.out.trans (Fr.drew _ _)))
              (first | (go_at_call 29; (with_reducible refine (HPK.out _ (HI.out.im.same (by first | exact HFd.out | exact HFd.out.trans (Fr.drew _ _)))).mono ?_); rintro e w6 ⟨rfl, rfl⟩; have HFd := hid (HFd.out.trans (by first | exact Fr.refl _ _ | exact Fr.drew _ _))))
            all_goals
              go_wp2_with fail
              go_roundg (40 - (j + 1))
              case measure => omega
              case rel => exact ⟨j + 1, by omega, rfl, by go_num, HI.out.same (by first | exact HFd.out | exact HFd.out.trans (Fr.drew _ _))⟩
          · have tj : decide ((j : Int) < 40) = false := by simp; omega
            obtain ⟨s0, s1, s2, hs, hsum⟩ := HI.out.st.eq
            obtain ⟨ms, hms⟩ : ∃ ms, M.steps = ms := ⟨_, rfl⟩
            have hl3 : M.steps.length = 3 := HI.out.st.len
            have HS0 := hid (fun v h => steps_in m M 0 v h (by omega))
            have HS1 := hid (fun v h => steps_in m M 1 v h (by omega))
            have HS2 := hid (fun v h => steps_in m M 2 v h (by omega))
            rw [hs] at HS0 HS1 HS2
            have k1 : (s0 : Int) + s1 ≤ 1000 := by omega
            have k2 : (s0 : Int) + s1 + s2 ≤ 1000 := by omega
            have k4 : ((s0 : Int) + s1 + s2 != (did : Int)) = false := by simp; omega
            have k0 : (0 : Int) ≤ s0 ∧ (0 : Int) ≤ s1 ∧ (0 : Int) ≤ s2 := by omega
            obtain ⟨k01, k02, k03⟩ := k0
            clear hs hsum hms hl3 hj hjt
            obtain ⟨wo, rfl⟩ : ∃ wo, wo = wr := ⟨_, rfl⟩
            go_wp2_with fail
            refine (HS0.out _ HI.out.im).mono ?_
            rintro e w' ⟨rfl, rfl⟩
            go_wp2_with fail
            refine (HS1.out _ HI.out.im).mono ?_
            rintro e w' ⟨rfl, rfl⟩
            go_wp2_with fail
            refine (HS2.out _ HI.out.im).mono ?_
            rintro e w' ⟨rfl, rfl⟩
            go_wp2_with fail
            go_roundg (len - (q + 1))
            case measure => omega
            case rel => exact ⟨q + 1, did, M, C, by omega, rfl, rfl, by go_num, by omega, HI.out⟩
    · go_wp2_with fail
      refine (awake_ok _).mono ?_
      rintro e w9 ⟨rfl, hF9⟩
      go_wp2_with fail
      go_ret
      exact ⟨rfl, (hI.fr.trans hF9).below (Nat.le_refl _) (fun _ hh => hh.elim)⟩

theorem copiesLaw (a l b k x y : Int) (hx : Fits x) (hy : Fits y) (A : Option Addr) (len cap : Nat) (f : Nat → Nat → Int) (w : World) (hr : Row w A len 4 f) :
    Calls Try.prog 7 #[.agg #[.int .i64 a, .int .i64 l, .int .i64 b, .int .i64 k], .agg #[.int .i64 x, .int .i64 y], .slice A len cap] w fun e w' => e = .returned (.bool true) ∧ Below w.heap.size w w' := by
  by_cases h1 : Rg.Right ⟨a, l⟩ ∧ Rg.Right ⟨b, k⟩
  · by_cases h3 : y < x
    · exact cop_low a l b k x y A len cap f w hx hy h1.1 h1.2 h3
    · by_cases h4 : pow l < y - x
      · exact cop_far1 a l b k x y A len cap f w hx hy h1.1 h1.2 ⟨by omega, h4⟩
      · by_cases h5 : pow k < y - x
        · exact cop_far2 a l b k x y A len cap f w hx hy h1.1 h1.2 ⟨by omega, by omega, h5⟩
        · by_cases h6 : 300 < len
          · exact cop_long a l b k x y A len cap f w hx hy h1.1 h1.2 ⟨by omega, by omega, by omega⟩ h6
          · exact cop_ok a l b k x y A len cap f w hx hy h1.1 h1.2 ⟨by omega, by omega, by omega⟩ (by omega) hr
  · exact cop_arg a l b k x y A len cap f w hx hy h1
end Go.Proofs.Ythomjenkemepiaa
