/-
  The document's own answer for cells, as it stands in memory.
-/
import Derived.Test.YtdhlicagdcefoaaDoes
import Derived.Test.YtdhlicagdcefoaaClone
namespace Go.Proofs.Ytdhlicagdcefoaa
open Go.RowKit

/-- The blocks of the document's machine, and the row of its numbers. -/
structure RB where
  m : Nat
  s : Nat
  p : Option Addr
  cap : Nat

/-- The row of its numbers lies in memory from B on. -/
def RRow (w : World) (B : Nat) (r : RB) (l : List Int) : Prop :=
  (l = [] ∧ r.p = none ∧ r.cap = 0) ∨ ∃ (g : Nat) (ex : Array Value), r.p = some ⟨g, 0, none⟩ ∧ B ≤ g ∧ w.heap[g]? = some (.cells (ints l ++ ex) 2 (0, 0)) ∧ l.length + ex.size = r.cap ∧ r.cap ≤ maxLen

structure IsR (w : World) (B : Nat) (r : RB) (M : Mach) : Prop where
  hm : w.heap[r.m]? = some (.cells #[.slice r.p M.used r.cap, .int .i64 M.all.length, .slice (some ⟨r.s, 0, none⟩) M.steps.length M.steps.length] 42 (0, 0))
  hs : w.heap[r.s]? = some (.cells (ints M.steps) 3 (0, 0))
  hl : RRow w B r (M.all.take M.used)
  bm : B ≤ r.m
  bs : B ≤ r.s
  le : M.used ≤ M.all.length
  free : ∀ i, M.used ≤ i → M.all.getD i 0 = 0
  small : M.all.length ≤ 1048576
  few : M.steps.length ≤ 17

theorem lt_of_heap {w : World} {b : Nat} {o : Obj} (h : w.heap[b]? = some o) : b < w.heap.size := (Array.getElem?_eq_some_iff.1 h).1

theorem ne_of_types {w : World} {a b : Nat} {c d : Array Value} {t u : TypeId} (ha : w.heap[a]? = some (.cells c t (0, 0))) (hb : w.heap[b]? = some (.cells d u (0, 0))) (h : t ≠ u) : a ≠ b := by
  rintro rfl
  rw [ha] at hb
  simp only [Option.some.injEq, Obj.cells.injEq] at hb
  exact h hb.2.1

theorem IsR.keep {w w' : World} {B : Nat} {r : RB} {M : Mach} {S : Nat → Prop} (h : IsR w B r M) (f : Fr S w w') (hb : ∀ k, B ≤ k → ¬ S k) : IsR w' B r M := by
  refine { h with hm := ?_, hs := ?_, hl := ?_ }
  · rw [f.block _ (lt_of_heap h.hm) (hb _ h.bm)]
    exact h.hm
  · rw [f.block _ (lt_of_heap h.hs) (hb _ h.bs)]
    exact h.hs
  · rcases h.hl with h0 | ⟨g, ex, hp, hg, hh, hr⟩
    · exact .inl h0
    · exact .inr ⟨g, ex, hp, hg, by rw [f.block _ (lt_of_heap hh) (hb _ hg)]; exact hh, hr⟩

theorem IsR.same {w w' : World} {B : Nat} {r : RB} {M : Mach} (h : IsR w B r M) (f : Fr (fun _ => False) w w') : IsR w' B r M := h.keep f (fun _ _ hh => hh)

theorem IsR.c0 {w : World} {B : Nat} {r : RB} {M : Mach} (h : IsR w B r M) : w.cell? ⟨r.m, 0, none⟩ = some (.slice r.p M.used r.cap) := Blk.cell (c := _) ⟨_, h.hm⟩ rfl
theorem IsR.c1 {w : World} {B : Nat} {r : RB} {M : Mach} (h : IsR w B r M) : w.cell? ⟨r.m, 1, none⟩ = some (.int .i64 M.all.length) := Blk.cell (c := _) ⟨_, h.hm⟩ rfl
theorem IsR.c2 {w : World} {B : Nat} {r : RB} {M : Mach} (h : IsR w B r M) : w.cell? ⟨r.m, 2, none⟩ = some (.slice (some ⟨r.s, 0, none⟩) M.steps.length M.steps.length) := Blk.cell (c := _) ⟨_, h.hm⟩ rfl
theorem IsR.cs' {w : World} {B : Nat} {r : RB} {M : Mach} (h : IsR w B r M) {k : Nat} (hk : k < M.steps.length) : ∃ s, Hid (M.steps.getD k 0 = s) ∧ w.cell? ⟨r.s, k, none⟩ = some (.int .i64 s) := ⟨_, rfl, Blk.cell (c := _) ⟨_, h.hs⟩ (ints_at _ _ hk)⟩

theorem take_getD (l : List Int) (n k : Nat) (h : k < n) : (l.take n).getD k 0 = l.getD k 0 := by
  simp [List.getD_eq_getElem?_getD, h]

theorem IsR.cl' {w : World} {B : Nat} {r : RB} {M : Mach} (h : IsR w B r M) {k : Nat} (hk : k < M.used) :
    ∃ g s, r.p = some ⟨g, 0, none⟩ ∧ Hid (M.all.getD k 0 = s) ∧ w.cell? ⟨g, k, none⟩ = some (.int .i64 s) ∧ w.frozen? ⟨g, k, none⟩ = false := by
  have hlen : (M.all.take M.used).length = M.used := by simp [h.le]
  rcases h.hl with ⟨h0, _⟩ | ⟨g, ex, hp, hg, hh, hr⟩
  · rw [h0] at hlen
    simp at hlen
    omega
  · refine ⟨g, _, hp, rfl, ?_, ?_⟩
    · rw [← take_getD M.all M.used k hk]
      exact Blk.cell (c := _) ⟨_, hh⟩ (ints_ex _ _ _ (by omega))
    · exact Blk.frozen (c := _) ⟨_, hh⟩ k

theorem heap_set {w : World} {b : Nat} {c : Array Value} {t : TypeId} (h : w.heap[b]? = some (.cells c t (0, 0))) (i : Nat) (v : Value) : (w.setCell ⟨b, i, none⟩ v).heap[b]? = some (.cells (c.setIfInBounds i v) t (0, 0)) := by
  simp [World.setCell, Array.getElem?_modify, h]

theorem RRow.far {w : World} {B : Nat} {r : RB} {l : List Int} (h : RRow w B r l) {b : Nat} {c : Array Value} {t : TypeId} (hb : w.heap[b]? = some (.cells c t (0, 0))) (ht : t ≠ 2) (i : Nat) (v : Value) : RRow (w.setCell ⟨b, i, none⟩ v) B r l := by
  rcases h with h0 | ⟨g, ex, hp, hg, hh, hr⟩
  · exact .inl h0
  · refine .inr ⟨g, ex, hp, hg, ?_, hr⟩
    rw [Below.heap_setCell _ _ _ _ (ne_of_types hh hb (Ne.symm ht))]
    exact hh

theorem IsR.stepped {w : World} {B : Nat} {r : RB} {M : Mach} (h : IsR w B r M) {j : Nat} {s : Int} (hs : M.steps.getD j 0 = s) : IsR (w.setCell ⟨r.s, j, none⟩ (.int .i64 (wrap64 (s + 1)))) B r (M.step j) := by
  subst hs
  refine ⟨?_, ?_, h.hl.far h.hs (by decide) _ _, h.bm, h.bs, h.le, h.free, h.small, ?_⟩
  · rw [Below.heap_setCell _ _ _ _ (ne_of_types h.hm h.hs (by decide))]
    simpa [Mach.step] using h.hm
  · simp only [Mach.step]
    rw [← ints_set]
    exact heap_set h.hs j _
  · simpa [Mach.step] using h.few

theorem put_take (l : List Int) (n k : Nat) (x : Int) : (l.set k x).take n = (l.take n).set k x := by
  rw [List.take_set]

theorem IsR.putted {w : World} {B : Nat} {r : RB} {M : Mach} (h : IsR w B r M) {k g : Nat} (x : Int) (hk : k < M.used) (hp : r.p = some ⟨g, 0, none⟩) :
    IsR (w.setCell ⟨g, k, none⟩ (.int .i64 x)) B r (M.put k x) ∧ B ≤ g := by
  have hlen : (M.all.take M.used).length = M.used := by simp [h.le]
  rcases h.hl with ⟨_, h0, _⟩ | ⟨g', ex, hp', hg, hh, hr, hc⟩
  · rw [h0] at hp
    cases hp
  · rw [hp] at hp'
    obtain rfl : g = g' := by simpa using hp'
    refine ⟨⟨?_, ?_, ?_, h.bm, h.bs, ?_, ?_, ?_, h.few⟩, hg⟩
    · rw [Below.heap_setCell _ _ _ _ (ne_of_types h.hm hh (by decide))]
      simpa [Mach.put] using h.hm
    · rw [Below.heap_setCell _ _ _ _ (ne_of_types h.hs hh (by decide))]
      exact h.hs
    · refine .inr ⟨g, ex, hp, hg, ?_, ?_, hc⟩
      · simp only [Mach.put]
        rw [put_take, ← ints_ex_set _ _ _ _ (by omega)]
        exact heap_set hh k _
      · simp only [Mach.put]
        rw [put_take, List.length_set]
        exact hr
    · simpa [Mach.put] using h.le
    · intro i hi
      have hi' : M.used ≤ i := hi
      simp only [Mach.put]
      rw [List.getD_eq_getElem?_getD, List.getElem?_set_ne (by omega), ← List.getD_eq_getElem?_getD]
      exact h.free i hi'
    · simpa [Mach.put] using h.small

set_option maxHeartbeats 400000 in
theorem rcaller_yes (r : RB) (B : Nat) (M : Mach) (j : Nat) (w : World) (h : IsR w B r M) (hj : j < M.steps.length) :
    Calls Try.prog 36 #[.pointer (some ⟨r.m, 0, none⟩), .int .i64 j] w fun e w' => e = .returned (.bool true) ∧ w = w' := by
  have c2 := h.c2
  have t1 : (0 : Int) ≤ j := by omega
  go_enter Try.func36, Try.ntmps36
  go_wp2
  go_ret
  exact ⟨by simp, rfl⟩

set_option maxHeartbeats 400000 in
theorem rcaller_no (r : RB) (B : Nat) (M : Mach) (x : Int) (w : World) (h : IsR w B r M) (hx : x < 0 ∨ (M.steps.length : Int) ≤ x) :
    Calls Try.prog 36 #[.pointer (some ⟨r.m, 0, none⟩), .int .i64 x] w fun e w' => e = .returned (.bool false) ∧ w = w' := by
  have c2 := h.c2
  by_cases hx0 : 0 ≤ x
  · have t1 : ¬ x < M.steps.length := by omega
    go_enter Try.func36, Try.ntmps36
    go_wp2
    go_ret
    exact ⟨by simp, rfl⟩
  · go_enter Try.func36, Try.ntmps36
    go_wp2
    go_ret
    exact ⟨rfl, rfl⟩

set_option maxHeartbeats 400000 in
theorem rstep_ok (r : RB) (B : Nat) (M : Mach) (j k : Nat) (w : World) (h : IsR w B r M) (hj : j < M.steps.length) (hk : k < M.used) :
    Calls Try.prog 44 #[.pointer (some ⟨r.m, 0, none⟩), .int .i64 j, .int .i64 k] w fun e w' => e = .returned (.int .i64 0) ∧ IsR w' B r (M.step j) ∧ Fr (fun i => B ≤ i) w w' := by
  have c0 := h.c0
  have c2 := h.c2
  obtain ⟨s, HS, cs⟩ := h.cs' hj
  have fs := Blk.frozen (c := _) ⟨_, h.hs⟩ j
  have t1 : decide ((k : Int) < 0) = false := by simp
  have t2 : decide (M.used ≤ k) = false := by simp; omega
  go_enter Try.func44, Try.ntmps44
  go_wp2_with fail
  refine (rcaller_yes r B M j _ h hj).mono ?_
  rintro e w' ⟨rfl, rfl⟩
  go_wp2_with fail
  go_ret
  exact ⟨rfl, h.stepped HS.out, Fr.setCell _ _ _ h.bs⟩

set_option maxHeartbeats 400000 in
theorem rstep_who (r : RB) (B : Nat) (M : Mach) (x y : Int) (w : World) (h : IsR w B r M) (hx : x < 0 ∨ (M.steps.length : Int) ≤ x) :
    Calls Try.prog 44 #[.pointer (some ⟨r.m, 0, none⟩), .int .i64 x, .int .i64 y] w fun e w' => e = .returned (.int .i64 10) ∧ w = w' := by
  go_enter Try.func44, Try.ntmps44
  go_wp2_with fail
  refine (rcaller_no r B M x _ h hx).mono ?_
  rintro e w' ⟨rfl, rfl⟩
  go_wp2_with fail
  go_ret
  exact ⟨rfl, rfl⟩

set_option maxHeartbeats 400000 in
theorem rstep_what (r : RB) (B : Nat) (M : Mach) (j : Nat) (y : Int) (w : World) (h : IsR w B r M) (hj : j < M.steps.length) (hy : y < 0 ∨ (M.used : Int) ≤ y) :
    Calls Try.prog 44 #[.pointer (some ⟨r.m, 0, none⟩), .int .i64 j, .int .i64 y] w fun e w' => e = .returned (.int .i64 10) ∧ w = w' := by
  have c0 := h.c0
  by_cases hy0 : y < 0
  · go_enter Try.func44, Try.ntmps44
    go_wp2_with fail
    refine (rcaller_yes r B M j _ h hj).mono ?_
    rintro e w' ⟨rfl, rfl⟩
    go_wp2_with fail
    go_ret
    exact ⟨rfl, rfl⟩
  · have hy1 : (M.used : Int) ≤ y := by omega
    go_enter Try.func44, Try.ntmps44
    go_wp2_with fail
    refine (rcaller_yes r B M j _ h hj).mono ?_
    rintro e w' ⟨rfl, rfl⟩
    go_wp2_with fail
    go_ret
    exact ⟨rfl, rfl⟩

theorem rstep_no (r : RB) (B : Nat) (M : Mach) (x y : Int) (w : World) (h : IsR w B r M) (hn : ¬ M.sees x y) :
    Calls Try.prog 44 #[.pointer (some ⟨r.m, 0, none⟩), .int .i64 x, .int .i64 y] w fun e w' => e = .returned (.int .i64 10) ∧ w = w' := by
  unfold Mach.sees at hn
  by_cases hx : x < 0 ∨ (M.steps.length : Int) ≤ x
  · exact rstep_who r B M x y w h hx
  · obtain ⟨j, rfl⟩ := Int.eq_ofNat_of_zero_le (show 0 ≤ x by omega)
    exact rstep_what r B M j y w h (by omega) (by omega)
end Go.Proofs.Ytdhlicagdcefoaa
