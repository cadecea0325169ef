/-
  Rings of the program: which are right, their sizes, places and words, and the ring of a number.
-/
import Derived.Test.YtiofdfgcghiibaaReads
import Derived.Test.YtiofdfgcghiibaaRg
namespace Go.Proofs.Ytiofdfgcghiibaa
open Go.RowKit
set_option linter.unusedVariables false

set_option maxHeartbeats 400000 in
theorem right_yes (a l : Int) (w : World) (h : Rg.Right ⟨a, l⟩) :
    Calls Try.prog 75 #[.agg #[.int .i64 a, .int .i64 l]] w fun e w' => e = .returned (.bool true) ∧ Fr (fun _ => False) w w' := by
  obtain ⟨h0, h8, ha, hb⟩ := h
  simp only at h0 h8 ha hb
  obtain ⟨n, hn, hp, n1, n2, _⟩ := log_facts l h8
  rw [hn] at hb
  have HN := hid hn
  clear hn
  have t1 : decide (l < 0) = false := by simp; omega
  have t2 : decide (8 < l) = false := by simp; omega
  have t3 : l ≤ 64 := by omega
  go_enter Try.func75, Try.ntmps75
  go_wp2
  go_quiet (fail)
  go_wp2
  go_ret
  exact ⟨rfl, (Fr.alloc _ _ _).trans (Fr.drewN _ _ _)⟩

set_option maxHeartbeats 400000 in
theorem right_no (a l : Int) (w : World) (h : ¬ Rg.Right ⟨a, l⟩) :
    Calls Try.prog 75 #[.agg #[.int .i64 a, .int .i64 l]] w fun e w' => e = .returned (.bool false) ∧ Fr (fun _ => False) w w' := by
  have H := hid h
  clear h
  by_cases h0 : l < 0
  · go_enter Try.func75, Try.ntmps75
    go_wp2
    go_ret
    exact ⟨rfl, Fr.alloc _ _ _⟩
  by_cases h8 : 8 < l
  · go_enter Try.func75, Try.ntmps75
    go_wp2
    go_ret
    exact ⟨rfl, Fr.alloc _ _ _⟩
  have h0' : 0 ≤ l := by omega
  have h8' : l ≤ 8 := by omega
  obtain ⟨n, hn, hp, n1, n2, _⟩ := log_facts l h8'
  have t1 : decide (l < 0) = false := by simp; omega
  have t2 : decide (8 < l) = false := by simp; omega
  have t3 : l ≤ 64 := by omega
  by_cases ha : 0 ≤ a
  · have hb : ¬ a ≤ 1048576 - n := fun hh => H.out ⟨h0', h8', ha, by simp only; rw [hn]; exact hh⟩
    have HN := hid hn
    have t5 : decide (a ≤ 1048576 - n) = false := by simp; omega
    clear hn h0 h8 hb
    go_enter Try.func75, Try.ntmps75
    go_wp2
    go_quiet (fail)
    go_wp2
    go_ret
    exact ⟨by simp, (Fr.alloc _ _ _).trans (Fr.drewN _ _ _)⟩
  · have HN := hid hn
    have t5 : decide (0 ≤ a) = false := by simp; omega
    clear hn h0 h8 ha
    go_enter Try.func75, Try.ntmps75
    go_wp2
    go_region
    all_goals
      go_wp2
      go_ret
      exact ⟨by simp, (Fr.alloc _ _ _).trans (Fr.drew _ _)⟩

theorem right_any (a l : Int) (w : World) :
    Calls Try.prog 75 #[.agg #[.int .i64 a, .int .i64 l]] w fun e w' => e = .returned (.bool (decide (Rg.Right ⟨a, l⟩))) ∧ Fr (fun _ => False) w w' := by
  by_cases h : Rg.Right ⟨a, l⟩
  · rw [decide_eq_true h]
    exact right_yes a l w h
  · rw [decide_eq_false h]
    exact right_no a l w h

set_option maxHeartbeats 400000 in
theorem size_yes (a l : Int) (w : World) (h : Rg.Right ⟨a, l⟩) :
    Calls Try.prog 64 #[.agg #[.int .i64 a, .int .i64 l]] w fun e w' => e = .returned (.int .i64 (pow l)) ∧ Fr (fun _ => False) w w' := by
  have H := hid h
  obtain ⟨h0, h8, _, _⟩ := h
  simp only at h0 h8
  obtain ⟨n, hn, hp, n1, n2, _⟩ := log_facts l h8
  have t3 : l ≤ 64 := by omega
  rw [hn]
  have HN := hid hn
  clear hn
  go_enter Try.func64, Try.ntmps64
  go_wp2_with fail
  refine (right_yes a l _ H.out).mono ?_
  rintro e w1 ⟨rfl, hF⟩
  have hB := ((Blk.new w #[.int .i64 a, .int .i64 l] 97).keep hF id)
  have c0 := hB.cell (i := 0) rfl
  have c1 := hB.cell (i := 1) rfl
  go_wp2_with fail
  go_ret
  exact ⟨rfl, (Fr.alloc _ _ _).trans hF⟩

set_option maxHeartbeats 400000 in
theorem size_no (a l : Int) (w : World) (h : ¬ Rg.Right ⟨a, l⟩) :
    Calls Try.prog 64 #[.agg #[.int .i64 a, .int .i64 l]] w fun e w' => e = .returned (.int .i64 0) ∧ Fr (fun _ => False) w w' := by
  have H := hid h
  clear h
  go_enter Try.func64, Try.ntmps64
  go_wp2_with fail
  refine (right_no a l _ H.out).mono ?_
  rintro e w1 ⟨rfl, hF⟩
  go_wp2_with fail
  go_ret
  exact ⟨rfl, (Fr.alloc _ _ _).trans hF⟩

theorem size_any (a l : Int) (w : World) :
    Calls Try.prog 64 #[.agg #[.int .i64 a, .int .i64 l]] w fun e w' => e = .returned (.int .i64 (Rg.size ⟨a, l⟩)) ∧ Fr (fun _ => False) w w' := by
  by_cases h : Rg.Right ⟨a, l⟩
  · have e : Rg.size ⟨a, l⟩ = pow l := if_pos h
    rw [e]
    exact size_yes a l w h
  · have e : Rg.size ⟨a, l⟩ = 0 := if_neg h
    rw [e]
    exact size_no a l w h

set_option maxHeartbeats 400000 in
theorem place_yes (a l i : Int) (w : World) (h : Rg.Right ⟨a, l⟩) :
    Calls Try.prog 65 #[.agg #[.int .i64 a, .int .i64 l], .int .i64 i] w fun e w' => e = .returned (.int .i64 (a + i % pow l)) ∧ Fr (fun _ => False) w w' := by
  have H := hid h
  obtain ⟨h0, h8, ha, hb⟩ := h
  simp only at h0 h8 ha hb
  obtain ⟨n, hn, hp, n1, n2, hm0⟩ := log_facts l h8
  have t3 : l ≤ 64 := by omega
  rw [hn]
  rw [hn] at hb
  have HN := hid hn
  clear hn
  have hm := hm0 i
  clear hm0
  obtain ⟨y, hy⟩ : ∃ y, i % n = y := ⟨_, rfl⟩
  have y0 : 0 ≤ y := by rw [← hy]; exact Int.emod_nonneg _ (by omega)
  have y1 : y < n := by rw [← hy]; exact Int.emod_lt_of_pos _ (by omega)
  rw [hy] at hm ⊢
  have HY := hid hy
  clear hy
  have q0 : 0 ≤ a + y := by omega
  have q1 : a + y ≤ 1048576 := by omega
  go_enter Try.func65, Try.ntmps65
  go_wp2_with fail
  refine (right_yes a l _ H.out).mono ?_
  rintro e w1 ⟨rfl, hF⟩
  have hB := ((Blk.new w #[.int .i64 a, .int .i64 l] 97).keep hF id)
  have c0 := hB.cell (i := 0) rfl
  have c1 := hB.cell (i := 1) rfl
  go_wp2
  go_quiet (fail)
  go_wp2
  go_ret
  exact ⟨rfl, (Fr.alloc _ _ _).trans (hF.trans (Fr.drewN _ _ _))⟩

set_option maxHeartbeats 400000 in
theorem place_no (a l i : Int) (w : World) (h : ¬ Rg.Right ⟨a, l⟩) :
    Calls Try.prog 65 #[.agg #[.int .i64 a, .int .i64 l], .int .i64 i] w fun e w' => e = .returned (.int .i64 (-1)) ∧ Fr (fun _ => False) w w' := by
  have H := hid h
  clear h
  go_enter Try.func65, Try.ntmps65
  go_wp2_with fail
  refine (right_no a l _ H.out).mono ?_
  rintro e w1 ⟨rfl, hF⟩
  go_wp2_with fail
  go_ret
  exact ⟨rfl, (Fr.alloc _ _ _).trans hF⟩

theorem place_any (a l i : Int) (w : World) :
    Calls Try.prog 65 #[.agg #[.int .i64 a, .int .i64 l], .int .i64 i] w fun e w' => e = .returned (.int .i64 (Rg.place ⟨a, l⟩ i)) ∧ Fr (fun _ => False) w w' := by
  by_cases h : Rg.Right ⟨a, l⟩
  · have e : Rg.place ⟨a, l⟩ i = a + i % pow l := if_pos h
    rw [e]
    exact place_yes a l i w h
  · have e : Rg.place ⟨a, l⟩ i = -1 := if_neg h
    rw [e]
    exact place_no a l i w h

set_option maxHeartbeats 400000 in
theorem word_yes (a l : Int) (w : World) (h : Rg.Right ⟨a, l⟩) :
    Calls Try.prog 49 #[.agg #[.int .i64 a, .int .i64 l]] w fun e w' => e = .returned (.int .i64 (a * 16 + l)) ∧ Fr (fun _ => False) w w' := by
  have H := hid h
  obtain ⟨h0, h8, ha, hb⟩ := h
  simp only at h0 h8 ha hb
  have hp := pow_pos l
  have hb : a ≤ 1048576 := by omega
  clear hp
  go_enter Try.func49, Try.ntmps49
  go_wp2_with fail
  refine (right_yes a l _ H.out).mono ?_
  rintro e w1 ⟨rfl, hF⟩
  have hB := ((Blk.new w #[.int .i64 a, .int .i64 l] 97).keep hF id)
  have c0 := hB.cell (i := 0) rfl
  have c1 := hB.cell (i := 1) rfl
  go_wp2_with fail
  go_ret
  exact ⟨rfl, (Fr.alloc _ _ _).trans hF⟩

set_option maxHeartbeats 400000 in
theorem word_no (a l : Int) (w : World) (h : ¬ Rg.Right ⟨a, l⟩) :
    Calls Try.prog 49 #[.agg #[.int .i64 a, .int .i64 l]] w fun e w' => e = .returned (.int .i64 (-1)) ∧ Fr (fun _ => False) w w' := by
  have H := hid h
  clear h
  go_enter Try.func49, Try.ntmps49
  go_wp2_with fail
  refine (right_no a l _ H.out).mono ?_
  rintro e w1 ⟨rfl, hF⟩
  go_wp2_with fail
  go_ret
  exact ⟨rfl, (Fr.alloc _ _ _).trans hF⟩

theorem word_any (a l : Int) (w : World) :
    Calls Try.prog 49 #[.agg #[.int .i64 a, .int .i64 l]] w fun e w' => e = .returned (.int .i64 (Rg.word ⟨a, l⟩)) ∧ Fr (fun _ => False) w w' := by
  by_cases h : Rg.Right ⟨a, l⟩
  · have e : Rg.word ⟨a, l⟩ = a * 16 + l := if_pos h
    rw [e]
    exact word_yes a l w h
  · have e : Rg.word ⟨a, l⟩ = -1 := if_neg h
    rw [e]
    exact word_no a l w h

set_option maxHeartbeats 400000 in
theorem of_neg (x : Int) (w : World) (hx : x < 0) :
    Calls Try.prog 61 #[.int .i64 x] w fun e w' => e = .returned (.tuple #[.agg #[.int .i64 0, .int .i64 0], .int .i64 11]) ∧ Fr (fun _ => False) w w' := by
  go_enter Try.func61, Try.ntmps61
  go_wp2_with fail
  refine bodyPost_ret (v := .tuple #[.agg #[.int .i64 0, .int .i64 0], .int .i64 11]) ?hv rfl ?hp
  case hv => (simp [results, Try.results61, go_sem]; try rfl)
  case hp =>
    exact ⟨rfl, (Fr.alloc _ _ _).trans (Fr.alloc _ _ _)⟩

set_option maxHeartbeats 400000 in
theorem of_no (x : Int) (w : World) (hx : 0 ≤ x) (hf : x ≤ 9223372036854775807) (h : ¬ Rg.Right (rgOf x)) :
    Calls Try.prog 61 #[.int .i64 x] w fun e w' => e = .returned (.tuple #[.agg #[.int .i64 0, .int .i64 0], .int .i64 11]) ∧ Fr (fun _ => False) w w' := by
  obtain ⟨a, ha⟩ : ∃ a, x / 16 = a := ⟨_, rfl⟩
  obtain ⟨l, hl⟩ : ∃ l, x % 16 = l := ⟨_, rfl⟩
  have e1 : x.tdiv 16 = a := by rw [Int.tdiv_eq_ediv_of_nonneg hx, ha]
  have e2 : x.tmod 16 = l := by rw [Int.tmod_eq_emod_of_nonneg hx, hl]
  have q1 : 0 ≤ a := by omega
  have q2 : a ≤ 9223372036854775807 := by omega
  have hR : ¬ Rg.Right ⟨a, l⟩ := by rw [← ha, ← hl]; exact h
  have HR := hid hR
  have tx : (-1 != x) = true := by simp; omega
  clear ha hl
  clear hR h
  go_enter Try.func61, Try.ntmps61
  go_wp2_with fail
  refine (word_no _ _ _ HR.out).mono ?_
  rintro e w1 ⟨rfl, hF⟩
  have HR0 := hid (((Blk.new w #[.int .i64 0, .int .i64 0] 97).alloc _).keep hF id)
  have hB := ((Blk.new (w.alloc (.cells #[.int .i64 0, .int .i64 0] 97)) #[.int .i64 a, .int .i64 l] 97).at (n := w.heap.size + 1) (by simp)).keep hF id
  have c0 := hB.cell (i := 0) rfl
  have c1 := hB.cell (i := 1) rfl
  have p0 : w1.cell? ⟨w.heap.size, 0, none⟩ = some (.int .i64 0) := HR0.out.cell rfl
  have p1 : w1.cell? ⟨w.heap.size, 1, none⟩ = some (.int .i64 0) := HR0.out.cell rfl
  have f0 := HR0.out.frozen 0
  have f1 := HR0.out.frozen 1
  go_wp2_with fail
  have hR9 := HR0.out.set2 (.int .i64 0) (.int .i64 0)
  have hF9 := fr_set2 w1 w.heap.size (.int .i64 0) (.int .i64 0)
  obtain ⟨w9, hw9⟩ : ∃ w9, w9 = ((w1.setCell ⟨w.heap.size, 0, none⟩ (.int .i64 0)).setCell ⟨w.heap.size, 1, none⟩ (.int .i64 0)) := ⟨_, rfl⟩
  rw [← hw9] at hR9 hF9 ⊢
  clear hw9 p0 p1
  have p0 : w9.cell? ⟨w.heap.size, 0, none⟩ = some (.int .i64 0) := hR9.cell rfl
  have p1 : w9.cell? ⟨w.heap.size, 1, none⟩ = some (.int .i64 0) := hR9.cell rfl
  refine bodyPost_ret (v := .tuple #[.agg #[.int .i64 0, .int .i64 0], .int .i64 11]) ?hv rfl ?hp
  case hv => (simp [results, Try.results61, go_sem, p0, p1]; try rfl)
  case hp => exact ⟨rfl, ((Fr.alloc _ _ _).trans ((Fr.alloc _ _ _).trans hF)).since hF9 (fun i hi hh => by omega)⟩

set_option maxHeartbeats 400000 in
theorem of_yes (x : Int) (w : World) (hx : 0 ≤ x) (hf : x ≤ 9223372036854775807) (h : Rg.Right (rgOf x)) :
    Calls Try.prog 61 #[.int .i64 x] w fun e w' => e = .returned (.tuple #[.agg #[.int .i64 (x / 16), .int .i64 (x % 16)], .int .i64 0]) ∧ Fr (fun _ => False) w w' := by
  obtain ⟨a, ha⟩ : ∃ a, x / 16 = a := ⟨_, rfl⟩
  obtain ⟨l, hl⟩ : ∃ l, x % 16 = l := ⟨_, rfl⟩
  have e1 : x.tdiv 16 = a := by rw [Int.tdiv_eq_ediv_of_nonneg hx, ha]
  have e2 : x.tmod 16 = l := by rw [Int.tmod_eq_emod_of_nonneg hx, hl]
  have q1 : 0 ≤ a := by omega
  have q2 : a ≤ 9223372036854775807 := by omega
  have hR : Rg.Right ⟨a, l⟩ := by rw [← ha, ← hl]; exact h
  have HR := hid hR
  have tx : (a * 16 + l != x) = false := by simp; omega
  rw [ha, hl]
  clear ha hl
  clear hR h
  go_enter Try.func61, Try.ntmps61
  go_wp2_with fail
  refine (word_yes _ _ _ HR.out).mono ?_
  rintro e w1 ⟨rfl, hF⟩
  have HR0 := hid (((Blk.new w #[.int .i64 0, .int .i64 0] 97).alloc _).keep hF id)
  have hB := ((Blk.new (w.alloc (.cells #[.int .i64 0, .int .i64 0] 97)) #[.int .i64 a, .int .i64 l] 97).at (n := w.heap.size + 1) (by simp)).keep hF id
  have c0 := hB.cell (i := 0) rfl
  have c1 := hB.cell (i := 1) rfl
  have p0 : w1.cell? ⟨w.heap.size, 0, none⟩ = some (.int .i64 0) := HR0.out.cell rfl
  have p1 : w1.cell? ⟨w.heap.size, 1, none⟩ = some (.int .i64 0) := HR0.out.cell rfl
  have f0 := HR0.out.frozen 0
  have f1 := HR0.out.frozen 1
  go_wp2_with fail
  have hR9 := HR0.out.set2 (.int .i64 a) (.int .i64 l)
  have hF9 := fr_set2 w1 w.heap.size (.int .i64 a) (.int .i64 l)
  obtain ⟨w9, hw9⟩ : ∃ w9, w9 = ((w1.setCell ⟨w.heap.size, 0, none⟩ (.int .i64 a)).setCell ⟨w.heap.size, 1, none⟩ (.int .i64 l)) := ⟨_, rfl⟩
  rw [← hw9] at hR9 hF9 ⊢
  clear hw9 p0 p1
  have p0 : w9.cell? ⟨w.heap.size, 0, none⟩ = some (.int .i64 a) := hR9.cell rfl
  have p1 : w9.cell? ⟨w.heap.size, 1, none⟩ = some (.int .i64 l) := hR9.cell rfl
  refine bodyPost_ret (v := .tuple #[.agg #[.int .i64 a, .int .i64 l], .int .i64 0]) ?hv rfl ?hp
  case hv => (simp [results, Try.results61, go_sem, p0, p1]; try rfl)
  case hp => exact ⟨rfl, ((Fr.alloc _ _ _).trans ((Fr.alloc _ _ _).trans hF)).since hF9 (fun i hi hh => by omega)⟩

/-- What Of answers. -/
def ofVal (x : Int) : Value := if ofErr x then .tuple #[.agg #[.int .i64 (x / 16), .int .i64 (x % 16)], .int .i64 0] else .tuple #[.agg #[.int .i64 0, .int .i64 0], .int .i64 11]

theorem of_any (x : Int) (w : World) (hf : x ≤ 9223372036854775807) :
    Calls Try.prog 61 #[.int .i64 x] w fun e w' => e = .returned (ofVal x) ∧ Fr (fun _ => False) w w' := by
  by_cases h : ofErr x
  · have e : ofVal x = .tuple #[.agg #[.int .i64 (x / 16), .int .i64 (x % 16)], .int .i64 0] := if_pos h
    rw [e]
    exact of_yes x w h.1 hf h.2
  · have e : ofVal x = .tuple #[.agg #[.int .i64 0, .int .i64 0], .int .i64 11] := if_neg h
    rw [e]
    by_cases hx : 0 ≤ x
    · exact of_no x w hx hf (fun hh => h ⟨hx, hh⟩)
    · exact of_neg x w (by omega)

set_option maxHeartbeats 400000 in
theorem rnew_nil (x y : Int) (w : World) :
    Calls Try.prog 99 #[.pointer none, .int .i64 x, .int .i64 y] w fun e w' => e = .returned (.tuple #[.agg #[.int .i64 0, .int .i64 0], .int .i64 2]) ∧ Fr (fun _ => False) w w' := by
  go_enter Try.func99, Try.ntmps99
  go_wp2_with fail
  refine bodyPost_ret (v := .tuple #[.agg #[.int .i64 0, .int .i64 0], .int .i64 2]) ?hv rfl ?hp
  case hv => (simp [results, Try.results99, go_sem]; try rfl)
  case hp => exact ⟨rfl, Fr.alloc _ _ _⟩

set_option maxHeartbeats 400000 in
theorem rnew_log (b : MB) (x y : Int) (w : World) (h : y < 0 ∨ 8 < y) :
    Calls Try.prog 99 #[.pointer (some ⟨b.m, 0, none⟩), .int .i64 x, .int .i64 y] w fun e w' => e = .returned (.tuple #[.agg #[.int .i64 0, .int .i64 0], .int .i64 10]) ∧ Fr (fun _ => False) w w' := by
  rcases h with h | h
  · go_enter Try.func99, Try.ntmps99
    go_wp2_with fail
    refine bodyPost_ret (v := .tuple #[.agg #[.int .i64 0, .int .i64 0], .int .i64 10]) ?hv rfl ?hp
    case hv => (simp [results, Try.results99, go_sem]; try rfl)
    case hp => exact ⟨rfl, Fr.alloc _ _ _⟩
  · have t1 : decide (y < 0) = false := by simp; omega
    go_enter Try.func99, Try.ntmps99
    go_wp2_with fail
    refine bodyPost_ret (v := .tuple #[.agg #[.int .i64 0, .int .i64 0], .int .i64 10]) ?hv rfl ?hp
    case hv => (simp [results, Try.results99, go_sem]; try rfl)
    case hp => exact ⟨rfl, Fr.alloc _ _ _⟩

set_option maxHeartbeats 400000 in
theorem rnew_who (b : MB) (M : Mach) (x l : Int) (w : World) (h : IsM w b M) (hx : x < 0 ∨ (M.steps.length : Int) ≤ x) (h0 : 0 ≤ l) (h8 : l ≤ 8) :
    Calls Try.prog 99 #[.pointer (some ⟨b.m, 0, none⟩), .int .i64 x, .int .i64 l] w fun e w' => e = .returned (.tuple #[.agg #[.int .i64 0, .int .i64 0], .int .i64 10]) ∧ Fr (fun _ => False) w w' := by
  obtain ⟨n, hn, hp, n1, n2, hm⟩ := log_facts l h8
  clear hm
  have t1 : decide (l < 0) = false := by simp; omega
  have t2 : decide (8 < l) = false := by simp; omega
  have t3 : l ≤ 64 := by omega
  obtain ⟨k, rfl⟩ := Int.eq_ofNat_of_zero_le (show 0 ≤ n by omega)
  have HN := hid hn
  clear hn
  have HM := hid (h.same (Fr.alloc _ w (.cells #[.int .i64 0, .int .i64 0] 97)))
  have HL := hid h.own_lt
  clear h
  go_enter Try.func99, Try.ntmps99
  go_wp2_with fail
  refine (alloc_who b M x k _ HM.out hx).mono ?_
  rintro e w1 ⟨rfl, rfl⟩
  go_wp2_with fail
  refine bodyPost_ret (v := .tuple #[.agg #[.int .i64 0, .int .i64 0], .int .i64 10]) ?hv rfl ?hp
  case hv => (simp [results, Try.results99, go_sem]; try rfl)
  case hp => exact ⟨rfl, Fr.alloc _ _ _⟩

set_option maxHeartbeats 400000 in
theorem rnew_full (b : MB) (M : Mach) (j : Nat) (x l : Int) (w : World) (h : IsM w b M) (hxj : x = j) (hj : j < M.steps.length) (h0 : 0 ≤ l) (h8 : l ≤ 8) (hn : (M.all.length : Int) - M.used < pow l) :
    Calls Try.prog 99 #[.pointer (some ⟨b.m, 0, none⟩), .int .i64 x, .int .i64 l] w fun e w' => e = .returned (.tuple #[.agg #[.int .i64 0, .int .i64 0], .int .i64 21]) ∧ IsM w' b M ∧ Fr b.own w w' := by
  obtain ⟨n, hn2, hp, n1, n2, hm⟩ := log_facts l h8
  clear hm
  have HH := hid hn
  clear hn
  have t1 : decide (l < 0) = false := by simp; omega
  have t2 : decide (8 < l) = false := by simp; omega
  have t3 : l ≤ 64 := by omega
  obtain ⟨k, rfl⟩ := Int.eq_ofNat_of_zero_le (show 0 ≤ n by omega)
  have HN := hid hn2
  clear hn2
  have HM := hid (h.same (Fr.alloc _ w (.cells #[.int .i64 0, .int .i64 0] 97)))
  have HL := hid h.own_lt
  clear h
  go_enter Try.func99, Try.ntmps99
  go_wp2_with fail
  subst hxj
  refine (alloc_full b M j k _ HM.out hj (by omega) (by rw [← HN.out]; exact HH.out)).mono ?_
  rintro e w1 ⟨rfl, h1, hF⟩
  have HR0 := hid ((Blk.new w #[.int .i64 0, .int .i64 0] 97).keep hF (fun hh => by have := HL.out _ hh; omega))
  have p0 : w1.cell? ⟨w.heap.size, 0, none⟩ = some (.int .i64 0) := HR0.out.cell rfl
  have p1 : w1.cell? ⟨w.heap.size, 1, none⟩ = some (.int .i64 0) := HR0.out.cell rfl
  have f0 := HR0.out.frozen 0
  have f1 := HR0.out.frozen 1
  go_wp2_with fail
  have hR9 := HR0.out.set2 (.int .i64 0) (.int .i64 0)
  have hF9 := fr_set2 w1 w.heap.size (.int .i64 0) (.int .i64 0)
  obtain ⟨w9, hw9⟩ : ∃ w9, w9 = ((w1.setCell ⟨w.heap.size, 0, none⟩ (.int .i64 0)).setCell ⟨w.heap.size, 1, none⟩ (.int .i64 0)) := ⟨_, rfl⟩
  rw [← hw9] at hR9 hF9 ⊢
  clear hw9 p0 p1
  have p0 : w9.cell? ⟨w.heap.size, 0, none⟩ = some (.int .i64 0) := hR9.cell rfl
  have p1 : w9.cell? ⟨w.heap.size, 1, none⟩ = some (.int .i64 0) := hR9.cell rfl
  refine bodyPost_ret (v := .tuple #[.agg #[.int .i64 0, .int .i64 0], .int .i64 21]) ?hv rfl ?hp
  case hv => (simp [results, Try.results99, go_sem, p0, p1]; try rfl)
  case hp =>
    exact ⟨rfl, h1.keep hF9 (fun i hi hh => by have := HL.out _ hi; omega), ((Fr.alloc b.own w _).trans hF).since hF9 (fun i hi hh => by omega)⟩

set_option maxHeartbeats 400000 in
theorem rnew_ok (b : MB) (M : Mach) (j : Nat) (x l : Int) (w : World) (h : IsM w b M) (hxj : x = j) (hj : j < M.steps.length) (h0 : 0 ≤ l) (h8 : l ≤ 8) (hn : (M.used : Int) + pow l ≤ M.all.length) :
    Calls Try.prog 99 #[.pointer (some ⟨b.m, 0, none⟩), .int .i64 x, .int .i64 l] w fun e w' => e = .returned (.tuple #[.agg #[.int .i64 M.used, .int .i64 l], .int .i64 0]) ∧ IsM w' b ((M.step j).give (pow l).toNat) ∧ Fr b.own w w' := by
  obtain ⟨n, hn2, hp, n1, n2, hm⟩ := log_facts l h8
  clear hm
  have HH := hid hn
  clear hn
  have t1 : decide (l < 0) = false := by simp; omega
  have t2 : decide (8 < l) = false := by simp; omega
  have t3 : l ≤ 64 := by omega
  obtain ⟨k, rfl⟩ := Int.eq_ofNat_of_zero_le (show 0 ≤ n by omega)
  have HN := hid hn2
  clear hn2
  have HM := hid (h.same (Fr.alloc _ w (.cells #[.int .i64 0, .int .i64 0] 97)))
  have HL := hid h.own_lt
  clear h
  go_enter Try.func99, Try.ntmps99
  go_wp2_with fail
  subst hxj
  refine (alloc_ok b M j k _ HM.out hj (by omega) (by have := HH.out; rw [HN.out] at this; omega)).mono ?_
  rintro e w1 ⟨rfl, h1, hF⟩
  have HR0 := hid ((Blk.new w #[.int .i64 0, .int .i64 0] 97).keep hF (fun hh => by have := HL.out _ hh; omega))
  have p0 : w1.cell? ⟨w.heap.size, 0, none⟩ = some (.int .i64 0) := HR0.out.cell rfl
  have p1 : w1.cell? ⟨w.heap.size, 1, none⟩ = some (.int .i64 0) := HR0.out.cell rfl
  have f0 := HR0.out.frozen 0
  have f1 := HR0.out.frozen 1
  go_wp2_with fail
  have hR9 := HR0.out.set2 (.int .i64 M.used) (.int .i64 l)
  have hF9 := fr_set2 w1 w.heap.size (.int .i64 M.used) (.int .i64 l)
  obtain ⟨w9, hw9⟩ : ∃ w9, w9 = ((w1.setCell ⟨w.heap.size, 0, none⟩ (.int .i64 M.used)).setCell ⟨w.heap.size, 1, none⟩ (.int .i64 l)) := ⟨_, rfl⟩
  rw [← hw9] at hR9 hF9 ⊢
  clear hw9 p0 p1
  have p0 : w9.cell? ⟨w.heap.size, 0, none⟩ = some (.int .i64 M.used) := hR9.cell rfl
  have p1 : w9.cell? ⟨w.heap.size, 1, none⟩ = some (.int .i64 l) := hR9.cell rfl
  refine bodyPost_ret (v := .tuple #[.agg #[.int .i64 M.used, .int .i64 l], .int .i64 0]) ?hv rfl ?hp
  case hv => (simp [results, Try.results99, go_sem, p0, p1]; try rfl)
  case hp =>
    rw [HN.out]
    exact ⟨rfl, h1.keep hF9 (fun i hi hh => by have := HL.out _ hi; omega), ((Fr.alloc b.own w _).trans hF).since hF9 (fun i hi hh => by omega)⟩
end Go.Proofs.Ytiofdfgcghiibaa
