/-
  Events and waits of the program: each call, in every way.
-/
import Derived.Test.YtlhpngoplmccjaaEv
namespace Go.Proofs.Ytlhpngoplmccjaa
open Go.RowKit
set_option linter.unusedVariables false

set_option maxHeartbeats 400000 in
theorem eread_ok (b : MB) (M : Mach) (j k : Nat) (w : World) (h : IsM w b M) (hj : j < M.steps.length) (hk : k < M.used) :
    Calls Try.prog 34 #[.agg #[.int .i64 k], .pointer (some ⟨b.m, 0, none⟩), .int .i64 j] w fun e w' => e = .returned (.tuple #[.int .i64 (M.all.getD k 0), .int .i64 0]) ∧ IsM w' b (M.step j) ∧ Fr b.own w w' := by
  go_enter Try.func34, Try.ntmps34
  go_wp2_with fail
  refine (load_ok b M j k _ (h.same (Fr.alloc _ _ _)) hj hk).mono ?_
  rintro e w1 ⟨rfl, h1, hF⟩
  go_wp2_with fail
  go_ret2
  exact ⟨rfl, h1, (Fr.alloc _ _ _).trans hF⟩

set_option maxHeartbeats 400000 in
theorem etell_ok (b : MB) (M : Mach) (j k : Nat) (w : World) (h : IsM w b M) (hj : j < M.steps.length) (hk : k < M.used) :
    Calls Try.prog 35 #[.agg #[.int .i64 k], .pointer (some ⟨b.m, 0, none⟩), .int .i64 j] w fun e w' => e = .returned (.int .i64 0) ∧ IsM w' b ((M.step j).put k (wrap64 (M.all.getD k 0 + 1))) ∧ Fr b.own w w' := by
  go_enter Try.func35, Try.ntmps35
  go_wp2_with fail
  refine (add_ok b M j k 1 _ (h.same (Fr.alloc _ _ _)) hj hk).mono ?_
  rintro e w1 ⟨rfl, h1, hF⟩
  go_wp2_with fail
  go_ret
  exact ⟨rfl, h1, (Fr.alloc _ _ _).trans hF⟩

set_option maxHeartbeats 400000 in
theorem eread_no (b : MB) (M : Mach) (x k : Int) (w : World) (h : IsM w b M) (hn : ¬ (0 ≤ x ∧ x < M.steps.length ∧ 0 ≤ k ∧ k < M.used)) :
    Calls Try.prog 34 #[.agg #[.int .i64 k], .pointer (some ⟨b.m, 0, none⟩), .int .i64 x] w fun e w' => e = .returned (.tuple #[.int .i64 (0), .int .i64 10]) ∧ Fr (fun _ => False) w w' := by
  go_enter Try.func34, Try.ntmps34
  go_wp2_with fail
  refine (load_no b M x k _ (h.same (Fr.alloc _ _ _)) hn).mono ?_
  rintro e w1 ⟨rfl, rfl⟩
  go_wp2_with fail
  go_ret2
  exact ⟨rfl, Fr.alloc _ _ _⟩

set_option maxHeartbeats 400000 in
theorem etell_no (b : MB) (M : Mach) (x k : Int) (w : World) (h : IsM w b M) (hn : ¬ (0 ≤ x ∧ x < M.steps.length ∧ 0 ≤ k ∧ k < M.used)) :
    Calls Try.prog 35 #[.agg #[.int .i64 k], .pointer (some ⟨b.m, 0, none⟩), .int .i64 x] w fun e w' => e = .returned (.int .i64 10) ∧ IsM w' b M ∧ Fr b.own w w' := by
  go_enter Try.func35, Try.ntmps35
  go_wp2_with fail
  refine (add_no b M x k 1 _ (h.same (Fr.alloc _ _ _)) hn).mono ?_
  rintro e w1 ⟨rfl, h1, hF⟩
  go_wp2_with fail
  go_ret
  exact ⟨rfl, h1, (Fr.alloc _ _ _).trans hF⟩

set_option maxHeartbeats 400000 in
theorem eread_nil (x k : Int) (w : World) :
    Calls Try.prog 34 #[.agg #[.int .i64 k], .pointer none, .int .i64 x] w fun e w' => e = .returned (.tuple #[.int .i64 (0), .int .i64 2]) ∧ Fr (fun _ => False) w w' := by
  go_enter Try.func34, Try.ntmps34
  go_wp2_with fail
  refine (load_nil x k _).mono ?_
  rintro e w1 ⟨rfl, rfl⟩
  go_wp2_with fail
  go_ret2
  exact ⟨rfl, Fr.alloc _ _ _⟩

set_option maxHeartbeats 400000 in
theorem etell_nil (x k : Int) (w : World) :
    Calls Try.prog 35 #[.agg #[.int .i64 k], .pointer none, .int .i64 x] w fun e w' => e = .returned (.int .i64 2) ∧ Fr (fun _ => False) w w' := by
  go_enter Try.func35, Try.ntmps35
  go_wp2_with fail
  refine (add_nil x k 1 _).mono ?_
  rintro e w1 ⟨rfl, hF⟩
  go_wp2_with fail
  go_ret
  exact ⟨rfl, (Fr.alloc _ _ _).trans hF⟩

set_option maxHeartbeats 400000 in
theorem enew_ok (b : MB) (M : Mach) (j : Nat) (w : World) (h : IsM w b M) (hj : j < M.steps.length) (hn : M.used + 1 ≤ M.all.length) :
    Calls Try.prog 31 #[.pointer (some ⟨b.m, 0, none⟩), .int .i64 j] w fun e w' => e = .returned (.tuple #[.agg #[.int .i64 M.used], .int .i64 0]) ∧ IsM w' b ((M.step j).give 1) ∧ Fr b.own w w' := by
  have HL := hid h.own_lt
  have HM := hid (h.same (Fr.alloc _ w (.cells #[.int .i64 0] 76)))
  have HA := hid (fun (u : World) (hu : IsM u b M) => alloc_ok b M j 1 u hu hj (by omega) hn)
  clear h hn
  go_enter Try.func31, Try.ntmps31
  go_wp2_with fail
  refine (HA.out _ HM.out).mono ?_
  rintro e w1 ⟨rfl, h1, hF⟩
  have HR := hid ((Blk.new w #[.int .i64 0] 76).keep hF (fun hh => by have := HL.out _ hh; omega))
  have p0 : w1.cell? ⟨w.heap.size, 0, none⟩ = some (.int .i64 0) := HR.out.cell rfl
  have f0 := HR.out.frozen 0
  go_wp2_with fail
  have hR9 := HR.out.set 0 (.int .i64 M.used)
  have hF9 := Fr.setCell (S := fun k => k = w.heap.size) w1 ⟨w.heap.size, 0, none⟩ (.int .i64 M.used) rfl
  obtain ⟨w9, hw9⟩ : ∃ w9, w9 = w1.setCell ⟨w.heap.size, 0, none⟩ (.int .i64 M.used) := ⟨_, rfl⟩
  rw [← hw9] at hR9 hF9 ⊢
  clear hw9 p0
  have p0 : w9.cell? ⟨w.heap.size, 0, none⟩ = some (.int .i64 M.used) := hR9.cell rfl
  refine bodyPost_ret (v := .tuple #[.agg #[.int .i64 M.used], .int .i64 0]) ?hv rfl ?hp
  case hv => (simp [results, Try.results31, go_sem, p0]; try rfl)
  case hp =>
    exact ⟨rfl, h1.keep hF9 (fun i hi hh => by have := HL.out _ hi; omega), ((Fr.alloc b.own w _).trans hF).since hF9 (fun i hi hh => by omega)⟩

set_option maxHeartbeats 400000 in
theorem enew_full (b : MB) (M : Mach) (j : Nat) (w : World) (h : IsM w b M) (hj : j < M.steps.length) (hn : (M.all.length : Int) - M.used < 1) :
    Calls Try.prog 31 #[.pointer (some ⟨b.m, 0, none⟩), .int .i64 j] w fun e w' => e = .returned (.tuple #[.agg #[.int .i64 0], .int .i64 21]) ∧ IsM w' b M ∧ Fr b.own w w' := by
  have HL := hid h.own_lt
  have HM := hid (h.same (Fr.alloc _ w (.cells #[.int .i64 0] 76)))
  have HA := hid (fun (u : World) (hu : IsM u b M) => alloc_full b M j 1 u hu hj (by omega) hn)
  clear h hn
  go_enter Try.func31, Try.ntmps31
  go_wp2_with fail
  refine (HA.out _ HM.out).mono ?_
  rintro e w1 ⟨rfl, h1, hF⟩
  have HR := hid ((Blk.new w #[.int .i64 0] 76).keep hF (fun hh => by have := HL.out _ hh; omega))
  have p0 : w1.cell? ⟨w.heap.size, 0, none⟩ = some (.int .i64 0) := HR.out.cell rfl
  have f0 := HR.out.frozen 0
  go_wp2_with fail
  have hR9 := HR.out.set 0 (.int .i64 0)
  have hF9 := Fr.setCell (S := fun k => k = w.heap.size) w1 ⟨w.heap.size, 0, none⟩ (.int .i64 0) rfl
  obtain ⟨w9, hw9⟩ : ∃ w9, w9 = w1.setCell ⟨w.heap.size, 0, none⟩ (.int .i64 0) := ⟨_, rfl⟩
  rw [← hw9] at hR9 hF9 ⊢
  clear hw9 p0
  have p0 : w9.cell? ⟨w.heap.size, 0, none⟩ = some (.int .i64 0) := hR9.cell rfl
  refine bodyPost_ret (v := .tuple #[.agg #[.int .i64 0], .int .i64 21]) ?hv rfl ?hp
  case hv => (simp [results, Try.results31, go_sem, p0]; try rfl)
  case hp =>
    exact ⟨rfl, h1.keep hF9 (fun i hi hh => by have := HL.out _ hi; omega), ((Fr.alloc b.own w _).trans hF).since hF9 (fun i hi hh => by omega)⟩

set_option maxHeartbeats 400000 in
theorem enew_nil (x : Int) (w : World) :
    Calls Try.prog 31 #[.pointer none, .int .i64 x] w fun e w' => e = .returned (.tuple #[.agg #[.int .i64 0], .int .i64 2]) ∧ Fr (fun _ => False) w w' := by
  go_enter Try.func31, Try.ntmps31
  go_wp2_with fail
  refine (alloc_nil x 1 _).mono ?_
  rintro e w1 ⟨rfl, rfl⟩
  go_wp2_with fail
  refine bodyPost_ret (v := .tuple #[.agg #[.int .i64 0], .int .i64 2]) ?hv rfl ?hp
  case hv => (simp [results, Try.results31, go_sem]; try rfl)
  case hp => exact ⟨rfl, Fr.alloc _ _ _⟩

set_option maxHeartbeats 400000 in
theorem ewait_ok (k : Int) (w : World) :
    Calls Try.prog 32 #[.agg #[.int .i64 k]] w fun e w' => e = .returned (.pointer (some ⟨w.heap.size + 1, 0, none⟩)) ∧ WT w' (w.heap.size + 1) k 0 0 ∧ Fr (fun _ => False) w w' ∧ w'.heap.size = w.heap.size + 2 := by
  go_enter Try.func32, Try.ntmps32
  go_wp2_with fail
  go_ret
  exact ⟨rfl, (Blk.new _ _ _).at (by simp), (Fr.alloc _ _ _).trans (Fr.alloc _ _ _), by simp⟩

set_option maxHeartbeats 400000 in
theorem wready_ok (b : MB) (M : Mach) (j k : Nat) (x : Nat) (a s : Int) (w : World) (hx : WT w x k a s) (hb : ¬ b.own x) (h : IsM w b M) (hj : j < M.steps.length) (hk : k < M.used) :
    Calls Try.prog 36 #[.pointer (some ⟨x, 0, none⟩), .pointer (some ⟨b.m, 0, none⟩), .int .i64 j] w fun e w' => e = .returned (.int .i64 0) ∧ IsM w' b (M.step j) ∧ WT w' x k 1 (M.all.getD k 0) ∧ Fr (fun i => b.own i ∨ i = x) w w' := by
  have HX := hid hx
  have x0 := Blk.cell (i := 0) hx rfl
  clear hx
  go_enter Try.func36, Try.ntmps36
  go_wp2_with fail
  refine (eread_ok b M j k _ h hj hk).mono ?_
  rintro e w1 ⟨rfl, h1, hF⟩
  have HF := hid hF
  have HM1 := hid h1
  have HX1 := hid (HX.out.keep hF hb)
  have x1 := Blk.cell (i := 1) HX1.out rfl
  have x2 := Blk.cell (i := 2) HX1.out rfl
  have f1 := Blk.frozen HX1.out 1
  have f2 := Blk.frozen HX1.out 2
  obtain ⟨v, hv⟩ : ∃ v, M.all.getD k 0 = v := ⟨_, rfl⟩
  rw [hv]
  have HV := hid hv
  clear hF h1 x0 hv
  go_wp2_with fail
  go_ret
  have hfs : Fr (fun i => i = x) w1 ((w1.setCell ⟨x, 1, none⟩ (.int .i64 1)).setCell ⟨x, 2, none⟩ (.int .i64 v)) := (Fr.setCell (S := fun i => i = x) _ _ _ rfl).trans (Fr.setCell _ _ _ rfl)
  refine ⟨rfl, HM1.out.keep hfs (fun i hi hh => hb (hh ▸ hi)), by rw [HV.out]; unfold WT; simpa using (Blk.set (Blk.set HX1.out 1 (.int .i64 1)) 2 (.int .i64 v)), (HF.out.mono fun _ hh => .inl hh).trans (hfs.mono fun _ hh => .inr hh)⟩

set_option maxHeartbeats 400000 in
theorem wready_no (b : MB) (M : Mach) (y k : Int) (x : Nat) (a s : Int) (w : World) (hx : WT w x k a s) (h : IsM w b M) (hn : ¬ (0 ≤ y ∧ y < M.steps.length ∧ 0 ≤ k ∧ k < M.used)) :
    Calls Try.prog 36 #[.pointer (some ⟨x, 0, none⟩), .pointer (some ⟨b.m, 0, none⟩), .int .i64 y] w fun e w' => e = .returned (.int .i64 10) ∧ Fr (fun _ => False) w w' := by
  have HX := hid hx
  have x0 := Blk.cell (i := 0) hx rfl
  clear hx
  go_enter Try.func36, Try.ntmps36
  go_wp2_with fail
  refine (eread_no b M y k _ h hn).mono ?_
  rintro e w1 ⟨rfl, hF⟩
  go_wp2_with fail
  go_ret
  exact ⟨rfl, hF⟩

set_option maxHeartbeats 400000 in
theorem wready_nil (y k : Int) (x : Nat) (a s : Int) (w : World) (hx : WT w x k a s) :
    Calls Try.prog 36 #[.pointer (some ⟨x, 0, none⟩), .pointer none, .int .i64 y] w fun e w' => e = .returned (.int .i64 2) ∧ Fr (fun _ => False) w w' := by
  have HX := hid hx
  have x0 := Blk.cell (i := 0) hx rfl
  clear hx
  go_enter Try.func36, Try.ntmps36
  go_wp2_with fail
  refine (eread_nil y k _).mono ?_
  rintro e w1 ⟨rfl, hF⟩
  go_wp2_with fail
  go_ret
  exact ⟨rfl, hF⟩

set_option maxHeartbeats 400000 in
theorem wready_none (pm : Value) (y : Int) (w : World) :
    Calls Try.prog 36 #[.pointer none, pm, .int .i64 y] w fun e w' => e = .returned (.int .i64 2) ∧ w = w' := by
  go_enter Try.func36, Try.ntmps36
  go_wp2_with fail
  go_ret
  exact ⟨rfl, rfl⟩

set_option maxHeartbeats 400000 in
theorem wpark_ok (x : Nat) (k s : Int) (w : World) (hx : WT w x k 1 s) :
    Calls Try.prog 38 #[.pointer (some ⟨x, 0, none⟩)] w fun e w' => e = .returned (.int .i64 0) ∧ WT w' x k 2 s ∧ Fr (fun i => i = x) w w' := by
  have HX := hid hx
  have x1 := Blk.cell (i := 1) hx rfl
  have f1 := Blk.frozen hx 1
  clear hx
  go_enter Try.func38, Try.ntmps38
  go_wp2_with fail
  go_ret
  exact ⟨rfl, by unfold WT; simpa using Blk.set HX.out 1 (.int .i64 2), Fr.setCell _ _ _ rfl⟩

set_option maxHeartbeats 400000 in
theorem wpark_no (x : Nat) (k a s : Int) (w : World) (hx : WT w x k a s) (ha : a ≠ 1) :
    Calls Try.prog 38 #[.pointer (some ⟨x, 0, none⟩)] w fun e w' => e = .returned (.int .i64 19) ∧ w = w' := by
  have t1 : (a != 1) = true := by simpa using ha
  have x1 := Blk.cell (i := 1) hx rfl
  clear hx ha
  go_enter Try.func38, Try.ntmps38
  go_wp2_with fail
  go_ret
  exact ⟨rfl, rfl⟩

set_option maxHeartbeats 400000 in
theorem wpark_none (w : World) :
    Calls Try.prog 38 #[.pointer none] w fun e w' => e = .returned (.int .i64 2) ∧ w = w' := by
  go_enter Try.func38, Try.ntmps38
  go_wp2_with fail
  go_ret
  exact ⟨rfl, rfl⟩

set_option maxHeartbeats 400000 in
theorem wleave_ok (x : Nat) (k a s : Int) (w : World) (hx : WT w x k a s) :
    Calls Try.prog 40 #[.pointer (some ⟨x, 0, none⟩)] w fun e w' => e = .returned (.tuple #[]) ∧ WT w' x k 0 s ∧ Fr (fun i => i = x) w w' := by
  have HX := hid hx
  have x1 := Blk.cell (i := 1) hx rfl
  have f1 := Blk.frozen hx 1
  clear hx
  go_enter Try.func40, Try.ntmps40
  go_wp2_with fail
  refine bodyPost_end (v := .tuple #[]) (by simp [results, Try.results40, go_sem]) rfl ?_
  exact ⟨rfl, by unfold WT; simpa using Blk.set HX.out 1 (.int .i64 0), Fr.setCell _ _ _ rfl⟩

set_option maxHeartbeats 400000 in
theorem wleave_none (w : World) :
    Calls Try.prog 40 #[.pointer none] w fun e w' => e = .returned (.tuple #[]) ∧ w = w' := by
  go_enter Try.func40, Try.ntmps40
  go_wp2_with fail
  refine bodyPost_end (v := .tuple #[]) (by simp [results, Try.results40, go_sem]) rfl ?_
  exact ⟨rfl, rfl⟩

set_option maxHeartbeats 400000 in
theorem wparked_none (pm : Value) (w : World) :
    Calls Try.prog 41 #[.pointer none, pm] w fun e w' => e = .returned (.bool false) ∧ Fr (fun _ => False) w w' := by
  go_enter Try.func41, Try.ntmps41
  go_wp2_with fail
  go_quiet (fail)
  go_wp2_with fail
  go_ret
  exact ⟨rfl, Fr.drewN _ _ _⟩

set_option maxHeartbeats 400000 in
theorem wparked_not (pm : Value) (x : Nat) (k a s : Int) (w : World) (hx : WT w x k a s) (ha : a ≠ 2) :
    Calls Try.prog 41 #[.pointer (some ⟨x, 0, none⟩), pm] w fun e w' => e = .returned (.bool false) ∧ Fr (fun _ => False) w w' := by
  have t1 : (a == 2) = false := by simpa using ha
  have x1 := Blk.cell (i := 1) hx rfl
  clear hx ha
  go_enter Try.func41, Try.ntmps41
  go_wp2_with fail
  go_quiet (fail)
  go_wp2_with fail
  go_ret
  exact ⟨rfl, Fr.drewN _ _ _⟩

def FrRet (v : Bool) (w : World) (e : Ending) (w' : World) : Prop := e = .returned (.bool v) ∧ Fr (fun _ => False) w w'

set_option maxHeartbeats 400000 in
theorem wparked_of (pm : Value) (x : Nat) (k s : Int) (v : Bool) (w : World) (hx : WT w x k 2 s) (hc : ∀ u, Fr (fun _ => False) w u → Calls Try.prog 43 #[.agg #[.int .i64 k], pm, .int .i64 s] u fun e w' => e = .returned (.bool v) ∧ Fr (fun _ => False) u w') :
    Calls Try.prog 41 #[.pointer (some ⟨x, 0, none⟩), pm] w (FrRet v w) := by
  have HC := hid hc
  have HX := hid hx
  have HS := hid (show ∀ w', Fr (fun _ => False) w w' → w'.cell? ⟨x, 0, none⟩ = some (.int .i64 k) ∧ w'.cell? ⟨x, 1, none⟩ = some (.int .i64 2) ∧ w'.cell? ⟨x, 2, none⟩ = some (.int .i64 s) from fun w' F => ⟨Blk.cell (i := 0) (HX.out.same F) rfl, Blk.cell (i := 1) (HX.out.same F) rfl, Blk.cell (i := 2) (HX.out.same F) rfl⟩)
  have HFd := hid (Fr.refl (fun _ => False) w)
  clear hx hc
  go_enter Try.func41, Try.ntmps41
  go_wp2_with fail
  go_region_held3 (fun w' => w'.cell? ⟨x, 0, none⟩ = some (.int .i64 k) ∧ w'.cell? ⟨x, 1, none⟩ = some (.int .i64 2) ∧ w'.cell? ⟨x, 2, none⟩ = some (.int .i64 s))
    (first | exact HS.out _ HFd.out | exact HS.out _ (HFd.out.trans (Fr.drew _ _)))
    (first
    | (go_at_call 43; ((with_reducible refine (HC.out _ (by first | exact HFd.out | exact HFd.out.trans (Fr.drew _ _))).mono ?_); rintro e w6 ⟨rfl, hF6⟩; have HFd := hid (HFd.out.trans (Fr.trans (by first | exact Fr.refl _ _ | exact Fr.drew _ _) hF6)); clear hF6)))
  all_goals
    go_wp2_with fail
    go_ret
    exact ⟨rfl, HFd.out⟩

/-- Whether a wait is parked. -/
def Mach.restB (M : Mach) (k a s : Int) : Bool := (a == 2) && M.toldB k s

theorem wparked_ok (b : MB) (M : Mach) (x : Nat) (k a s : Int) (w : World) (h : IsM w b M) (hx : WT w x k a s) :
    Calls Try.prog 41 #[.pointer (some ⟨x, 0, none⟩), .pointer (some ⟨b.m, 0, none⟩)] w fun e w' => e = .returned (.bool (M.restB k a s)) ∧ Fr (fun _ => False) w w' := by
  by_cases ha : a = 2
  · subst ha
    have e : M.restB k 2 s = M.toldB k s := by simp [Mach.restB]
    rw [e]
    exact (wparked_of _ x k s _ w hx (fun u F => eparked_ok b M k s u (h.same F))).mono fun _ _ hh => hh
  · have e : M.restB k a s = false := by simp [Mach.restB, ha]
    rw [e]
    exact wparked_not _ x k a s w hx ha

theorem wparked_nil (x : Nat) (k a s : Int) (w : World) (hx : WT w x k a s) :
    Calls Try.prog 41 #[.pointer (some ⟨x, 0, none⟩), .pointer none] w fun e w' => e = .returned (.bool false) ∧ Fr (fun _ => False) w w' := by
  by_cases ha : a = 2
  · subst ha
    exact (wparked_of _ x k s _ w hx (fun u F => eparked_nil k s u)).mono fun _ _ hh => hh
  · exact wparked_not _ x k a s w hx ha

end Go.Proofs.Ytlhpngoplmccjaa
