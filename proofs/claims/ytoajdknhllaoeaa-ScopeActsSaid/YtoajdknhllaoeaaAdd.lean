/-
  Add of a machine, as the document says.
-/
import Derived.Test.YtoajdknhllaoeaaBegin
import Derived.Defers
namespace Go.Proofs.Ytoajdknhllaoeaa
open Go.RowKit

def addWorld (b : MB) (y v : Int) (w : World) : World := ((w.alloc (.cells #[.pointer (some ⟨b.m, 0, none⟩)] 24)).alloc (.cells #[.int .i64 y] 3)).alloc (.cells #[.int .i64 v] 2)

theorem addWorld_fr (b : MB) (y v : Int) (w : World) (S : Nat → Prop) : Fr S w (addWorld b y v w) := ((Fr.alloc _ _ _).trans (Fr.alloc _ _ _)).trans (Fr.alloc _ _ _)

set_option maxHeartbeats 400000 in
theorem add_who (b : MB) (M : Mach) (x y v : Int) (w : World) (h : IsM w b M) (hx : x < 0 ∨ (M.steps.length : Int) ≤ x) :
    Calls Try.prog 51 #[.pointer (some ⟨b.m, 0, none⟩), .int .i64 x, .int .i64 y, .int .i64 v] w fun e w' => e = .returned (.tuple #[.int .i64 0, .int .i64 10]) ∧ IsM w' b M ∧ Fr b.own w w' := by
  have h3 : IsM (addWorld b y v w) b M := h.same (addWorld_fr b y v w _)
  go_enter Try.func51, Try.ntmps51
  go_wp2_with fail
  refine (begin_who b M x y _ _ h3 hx).mono ?_
  rintro e w' ⟨rfl, rfl⟩
  go_wp2
  go_ret2
  exact ⟨rfl, h3, addWorld_fr b y v w _⟩

theorem add_box0 (b : MB) (y v : Int) (w : World) : Blk (addWorld b y v w) w.heap.size #[.pointer (some ⟨b.m, 0, none⟩)] := ((Blk.new _ _ _).alloc _).alloc _
theorem add_box1 (b : MB) (y v : Int) (w : World) : Blk (addWorld b y v w) (w.heap.size + 1) #[.int .i64 y] := (((Blk.new _ _ _).at (by simp))).alloc _
theorem add_box2 (b : MB) (y v : Int) (w : World) : Blk (addWorld b y v w) (w.heap.size + 1 + 1) #[.int .i64 v] := (Blk.new _ _ _).at (by simp)

set_option maxHeartbeats 400000 in
theorem add1_ok (b : MB) (M : Mach) (k : Nat) (v : Int) (p0 p1 p2 : Nat) (u : FrameMode) (w : World) (h : IsM w b M) (hk : k < M.used)
    (b0 : Blk w p0 #[.pointer (some ⟨b.m, 0, none⟩)]) (b1 : Blk w p1 #[.int .i64 k]) (b2 : Blk w p2 #[.int .i64 v]) :
    CallsD Try.prog 56 #[.pointer (some ⟨p0, 0, none⟩), .pointer (some ⟨p1, 0, none⟩), .pointer (some ⟨p2, 0, none⟩)] u w
      fun e u' w' => u' = u ∧ (e = .returned (.tuple #[]) ∧ IsM w' b (M.put k (wrap64 (M.all.getD k 0 + v))) ∧ Fr b.own w w') := by
  have a0 := b0.cell (i := 0) rfl
  have a1 := b1.cell (i := 0) rfl
  have a2 := b2.cell (i := 0) rfl
  have c0 := h.c0
  obtain ⟨s, HV, cv⟩ := h.cg' (Nat.lt_of_lt_of_le hk h.le)
  have fv := h.hg.frozen k
  go_enter_d Try.func56, Try.ntmps56
  go_wp2
  go_region
  go_end0
  rw [HV.out]
  exact ⟨rfl, (h.setNum k _ hk).same (Fr.drew _ _), (Fr.setCell _ _ _ (.inr (.inl rfl))).trans (Fr.drew _ _)⟩

set_option maxHeartbeats 400000 in
theorem add_what (b : MB) (M : Mach) (j : Nat) (y v : Int) (w : World) (h : IsM w b M) (hj : j < M.steps.length) (hy : y < 0 ∨ (M.used : Int) ≤ y) :
    Calls Try.prog 51 #[.pointer (some ⟨b.m, 0, none⟩), .int .i64 j, .int .i64 y, .int .i64 v] w fun e w' => e = .returned (.tuple #[.int .i64 0, .int .i64 10]) ∧ IsM w' b M ∧ Fr b.own w w' := by
  have h3 : IsM (addWorld b y v w) b M := h.same (addWorld_fr b y v w _)
  go_enter Try.func51, Try.ntmps51
  go_wp2_with fail
  refine (begin_what b M j y _ h3 hj hy).mono ?_
  rintro e w' ⟨rfl, rfl⟩
  go_wp2
  go_ret2
  exact ⟨rfl, h3, addWorld_fr b y v w _⟩

theorem add_no (b : MB) (M : Mach) (x y v : Int) (w : World) (h : IsM w b M) (hn : ¬ (0 ≤ x ∧ x < M.steps.length ∧ 0 ≤ y ∧ y < M.used)) :
    Calls Try.prog 51 #[.pointer (some ⟨b.m, 0, none⟩), .int .i64 x, .int .i64 y, .int .i64 v] w fun e w' => e = .returned (.tuple #[.int .i64 0, .int .i64 10]) ∧ IsM w' b M ∧ Fr b.own w w' := by
  by_cases hx : x < 0 ∨ (M.steps.length : Int) ≤ x
  · exact add_who b M x y v w h hx
  · obtain ⟨j, rfl⟩ := Int.eq_ofNat_of_zero_le (show 0 ≤ x by omega)
    exact add_what b M j y v w h (by omega) (by omega)

set_option maxHeartbeats 400000 in
theorem add_nil (x y v : Int) (w : World) :
    Calls Try.prog 51 #[.pointer none, .int .i64 x, .int .i64 y, .int .i64 v] w fun e w' => e = .returned (.tuple #[.int .i64 0, .int .i64 2]) ∧ Fr (fun _ => False) w w' := by
  go_enter Try.func51, Try.ntmps51
  go_wp2_with fail
  refine (begin_nil x y _ _).mono ?_
  rintro e w' ⟨rfl, rfl⟩
  go_wp2
  go_ret2
  exact ⟨rfl, ((Fr.alloc _ _ _).trans (Fr.alloc _ _ _)).trans (Fr.alloc _ _ _)⟩

set_option maxHeartbeats 400000 in
theorem add_ok (b : MB) (M : Mach) (j k : Nat) (v : Int) (w : World) (h : IsM w b M) (hj : j < M.steps.length) (hk : k < M.used) :
    Calls Try.prog 51 #[.pointer (some ⟨b.m, 0, none⟩), .int .i64 j, .int .i64 k, .int .i64 v] w fun e w' => e = .returned (.tuple #[.int .i64 (M.all.getD k 0), .int .i64 0]) ∧ IsM w' b ((M.step j).put k (wrap64 (M.all.getD k 0 + v))) ∧ Fr b.own w w' := by
  have h3 : IsM (addWorld b k v w) b M := h.same (addWorld_fr b k v w _)
  go_enter_defers Try.func51, Try.ntmps51
  go_wp2_with fail
  refine (begin_ok b M j k _ h3 hj hk).mono ?_
  rintro e w1 ⟨rfl, h1, hF⟩
  have hl := h.own_lt
  have b0 : Blk w1 w.heap.size #[.pointer (some ⟨b.m, 0, none⟩)] := (add_box0 b k v w).keep hF (fun hh => by have := hl _ hh; omega)
  have b1 : Blk w1 (w.heap.size + 1) #[.int .i64 k] := (add_box1 b k v w).keep hF (fun hh => by have := hl _ hh; omega)
  have b2 : Blk w1 (w.heap.size + 1 + 1) #[.int .i64 v] := (add_box2 b k v w).keep hF (fun hh => by have := hl _ hh; omega)
  clear hl
  have a0 := b0.cell (i := 0) rfl
  have a1 := b1.cell (i := 0) rfl
  have c0 : w1.cell? ⟨b.m, 0, none⟩ = some (.slice (some ⟨b.g, 0, none⟩) M.used M.all.length) := h1.c0
  obtain ⟨u, HV, cv⟩ : ∃ s, Hid (M.all.getD k 0 = s) ∧ w1.cell? ⟨b.g, k, none⟩ = some (.int .i64 s) := h1.cg' (Nat.lt_of_lt_of_le hk h.le)
  go_wp2_with fail
  go_quiet (fail)
  go_wp2_with fail
  refine leaves_cons (f := 56) (args := #[.pointer (some ⟨w.heap.size, 0, none⟩), .pointer (some ⟨w.heap.size + 1, 0, none⟩), .pointer (some ⟨w.heap.size + 1 + 1, 0, none⟩)]) (by simp) (by simp [go_sem]) ?_
  refine (add1_ok b (M.step j) k v _ _ _ _ _ (h1.same (Fr.drewN _ _ _)) hk (b0.drewN _) (b1.drewN _) (b2.drewN _)).mono ?_
  rintro e u' w2 ⟨rfl, rfl, h2, hF2⟩
  refine ⟨_, results_tmp2 Try.results51 _ _ _, ?_, ?_, ?_⟩
  · rw [← HV.out]
    rfl
  · exact h2
  · exact ((addWorld_fr b k v w _).trans hF).trans ((Fr.drewN _ _ _).trans hF2)
end Go.Proofs.Ytoajdknhllaoeaa
