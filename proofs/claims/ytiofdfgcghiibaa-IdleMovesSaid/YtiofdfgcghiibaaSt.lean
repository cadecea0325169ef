/-
  A set in a cell: each call of it, where nothing is refused.
-/
import Derived.Test.YtiofdfgcghiibaaHas
import Derived.Test.YtiofdfgcghiibaaAdd
import Derived.Test.YtiofdfgcghiibaaReads
import Derived.Test.YtiofdfgcghiibaaCalls
import Derived.Test.YtiofdfgcghiibaaNew
import Derived.Deep.RegionHeld3
import Derived.Deep.DeepCutAuto
import Derived.Deep.DeepMust
namespace Go.Proofs.Ytiofdfgcghiibaa
open Go.RowKit
set_option linter.unusedVariables false

def mk (l : List Int) (u : Nat) (s : List Int) : Mach := ⟨l, u, s⟩
def stp (s : List Int) (j : Nat) : List Int := s.set j (wrap64 (s.getD j 0 + 1))
theorem stp_len (s : List Int) (j : Nat) : (stp s j).length = s.length := by simp [stp]

theorem new_mk (n k : Nat) (x y : Int) (hx : x = n) (hy : y = k) (w : World) (h1 : 1 ≤ n) (h2 : n ≤ 1048576) (h3 : 1 ≤ k) (h4 : k ≤ 16) :
    Calls Try.prog 10 #[.int .i64 x, .int .i64 y] w fun e w' => ∃ b : MB, e = .returned (.tuple #[.pointer (some ⟨b.m, 0, none⟩), .int .i64 0]) ∧ IsM w' b (mk (List.replicate n 0) 0 (List.replicate (k + 1) 0)) ∧ Fr (fun _ => False) w w' ∧ ∀ i, b.own i → w.heap.size ≤ i := by
  subst hx hy
  exact new_ok n k w h1 h2 h3 h4

set_option maxHeartbeats 400000 in
theorem inew_ok (b : MB) (M : Mach) (j : Nat) (w : World) (h : IsM w b M) (hj : j < M.steps.length) (hn : M.used + 1 ≤ M.all.length) :
    Calls Try.prog 39 #[.pointer (some ⟨b.m, 0, none⟩), .int .i64 j] w fun e w' => e = .returned (.tuple #[.agg #[.int .i64 M.used], .int .i64 0]) ∧ IsM w' b ((M.step j).give 1) ∧ Fr b.own w w' := by
  have HL := hid h.own_lt
  have HM := hid (h.same (Fr.alloc _ w (.cells #[.int .i64 0] 82)))
  have HA := hid (fun (u : World) (hu : IsM u b M) => alloc_ok b M j 1 u hu hj (by omega) hn)
  clear h hn
  go_enter Try.func39, Try.ntmps39
  go_wp2_with fail
  refine (HA.out _ HM.out).mono ?_
  rintro e w1 ⟨rfl, h1, hF⟩
  have HR := hid ((Blk.new w #[.int .i64 0] 82).keep hF (fun hh => by have := HL.out _ hh; omega))
  have p0 : w1.cell? ⟨w.heap.size, 0, none⟩ = some (.int .i64 0) := HR.out.cell rfl
  have f0 := HR.out.frozen 0
  go_wp2_with fail
  have hR9 := HR.out.set 0 (.int .i64 M.used)
  have hF9 := Fr.setCell (S := fun k => k = w.heap.size) w1 ⟨w.heap.size, 0, none⟩ (.int .i64 M.used) rfl
  obtain ⟨w9, hw9⟩ : ∃ w9, w9 = w1.setCell ⟨w.heap.size, 0, none⟩ (.int .i64 M.used) := ⟨_, rfl⟩
  rw [← hw9] at hR9 hF9 ⊢
  clear hw9 p0
  have p0 : w9.cell? ⟨w.heap.size, 0, none⟩ = some (.int .i64 M.used) := hR9.cell rfl
  refine bodyPost_ret (v := .tuple #[.agg #[.int .i64 M.used], .int .i64 0]) ?hv rfl ?hp
  case hv => (simp [results, Try.results39, go_sem, p0]; try rfl)
  case hp =>
    exact ⟨rfl, h1.keep hF9 (fun i hi hh => by have := HL.out _ hi; omega), ((Fr.alloc b.own w _).trans hF).since hF9 (fun i hi hh => by omega)⟩


set_option maxRecDepth 100000 in
set_option maxHeartbeats 1000000 in
theorem turn_ok (b : MB) (M : Mach) (a k : Nat) (t v : Int) (w : World) (h : IsM w b M) (hk : k < M.steps.length) (hk16 : k ≤ 16) (ha : a < M.used) (hv : wrap64 (t * 2 ^ k) = v) :
    Calls Try.prog 71 #[.agg #[.int .i64 a], .pointer (some ⟨b.m, 0, none⟩), .int .i64 k, .int .i64 t] w fun e w' => e = .returned (.int .i64 0) ∧ IsM w' b ((M.step k).put a (wrap64 (M.all.getD a 0 + v))) ∧ Fr b.own w w' := by
  have HL := hid h.own_lt
  have HB0 := hid (Blk.new w #[.int .i64 (a : Nat)] 82)
  have hF0 : Fr (fun _ => False) w (w.alloc (.cells #[.int .i64 (a : Nat)] 82)) := Fr.alloc _ _ _
  have HM0 := hid (h.same hF0)
  have hv2 : IntKind.i64.wrap (t * 2 ^ k) = v := by rw [IntWalk.i64_left, hv]
  have HA := hid (fun (u : World) (hu : IsM u b M) => add_ok b M k a v u hu hk ha)
  have t1 : ¬ (16 : Int) < (k : Int) := by omega
  clear h
  go_enter Try.func71, Try.ntmps71
  go_wp2_with fail
  go_upto_region 5 with fail
  obtain ⟨w1, hw1⟩ : ∃ w1, w.alloc (.cells #[.int .i64 (a : Nat)] 82) = w1 := ⟨_, rfl⟩
  rw [hw1] at HB0 HM0 hF0 ⊢
  clear hw1
  have HF0 := hid hF0
  have HFd := hid (Fr.refl (fun _ => False) w1)
  have HS := hid (show ∀ u, Fr b.own w1 u → u.cell? ⟨w.heap.size, 0, none⟩ = some (.int .i64 (a : Nat)) from fun u F => (HB0.out.keep F (fun hh => by have := HL.out _ hh; omega)).cell rfl)
  have HFw := hid (Fr.refl b.own w1)
  clear hF0
  go_region_held3 (fun u => u.cell? ⟨w.heap.size, 0, none⟩ = some (.int .i64 (a : Nat)))
    (first | exact HS.out _ HFw.out | exact HS.out _ (HFw.out.trans (Fr.drew _ _)))
    (first
      | (go_at_call 86; (with_reducible refine (HA.out _ (by first | exact HM0.out | exact HM0.out.same (Fr.drew _ _))).mono ?_); rintro e w6 ⟨rfl, hM6, hF6⟩; have HFw := hid (HFw.out.trans (Fr.trans (by first | exact Fr.refl _ _ | exact Fr.drew _ _) hF6)); have HM6 := hid hM6; clear hM6 hF6))
  all_goals
    go_wp2_with fail
    go_ret
    exact ⟨rfl, by first | exact HM6.out | exact HM6.out.same (Fr.drew _ _), ((HF0.out.mono (fun _ h => h.elim)).trans HFw.out).trans (by first | exact Fr.refl _ _ | exact Fr.drew _ _)⟩

set_option maxHeartbeats 400000 in
theorem ienter_ok (b : MB) (M : Mach) (a k : Nat) (v : Int) (w : World) (h : IsM w b M) (hk : k < M.steps.length) (hk16 : k ≤ 16) (ha : a < M.used) (hv : wrap64 (1 * 2 ^ k) = v) :
    Calls Try.prog 40 #[.agg #[.int .i64 a], .pointer (some ⟨b.m, 0, none⟩), .int .i64 k] w fun e w' => e = .returned (.int .i64 0) ∧ IsM w' b ((M.step k).put a (wrap64 (M.all.getD a 0 + v))) ∧ Fr b.own w w' := by
  go_enter Try.func40, Try.ntmps40
  go_wp2_with fail
  refine (turn_ok b M a k 1 v _ (h.same (Fr.alloc _ _ _)) hk hk16 ha hv).mono ?_
  rintro e w1 ⟨rfl, h1, hF⟩
  go_wp2_with fail
  go_ret
  exact ⟨rfl, h1, (Fr.alloc _ _ _).trans hF⟩

set_option maxHeartbeats 400000 in
theorem ileave_ok (b : MB) (M : Mach) (a k : Nat) (v : Int) (w : World) (h : IsM w b M) (hk : k < M.steps.length) (hk16 : k ≤ 16) (ha : a < M.used) (hv : wrap64 ((-1) * 2 ^ k) = v) :
    Calls Try.prog 41 #[.agg #[.int .i64 a], .pointer (some ⟨b.m, 0, none⟩), .int .i64 k] w fun e w' => e = .returned (.int .i64 0) ∧ IsM w' b ((M.step k).put a (wrap64 (M.all.getD a 0 + v))) ∧ Fr b.own w w' := by
  go_enter Try.func41, Try.ntmps41
  go_wp2_with fail
  refine (turn_ok b M a k (-1) v _ (h.same (Fr.alloc _ _ _)) hk hk16 ha hv).mono ?_
  rintro e w1 ⟨rfl, h1, hF⟩
  go_wp2_with fail
  go_ret
  exact ⟨rfl, h1, (Fr.alloc _ _ _).trans hF⟩

set_option maxHeartbeats 400000 in
theorem iread_ok (b : MB) (M : Mach) (j k : Nat) (w : World) (h : IsM w b M) (hj : j < M.steps.length) (hk : k < M.used) :
    Calls Try.prog 43 #[.agg #[.int .i64 k], .pointer (some ⟨b.m, 0, none⟩), .int .i64 j] w fun e w' => e = .returned (.tuple #[.int .i64 (M.all.getD k 0), .int .i64 0]) ∧ IsM w' b (M.step j) ∧ Fr b.own w w' := by
  go_enter Try.func43, Try.ntmps43
  go_wp2_with fail
  refine (load_ok b M j k _ (h.same (Fr.alloc _ _ _)) hj hk).mono ?_
  rintro e w1 ⟨rfl, h1, hF⟩
  go_wp2_with fail
  go_ret2
  exact ⟨rfl, h1, (Fr.alloc _ _ _).trans hF⟩

set_option maxHeartbeats 400000 in
theorem ipeek_ok (b : MB) (M : Mach) (k : Nat) (w : World) (h : IsM w b M) (hk : k < M.used) :
    Calls Try.prog 42 #[.agg #[.int .i64 k], .pointer (some ⟨b.m, 0, none⟩)] w fun e w' => e = .returned (.int .i64 (M.all.getD k 0)) ∧ Fr (fun _ => False) w w' := by
  go_enter Try.func42, Try.ntmps42
  go_wp2_with fail
  refine (peek_in b M k _ (h.same (Fr.alloc _ _ _)) hk).mono ?_
  rintro e w1 ⟨rfl, rfl⟩
  go_wp2_with fail
  go_ret
  exact ⟨rfl, Fr.alloc _ _ _⟩

/-! ### Machines as lists -/

theorem inew_mk (b : MB) (l : List Int) (u : Nat) (s : List Int) (j : Nat) (x v : Int) (w : World) (h : IsM w b (mk l u s)) (hx : x = j) (hv : v = u) (hj : j < s.length) (hn : u + 1 ≤ l.length) :
    Calls Try.prog 39 #[.pointer (some ⟨b.m, 0, none⟩), .int .i64 x] w fun e w' => e = .returned (.tuple #[.agg #[.int .i64 v], .int .i64 0]) ∧ IsM w' b (mk l (u + 1) (stp s j)) ∧ Fr b.own w w' := by
  subst hx hv
  exact inew_ok b (mk l u s) j w h hj hn

theorem ienter_mk (b : MB) (l : List Int) (u : Nat) (s : List Int) (a k : Nat) (x y v z : Int) (w : World) (h : IsM w b (mk l u s)) (hx : x = k) (hy : y = a) (hk : k < s.length) (hk16 : k ≤ 16) (ha : a < u) (hv : wrap64 (1 * 2 ^ k) = v) (hz : wrap64 (l.getD a 0 + v) = z) :
    Calls Try.prog 40 #[.agg #[.int .i64 y], .pointer (some ⟨b.m, 0, none⟩), .int .i64 x] w fun e w' => e = .returned (.int .i64 0) ∧ IsM w' b (mk (l.set a z) u (stp s k)) ∧ Fr b.own w w' := by
  subst hx hy hz
  exact ienter_ok b (mk l u s) a k v w h hk hk16 ha hv

theorem ileave_mk (b : MB) (l : List Int) (u : Nat) (s : List Int) (a k : Nat) (x y v z : Int) (w : World) (h : IsM w b (mk l u s)) (hx : x = k) (hy : y = a) (hk : k < s.length) (hk16 : k ≤ 16) (ha : a < u) (hv : wrap64 ((-1) * 2 ^ k) = v) (hz : wrap64 (l.getD a 0 + v) = z) :
    Calls Try.prog 41 #[.agg #[.int .i64 y], .pointer (some ⟨b.m, 0, none⟩), .int .i64 x] w fun e w' => e = .returned (.int .i64 0) ∧ IsM w' b (mk (l.set a z) u (stp s k)) ∧ Fr b.own w w' := by
  subst hx hy hz
  exact ileave_ok b (mk l u s) a k v w h hk hk16 ha hv

theorem iread_mk (b : MB) (l : List Int) (u : Nat) (s : List Int) (j k : Nat) (x y v : Int) (w : World) (h : IsM w b (mk l u s)) (hx : x = j) (hy : y = k) (hj : j < s.length) (hk : k < u) (hv : l.getD k 0 = v) :
    Calls Try.prog 43 #[.agg #[.int .i64 y], .pointer (some ⟨b.m, 0, none⟩), .int .i64 x] w fun e w' => e = .returned (.tuple #[.int .i64 v, .int .i64 0]) ∧ IsM w' b (mk l u (stp s j)) ∧ Fr b.own w w' := by
  subst hx hy hv
  exact iread_ok b (mk l u s) j k w h hj hk

theorem ipeek_mk (b : MB) (l : List Int) (u : Nat) (s : List Int) (k : Nat) (y v : Int) (w : World) (h : IsM w b (mk l u s)) (hy : y = k) (hk : k < u) (hv : l.getD k 0 = v) :
    Calls Try.prog 42 #[.agg #[.int .i64 y], .pointer (some ⟨b.m, 0, none⟩)] w fun e w' => e = .returned (.int .i64 v) ∧ Fr (fun _ => False) w w' := by
  subst hy hv
  exact ipeek_ok b (mk l u s) k w h hk
end Go.Proofs.Ytiofdfgcghiibaa
