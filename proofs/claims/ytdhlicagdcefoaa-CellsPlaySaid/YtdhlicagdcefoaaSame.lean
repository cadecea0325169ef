/-
  Whether two rows of numbers, and two machines, are the same.
-/
import Derived.Test.YtdhlicagdcefoaaBase
import Derived.Deep.LoopGhost
import Derived.Deep.DeepCutAuto
import Derived.Deep.QuietTactic
import Derived.BigQuiet
namespace Go.Proofs.Ytdhlicagdcefoaa
open Go.RowKit

/-- Whether two rows of numbers are the same. -/
def eqB (n1 n2 : Nat) (g1 g2 : Nat → Int) : Bool := decide (n1 = n2 ∧ ∀ i, i < n1 → g1 i = g2 i)

def EqRel (w : World) (n : Nat) (g1 g2 : Nat → Int) (d : Nat) (i : Value) (wr : World) : Prop :=
  ∃ k m : Nat, k ≤ n ∧ d = n - k ∧ i = .int .i64 k ∧ wr = w.drewN m ∧ ∀ i, i < k → g1 i = g2 i

set_option maxHeartbeats 400000 in
theorem equal64_ne (b1 b2 n1 n2 c1 c2 : Nat) (w : World) (hne : n1 ≠ n2) :
    Calls Try.prog 42 #[.slice (some ⟨b1, 0, none⟩) n1 c1, .slice (some ⟨b2, 0, none⟩) n2 c2] w fun e w' => e = .returned (.bool false) ∧ ∃ m, w' = w.drewN m := by
  have t1 : (n1 != n2) = true := by simpa using hne
  have t2 : ((n1 : Int) != (n2 : Int)) = true := by simp; omega
  go_enter Try.func42, Try.ntmps42
  go_wp2_with fail
  go_ret
  exact ⟨rfl, 0, rfl⟩

set_option maxHeartbeats 400000 in
theorem equal64_any (b1 b2 n1 n2 c1 c2 : Nat) (g1 g2 : Nat → Int) (w : World) (hb : n1 ≤ 1048576) (h1 : ∀ i, i < n1 → w.cell? ⟨b1, i, none⟩ = some (.int .i64 (g1 i))) (h2 : ∀ i, i < n2 → w.cell? ⟨b2, i, none⟩ = some (.int .i64 (g2 i))) :
    Calls Try.prog 42 #[.slice (some ⟨b1, 0, none⟩) n1 c1, .slice (some ⟨b2, 0, none⟩) n2 c2] w fun e w' => e = .returned (.bool (eqB n1 n2 g1 g2)) ∧ ∃ m, w' = w.drewN m := by
  by_cases hne : n1 = n2
  · subst hne
    have H1 := hid h1
    have H2 := hid h2
    clear h1 h2
    obtain ⟨r, hr⟩ : ∃ r, eqB n1 n1 g1 g2 = r := ⟨_, rfl⟩
    rw [hr]
    have HR := hid hr
    clear hr
    go_enter Try.func42, Try.ntmps42
    go_wp2_with fail
    go_loopg [13] n1 (fun d i wr => EqRel w n1 g1 g2 d i wr)
    case atStart => exact ⟨0, 0, by omega, rfl, rfl, rfl, fun i hi => by omega⟩
    case round =>
      obtain ⟨k, m, hk, rfl, rfl, rfl, hall⟩ := hrel
      have HA := hid hall
      clear hall
      by_cases hlt : k < n1
      · have ca := H1.out k hlt
        have cb := H2.out k hlt
        obtain ⟨x, hx⟩ : ∃ x, g1 k = x := ⟨_, rfl⟩
        obtain ⟨y, hy⟩ : ∃ y, g2 k = y := ⟨_, rfl⟩
        rw [hx] at ca
        rw [hy] at cb
        have HX := hid hx
        have HY := hid hy
        clear hx hy
        by_cases hxy : x = y
        · subst hxy
          go_wp2_with fail
          go_quiet (fail)
          go_wp2_with fail
          go_roundg (n1 - (k + 1))
          case measure => omega
          case rel =>
            refine ⟨k + 1, _, by omega, rfl, by go_num, rfl, fun i hi => ?_⟩
            by_cases hik : i = k
            · subst hik
              rw [HX.out, HY.out]
            · exact HA.out i (by omega)
        · have txy : (x != y) = true := by simpa using hxy
          have er : r = false := by
            rw [← HR.out]
            simp only [eqB, true_and, decide_eq_false_iff_not]
            intro hh
            exact hxy (by rw [← HX.out, ← HY.out]; exact hh k hlt)
          subst er
          go_wp2_with fail
          go_quiet (fail)
          go_wp2_with fail
          go_ret
          exact ⟨rfl, _, World.drewN_drewN ..⟩
      · have er : r = true := by
          rw [← HR.out]
          simp only [eqB, true_and, decide_eq_true_eq]
          intro i hi
          exact HA.out i (by omega)
        subst er
        go_wp2_with fail
        go_ret
        exact ⟨rfl, _, rfl⟩
  · have er : eqB n1 n2 g1 g2 = false := by simp [eqB, hne]
    rw [er]
    exact equal64_ne b1 b2 n1 n2 c1 c2 w hne

set_option maxHeartbeats 400000 in
theorem equalInt_ne (b1 b2 n1 n2 c1 c2 : Nat) (w : World) (hne : n1 ≠ n2) :
    Calls Try.prog 43 #[.slice (some ⟨b1, 0, none⟩) n1 c1, .slice (some ⟨b2, 0, none⟩) n2 c2] w fun e w' => e = .returned (.bool false) ∧ ∃ m, w' = w.drewN m := by
  have t1 : (n1 != n2) = true := by simpa using hne
  have t2 : ((n1 : Int) != (n2 : Int)) = true := by simp; omega
  go_enter Try.func43, Try.ntmps43
  go_wp2_with fail
  go_ret
  exact ⟨rfl, 0, rfl⟩

set_option maxHeartbeats 400000 in
theorem equalInt_any (b1 b2 n1 n2 c1 c2 : Nat) (g1 g2 : Nat → Int) (w : World) (hb : n1 ≤ 1048576) (h1 : ∀ i, i < n1 → w.cell? ⟨b1, i, none⟩ = some (.int .i64 (g1 i))) (h2 : ∀ i, i < n2 → w.cell? ⟨b2, i, none⟩ = some (.int .i64 (g2 i))) :
    Calls Try.prog 43 #[.slice (some ⟨b1, 0, none⟩) n1 c1, .slice (some ⟨b2, 0, none⟩) n2 c2] w fun e w' => e = .returned (.bool (eqB n1 n2 g1 g2)) ∧ ∃ m, w' = w.drewN m := by
  by_cases hne : n1 = n2
  · subst hne
    have H1 := hid h1
    have H2 := hid h2
    clear h1 h2
    obtain ⟨r, hr⟩ : ∃ r, eqB n1 n1 g1 g2 = r := ⟨_, rfl⟩
    rw [hr]
    have HR := hid hr
    clear hr
    go_enter Try.func43, Try.ntmps43
    go_wp2_with fail
    go_loopg [13] n1 (fun d i wr => EqRel w n1 g1 g2 d i wr)
    case atStart => exact ⟨0, 0, by omega, rfl, rfl, rfl, fun i hi => by omega⟩
    case round =>
      obtain ⟨k, m, hk, rfl, rfl, rfl, hall⟩ := hrel
      have HA := hid hall
      clear hall
      by_cases hlt : k < n1
      · have ca := H1.out k hlt
        have cb := H2.out k hlt
        obtain ⟨x, hx⟩ : ∃ x, g1 k = x := ⟨_, rfl⟩
        obtain ⟨y, hy⟩ : ∃ y, g2 k = y := ⟨_, rfl⟩
        rw [hx] at ca
        rw [hy] at cb
        have HX := hid hx
        have HY := hid hy
        clear hx hy
        by_cases hxy : x = y
        · subst hxy
          go_wp2_with fail
          go_quiet (fail)
          go_wp2_with fail
          go_roundg (n1 - (k + 1))
          case measure => omega
          case rel =>
            refine ⟨k + 1, _, by omega, rfl, by go_num, rfl, fun i hi => ?_⟩
            by_cases hik : i = k
            · subst hik
              rw [HX.out, HY.out]
            · exact HA.out i (by omega)
        · have txy : (x != y) = true := by simpa using hxy
          have er : r = false := by
            rw [← HR.out]
            simp only [eqB, true_and, decide_eq_false_iff_not]
            intro hh
            exact hxy (by rw [← HX.out, ← HY.out]; exact hh k hlt)
          subst er
          go_wp2_with fail
          go_quiet (fail)
          go_wp2_with fail
          go_ret
          exact ⟨rfl, _, World.drewN_drewN ..⟩
      · have er : r = true := by
          rw [← HR.out]
          simp only [eqB, true_and, decide_eq_true_eq]
          intro i hi
          exact HA.out i (by omega)
        subst er
        go_wp2_with fail
        go_ret
        exact ⟨rfl, _, rfl⟩
  · have er : eqB n1 n2 g1 g2 = false := by simp [eqB, hne]
    rw [er]
    exact equalInt_ne b1 b2 n1 n2 c1 c2 w hne

/-- Whether two machines are the same. -/
def sameB (M N : Mach) : Bool :=
  decide (M.all.length = N.all.length) && (eqB M.used N.used (fun i => M.all.getD i 0) (fun i => N.all.getD i 0) && eqB M.steps.length N.steps.length (fun i => M.steps.getD i 0) (fun i => N.steps.getD i 0))

set_option maxHeartbeats 400000 in
theorem same_nils (w : World) : Calls Try.prog 29 #[.pointer none, .pointer none] w fun e w' => e = .returned (.bool true) ∧ w = w' := by
  go_enter Try.func29, Try.ntmps29
  go_wp2
  go_ret
  exact ⟨rfl, rfl⟩

set_option maxHeartbeats 400000 in
theorem same_nil1 (a : Addr) (w : World) : Calls Try.prog 29 #[.pointer none, .pointer (some a)] w fun e w' => e = .returned (.bool false) ∧ w = w' := by
  go_enter Try.func29, Try.ntmps29
  go_wp2
  go_ret
  exact ⟨rfl, rfl⟩

set_option maxHeartbeats 400000 in
theorem same_nil2 (a : Addr) (w : World) : Calls Try.prog 29 #[.pointer (some a), .pointer none] w fun e w' => e = .returned (.bool false) ∧ w = w' := by
  go_enter Try.func29, Try.ntmps29
  go_wp2
  go_ret
  exact ⟨rfl, rfl⟩

set_option maxHeartbeats 1000000 in
theorem same_any (b1 b2 : MB) (M N : Mach) (w : World) (h1 : IsM w b1 M) (h2 : IsM w b2 N) :
    Calls Try.prog 29 #[.pointer (some ⟨b1.m, 0, none⟩), .pointer (some ⟨b2.m, 0, none⟩)] w fun e w' => e = .returned (.bool (sameB M N)) ∧ ∃ m, w' = w.drewN m := by
  have a0 := h1.c0
  have a1 := h1.c1
  have a2 := h1.c2
  have d0 := h2.c0
  have d1 := h2.c1
  have d2 := h2.c2
  have hc1 := fun W => equal64_any b1.g b2.g M.used N.used M.all.length N.all.length (fun i => M.all.getD i 0) (fun i => N.all.getD i 0) W (Nat.le_trans h1.le h1.small)
  have hc2 := fun W => equalInt_any b1.s b2.s M.steps.length N.steps.length b1.cap b2.cap (fun i => M.steps.getD i 0) (fun i => N.steps.getD i 0) W (by have := h1.few; omega)
  have p1 : ∀ n, ∀ i, i < M.used → (w.drewN n).cell? ⟨b1.g, i, none⟩ = some (.int .i64 ((fun i => M.all.getD i 0) i)) := fun n i hi => h1.cg (Nat.lt_of_lt_of_le hi h1.le)
  have p2 : ∀ n, ∀ i, i < N.used → (w.drewN n).cell? ⟨b2.g, i, none⟩ = some (.int .i64 ((fun i => N.all.getD i 0) i)) := fun n i hi => h2.cg (Nat.lt_of_lt_of_le hi h2.le)
  have p3 : ∀ n, ∀ i, i < M.steps.length → (w.drewN n).cell? ⟨b1.s, i, none⟩ = some (.int .i64 ((fun i => M.steps.getD i 0) i)) := fun n i hi => h1.cs hi
  have p4 : ∀ n, ∀ i, i < N.steps.length → (w.drewN n).cell? ⟨b2.s, i, none⟩ = some (.int .i64 ((fun i => N.steps.getD i 0) i)) := fun n i hi => h2.cs hi
  have q1 := fun n => hc1 (w.drewN n) (p1 n) (p2 n)
  have q2 := fun n => hc2 (w.drewN n) (p3 n) (p4 n)
  clear hc1 hc2 p1 p2 p3 p4
  unfold sameB
  obtain ⟨r1, hr1⟩ : ∃ r, eqB M.used N.used (fun i => M.all.getD i 0) (fun i => N.all.getD i 0) = r := ⟨_, rfl⟩
  obtain ⟨r2, hr2⟩ : ∃ r, eqB M.steps.length N.steps.length (fun i => M.steps.getD i 0) (fun i => N.steps.getD i 0) = r := ⟨_, rfl⟩
  rw [hr1] at q1 ⊢
  rw [hr2] at q2 ⊢
  clear hr1 hr2
  have Q1 := hid q1
  have Q2 := hid q2
  clear q1 q2 h1 h2
  obtain ⟨g1, hg1⟩ : ∃ g, M.all.length = g := ⟨_, rfl⟩
  obtain ⟨g2, hg2⟩ : ∃ g, N.all.length = g := ⟨_, rfl⟩
  rw [hg1] at a0 a1 ⊢
  rw [hg2] at d0 d1 ⊢
  simp only [hg1, hg2] at Q1
  clear hg1 hg2
  by_cases he : g1 = g2
  · subst he
    have e0 : decide (g1 = g1) = true := by simp
    rw [e0]
    clear e0
    cases r1
    · go_enter Try.func29, Try.ntmps29
      go_wp2_with fail
      go_quiet ((go_at_call 42; exact Calls.quiet_of (Q1.out _)))
      go_wp2_with fail
      go_ret
      exact ⟨rfl, _, rfl⟩
    · go_enter Try.func29, Try.ntmps29
      go_wp2_with fail
      go_quiet ((first | (go_at_call 42; exact Calls.quiet_of (Q1.out _)) | (go_at_call 43; exact Calls.quiet_of (Q2.out _))))
      go_wp2_with fail
      go_ret
      exact ⟨by simp, _, rfl⟩
  · have e0 : decide (g1 = g2) = false := by simpa using he
    have e1 : (g1 == g2) = false := by simpa using he
    rw [e0]
    have e2 : ((g1 : Int) == (g2 : Int)) = false := by simp; omega
    clear e0 he
    go_enter Try.func29, Try.ntmps29
    go_wp2_with fail
    go_quiet (fail)
    go_wp2_with fail
    go_ret
    exact ⟨rfl, _, rfl⟩
end Go.Proofs.Ytdhlicagdcefoaa
