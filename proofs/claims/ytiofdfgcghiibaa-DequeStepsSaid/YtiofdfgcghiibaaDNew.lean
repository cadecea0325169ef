/-
  A new deque of the program, as the document says.
-/
import Derived.Test.YtiofdfgcghiibaaBeg
namespace Go.Proofs.Ytiofdfgcghiibaa
open Go.RowKit
set_option linter.unusedVariables false

theorem Blk.same {w w' : World} {b : Nat} {c : Array Value} (h : Blk w b c) (f : Fr (fun _ => False) w w') : Blk w' b c := h.keep f id

set_option maxHeartbeats 400000 in
theorem dnew_nil (x y z : Int) (w : World) :
    Calls Try.prog 11 #[.pointer none, .int .i64 x, .int .i64 y, .int .i64 z] w fun e w' => e = .returned (.tuple #[.agg #[.int .i64 0, .int .i64 0], .int .i64 2]) ∧ Fr (fun _ => False) w w' := by
  go_enter Try.func11, Try.ntmps11
  go_wp2_with fail
  refine bodyPost_ret (v := .tuple #[.agg #[.int .i64 0, .int .i64 0], .int .i64 2]) ?hv rfl ?hp
  case hv => (simp [results, Try.results11, go_sem]; try rfl)
  case hp => exact ⟨rfl, Fr.alloc _ _ _⟩

set_option maxHeartbeats 400000 in
theorem dnew_log (b : MB) (x y z : Int) (w : World) (h : ¬ (0 ≤ y ∧ y ≤ z ∧ z ≤ 8)) :
    Calls Try.prog 11 #[.pointer (some ⟨b.m, 0, none⟩), .int .i64 x, .int .i64 y, .int .i64 z] w fun e w' => e = .returned (.tuple #[.agg #[.int .i64 0, .int .i64 0], .int .i64 10]) ∧ Fr (fun _ => False) w w' := by
  have H := hid h
  clear h
  have key : ∀ t1 t2 t3 : Bool, decide (y < 0) = t1 → decide (z < y) = t2 → decide (8 < z) = t3 → (t1 || t2 || t3) = true := by
    intro t1 t2 t3 h1 h2 h3
    subst h1 h2 h3
    have := H.out
    simp only [Bool.or_eq_true, decide_eq_true_eq]
    omega
  rcases ht1 : decide (y < 0) with _ | _
  · rcases ht2 : decide (z < y) with _ | _
    · have ht3 : decide (8 < z) = true := by
        rcases ht3 : decide (8 < z) with _ | _
        · exact absurd (key _ _ _ ht1 ht2 ht3) (by simp)
        · rfl
      clear key
      go_enter Try.func11, Try.ntmps11
      go_wp2_with fail
      refine bodyPost_ret (v := .tuple #[.agg #[.int .i64 0, .int .i64 0], .int .i64 10]) ?hv rfl ?hp
      case hv => (simp [results, Try.results11, go_sem]; try rfl)
      case hp => exact ⟨rfl, Fr.alloc _ _ _⟩
    · clear key
      go_enter Try.func11, Try.ntmps11
      go_wp2_with fail
      refine bodyPost_ret (v := .tuple #[.agg #[.int .i64 0, .int .i64 0], .int .i64 10]) ?hv rfl ?hp
      case hv => (simp [results, Try.results11, go_sem]; try rfl)
      case hp => exact ⟨rfl, Fr.alloc _ _ _⟩
  · clear key
    go_enter Try.func11, Try.ntmps11
    go_wp2_with fail
    refine bodyPost_ret (v := .tuple #[.agg #[.int .i64 0, .int .i64 0], .int .i64 10]) ?hv rfl ?hp
    case hv => (simp [results, Try.results11, go_sem]; try rfl)
    case hp => exact ⟨rfl, Fr.alloc _ _ _⟩

theorem alloc_ok' (b : MB) (M : Mach) (j n : Nat) (y : Int) (hy : y = n) (w : World) (h : IsM w b M) (hj : j < M.steps.length) (h1 : 1 ≤ n) (hn : M.used + n ≤ M.all.length) :
    Calls Try.prog 46 #[.pointer (some ⟨b.m, 0, none⟩), .int .i64 j, .int .i64 y] w fun e w' => e = .returned (.tuple #[.int .i64 M.used, .int .i64 0]) ∧ IsM w' b ((M.step j).give n) ∧ Fr b.own w w' := by
  subst hy
  exact alloc_ok b M j n w h hj h1 hn

set_option maxHeartbeats 800000 in
theorem dnew_full (b : MB) (M : Mach) (j : Nat) (x l m : Int) (w : World) (h : IsM w b M) (hxj : x = j) (hj : j < M.steps.length) (h0 : 0 ≤ l) (hlm : l ≤ m) (hm8 : m ≤ 8) (hn : (M.all.length : Int) - M.used < 3 + pow l) :
    Calls Try.prog 11 #[.pointer (some ⟨b.m, 0, none⟩), .int .i64 x, .int .i64 l, .int .i64 m] w fun e w' => e = .returned (.tuple #[.agg #[.int .i64 0, .int .i64 0], .int .i64 21]) ∧ IsM w' b M ∧ Fr b.own w w' := by
  obtain ⟨n, hn2, hp, n1, n2, hm⟩ := log_facts l (by omega)
  clear hm
  have HH := hid hn
  clear hn
  have t1 : decide (l < 0) = false := by simp; omega
  have t2 : decide (m < l) = false := by simp; omega
  have t4 : decide (8 < m) = false := by simp; omega
  have t3 : l ≤ 64 := by omega
  obtain ⟨k, rfl⟩ := Int.eq_ofNat_of_zero_le (show 0 ≤ n by omega)
  have HN := hid hn2
  clear hn2
  have HM := hid (h.same (Fr.alloc _ w (.cells #[.int .i64 0, .int .i64 0] 34)))
  have HL := hid h.own_lt
  clear h
  go_enter Try.func11, Try.ntmps11
  go_wp2_with fail
  subst hxj
  refine (alloc_full b M j (3 + k) _ HM.out hj (by omega) (by have := HH.out; rw [HN.out] at this; exact this)).mono ?_
  rintro e w1 ⟨rfl, h1, hF⟩
  have HR0 := hid ((Blk.new w #[.int .i64 0, .int .i64 0] 34).keep hF (fun hh => by have := HL.out _ hh; omega))
  have p0 : w1.cell? ⟨w.heap.size, 0, none⟩ = some (.int .i64 0) := HR0.out.cell rfl
  have p1 : w1.cell? ⟨w.heap.size, 1, none⟩ = some (.int .i64 0) := HR0.out.cell rfl
  have f0 := HR0.out.frozen 0
  have f1 := HR0.out.frozen 1
  go_wp2_with fail
  have hR9 := HR0.out.set2 (.int .i64 0) (.int .i64 0)
  have hF9 := fr_set2 w1 w.heap.size (.int .i64 0) (.int .i64 0)
  obtain ⟨w9, hw9⟩ : ∃ w9, w9 = ((w1.setCell ⟨w.heap.size, 0, none⟩ (.int .i64 0)).setCell ⟨w.heap.size, 1, none⟩ (.int .i64 0)) := ⟨_, rfl⟩
  rw [← hw9] at hR9 hF9 ⊢
  clear hw9 p0 p1
  have p0 : w9.cell? ⟨w.heap.size, 0, none⟩ = some (.int .i64 0) := hR9.cell rfl
  have p1 : w9.cell? ⟨w.heap.size, 1, none⟩ = some (.int .i64 0) := hR9.cell rfl
  refine bodyPost_ret (v := .tuple #[.agg #[.int .i64 0, .int .i64 0], .int .i64 21]) ?hv rfl ?hp
  case hv => (simp [results, Try.results11, go_sem, p0, p1]; try rfl)
  case hp =>
    exact ⟨rfl, h1.keep hF9 (fun i hi hh => by have := HL.out _ hi; omega), ((Fr.alloc b.own w _).trans hF).since hF9 (fun i hi hh => by omega)⟩

/-- The machine behind New. -/
def newM (M : Mach) (l : Int) : Mach := wrc (M.give (3 + pow l).toNat) 2 (Rg.word ⟨3, l⟩)

set_option maxRecDepth 100000 in
set_option maxHeartbeats 1000000 in
theorem dnew_ok (b : MB) (M : Mach) (s : List Int) (j : Nat) (x l m : Int) (w : World) (h : IsM w b (MO M s)) (hu : M.used = 0) (hxj : x = j) (hj : j < s.length) (h0 : 0 ≤ l) (hlm : l ≤ m) (hm8 : m ≤ 8) (hn : 3 + pow l ≤ (M.all.length : Int)) :
    Calls Try.prog 11 #[.pointer (some ⟨b.m, 0, none⟩), .int .i64 x, .int .i64 l, .int .i64 m] w fun e w' => e = .returned (.tuple #[.agg #[.int .i64 0, .int .i64 m], .int .i64 0]) ∧ IsM w' b (MO (newM M l) (stp (stp s j) j)) ∧ Fr b.own w w' := by
  obtain ⟨n, hn2, hp, n1, n2, hm⟩ := log_facts l (by omega)
  clear hm
  have t1 : decide (l < 0) = false := by simp; omega
  have t2 : decide (m < l) = false := by simp; omega
  have t4 : decide (8 < m) = false := by simp; omega
  have t3 : l ≤ 64 := by omega
  obtain ⟨k, rfl⟩ := Int.eq_ofNat_of_zero_le (show 0 ≤ n by omega)
  have HM := hid (h.same (Fr.alloc _ w (.cells #[.int .i64 0, .int .i64 0] 34)))
  have HL := hid h.own_lt
  have hA := hid (fun (u : World) (hu2 : IsM u b (MO M s)) => alloc_ok' b (MO M s) j (3 + k) (3 + k) (by omega) u hu2 hj (by omega) (by show M.used + (3 + k) ≤ M.all.length; omega))
  obtain ⟨wd, hwd⟩ : ∃ wd, Rg.word ⟨3, l⟩ = wd := ⟨_, rfl⟩
  have HW := hid (fun (u : World) => word_any 3 l u)
  have hlen := (h.le : M.used ≤ M.all.length)
  have HS := hid (fun (u : World) (hu2 : IsM u b (((MO M s).step j).give (3 + k))) => show Calls Try.prog 47 #[.pointer (some ⟨b.m, 0, none⟩), .int .i64 j, .int .i64 2, .int .i64 wd] u _ from store_ok b (((MO M s).step j).give (3 + k)) j 2 wd u hu2 (by simpa [Mach.step, Mach.give, MO] using hj) (by show 2 < M.used + (3 + k); omega))
  have HE := hid (show ((((MO M s).step j).give (3 + k)).step j).put 2 wd = MO (newM M l) (stp (stp s j) j) from by
    unfold newM
    rw [hwd, hn2]
    have : (3 + (k : Int)).toNat = 3 + k := by omega
    rw [this]
    rfl)
  rw [hwd] at HW
  obtain ⟨MA, hMA⟩ : ∃ MA, ((MO M s).step j).give (3 + k) = MA := ⟨_, rfl⟩
  rw [hMA] at hA HS HE
  have HU := hid (show ((MO M s).used : Int) = 0 from by show (M.used : Int) = 0; omega)
  have HX := hid hxj
  clear h hu hj hlen hn hn2 hwd hMA hxj
  go_enter Try.func11, Try.ntmps11
  go_wp2_with fail
  rw [HX.out]
  refine (hA.out _ HM.out).mono ?_
  rintro e w1 ⟨rfl, h1, hF⟩
  rw [HU.out]
  have HR0 := hid ((Blk.new w #[.int .i64 0, .int .i64 0] 34).keep hF (fun hh => by have := HL.out _ hh; omega))
  have HF := hid hF
  have HM1 := hid h1
  have HSZ := hid (show w.heap.size < w1.heap.size from HR0.out.lt)
  clear hF h1
  have hBd := hid (show ∀ (u : World), Fr (fun _ => False) ((w1.alloc (.cells #[.int .i64 0, .int .i64 m] 34)).alloc (.cells #[.int .i64 3, .int .i64 l] 97)) u → u.cell? ⟨w1.heap.size, 0, none⟩ = some (.int .i64 0) ∧ u.cell? ⟨w1.heap.size, 1, none⟩ = some (.int .i64 m) ∧ u.cell? ⟨w1.heap.size + 1, 0, none⟩ = some (.int .i64 3) ∧ u.cell? ⟨w1.heap.size + 1, 1, none⟩ = some (.int .i64 l) from
    fun u F => by
      have b1 := ((Blk.new w1 #[.int .i64 0, .int .i64 m] 34).alloc (.cells #[.int .i64 3, .int .i64 l] 97)).keep F id
      have b2 := (((Blk.new (w1.alloc (.cells #[.int .i64 0, .int .i64 m] 34)) #[.int .i64 3, .int .i64 l] 97).at (n := w1.heap.size + 1) (by simp)).keep F id)
      exact ⟨b1.cell rfl, b1.cell rfl, b2.cell rfl, b2.cell rfl⟩)
  have hBs := hid (show ∀ (u : World), Fr b.own ((w1.alloc (.cells #[.int .i64 0, .int .i64 m] 34)).alloc (.cells #[.int .i64 3, .int .i64 l] 97)) u → u.cell? ⟨w1.heap.size, 0, none⟩ = some (.int .i64 0) ∧ u.cell? ⟨w1.heap.size, 1, none⟩ = some (.int .i64 m) ∧ u.cell? ⟨w1.heap.size + 1, 0, none⟩ = some (.int .i64 3) ∧ u.cell? ⟨w1.heap.size + 1, 1, none⟩ = some (.int .i64 l) from
    fun u F => by
      have ho := HM1.out.own_lt
      have b1 := ((Blk.new w1 #[.int .i64 0, .int .i64 m] 34).alloc (.cells #[.int .i64 3, .int .i64 l] 97)).keep F (fun hh => by have := ho _ hh; omega)
      have b2 := (((Blk.new (w1.alloc (.cells #[.int .i64 0, .int .i64 m] 34)) #[.int .i64 3, .int .i64 l] 97).at (n := w1.heap.size + 1) (by simp)).keep F (fun hh => by have := ho _ hh; omega))
      exact ⟨b1.cell rfl, b1.cell rfl, b2.cell rfl, b2.cell rfl⟩)
  have HD := hid (fun (u : World) => word_is m u)
  have HL2 := hid (fun (u : World) (F : Fr (fun _ => False) ((w1.alloc (.cells #[.int .i64 0, .int .i64 m] 34)).alloc (.cells #[.int .i64 3, .int .i64 l] 97)) u) => HS.out u (HM1.out.same (((Fr.alloc _ _ _).trans (Fr.alloc _ _ _)).trans F)))
  have HFd := hid (Fr.refl (fun _ => False) ((w1.alloc (.cells #[.int .i64 0, .int .i64 m] 34)).alloc (.cells #[.int .i64 3, .int .i64 l] 97)))
  go_upto_region 10 with fail
  go_region_held3 (fun u => u.cell? ⟨w1.heap.size, 0, none⟩ = some (.int .i64 0) ∧ u.cell? ⟨w1.heap.size, 1, none⟩ = some (.int .i64 m) ∧ u.cell? ⟨w1.heap.size + 1, 0, none⟩ = some (.int .i64 3) ∧ u.cell? ⟨w1.heap.size + 1, 1, none⟩ = some (.int .i64 l))
    (first | exact hBs.out _ HG.out | exact hBd.out _ HFd.out | exact hBd.out _ (HFd.out.trans (Fr.drew _ _)))
    (first
      | (go_at_call 48; (with_reducible refine (HD.out _).mono ?_); rintro e w6 ⟨rfl, hF6⟩; have HFd := hid (HFd.out.trans (Fr.trans (by first | exact Fr.refl _ _ | exact Fr.drew _ _) hF6)); clear hF6)
      | (go_at_call 49; (with_reducible refine (HW.out _).mono ?_); rintro e w6 ⟨rfl, hF6⟩; have HFd := hid (HFd.out.trans (Fr.trans (by first | exact Fr.refl _ _ | exact Fr.drew _ _) hF6)); clear hF6)
      | (go_at_call 47; (with_reducible refine (HL2.out _ (by first | exact HFd.out | exact HFd.out.trans (Fr.drew _ _))).mono ?_); rintro e w7 ⟨rfl, hQ7, hF7⟩; have HQ7 := hid hQ7; have HG := hid ((HFd.out.mono (fun _ h => h.elim)).trans (Fr.trans (by first | exact Fr.refl _ _ | exact Fr.drew _ _) hF7)); clear hF7 hQ7))
  all_goals
    have hR7 := (HR0.out.same (((Fr.alloc (fun _ => False) _ _).trans (Fr.alloc _ _ _)))).keep HG.out (fun hh => by have := HL.out _ hh; omega)
    have p0 : w7.cell? ⟨w.heap.size, 0, none⟩ = some (.int .i64 0) := hR7.cell rfl
    have p1 : w7.cell? ⟨w.heap.size, 1, none⟩ = some (.int .i64 0) := hR7.cell rfl
    have f0 := hR7.frozen 0
    have f1 := hR7.frozen 1
    obtain ⟨k0, k1, _, _⟩ := hBs.out _ HG.out
    have HR7 := hid hR7
    clear hR7
    go_wp2_with fail
    have hR9 := HR7.out.set2 (.int .i64 0) (.int .i64 m)
    have hF9 := fr_set2 w7 w.heap.size (.int .i64 0) (.int .i64 m)
    obtain ⟨w9, hw9⟩ : ∃ w9, w9 = ((w7.setCell ⟨w.heap.size, 0, none⟩ (.int .i64 0)).setCell ⟨w.heap.size, 1, none⟩ (.int .i64 m)) := ⟨_, rfl⟩
    rw [← hw9] at hR9 hF9 ⊢
    clear hw9 p0 p1
    have p0 : w9.cell? ⟨w.heap.size, 0, none⟩ = some (.int .i64 0) := hR9.cell rfl
    have p1 : w9.cell? ⟨w.heap.size, 1, none⟩ = some (.int .i64 m) := hR9.cell rfl
    refine bodyPost_ret (v := .tuple #[.agg #[.int .i64 0, .int .i64 m], .int .i64 0]) ?hv rfl ?hp
    case hv => (simp [results, Try.results11, go_sem, p0, p1]; try rfl)
    case hp =>
      refine ⟨rfl, ?_, ?_⟩
      · rw [← HE.out]
        exact HQ7.out.keep hF9 (fun i hi hh => by have := HL.out _ hi; omega)
      · exact ((((Fr.alloc b.own w _).trans HF.out).trans ((Fr.alloc _ _ _).trans (Fr.alloc _ _ _))).trans HG.out).since hF9 (fun i hi hh => by omega)
end Go.Proofs.Ytiofdfgcghiibaa
