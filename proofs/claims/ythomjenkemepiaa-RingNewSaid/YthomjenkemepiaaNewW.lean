/-
  RingNew answers true at any size, any Asks.
-/
import Derived.Test.YthomjenkemepiaaAwake
import Derived.Test.YthomjenkemepiaaRef
import Derived.Test.YthomjenkemepiaaOpen
import Derived.Deep.RegionHeld3
import Derived.Deep.DeepCutAuto
import Derived.Deep.LoopGhost
namespace Go.Proofs.Ythomjenkemepiaa
open Go.RowKit
set_option linter.unusedVariables false

theorem wrap_i64' (n : Int) (h0 : -9223372036854775808 ≤ n) (h1 : n ≤ 9223372036854775807) : IntKind.i64.wrap n = n := by
  have e : IntKind.i64.wrap n = (n + 9223372036854775808) % 18446744073709551616 - 9223372036854775808 := by
    simp only [IntKind.wrap, IntKind.bits, IntKind.signed]
    simp
    split <;> omega
  omega

theorem Row.at_two {w wr : World} {a : Option Addr} {len i : Nat} {f : Nat → Nat → Int} (h : Row w a len 2 f) (hi : i < len) (hf : Fr (fun _ => False) w wr) :
    ∃ b off, a = some ⟨b, off, none⟩ ∧ (∀ v, Fr (fun _ => False) w v → v.cell? ⟨b, off + i * 2, none⟩ = some (.int .i64 (f i 0)) ∧ v.cell? ⟨b, off + i * 2 + 1, none⟩ = some (.int .i64 (f i 1))) := by
  obtain ⟨b, off, ha, hb, hc⟩ := h (by omega)
  have key : ∀ v, Fr (fun _ => False) w v → ∀ j, j < 2 → v.cell? ⟨b, off + i * 2 + j, none⟩ = some (.int .i64 (f i j)) := by
    intro v hf j hj
    have := (hc i j hi hj).1
    rw [← Nat.add_assoc] at this
    rw [← this]
    exact World.cell?_of_block (w := w) (hf.block b hb id)
  exact ⟨b, off, ha, fun v hf => ⟨key v hf 0 (by omega), key v hf 1 (by omega)⟩⟩

/-- The four callers' steps. -/
structure Four (s : List Int) (did : Nat) : Prop where
  eq : ∃ a b c d : Nat, s = [(a : Int), b, c, d] ∧ a + b + c + d = did

theorem Four.step {s : List Int} {did : Nat} (h : Four s did) (hd : did ≤ 1000) {j : Nat} (hj : j < 4) : Four (s.set j (wrap64 (s.getD j 0 + 1))) (did + 1) := by
  obtain ⟨a, b, c, d, rfl, he⟩ := h.eq
  have key : ∀ n : Nat, n ≤ 1000 → wrap64 ((n : Int) + 1) = ((n + 1 : Nat) : Int) := by
    intro n hn
    unfold wrap64
    omega
  match j, hj with
  | 0, _ => exact ⟨⟨a + 1, b, c, d, by simp [key a (by omega)], by omega⟩⟩
  | 1, _ => exact ⟨⟨a, b + 1, c, d, by simp [key b (by omega)], by omega⟩⟩
  | 2, _ => exact ⟨⟨a, b, c + 1, d, by simp [key c (by omega)], by omega⟩⟩
  | 3, _ => exact ⟨⟨a, b, c, d + 1, by simp [key d (by omega)], by omega⟩⟩

def NewRel (w : World) (b : MB) (n len : Nat) (d : Nat) (x y z : Value) (wr : World) : Prop :=
  ∃ (q : Nat) (M : Mach) (did : Nat), q ≤ len ∧ d = len - q ∧ x = .int .i64 M.used ∧ y = .int .i64 did ∧ z = .int .i64 q ∧ IsM wr b M ∧ M.all.length = n ∧ Four M.steps did ∧ did ≤ q ∧ Fr (fun _ => False) w wr

set_option maxHeartbeats 400000 in
theorem new_no_a (s : Int) (A : Option Addr) (len cap : Nat) (w : World) (h : s < 1) :
    Calls Try.prog 6 #[.int .i64 s, .slice A len cap] w fun e w' => e = .returned (.bool true) ∧ Below w.heap.size w w' := by
  go_enter Try.func6, Try.ntmps6
  go_wp2_with fail
  refine (awake_ok _).mono ?_
  rintro e w9 ⟨rfl, hF9⟩
  go_wp2_with fail
  go_ret
  exact ⟨rfl, ((Fr.refl (fun _ => False) w).trans hF9).below (Nat.le_refl _) (fun _ hh => hh.elim)⟩

set_option maxHeartbeats 400000 in
theorem new_no_b (s : Int) (A : Option Addr) (len cap : Nat) (w : World) (h : 2000 < s) :
    Calls Try.prog 6 #[.int .i64 s, .slice A len cap] w fun e w' => e = .returned (.bool true) ∧ Below w.heap.size w w' := by
  have t1 : decide (s < 1) = false := by simp; omega
  go_enter Try.func6, Try.ntmps6
  go_wp2_with fail
  refine (awake_ok _).mono ?_
  rintro e w9 ⟨rfl, hF9⟩
  go_wp2_with fail
  go_ret
  exact ⟨rfl, ((Fr.refl (fun _ => False) w).trans hF9).below (Nat.le_refl _) (fun _ hh => hh.elim)⟩

set_option maxHeartbeats 400000 in
theorem new_no_c (s : Int) (A : Option Addr) (len cap : Nat) (w : World) (h : 100 < len) (h1 : 1 ≤ s) (h2 : s ≤ 2000) :
    Calls Try.prog 6 #[.int .i64 s, .slice A len cap] w fun e w' => e = .returned (.bool true) ∧ Below w.heap.size w w' := by
  have t1 : decide (s < 1) = false := by simp; omega
  have t2 : decide (2000 < s) = false := by simp; omega
  have t3 : (100 : Int) < len := by omega
  go_enter Try.func6, Try.ntmps6
  go_wp2_with fail
  refine (awake_ok _).mono ?_
  rintro e w9 ⟨rfl, hF9⟩
  go_wp2_with fail
  go_ret
  exact ⟨rfl, ((Fr.refl (fun _ => False) w).trans hF9).below (Nat.le_refl _) (fun _ hh => hh.elim)⟩

/-- What a New answers, and what machine is behind it. -/
def NewCase (O L : Int) (n : Nat) (M : Mach) (u v er : Int) (M2 : Mach) : Prop :=
  (u = 0 ∧ v = 0 ∧ er = 10 ∧ M2 = M ∧ (L < 0 ∨ 8 < L)) ∨ (u = 0 ∧ v = 0 ∧ er = 10 ∧ M2 = M ∧ 0 ≤ L ∧ L ≤ 8 ∧ O < 0) ∨ (u = 0 ∧ v = 0 ∧ er = 10 ∧ M2 = M ∧ 0 ≤ L ∧ L ≤ 8 ∧ 3 < O)
    ∨ (u = 0 ∧ v = 0 ∧ er = 21 ∧ M2 = M ∧ 0 ≤ L ∧ L ≤ 8 ∧ 0 ≤ O ∧ O ≤ 3 ∧ (n : Int) - M.used < pow L)
    ∨ (u = M.used ∧ v = L ∧ er = 0 ∧ M2 = (M.step O.toNat).give (pow L).toNat ∧ 0 ≤ L ∧ L ≤ 8 ∧ 0 ≤ O ∧ O ≤ 3 ∧ (M.used : Int) + pow L ≤ n)

def NewPostR (b : MB) (u v er : Int) (M2 : Mach) (w : World) (e : Ending) (w' : World) : Prop :=
  e = .returned (.tuple #[.agg #[.int .i64 u, .int .i64 v], .int .i64 er]) ∧ IsM w' b M2 ∧ Fr b.own w w'

theorem new_five (b : MB) (M : Mach) (n : Nat) (O L : Int) (wr : World) (hM : IsM wr b M) (hn : M.all.length = n) (h4 : M.steps.length = 4) :
    ∃ u v er M2, (∀ w, Fr (fun _ => False) wr w → Calls Try.prog 20 #[.pointer (some ⟨b.m, 0, none⟩), .int .i64 O, .int .i64 L] w (NewPostR b u v er M2 w)) ∧ NewCase O L n M u v er M2 := by
  by_cases hlog : L < 0 ∨ 8 < L
  · exact ⟨0, 0, 10, M, fun w F => (rnew_log b O L w hlog).mono fun e w' h => ⟨h.1, (hM.same F).same h.2, h.2.mono (fun _ h => h.elim)⟩, .inl ⟨rfl, rfl, rfl, rfl, hlog⟩⟩
  have hl0 : 0 ≤ L := by omega
  have hl8 : L ≤ 8 := by omega
  by_cases ho : O < 0
  · exact ⟨0, 0, 10, M, fun w F => (rnew_who b M O L w (hM.same F) (by omega) hl0 hl8).mono fun e w' h => ⟨h.1, (hM.same F).same h.2, h.2.mono (fun _ h => h.elim)⟩, .inr (.inl ⟨rfl, rfl, rfl, rfl, hl0, hl8, ho⟩)⟩
  by_cases ho3 : 3 < O
  · exact ⟨0, 0, 10, M, fun w F => (rnew_who b M O L w (hM.same F) (by omega) hl0 hl8).mono fun e w' h => ⟨h.1, (hM.same F).same h.2, h.2.mono (fun _ h => h.elim)⟩, .inr (.inr (.inl ⟨rfl, rfl, rfl, rfl, hl0, hl8, ho3⟩))⟩
  obtain ⟨j, hj⟩ := Int.eq_ofNat_of_zero_le (show 0 ≤ O by omega)
  by_cases hf : (n : Int) - M.used < pow L
  · exact ⟨0, 0, 21, M, fun w F => (rnew_full b M j O L w (hM.same F) hj (by omega) hl0 hl8 (by rw [hn]; exact hf)).mono fun e w' h => h, .inr (.inr (.inr (.inl ⟨rfl, rfl, rfl, rfl, hl0, hl8, by omega, by omega, hf⟩)))⟩
  · refine ⟨M.used, L, 0, (M.step O.toNat).give (pow L).toNat, fun w F => ?_, .inr (.inr (.inr (.inr ⟨rfl, rfl, rfl, rfl, hl0, hl8, by omega, by omega, by omega⟩)))⟩
    have e : O.toNat = j := by omega
    rw [e]
    exact (rnew_ok b M j O L w (hM.same F) hj (by omega) hl0 hl8 (by rw [hn]; omega)).mono fun e w' h => h

theorem blkF {S : Nat → Prop} {W w' : World} {c : Array Value} {t : TypeId} (h : Fr S (W.alloc (.cells c t)) w') (hn : ¬ S W.heap.size) : Blk w' W.heap.size c := (Blk.new W c t).keep h hn
theorem blkF' {S : Nat → Prop} {W w' : World} {c : Array Value} {t : TypeId} (h : Fr S (W.alloc (.cells c t)).drew w') (hn : ¬ S W.heap.size) : Blk w' W.heap.size c := (Blk.new W c t).drew.keep h hn

/-- The ring that a New answered, in a block of its own. -/
def CameN (b : MB) (M2 : Mach) (u v er : Int) (w wr : World) (x y : Value) (wx : World) : Prop :=
  ∃ g, x = .pointer (some ⟨g, 0, none⟩) ∧ y = .int .i64 er ∧ Blk wx g #[.int .i64 u, .int .i64 v] ∧ wr.heap.size ≤ g ∧ ¬ b.own g ∧ IsM wx b M2 ∧ Fr (fun _ => False) w wx

theorem came_last {b : MB} {M2 : Mach} {u v er : Int} {w wr w6 : World} (HG : Fr (fun _ => False) w w6) (HM : IsM w6 b M2) (hs : wr.heap.size ≤ w6.heap.size) :
    CameN b M2 u v er w wr (.pointer (some ⟨w6.heap.size, 0, none⟩)) (.int .i64 er) (w6.alloc (.cells #[.int .i64 u, .int .i64 v] 24)) :=
  ⟨_, rfl, rfl, Blk.new _ _ _, hs, fun hh => Nat.lt_irrefl _ (HM.own_lt _ hh), HM.same (Fr.alloc _ _ _), HG.trans (Fr.alloc _ _ _)⟩

theorem came_first {b : MB} {M2 : Mach} {u v er : Int} {w wr w6 : World} {g : Nat} (HG : Fr (fun _ => False) w w6) (HM : IsM w6 b M2) (hs : wr.heap.size ≤ g) (hw : w.heap.size ≤ wr.heap.size) (hb : Blk w6 g #[.int .i64 0, .int .i64 0]) (hn : ¬ b.own g) :
    CameN b M2 u v er w wr (.pointer (some ⟨g, 0, none⟩)) (.int .i64 er) ((w6.setCell ⟨g, 0, none⟩ (.int .i64 u)).setCell ⟨g, 1, none⟩ (.int .i64 v)) :=
  ⟨_, rfl, rfl, hb.set2 _ _, hs, hn, HM.keep (fr_set2 _ _ _ _) (fun i hi hh => hn (hh ▸ hi)), HG.since (fr_set2 _ _ _ _) (fun i hi hh => by omega)⟩

set_option maxRecDepth 100000 in
set_option maxHeartbeats 4000000 in
theorem new_yes (n : Nat) (A : Option Addr) (len cap : Nat) (f : Nat → Nat → Int) (w : World) (hn1 : 1 ≤ n) (hn2 : n ≤ 2000) (hl : len ≤ 100) (hr : Row w A len 2 f) :
    Calls Try.prog 6 #[.int .i64 n, .slice A len cap] w fun e w' => e = .returned (.bool true) ∧ Below w.heap.size w w' := by
  have HR := hid hr
  clear hr
  have t1 : decide ((n : Int) < 1) = false := by simp; omega
  have t2 : decide (2000 < (n : Int)) = false := by simp; omega
  have t3 : decide ((100 : Int) < len) = false := by simp; omega
  go_enter Try.func6, Try.ntmps6
  go_wp2_with fail
  refine (new_ok n 3 _ hn1 (by omega) (by omega) (by omega)).mono ?_
  rintro e w1 ⟨b, rfl, hM1, hF1, hN1⟩
  have HOW := hid (show ∀ i, b.own i → i < w.heap.size → False from fun i hi hh => by have := hN1 i hi; omega)
  clear hN1
  go_wp2_with fail
  go_loopg [7, 8, 9] len (fun d x y z wr => NewRel w b n len d x y z wr)
  case atStart => exact ⟨0, _, 0, Nat.zero_le _, rfl, rfl, rfl, rfl, hM1, by simp, ⟨⟨0, 0, 0, 0, rfl, rfl⟩⟩, Nat.le_refl _, hF1⟩
  case round =>
    clear hM1 hF1
    obtain ⟨q, M, did, hq, rfl, rfl, rfl, rfl, hM, hlen, h4s, hdq, hf⟩ := hrel
    by_cases hlt : q < len
    · have h4 : M.steps.length = 4 := by obtain ⟨_, _, _, _, e, _⟩ := h4s.eq; rw [e]; rfl
      obtain ⟨O, hO⟩ : ∃ O, O = f q 0 := ⟨_, rfl⟩
      obtain ⟨L, hL⟩ : ∃ L, L = f q 1 := ⟨_, rfl⟩
      obtain ⟨u, v, er, M2, hNW, hcase⟩ := new_five b M n O L wr hM hlen h4
      have HNW := hid hNW
      have HCA := hid hcase
      have hu0 : M.used ≤ n := by rw [← hlen]; exact hM.le
      have HM := hid hM
      have HF := hid hf
      have HFO := hid h4s
      have HWS := hid hf.size
      obtain ⟨bl, off, rfl, hc⟩ := HR.out.at_two hlt hf
      have HCC := hid hc
      have HS := hid (show ∀ w', Fr (fun _ => False) w w' → w'.cell? ⟨bl, off + q * 2, none⟩ = some (.int .i64 O) ∧ w'.cell? ⟨bl, off + q * 2 + 1, none⟩ = some (.int .i64 L) from fun w' F => by rw [hO, hL]; exact HCC.out w' F)
      have HBL := hid (show ∀ k, b.own k → k < wr.heap.size from hM.own_lt)
      clear hM hf h4s hc hNW hcase hO hL
      go_upto_region 11 with fail
      go_cut [10, 11] from 39 to 53 (fun x y wx => CameN b M2 u v er w wr x y wx)
      case first =>
        obtain ⟨r0, r1⟩ := HS.out _ HF.out
        go_region_held3 (fun w' => w'.cell? ⟨bl, off + q * 2, none⟩ = some (.int .i64 O) ∧ w'.cell? ⟨bl, off + q * 2 + 1, none⟩ = some (.int .i64 L))
          (first | exact HS.out _ HG.out | exact HS.out _ (HG.out.trans (Fr.alloc _ _ _)) | exact HS.out _ (HG.out.trans (Fr.drew _ _)) | exact HS.out _ (HG.out.trans ((Fr.alloc _ _ _).trans (Fr.drew _ _))) | exact HS.out _ (HG.out.since (fr_set2 _ _ _ _) (fun i hi hh => by have := HWS.out; omega)) | exact HS.out _ HF.out | exact HS.out _ (HF.out.trans (Fr.drew _ _)) | exact HS.out _ (HF.out.trans (Fr.alloc _ _ _)) | exact HS.out _ (HF.out.trans ((Fr.alloc _ _ _).trans (Fr.drew _ _))))
          (first
            | (go_at_call 20; (with_reducible refine (HNW.out _ (by first | exact Fr.refl _ _ | exact Fr.drew _ _ | exact Fr.alloc _ _ _ | exact (Fr.alloc _ _ _).trans (Fr.drew _ _))).mono ?_); rintro e w6 ⟨rfl, hM6, hF⟩; (try (have HBA := hid (blkF' hF (fun hh => Nat.lt_irrefl _ (HBL.out _ hh))))); (try (have HBA := hid (blkF hF (fun hh => Nat.lt_irrefl _ (HBL.out _ hh))))); (try (have p0 := HBA.out.cell (i := 0) rfl; have p1 := HBA.out.cell (i := 1) rfl; have f0 := HBA.out.frozen 0; have f1 := HBA.out.frozen 1)); have HG := hid ((HF.out.trans (by first | exact Fr.refl _ _ | exact Fr.drew _ _ | exact Fr.alloc _ _ _ | exact (Fr.alloc _ _ _).trans (Fr.drew _ _))).since hF HOW.out); have HZ6 := hid (show wr.heap.size ≤ w6.heap.size from Nat.le_trans (by first | exact Nat.le_refl _ | exact (Fr.alloc (fun _ => False) wr _).size) hF.size); have HM6 := hid hM6; clear hF hM6))
        all_goals
          go_wp2_with fail
          go_meet
          case rel => first
            | exact came_last HG.out HM6.out HZ6.out
            | exact came_first HG.out HM6.out (Nat.le_refl _) HWS.out HBA.out (fun hh => Nat.lt_irrefl _ (HBL.out _ hh))
      case rest =>
        obtain ⟨g, rfl, rfl, hB, hgs, hng, hMx, hFx⟩ := hcut
        obtain ⟨w7, hw7⟩ : ∃ w7, w7 = wc := ⟨_, rfl⟩
        rw [← hw7] at hB hMx hFx ⊢
        clear hw7
        have HN7 := hid hB
        have HM7 := hid hMx
        have HG7 := hid hFx
        have HZ := hid (fun v => rsize_any 0 L v)
        obtain ⟨sz, hsz⟩ : ∃ sz, Rg.size ⟨0, L⟩ = sz := ⟨_, rfl⟩
        rw [hsz] at HZ
        have HSZ := hid hsz
        clear hsz hB hMx hFx HM HF HNW
        obtain ⟨r0, r1⟩ := HS.out _ HG7.out
        go_wp2_with fail
        refine (HZ.out _).mono ?_
        rintro e w8 ⟨rfl, hF⟩
        have HG8 := hid (HG7.out.trans hF)
        have HM8 := hid (HM7.out.same hF)
        have HN8 := hid (HN7.out.keep hF id)
        clear hF r0 r1
        obtain ⟨r0, r1⟩ := HS.out _ HG8.out
        have n0 := HN8.out.cell (i := 0) rfl
        have n1 := HN8.out.cell (i := 1) rfl
        rcases HCA.out with ⟨rfl, rfl, rfl, rfl, hc1⟩ | ⟨rfl, rfl, rfl, rfl, hc1, hc2, hc3⟩ | ⟨rfl, rfl, rfl, rfl, hc1, hc2, hc3⟩ | ⟨rfl, rfl, rfl, rfl, hc1, hc2, hc3, hc4, hc5⟩ | ⟨rfl, rfl, rfl, rfl, hc1, hc2, hc3, hc4, hc5⟩
        · have ts : sz = 0 := by rw [← HSZ.out]; exact if_neg (fun hh => by have h1 := hh.1; have h2 := hh.2.1; simp only at h1 h2; omega)
          subst ts
          clear hc1
          have HFN := hid (show Four M2.steps did from HFO.out)
          obtain ⟨s0, s1, s2, s3, hs, hsum⟩ := HFN.out.eq
          have HMM := hid (show IsM _ b M2 from HM8.out)
          obtain ⟨MM, hMM⟩ : ∃ MM, M2 = MM := ⟨_, rfl⟩
          have hus : MM.used = M2.used := by rw [← hMM]
          have hst : MM.steps = [(s0 : Int), s1, s2, s3] := by rw [← hMM]; exact hs
          have hle : MM.all.length = n := by rw [← hMM]; exact hlen
          rw [hMM] at HMM
          have HU := hid (fun v h => used_ok b MM v h)
          have HS0 := hid (fun v h => steps_in b MM 0 v h (by rw [hst]; simp))
          have HS1 := hid (fun v h => steps_in b MM 1 v h (by rw [hst]; simp))
          have HS2' := hid (fun v h => steps_in b MM 2 v h (by rw [hst]; simp))
          have HS3 := hid (fun v h => steps_in b MM 3 v h (by rw [hst]; simp))
          rw [hus] at HU
          rw [hst] at HS0 HS1 HS2' HS3
          have hd : did ≤ 100 := by omega
          have HST := hid hst
          have HUS := hid hus
          have HLE := hid hle
          have HSM := hid hsum
          have k1 : (s0 : Int) + s1 ≤ 1000 := by omega
          have k2 : (s0 : Int) + s1 + s2 ≤ 1000 := by omega
          have k3 : (s0 : Int) + s1 + s2 + s3 ≤ 1000 := by omega
          have k4 : ((s0 : Int) + s1 + s2 + s3 != (did : Int)) = false := by (first | (simp; done) | (simp; omega))
          have k0 : (0 : Int) ≤ s0 ∧ (0 : Int) ≤ s1 ∧ (0 : Int) ≤ s2 ∧ (0 : Int) ≤ s3 := by omega
          obtain ⟨k01, k02, k03, k04⟩ := k0
          clear hst hus hle hsum hs hMM HFN
          go_wp2_with fail
          refine (HU.out _ HMM.out).mono ?_
          rintro e w' ⟨rfl, rfl⟩
          go_wp2_with fail
          refine (HS0.out _ HMM.out).mono ?_
          rintro e w' ⟨rfl, rfl⟩
          go_wp2_with fail
          refine (HS1.out _ HMM.out).mono ?_
          rintro e w' ⟨rfl, rfl⟩
          go_wp2_with fail
          refine (HS2'.out _ HMM.out).mono ?_
          rintro e w' ⟨rfl, rfl⟩
          go_wp2_with fail
          refine (HS3.out _ HMM.out).mono ?_
          rintro e w' ⟨rfl, rfl⟩
          go_wp2_with fail
          go_roundg (len - (q + 1))
          case measure => omega
          case rel => exact ⟨q + 1, MM, did, by omega, rfl, by rw [HUS.out], by rfl, by go_num, HMM.out, HLE.out, ⟨⟨s0, s1, s2, s3, HST.out, HSM.out⟩⟩, by omega, HG8.out⟩
        · have hz1 : Rg.Right ⟨0, L⟩ := ⟨hc1, hc2, by simp only; omega, by have := pow_le L hc2; simp only; omega⟩
          have hz2 : sz = pow L := by rw [← HSZ.out]; exact if_pos hz1
          have hz3 := pow_pos L
          have ts : (sz == 0) = false := by simp; omega
          have t7 : decide (O < 0) = true := by simp; omega
          clear hz1 hz2 hz3 hc1 hc2 hc3
          have HFN := hid (show Four M2.steps did from HFO.out)
          obtain ⟨s0, s1, s2, s3, hs, hsum⟩ := HFN.out.eq
          have HMM := hid (show IsM _ b M2 from HM8.out)
          obtain ⟨MM, hMM⟩ : ∃ MM, M2 = MM := ⟨_, rfl⟩
          have hus : MM.used = M2.used := by rw [← hMM]
          have hst : MM.steps = [(s0 : Int), s1, s2, s3] := by rw [← hMM]; exact hs
          have hle : MM.all.length = n := by rw [← hMM]; exact hlen
          rw [hMM] at HMM
          have HU := hid (fun v h => used_ok b MM v h)
          have HS0 := hid (fun v h => steps_in b MM 0 v h (by rw [hst]; simp))
          have HS1 := hid (fun v h => steps_in b MM 1 v h (by rw [hst]; simp))
          have HS2' := hid (fun v h => steps_in b MM 2 v h (by rw [hst]; simp))
          have HS3 := hid (fun v h => steps_in b MM 3 v h (by rw [hst]; simp))
          rw [hus] at HU
          rw [hst] at HS0 HS1 HS2' HS3
          have hd : did ≤ 100 := by omega
          have HST := hid hst
          have HUS := hid hus
          have HLE := hid hle
          have HSM := hid hsum
          have k1 : (s0 : Int) + s1 ≤ 1000 := by omega
          have k2 : (s0 : Int) + s1 + s2 ≤ 1000 := by omega
          have k3 : (s0 : Int) + s1 + s2 + s3 ≤ 1000 := by omega
          have k4 : ((s0 : Int) + s1 + s2 + s3 != (did : Int)) = false := by (first | (simp; done) | (simp; omega))
          have k0 : (0 : Int) ≤ s0 ∧ (0 : Int) ≤ s1 ∧ (0 : Int) ≤ s2 ∧ (0 : Int) ≤ s3 := by omega
          obtain ⟨k01, k02, k03, k04⟩ := k0
          clear hst hus hle hsum hs hMM HFN
          go_wp2_with fail
          refine (HU.out _ HMM.out).mono ?_
          rintro e w' ⟨rfl, rfl⟩
          go_wp2_with fail
          refine (HS0.out _ HMM.out).mono ?_
          rintro e w' ⟨rfl, rfl⟩
          go_wp2_with fail
          refine (HS1.out _ HMM.out).mono ?_
          rintro e w' ⟨rfl, rfl⟩
          go_wp2_with fail
          refine (HS2'.out _ HMM.out).mono ?_
          rintro e w' ⟨rfl, rfl⟩
          go_wp2_with fail
          refine (HS3.out _ HMM.out).mono ?_
          rintro e w' ⟨rfl, rfl⟩
          go_wp2_with fail
          go_roundg (len - (q + 1))
          case measure => omega
          case rel => exact ⟨q + 1, MM, did, by omega, rfl, by rw [HUS.out], by rfl, by go_num, HMM.out, HLE.out, ⟨⟨s0, s1, s2, s3, HST.out, HSM.out⟩⟩, by omega, HG8.out⟩
        · have hz1 : Rg.Right ⟨0, L⟩ := ⟨hc1, hc2, by simp only; omega, by have := pow_le L hc2; simp only; omega⟩
          have hz2 : sz = pow L := by rw [← HSZ.out]; exact if_pos hz1
          have hz3 := pow_pos L
          have ts : (sz == 0) = false := by simp; omega
          have t7 : decide (O < 0) = false := by simp; omega
          have t8 : decide (3 < O) = true := by simp; omega
          clear hz1 hz2 hz3 hc1 hc2 hc3
          have HFN := hid (show Four M2.steps did from HFO.out)
          obtain ⟨s0, s1, s2, s3, hs, hsum⟩ := HFN.out.eq
          have HMM := hid (show IsM _ b M2 from HM8.out)
          obtain ⟨MM, hMM⟩ : ∃ MM, M2 = MM := ⟨_, rfl⟩
          have hus : MM.used = M2.used := by rw [← hMM]
          have hst : MM.steps = [(s0 : Int), s1, s2, s3] := by rw [← hMM]; exact hs
          have hle : MM.all.length = n := by rw [← hMM]; exact hlen
          rw [hMM] at HMM
          have HU := hid (fun v h => used_ok b MM v h)
          have HS0 := hid (fun v h => steps_in b MM 0 v h (by rw [hst]; simp))
          have HS1 := hid (fun v h => steps_in b MM 1 v h (by rw [hst]; simp))
          have HS2' := hid (fun v h => steps_in b MM 2 v h (by rw [hst]; simp))
          have HS3 := hid (fun v h => steps_in b MM 3 v h (by rw [hst]; simp))
          rw [hus] at HU
          rw [hst] at HS0 HS1 HS2' HS3
          have hd : did ≤ 100 := by omega
          have HST := hid hst
          have HUS := hid hus
          have HLE := hid hle
          have HSM := hid hsum
          have k1 : (s0 : Int) + s1 ≤ 1000 := by omega
          have k2 : (s0 : Int) + s1 + s2 ≤ 1000 := by omega
          have k3 : (s0 : Int) + s1 + s2 + s3 ≤ 1000 := by omega
          have k4 : ((s0 : Int) + s1 + s2 + s3 != (did : Int)) = false := by (first | (simp; done) | (simp; omega))
          have k0 : (0 : Int) ≤ s0 ∧ (0 : Int) ≤ s1 ∧ (0 : Int) ≤ s2 ∧ (0 : Int) ≤ s3 := by omega
          obtain ⟨k01, k02, k03, k04⟩ := k0
          clear hst hus hle hsum hs hMM HFN
          go_wp2_with fail
          refine (HU.out _ HMM.out).mono ?_
          rintro e w' ⟨rfl, rfl⟩
          go_wp2_with fail
          refine (HS0.out _ HMM.out).mono ?_
          rintro e w' ⟨rfl, rfl⟩
          go_wp2_with fail
          refine (HS1.out _ HMM.out).mono ?_
          rintro e w' ⟨rfl, rfl⟩
          go_wp2_with fail
          refine (HS2'.out _ HMM.out).mono ?_
          rintro e w' ⟨rfl, rfl⟩
          go_wp2_with fail
          refine (HS3.out _ HMM.out).mono ?_
          rintro e w' ⟨rfl, rfl⟩
          go_wp2_with fail
          go_roundg (len - (q + 1))
          case measure => omega
          case rel => exact ⟨q + 1, MM, did, by omega, rfl, by rw [HUS.out], by rfl, by go_num, HMM.out, HLE.out, ⟨⟨s0, s1, s2, s3, HST.out, HSM.out⟩⟩, by omega, HG8.out⟩
        · have hz1 : Rg.Right ⟨0, L⟩ := ⟨hc1, hc2, by simp only; omega, by have := pow_le L hc2; simp only; omega⟩
          have hz2 : sz = pow L := by rw [← HSZ.out]; exact if_pos hz1
          have hz3 := pow_pos L
          have ts : (sz == 0) = false := by simp; omega
          have t7 : decide (O < 0) = false := by simp; omega
          have t8 : decide (3 < O) = false := by simp; omega
          have tf : decide ((n : Int) - M2.used < sz) = true := by simp; omega
          clear hz1 hz2 hz3 hc1 hc2 hc3 hc4 hc5
          have HFN := hid (show Four M2.steps did from HFO.out)
          obtain ⟨s0, s1, s2, s3, hs, hsum⟩ := HFN.out.eq
          have HMM := hid (show IsM _ b M2 from HM8.out)
          obtain ⟨MM, hMM⟩ : ∃ MM, M2 = MM := ⟨_, rfl⟩
          have hus : MM.used = M2.used := by rw [← hMM]
          have hst : MM.steps = [(s0 : Int), s1, s2, s3] := by rw [← hMM]; exact hs
          have hle : MM.all.length = n := by rw [← hMM]; exact hlen
          rw [hMM] at HMM
          have HU := hid (fun v h => used_ok b MM v h)
          have HS0 := hid (fun v h => steps_in b MM 0 v h (by rw [hst]; simp))
          have HS1 := hid (fun v h => steps_in b MM 1 v h (by rw [hst]; simp))
          have HS2' := hid (fun v h => steps_in b MM 2 v h (by rw [hst]; simp))
          have HS3 := hid (fun v h => steps_in b MM 3 v h (by rw [hst]; simp))
          rw [hus] at HU
          rw [hst] at HS0 HS1 HS2' HS3
          have hd : did ≤ 100 := by omega
          have HST := hid hst
          have HUS := hid hus
          have HLE := hid hle
          have HSM := hid hsum
          have k1 : (s0 : Int) + s1 ≤ 1000 := by omega
          have k2 : (s0 : Int) + s1 + s2 ≤ 1000 := by omega
          have k3 : (s0 : Int) + s1 + s2 + s3 ≤ 1000 := by omega
          have k4 : ((s0 : Int) + s1 + s2 + s3 != (did : Int)) = false := by (first | (simp; done) | (simp; omega))
          have k0 : (0 : Int) ≤ s0 ∧ (0 : Int) ≤ s1 ∧ (0 : Int) ≤ s2 ∧ (0 : Int) ≤ s3 := by omega
          obtain ⟨k01, k02, k03, k04⟩ := k0
          clear hst hus hle hsum hs hMM HFN
          go_wp2_with fail
          refine (HU.out _ HMM.out).mono ?_
          rintro e w' ⟨rfl, rfl⟩
          go_wp2_with fail
          refine (HS0.out _ HMM.out).mono ?_
          rintro e w' ⟨rfl, rfl⟩
          go_wp2_with fail
          refine (HS1.out _ HMM.out).mono ?_
          rintro e w' ⟨rfl, rfl⟩
          go_wp2_with fail
          refine (HS2'.out _ HMM.out).mono ?_
          rintro e w' ⟨rfl, rfl⟩
          go_wp2_with fail
          refine (HS3.out _ HMM.out).mono ?_
          rintro e w' ⟨rfl, rfl⟩
          go_wp2_with fail
          go_roundg (len - (q + 1))
          case measure => omega
          case rel => exact ⟨q + 1, MM, did, by omega, rfl, by rw [HUS.out], by rfl, by go_num, HMM.out, HLE.out, ⟨⟨s0, s1, s2, s3, HST.out, HSM.out⟩⟩, by omega, HG8.out⟩
        · have hz1 : Rg.Right ⟨0, v⟩ := ⟨hc1, hc2, by simp only; omega, by have := pow_le v hc2; simp only; omega⟩
          have hz2 : sz = pow v := by rw [← HSZ.out]; exact if_pos hz1
          have hz3 := pow_pos v
          have ts : (sz == 0) = false := by simp; omega
          have t7 : decide (O < 0) = false := by simp; omega
          have t8 : decide (3 < O) = false := by simp; omega
          have tf : decide ((n : Int) - M.used < sz) = false := by simp; omega
          have hu2 : ((M.used + sz.toNat : Nat) : Int) = (M.used : Int) + sz := by omega
          obtain ⟨j, hj⟩ : ∃ j, O.toNat = j := ⟨_, rfl⟩
          have hj4 : j < 4 := by omega
          rw [← hz2, hj] at HM8
          have hR2 : Rg.Right ⟨M.used, v⟩ := ⟨hc1, hc2, by simp only; omega, by simp only; omega⟩
          have HZ2 := hid (fun z => size_yes (M.used : Int) v z hR2)
          rw [← hz2] at HZ2
          have hroom : (M.used : Int) + sz ≤ n := by omega
          clear hz1 hz2 hc1 hc2 hc3 hc4 hc5 hR2 hj
          have HS2 := hid (show ∀ w', Fr (fun _ => False) w8 w' → w'.cell? ⟨g, 0, none⟩ = some (.int .i64 (M.used : Int)) ∧ w'.cell? ⟨g, 1, none⟩ = some (.int .i64 v) ∧ w'.cell? ⟨bl, off + q * 2, none⟩ = some (.int .i64 O) ∧ w'.cell? ⟨bl, off + q * 2 + 1, none⟩ = some (.int .i64 v) from fun w' F => ⟨(HN8.out.keep F id).cell rfl, (HN8.out.keep F id).cell rfl, HS.out w' (HG8.out.trans F)⟩)
          have HFe := hid (Fr.refl (fun _ => False) w8)
          go_upto_region 23 with fail
          go_region_held3 (fun w' => w'.cell? ⟨g, 0, none⟩ = some (.int .i64 (M.used : Int)) ∧ w'.cell? ⟨g, 1, none⟩ = some (.int .i64 v) ∧ w'.cell? ⟨bl, off + q * 2, none⟩ = some (.int .i64 O) ∧ w'.cell? ⟨bl, off + q * 2 + 1, none⟩ = some (.int .i64 v))
            (first | exact HS2.out _ HFe.out | exact HS2.out _ (HFe.out.trans (Fr.drew _ _)))
            (first
              | (go_at_call 10; (with_reducible refine (HZ2.out _).mono ?_); rintro e w10 ⟨rfl, hF6⟩; have HFe := hid (HFe.out.trans (Fr.trans (by first | exact Fr.refl _ _ | exact Fr.drew _ _) hF6)); clear hF6))
          all_goals
            have HG8 := hid (HG8.out.trans HFe.out)
            have HM8 := hid (HM8.out.same HFe.out)
            have HFN := hid (show Four (M.step j).steps (did + 1) from HFO.out.step (by omega) hj4)
            obtain ⟨s0, s1, s2, s3, hs, hsum⟩ := HFN.out.eq
            have HMM := hid (show IsM _ b ((M.step j).give sz.toNat) from HM8.out)
            obtain ⟨MM, hMM⟩ : ∃ MM, ((M.step j).give sz.toNat) = MM := ⟨_, rfl⟩
            have hus : MM.used = (M.used + sz.toNat) := by rw [← hMM]; rfl
            have hst : MM.steps = [(s0 : Int), s1, s2, s3] := by rw [← hMM]; exact hs
            have hle : MM.all.length = n := by rw [← hMM]; exact hlen
            rw [hMM] at HMM
            have HU := hid (fun v h => used_ok b MM v h)
            have HS0 := hid (fun v h => steps_in b MM 0 v h (by rw [hst]; simp))
            have HS1 := hid (fun v h => steps_in b MM 1 v h (by rw [hst]; simp))
            have HS2' := hid (fun v h => steps_in b MM 2 v h (by rw [hst]; simp))
            have HS3 := hid (fun v h => steps_in b MM 3 v h (by rw [hst]; simp))
            rw [hus] at HU
            rw [hst] at HS0 HS1 HS2' HS3
            have hd : did ≤ 100 := by omega
            have HST := hid hst
            have HUS := hid hus
            have HLE := hid hle
            have HSM := hid hsum
            have k1 : (s0 : Int) + s1 ≤ 1000 := by omega
            have k2 : (s0 : Int) + s1 + s2 ≤ 1000 := by omega
            have k3 : (s0 : Int) + s1 + s2 + s3 ≤ 1000 := by omega
            have k4 : ((s0 : Int) + s1 + s2 + s3 != (did : Int) + 1) = false := by (first | (simp; done) | (simp; omega))
            have k0 : (0 : Int) ≤ s0 ∧ (0 : Int) ≤ s1 ∧ (0 : Int) ≤ s2 ∧ (0 : Int) ≤ s3 := by omega
            obtain ⟨k01, k02, k03, k04⟩ := k0
            rw [hu2] at HU
            have k5 : (M.used : Int) + sz ≤ 2000 := by omega
            have k6 : (0 : Int) ≤ (M.used : Int) + sz := by omega
            clear hst hus hle hsum hs hMM HFN
            go_wp2_with fail
            refine (HU.out _ HMM.out).mono ?_
            rintro e w' ⟨rfl, rfl⟩
            go_wp2_with fail
            refine (HS0.out _ HMM.out).mono ?_
            rintro e w' ⟨rfl, rfl⟩
            go_wp2_with fail
            refine (HS1.out _ HMM.out).mono ?_
            rintro e w' ⟨rfl, rfl⟩
            go_wp2_with fail
            refine (HS2'.out _ HMM.out).mono ?_
            rintro e w' ⟨rfl, rfl⟩
            go_wp2_with fail
            refine (HS3.out _ HMM.out).mono ?_
            rintro e w' ⟨rfl, rfl⟩
            go_wp2_with fail
            go_roundg (len - (q + 1))
            case measure => omega
            case rel => exact ⟨q + 1, MM, (did + 1), by omega, rfl, by rw [HUS.out]; congr 1; omega, by go_num, by go_num, HMM.out, HLE.out, ⟨⟨s0, s1, s2, s3, HST.out, HSM.out⟩⟩, by omega, HG8.out⟩
    · go_wp2_with fail
      refine (awake_ok _).mono ?_
      rintro e w9 ⟨rfl, hF9⟩
      go_wp2_with fail
      go_ret
      exact ⟨rfl, (hf.trans hF9).below (Nat.le_refl _) (fun _ hh => hh.elim)⟩

theorem newLaw (s : Int) (A : Option Addr) (len cap : Nat) (f : Nat → Nat → Int) (w : World) (hr : Row w A len 2 f) :
    Calls Try.prog 6 #[.int .i64 s, .slice A len cap] w fun e w' => e = .returned (.bool true) ∧ Below w.heap.size w w' := by
  by_cases h1 : s < 1
  · exact new_no_a s A len cap w h1
  by_cases h2 : 2000 < s
  · exact new_no_b s A len cap w h2
  by_cases h3 : 100 < len
  · exact new_no_c s A len cap w h3 (by omega) (by omega)
  obtain ⟨n, rfl⟩ := Int.eq_ofNat_of_zero_le (show 0 ≤ s by omega)
  exact new_yes n A len cap f w (by omega) (by omega) (by omega) hr
end Go.Proofs.Ythomjenkemepiaa
