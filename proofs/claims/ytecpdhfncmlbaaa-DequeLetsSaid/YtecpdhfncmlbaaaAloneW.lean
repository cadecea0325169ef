/-
  DequeAlone answers true at every input.
-/
import Derived.Test.YtecpdhfncmlbaaaSame
import Derived.Deep.RegionHeld3
import Derived.Deep.DeepCutAuto
import Derived.Deep.DeepMust
import Derived.Deep.LoopGhost
namespace Go.Proofs.Ytecpdhfncmlbaaa
open Go.RowKit
set_option linter.unusedVariables false

def RmRel (wd : World) (N : Nat) (d : Nat) (x k : Value) (wr : World) : Prop := ∃ i : Nat, i ≤ N ∧ d = N + 1 - i ∧ x = .int .i64 (2 ^ i : Nat) ∧ k = .int .i64 i ∧ wd = wr

set_option maxRecDepth 100000 in
set_option maxHeartbeats 800000 in
theorem alone_no (p q : Int) (A : Option Addr) (n c : Nat) (A2 : Option Addr) (n2 c2 : Nat) (w : World) (h : ¬ (0 ≤ p ∧ p ≤ q ∧ q ≤ 8 ∧ n ≤ 300)) :
    Calls Try.prog 5 #[.agg #[.int .i64 p, .int .i64 q], .slice A n c, .slice A2 n2 c2] w fun e w' => e = .returned (.bool true) ∧ Below w.heap.size w w' := by
  have H := hid h
  clear h
  rcases ht0 : decide (p < 0) with _ | _
  rotate_left 1
  · clear H
    go_enter Try.func5, Try.ntmps5
    go_wp2_with fail
    refine (awake_ok _).mono ?_
    rintro e w9 ⟨rfl, hF9⟩
    go_wp2_with fail
    go_ret
    exact ⟨rfl, ((Fr.alloc (fun _ => False) _ _).trans hF9).below (Nat.le_refl _) (fun _ hh => hh.elim)⟩
  rcases ht1 : decide (q < p) with _ | _
  rotate_left 1
  · clear H
    go_enter Try.func5, Try.ntmps5
    go_wp2_with fail
    refine (awake_ok _).mono ?_
    rintro e w9 ⟨rfl, hF9⟩
    go_wp2_with fail
    go_ret
    exact ⟨rfl, ((Fr.alloc (fun _ => False) _ _).trans hF9).below (Nat.le_refl _) (fun _ hh => hh.elim)⟩
  rcases ht2 : decide (8 < q) with _ | _
  rotate_left 1
  · clear H
    go_enter Try.func5, Try.ntmps5
    go_wp2_with fail
    refine (awake_ok _).mono ?_
    rintro e w9 ⟨rfl, hF9⟩
    go_wp2_with fail
    go_ret
    exact ⟨rfl, ((Fr.alloc (fun _ => False) _ _).trans hF9).below (Nat.le_refl _) (fun _ hh => hh.elim)⟩
  rcases ht3 : decide ((300 : Int) < n) with _ | _
  rotate_left 1
  · clear H
    go_enter Try.func5, Try.ntmps5
    go_wp2_with fail
    refine (awake_ok _).mono ?_
    rintro e w9 ⟨rfl, hF9⟩
    go_wp2_with fail
    go_ret
    exact ⟨rfl, ((Fr.alloc (fun _ => False) _ _).trans hF9).below (Nat.le_refl _) (fun _ hh => hh.elim)⟩
  exfalso
  have := H.out
  simp only [decide_eq_false_iff_not] at ht0 ht1 ht2 ht3
  omega

theorem empty_own (w : World) (B : Nat) (e : TypeId) (hB : B ≤ w.heap.size) : OwnR (w.alloc (.cells #[] e)) B e 1 (some ⟨w.heap.size, 0, none⟩) 0 0 [] :=
  ⟨rfl, .inr ⟨w.heap.size, 0, #[], rfl, hB, by show (w.heap.push _)[w.heap.size]? = _; simp, Nat.le_refl _, Nat.zero_le _, rfl, rfl⟩⟩

theorem OwnR.stays {w : World} {B : Nat} {e : TypeId} {v : Value} {n : Nat} {xs : List Value} (h : w.ownsRow B e 1 v n xs) (hv : v ≠ .slice none 0 0) : ∃ g cap, v = .slice (some ⟨g, 0, none⟩) n cap ∧ OwnR w B e 1 (some ⟨g, 0, none⟩) n cap xs := by
  have h' := h
  obtain ⟨h1, ⟨h2, _⟩ | ⟨g, c, cur, hv2, _⟩⟩ := h
  · exact absurd h2 hv
  · exact ⟨g, c, hv2, by rw [hv2] at h'; exact h'⟩

theorem intsV_at (L : List Int) (k : Nat) (h : k < L.length) : (intsV L)[k]? = some (.int .i64 (L.getD k 0)) := by simp [intsV, h]

theorem intsV_one (L : List Int) : ∀ u ∈ intsV L, u.oneCell' = true := by
  intro u hu
  simp only [intsV, List.mem_map] at hu
  obtain ⟨k, _, rfl⟩ := hu
  rfl

theorem OwnR.capy {w : World} {B : Nat} {e : TypeId} {g n cap : Nat} {xs : List Value} (h : OwnR w B e 1 (some ⟨g, 0, none⟩) n cap xs) : n ≤ cap ∧ cap ≤ maxLen := by
  obtain ⟨_, ⟨h, _⟩ | ⟨g', c', cur, hv, _, _, h1, h2, _⟩⟩ := h
  · cases h
  · injection hv with _ _ hv
    subst hv
    exact ⟨h1, h2⟩

theorem own_cells {w : World} {B : Nat} {e : TypeId} {g n cap : Nat} {L : List Int} (h : OwnR w B e 1 (some ⟨g, 0, none⟩) n cap (intsV L)) (hn : L.length = n) : ∀ j u, (intsV L)[j]? = some u → w.cell? ⟨g, j, none⟩ = some u := by
  intro j u hu
  have hj : j < (intsV L).length := (List.getElem?_eq_some_iff.1 hu).1
  simp only [intsV, List.length_map] at hj
  obtain ⟨g', hg', _, _, _, hc⟩ := h.cell (by omega)
  have : g = g' := by injection hg' with hg'; injection hg'
  subst this
  exact hc j u hu

theorem news_take {w : World} {B : Nat} {e : TypeId} {g n cap : Nat} {L : List Int} (h : OwnR w B e 1 (some ⟨g, 0, none⟩) n cap (intsV L)) (k : Nat) (hk : k < n) (hn : L.length = n) : ∀ j u, (intsV (L.take k))[j]? = some u → w.cell? ((⟨g, 0, none⟩ : Addr).add j) = some u := by
  intro j u hu
  rw [add_none, Nat.zero_add]
  refine own_cells h hn j u ?_
  rw [← hu]
  have hj : j < (intsV (L.take k)).length := (List.getElem?_eq_some_iff.1 hu).1
  simp only [intsV, List.length_map, List.length_take] at hj
  simp only [intsV, List.getElem?_map, List.getElem?_take]
  rw [if_pos (by omega)]

theorem news_drop {w : World} {B : Nat} {e : TypeId} {g n cap : Nat} {L : List Int} (h : OwnR w B e 1 (some ⟨g, 0, none⟩) n cap (intsV L)) (k : Nat) (hk : k < n) (hn : L.length = n) : ∀ j u, (intsV (L.drop (k + 1)))[j]? = some u → w.cell? ((⟨g, k + 1, none⟩ : Addr).add j) = some u := by
  intro j u hu
  rw [add_none]
  refine own_cells h hn (k + 1 + j) u ?_
  rw [← hu]
  simp only [intsV, List.getElem?_map, List.getElem?_drop]

theorem ite_some {α : Type} {p : Prop} [Decidable p] (a b : α) : (if p then some a else some b) = some (if p then a else b) := by split <;> rfl

theorem news_drop2 {w : World} {B : Nat} {e : TypeId} {g n cap : Nat} {L : List Int} (h : OwnR w B e 1 (some ⟨g, 0, none⟩) n cap (intsV L)) (k : Nat) (hk : k < n) (hn : L.length = n) : ∀ j u, (intsV (L.drop (k + 1)))[j]? = some u → w.cell? ((if cap = k + 1 then (⟨g, 0, none⟩ : Addr) else ⟨g, k + 1, none⟩).add j) = some u := by
  intro j u hu
  have hc := h.capy
  by_cases he : cap = k + 1
  · rw [List.drop_eq_nil_of_le (by omega)] at hu
    cases hu
  · rw [if_neg he]
    exact news_drop h k hk hn j u hu

theorem om_not {b : MB} {k q1 c1 : Nat} {wd wr : World} (h1 : ∀ i, b.own i → i < k) (h2 : ¬ b.own k ∧ k < wd.heap.size) (h3 : wr.heap.size ≤ q1 ∧ wr.heap.size ≤ c1) (h4 : wd.heap.size ≤ wr.heap.size) : ¬ OM b q1 c1 k := by
  rintro ((h | h) | h)
  · exact h2.1 h
  · omega
  · omega

theorem om_row {b : MB} {q1 c1 B : Nat} {wr : World} {e : TypeId} {A : Option Addr} {n cap : Nat} {xs : List Value} (hO : OwnR wr B e 1 A n cap xs) (h2 : ∀ k, b.own k → k < B) (h3 : wr.heap.size ≤ q1 ∧ wr.heap.size ≤ c1) : ∀ j, ownB A j → ¬ OM b q1 c1 j := by
  intro j hj
  have := hO.lt j hj
  rintro ((h | h) | h)
  · have := h2 _ h
    omega
  · omega
  · omega

def AlRel (w : World) (b : MB) (q : Int) (gd B n n2 : Nat) (d : Nat) (x k : Value) (wr : World) : Prop :=
  ∃ (i m : Nat) (L : List Int) (M : Mach) (s : List Int) (R : Rg) (g cap : Nat), i ≤ n ∧ i ≤ n2 ∧ d = 301 - i ∧ L.length = m ∧ x = .slice (some ⟨g, 0, none⟩) m cap ∧ k = .int .i64 i ∧ OwnR wr B 2 1 (some ⟨g, 0, none⟩) m cap (intsV L) ∧ IsM wr b (MO M s) ∧ s.length = 3
    ∧ SeqI q M R (1 + i) L ∧ Fr (fun _ => False) w wr ∧ Blk wr gd #[.int .i64 0, .int .i64 q] ∧ B ≤ wr.heap.size

set_option maxRecDepth 100000 in
set_option maxHeartbeats 20000000 in
theorem alone_yes (p q : Int) (A : Option Addr) (n c : Nat) (f : Nat → Nat → Int) (A2 : Option Addr) (n2 c2 : Nat) (f2 : Nat → Nat → Int) (w : World) (hp0 : 0 ≤ p) (hpq : p ≤ q) (hq8 : q ≤ 8) (hn : n ≤ 300) (hr : Row w A n 1 f) (hr2 : Row w A2 n2 1 f2) :
    Calls Try.prog 5 #[.agg #[.int .i64 p, .int .i64 q], .slice A n c, .slice A2 n2 c2] w fun e w' => e = .returned (.bool true) ∧ Below w.heap.size w w' := by
  have HR1 := hid hr
  have HR2 := hid hr2
  have HSQ := hid (new_seq [] p q hp0 hpq hq8)
  have t1 : decide (p < 0) = false := by simp; omega
  have t2 : decide (q < p) = false := by simp; omega
  have t3 : decide (8 < q) = false := by simp; omega
  have t4 : decide ((300 : Int) < n) = false := by simp; omega
  obtain ⟨i0, hi, hz⟩ := Option.map_eq_some_iff.1 infoint64
  simp only [Prod.mk.injEq] at hz
  obtain ⟨hz0, hz1, hz2⟩ := hz
  have HII := hid hi
  have HZ0 := hid hz0
  have HZ1 := hid hz1
  have HZ2 := hid hz2
  clear hi hz0 hz1 hz2 hr hr2
  go_enter Try.func5, Try.ntmps5
  go_wp2_with fail
  refine (new_ok 600 2 _ (by omega) (by omega) (by omega) (by omega)).mono ?_
  rintro e w1 ⟨b, rfl, hM, hF, hown⟩
  have HOWN := hid hown
  have HM1 := hid (show IsM w1 b (MO ⟨List.replicate 600 0, 0, []⟩ (List.replicate 3 0)) from hM)
  have HBx := hid ((Blk.new w #[.int .i64 p, .int .i64 q] 22).same hF)
  have HF1 := hid ((Fr.alloc (fun _ => False) w (.cells #[.int .i64 p, .int .i64 q] 22)).trans hF)
  have HBO := hid (show ∀ k, b.own k → w.heap.size < k from fun k hk => by have := hown k hk; simp at this; omega)
  clear hM hF hown
  have x0 := HBx.out.cell (i := 0) rfl
  have x1 := HBx.out.cell (i := 1) rfl
  go_wp2_with fail
  refine (dnew_ok b _ _ 2 2 p q _ HM1.out rfl rfl (by simp) (by omega) (by omega) (by omega) (by have := pow_le p (by omega); rw [List.length_replicate]; omega)).mono ?_
  rintro e w2 ⟨rfl, hM, hF⟩
  have HF2 := hid (HF1.out.since hF (fun i hi hlt => by have := HBO.out i hi; omega))
  have HBx2 := hid (HBx.out.keep hF (fun hh => by have := HBO.out _ hh; omega))
  obtain ⟨s0, hs0⟩ : ∃ s0, stp (stp (List.replicate 3 0) 2) 2 = s0 := ⟨_, rfl⟩
  have HSL := hid (show s0.length = 3 from by rw [← hs0]; decide +kernel)
  rw [hs0] at hM
  have HM2 := hid hM
  have HOL := hid (show ∀ k, b.own k → k < w2.heap.size from hM.own_lt)
  clear hM hF hs0 x0 x1
  have HBd := hid (Blk.new w2 #[.int .i64 0, .int .i64 q] 34)
  have HMd := hid (HM2.out.same (Fr.alloc _ w2 (.cells #[.int .i64 0, .int .i64 q] 34)))
  have HFd := hid (HF2.out.trans (Fr.alloc _ w2 (.cells #[.int .i64 0, .int .i64 q] 34)))
  have HBxd := hid (HBx2.out.same (Fr.alloc _ w2 (.cells #[.int .i64 0, .int .i64 q] 34)))
  obtain ⟨wd, hwd⟩ : ∃ wd, w2.alloc (.cells #[.int .i64 0, .int .i64 q] 34) = wd := ⟨_, rfl⟩
  have HSZ := hid (show wd.heap.size = w2.heap.size + 1 from by rw [← hwd]; simp)
  have HWS := hid (show w.heap.size < w2.heap.size from HBx2.out.lt)
  rw [hwd] at HBd HMd HFd HBxd
  have x0 := HBxd.out.cell (i := 0) rfl
  have x1 := HBxd.out.cell (i := 1) rfl
  have a0 := HBd.out.cell (i := 0) rfl
  have a1 := HBd.out.cell (i := 1) rfl
  go_wp2_with fail
  clear hwd
  obtain ⟨N, hN⟩ := Int.eq_ofNat_of_zero_le (show 0 ≤ q by omega)
  have HNN := hid hN
  have hN8 : N ≤ 8 := by omega
  rw [hN] at x1
  clear hN
  go_loopg [11, 12] (N + 1) (fun d x k wr => RmRel wd N d x k wr)
  case atStart => exact ⟨0, by omega, by omega, rfl, rfl, rfl⟩
  case round =>
    obtain ⟨i, hi, rfl, rfl, rfl, hwr⟩ := hrel
    subst hwr
    by_cases hlt : i < N
    · have hp := Nat.pow_le_pow_right (n := 2) (by omega) (show i ≤ 8 by omega)
      obtain ⟨z, hz⟩ : ∃ z, 2 ^ i = z := ⟨_, rfl⟩
      have HZ := hid hz
      rw [hz] at hp ⊢
      have hlt2 : (i : Int) < N := by omega
      clear hz
      go_wp2_with fail
      go_roundg (N + 1 - (i + 1))
      case rel => exact ⟨i + 1, by omega, rfl, by rw [Nat.pow_succ, HZ.out]; go_num, by go_num, rfl⟩
      case measure => omega
    · obtain rfl : i = N := by omega
      have HRM := hid (show ((2 ^ i : Nat) : Int) = pow q from by unfold pow; rw [HNN.out]; simp)
      obtain ⟨rm, hrm⟩ : ∃ rm, (2 ^ i : Nat) = rm := ⟨_, rfl⟩
      rw [hrm] at HRM ⊢
      have hrm8 : (rm : Int) ≤ 256 := by have := pow_le q (by omega); have := HRM.out; omega
      clear hrm hlt hi
      go_wp2_with fail
      have HFd0 := hid HFd.out
      have HOL2 := hid (show ∀ k, b.own k → k < wd.heap.size from fun k hk => by have := HOL.out k hk; have := HSZ.out; omega)
      have HBW := hid (show ¬ b.own w2.heap.size ∧ w2.heap.size < wd.heap.size from ⟨fun hh => by have := HOL.out _ hh; omega, by have := HSZ.out; omega⟩)
      clear x0 x1 a0 a1
      go_loopg [13, 14] 301 (fun d x k wr => AlRel w b q w2.heap.size wd.heap.size n n2 d x k wr)
      case atStart => exact ⟨0, 0, [], _, s0, ⟨3, p⟩, wd.heap.size, 0, by omega, by omega, rfl, rfl, rfl, rfl, empty_own _ _ _ (Nat.le_refl _), HMd.out.same (Fr.alloc _ _ _), HSL.out, by simpa using HSQ.out, HFd.out.trans (Fr.alloc _ _ _), HBd.out.alloc _, by simp⟩
      case round =>
        obtain ⟨j, m, L, M, s, R, g, cap, hjn, hjn2, rfl, hL, rfl, rfl, hO, hM, hs, hSq, hF, hBd, hB⟩ := hrel
        have HO := hid hO
        have HM := hid hM
        have HS := hid hs
        have HSQ2 := hid hSq
        have HF := hid hF
        have HBD := hid hBd
        have HB := hid hB
        have HLL := hid hL
        clear hO hM hs hSq hF hBd hB hL
        have hj300 : j ≤ 300 := by omega
        by_cases hlt : j < n
        · by_cases hlt2 : j < n2
          · have hl1 : (j : Int) < n := by omega
            have hl2 : (j : Int) < n2 := by omega
            obtain ⟨gk, ok, rfl, hck⟩ := HR2.out.at_one hlt2
            have k0 := hck _ HF.out
            obtain ⟨kd, hkd⟩ : ∃ kd, f2 j 0 = kd := ⟨_, rfl⟩
            rw [hkd] at k0
            have HCK := hid hck
            clear hck
            rcases he : (Int.tmod kd 2 == 0) with _ | _
            · have HBS := hid (fun (u : World) (F : Fr (fun _ => False) wr u) => beg_steal (most := q) 0 (HM.out.same F))
              have HBP := hid (fun (u : World) (F : Fr (fun _ => False) wr u) => beg_pop (most := q) 0 (HM.out.same F))
              have HKD := hid hkd
              clear hkd
              rcases h4 : (Int.tmod kd 4 == 1) with _ | _
              · rcases Nat.eq_zero_or_pos m with rfl | hmp
                · have hL0 : L = [] := by
                    have := HLL.out
                    exact List.length_eq_zero_iff.1 (by omega)
                  subst hL0
                  obtain ⟨o', hRun, hhow⟩ := HSQ2.out.steal0
                  obtain ⟨M', hM'⟩ : ∃ M', M = M' := ⟨_, rfl⟩
                  obtain ⟨R', hR'⟩ : ∃ R', R = R' := ⟨_, rfl⟩
                  have hSN : SeqI q M R (1 + (j : Int)) [] := HSQ2.out
                  have HTELL := hid (show o'.tell = 0 from by unfold DOp.tell; rw [if_neg (by omega)])
                  have HSN0 := hid hSN
                  have HRN := hid (show ∀ (u : World) (o1 q1 c1 : Nat), Fr (fun _ => False) wr u → IsOp u b o1 q1 c1 q (beginOp 2 0) → Calls Try.prog 31 #[.pointer (some ⟨b.m, 0, none⟩), .pointer (some ⟨o1, 0, none⟩), .int .i64 1] u (fun e w' => e = .returned (.int .i64 3) ∧ ∃ cp' s', (cp' = c1 ∨ u.heap.size ≤ cp') ∧ IsOp w' b o1 q1 cp' q o' ∧ IsM w' b (MO M' s') ∧ s'.length = 3 ∧ Fr (OM b q1 c1) u w') from
                    fun u o1 q1 c1 F hI => (show Calls Try.prog 31 #[.pointer (some ⟨b.m, 0, none⟩), .pointer (some ⟨o1, 0, none⟩), .int .i64 1] u _ from run_ok b o1 q1 c1 q _ o' M M' s 1 2 u (hM' ▸ hRun) (live_begin 2 0) (St.begin_ hI (HM.out.same F) (HSQ2.out.cb (by omega)).1 (by omega) (HSQ2.out.cb (by omega)).2) (by rw [HS.out]; omega) (by omega)).mono fun e w' ⟨h1, cp', s', h2, h3, h4, h5, h6⟩ => ⟨by rw [h1, hhow]; rfl, cp', s', h2, h3, h4, h5.trans HS.out, h6⟩)
                  have HHOW := hid hhow
                  have HM' := hid hM'
                  clear hM' hRun hhow hSN
                  have a0 := HBD.out.cell (i := 0) rfl
                  have a1 := HBD.out.cell (i := 1) rfl
                  go_wp2_with fail
                  refine (HBS.out _ (Fr.refl _ _)).mono ?_
                  rintro e w6 ⟨o1, q1, c1, rfl, hI1, hF6, ⟨ho1, hq1, hc1⟩, hlt1⟩
                  have HQ1 := hid (show wr.heap.size ≤ q1 ∧ wr.heap.size ≤ c1 from ⟨hq1, hc1⟩)
                  have HI1 := hid hI1
                  have k1 := HCK.out _ (HF.out.trans hF6)
                  rw [HKD.out] at k1
                  have HF6 := hid hF6
                  clear hI1 ho1 hq1 hc1 hlt1 hF6 a0 a1
                  go_wp2_with fail
                  refine (HRN.out _ _ _ _ HF6.out HI1.out).mono ?_
                  rintro e w7 ⟨rfl, cp7, s7, hcp7, hI7, hM7, hs7, hF7⟩
                  have HG7 := hid (fr_op_own (S := fun _ => False) (HF.out.trans HF6.out) hF7 (fun k h hlt => by have := HBO.out _ h; omega) (by have := HQ1.out; have := HF.out.size; omega) (by have := HQ1.out; have := HF.out.size; omega))
                  have HB7 := hid ((HBD.out.same HF6.out).keep hF7 (om_not HOL.out HBW.out HQ1.out HB.out))
                  have HO7 := hid ((HO.out.same HF6.out).keep hF7 (om_row HO.out HOL2.out HQ1.out))
                  have HMN := hid hM7
                  have HI7 := hid hI7
                  have HSLN := hid hs7
                  have HBN := hid (show wd.heap.size ≤ w7.heap.size from Nat.le_trans HB.out (Nat.le_trans HF6.out.size hF7.size))
                  clear hF7 hM7 hs7 hcp7 hI7
                  have HGT := hid (show ∀ u, Fr (fun _ => False) w7 u → Calls Try.prog 20 #[.pointer (some ⟨o1, 0, none⟩)] u (fun e w' => e = .returned (.int .i64 0) ∧ u = w') from fun u F => by
                    have := op_got' (HI7.out.same F) (fun _ h => by rw [HHOW.out] at h; cases h)
                    rw [HTELL.out] at this
                    exact this)
                  go_wp2_with fail
                  refine (HGT.out _ (Fr.refl _ _)).mono ?_
                  rintro e w' ⟨rfl, rfl⟩
                  have HSN := hid (show SeqI q M' R (1 + (((j + 1 : Nat)) : Int)) [] from HM'.out ▸ (HSN0.out).up (by omega))
                  have HLN := hid (show ([] : List Int).length = 0 from rfl)
                  have HLS := hid (show Calls Try.prog 26 #[.agg #[.int .i64 0, .int .i64 q], .pointer (some ⟨b.m, 0, none⟩)] w7 (fun e w' => ∃ (A : Option Addr) (cap : Nat), e = .returned (.slice A (0) cap) ∧ OwnR w' w7.heap.size 2 1 A (0) cap (intsV ([])) ∧ Fr (fun _ => False) w7 w') from by
                    have h9 := dlist_ok b M' s7 R q w7 HMN.out HSN.out.cells.1 HSN.out.cells.2.1 (by have := HSN.out.cells; have := pow_pos R.l; omega) HSN.out.cells.2.2.2.2.2.2.1 (by have := HSN.out.cells; have := HSN.out.room; omega) ((HSN.out.cb (by omega)).1.more (by omega))
                    rw [HSN.out.list] at h9
                    unfold ListPost at h9
                    rw [HLN.out] at h9
                    exact h9)
                  have a0 := HB7.out.cell (i := 0) rfl
                  have a1 := HB7.out.cell (i := 1) rfl
                  go_wp2_with fail
                  refine HLS.out.mono ?_
                  rintro e w8 ⟨A8, cap8, rfl, hO8, hF8⟩
                  have HSM := hid (fun cA cB => same_yes A8 (some ⟨g, 0, none⟩) ([]) (0) cA cB w8 (hO8.intR HLN.out.symm) ((HO7.out.same hF8).intR HLN.out.symm) HLN.out (by omega))
                  have HF8 := hid (HG7.out.trans hF8)
                  have HO8 := hid (HO7.out.same hF8)
                  have HB8 := hid (HB7.out.same hF8)
                  have HM8 := hid (HMN.out.same hF8)
                  have HS8 := hid (Nat.le_trans HBN.out hF8.size)
                  clear hO8 hF8 a0 a1
                  go_wp2_with fail
                  refine (HSM.out _ _).mono ?_
                  rintro e w9 ⟨rfl, hF9⟩
                  have HF9 := hid hF9
                  clear hF9
                  go_wp2_with fail
                  go_roundg (301 - (j + 1))
                  case rel => exact ⟨j + 1, _, _, M', s7, R, g, _, by omega, by omega, rfl, HLN.out, rfl, by go_num, HO8.out.same HF9.out, HM8.out.same HF9.out, HSLN.out, by exact HSN.out, HF8.out.trans HF9.out, HB8.out.same HF9.out, Nat.le_trans HS8.out HF9.out.size⟩
                  case measure => omega
                · obtain ⟨o', M', hRun, hhow, hgot, hSN⟩ := HSQ2.out.steal (by have := HLL.out; omega)
                  obtain ⟨R', hR'⟩ : ∃ R', R = R' := ⟨_, rfl⟩
                  have hgot2 : o'.got = L.getD (0) 0 := by rw [hgot]
                  obtain ⟨y, hy⟩ : ∃ y, L.getD (0) 0 = y := ⟨_, rfl⟩
                  have HTELL := hid (show o'.tell = y from by unfold DOp.tell; rw [if_pos (.inr hhow), hgot2, hy])
                  have HY := hid hy
                  have HSN0 := hid (show SeqI q M' R (1 + (j : Int)) (L.take (0) ++ L.drop (0 + 1)) from by
                    have := hSN
                    simp only [List.take_zero, List.nil_append, Nat.zero_add]
                    exact this)
                  clear hgot hgot2 hy
                  have HRN := hid (show ∀ (u : World) (o1 q1 c1 : Nat), Fr (fun _ => False) wr u → IsOp u b o1 q1 c1 q (beginOp 2 0) → Calls Try.prog 31 #[.pointer (some ⟨b.m, 0, none⟩), .pointer (some ⟨o1, 0, none⟩), .int .i64 1] u (fun e w' => e = .returned (.int .i64 1) ∧ ∃ cp' s', (cp' = c1 ∨ u.heap.size ≤ cp') ∧ IsOp w' b o1 q1 cp' q o' ∧ IsM w' b (MO M' s') ∧ s'.length = 3 ∧ Fr (OM b q1 c1) u w') from
                    fun u o1 q1 c1 F hI => (show Calls Try.prog 31 #[.pointer (some ⟨b.m, 0, none⟩), .pointer (some ⟨o1, 0, none⟩), .int .i64 1] u _ from run_ok b o1 q1 c1 q _ o' M M' s 1 5 u hRun (live_begin 2 0) (St.begin_ hI (HM.out.same F) (HSQ2.out.cb (by omega)).1 (by omega) (HSQ2.out.cb (by omega)).2) (by rw [HS.out]; omega) (by omega)).mono fun e w' ⟨h1, cp', s', h2, h3, h4, h5, h6⟩ => ⟨by rw [h1, hhow]; rfl, cp', s', h2, h3, h4, h5.trans HS.out, h6⟩)
                  have HHOW := hid hhow
                  clear hRun hhow hSN
                  have hm300 : m ≤ 256 := by have := HSQ2.out.room; have := pow_le q hq8; have := HLL.out; omega
                  have a0 := HBD.out.cell (i := 0) rfl
                  have a1 := HBD.out.cell (i := 1) rfl
                  go_wp2_with fail
                  refine (HBS.out _ (Fr.refl _ _)).mono ?_
                  rintro e w6 ⟨o1, q1, c1, rfl, hI1, hF6, ⟨ho1, hq1, hc1⟩, hlt1⟩
                  have HQ1 := hid (show wr.heap.size ≤ q1 ∧ wr.heap.size ≤ c1 from ⟨hq1, hc1⟩)
                  have HI1 := hid hI1
                  have k1 := HCK.out _ (HF.out.trans hF6)
                  rw [HKD.out] at k1
                  have HF6 := hid hF6
                  clear hI1 ho1 hq1 hc1 hlt1 hF6 a0 a1
                  go_wp2_with fail
                  refine (HRN.out _ _ _ _ HF6.out HI1.out).mono ?_
                  rintro e w7 ⟨rfl, cp7, s7, hcp7, hI7, hM7, hs7, hF7⟩
                  have HG7 := hid (fr_op_own (S := fun _ => False) (HF.out.trans HF6.out) hF7 (fun k h hlt => by have := HBO.out _ h; omega) (by have := HQ1.out; have := HF.out.size; omega) (by have := HQ1.out; have := HF.out.size; omega))
                  have HB7 := hid ((HBD.out.same HF6.out).keep hF7 (om_not HOL.out HBW.out HQ1.out HB.out))
                  have HO7 := hid ((HO.out.same HF6.out).keep hF7 (om_row HO.out HOL2.out HQ1.out))
                  have HMN := hid hM7
                  have HI7 := hid hI7
                  have HSLN := hid hs7
                  have HBN := hid (show wd.heap.size ≤ w7.heap.size from Nat.le_trans HB.out (Nat.le_trans HF6.out.size hF7.size))
                  clear hF7 hM7 hs7 hcp7 hI7
                  have HGT := hid (show ∀ u, Fr (fun _ => False) w7 u → Calls Try.prog 20 #[.pointer (some ⟨o1, 0, none⟩)] u (fun e w' => e = .returned (.int .i64 y) ∧ u = w') from fun u F => by
                    have := op_got' (HI7.out.same F) (fun _ h => by rw [HHOW.out] at h; cases h)
                    rw [HTELL.out] at this
                    exact this)
                  have HST := hid (show ∀ u, Fr (fun _ => False) w7 u → Calls Try.prog 18 #[.pointer (some ⟨o1, 0, none⟩), .pointer (some ⟨b.m, 0, none⟩), .int .i64 1] u (fun e w' => e = .returned (.int .i64 1) ∧ u = w') from fun u F => by
                    have := op_still' (HI7.out.same F) (by rw [HHOW.out]; omega) (by rw [HHOW.out]; omega) (.pointer (some ⟨b.m, 0, none⟩)) (.inr ⟨_, rfl⟩) 1
                    rw [HHOW.out] at this
                    exact this)
                  have hcell := (OwnR.cell HO7.out (by omega))
                  obtain ⟨g', hg', _, hglt, _, hcl7⟩ := hcell
                  have hgg : g = g' := by injection hg' with hg'; injection hg'
                  subst hgg
                  have r0 : w7.cell? ⟨g, 0, none⟩ = some (.int .i64 y) := hcl7 0 _ (by rw [← HY.out]; exact intsV_at L (0) (by have := HLL.out; omega))
                  have HCL7 := hid hcl7
                  have HY7 := hid (show (y != y) = false from by simp)
                  have ty := HY7.out
                  clear hg' hglt hcl7
                  go_upto_region 35 with fail
                  go_quiet ((first
                    | (go_at_call 20; exact (HGT.out _ (Fr.drewN _ _ _)).mono fun _ _ ⟨he, hm⟩ => ⟨he, _, hm.symm⟩)
                    | (go_at_call 18; exact (HST.out _ (Fr.drewN _ _ _)).mono fun _ _ ⟨he, hm⟩ => ⟨he, _, hm.symm⟩)))
                  generalize hw8 : w7.drewN _ = w8
                  have HF78 := hid (show Fr (fun _ => False) w7 w8 from by rw [← hw8]; exact Fr.drewN _ _ _)
                  have HG8 := hid (HG7.out.trans HF78.out)
                  have HO8 := hid (HO7.out.same HF78.out)
                  have HB8 := hid (HB7.out.same HF78.out)
                  have HM8 := hid (HMN.out.same HF78.out)
                  have HS8 := hid (Nat.le_trans HBN.out HF78.out.size)
                  have HE1 := hid (empty_own w8 wd.heap.size 2 HS8.out)
                  have HFA1 := hid (Fr.alloc (fun _ => False) w8 (.cells #[] 2))
                  have HNW1 := hid (news_take (HO8.out.same HFA1.out) (0) (by omega) HLL.out)
                  have hcap := OwnR.capy HO8.out
                  have HSA := hid (show wd.heap.size ≤ (w8.alloc (.cells #[] 2)).heap.size from by have := HS8.out; simp; omega)
                  have c0 := hcap.1
                  have c1 := hcap.2
                  unfold maxLen at c1
                  clear hw8 hcap r0
                  go_upto_region 38 with (at_builtin; go_must (refine wpList_append_own _ rfl _ _ 30 rfl wd.heap.size 2 i0 (.int .i64 0) 1 8 Try.underlying30 HII.out HZ0.out HZ1.out HZ2.out rfl (by decide) (.slice (some ⟨w8.heap.size, 0, none⟩) 0 0) 0 _ rfl HE1.out ⟨g, 0, none⟩ (0) cap (intsV (L.take (0))) rfl (by simp only [intsV, List.length_map, List.length_take]; have := HLL.out; omega) HNW1.out (intsV_one _) (by unfold maxLen; omega) (by omega) HSA.out ?_; intro v2 w10 hown2 hgrow2 hnil2; rw [Nat.zero_add] at hown2; obtain ⟨g2, c2', rfl, ho2⟩ := OwnR.stays hown2 (fun hh => by have := hnil2.1 hh; cases this.1); have HO9 := hid ho2; have HFG := hid (Fr.of_grown hgrow2); clear hown2 hgrow2 ho2 hnil2))
                  have HGL := hid (OwnR.lt HO8.out g ⟨_, rfl, rfl⟩)
                  have HX := hid ((HO8.out.same HFA1.out).keep HFG.out (fun j hj hk => by
                    obtain ⟨a, ha, rfl⟩ := hj
                    obtain ⟨a', ha', hk⟩ := hk
                    injection ha with ha
                    injection ha' with ha'
                    subst ha ha'
                    have := HGL.out
                    simp only at hk this
                    omega))
                  have HNW2 := hid (news_drop2 HX.out (0) (by omega) HLL.out)
                  have HB10 := hid ((HB8.out.same HFA1.out).keep HFG.out (fun hh => by obtain ⟨a, ha, hk⟩ := hh; injection ha with ha; subst ha; have := HS8.out; have := HSZ.out; simp only at hk; omega))
                  have HM10 := hid ((HM8.out.same HFA1.out).keep HFG.out (fun k hk hh => by obtain ⟨a, ha, hk2⟩ := hh; injection ha with ha; subst ha; have := HS8.out; have := HOL2.out _ hk; simp only at hk2; omega))
                  have HG10 := hid ((HG8.out.trans HFA1.out).since HFG.out (fun i hi hlt => by obtain ⟨a, ha, hk⟩ := hi; injection ha with ha; subst ha; have := HG8.out.size; simp only at hk; omega))
                  have HS10 := hid (Nat.le_trans HSA.out HFG.out.size)
                  obtain ⟨mm, hmm⟩ : ∃ mm, (0) + (m - (0 + 1)) = mm := ⟨_, rfl⟩
                  have HMM := hid hmm
                  have hmm9 : mm ≤ 1000 := by omega
                  clear hmm
                  go_wp2_with (at_builtin; go_must (refine wpList_append_own _ rfl _ _ 30 rfl wd.heap.size 2 i0 (.int .i64 0) 1 8 Try.underlying30 HII.out HZ0.out HZ1.out HZ2.out rfl (by decide) (.slice (some ⟨g2, 0, none⟩) (0) c2') (0) _ rfl HO9.out (if cap = (0) + 1 then ⟨g, 0, none⟩ else ⟨g, (0) + 1, none⟩) (m - (0 + 1)) (cap - ((0) + 1)) (intsV (L.drop ((0) + 1))) (show Value.slice (if cap = (0) + 1 then some ⟨g, 0, none⟩ else some ⟨g, (0) + 1, none⟩) (m - (0 + 1)) (cap - ((0) + 1)) = _ from by rw [ite_some]) (by simp only [intsV, List.length_map, List.length_drop]; have := HLL.out; omega) HNW2.out (intsV_one _) (by unfold maxLen; omega) (by omega) HS10.out ?_; intro v3 w11 hown3 hgrow3 hnil3; rw [HMM.out] at hown3; obtain ⟨g3, c3', rfl, ho3⟩ := OwnR.stays hown3 (fun hh => by have := hnil3.1 hh; cases this.1); have HO11 := hid (OwnR.eq (ys := intsV (L.take (0) ++ L.drop ((0) + 1))) ho3 (by simp [intsV])); have HFH := hid (Fr.of_grown hgrow3); clear hown3 hgrow3 ho3 hnil3; have HB11 := hid (HB10.out.keep HFH.out (fun hh => by have := (OwnR.lt HO9.out _ hh).1; have := HSZ.out; omega)); have b0 := HB11.out.cell (i := 0) rfl; have b1 := HB11.out.cell (i := 1) rfl))
                  all_goals
                    have HMN := hid (HM10.out.keep HFH.out (fun k hk hh => by have := (OwnR.lt HO9.out _ hh).1; have := HOL2.out _ hk; omega))
                    have HG11 := hid (HG10.out.since HFH.out (fun i hi hlt => by have := (OwnR.lt HO9.out i hi).1; have := HSZ.out; have := HWS.out; omega))
                    have HBN := hid (show wd.heap.size ≤ w11.heap.size from Nat.le_trans HS10.out HFH.out.size)
                    have HSN := hid (show SeqI q M' R (1 + (((j + 1 : Nat)) : Int)) (L.take (0) ++ L.drop ((0) + 1)) from HSN0.out.up (by omega))
                    have HLN := hid (show (L.take (0) ++ L.drop ((0) + 1)).length = mm from by rw [List.length_append, List.length_take, List.length_drop]; have := HLL.out; have := HMM.out; omega)
                    have HLS := hid (show Calls Try.prog 26 #[.agg #[.int .i64 0, .int .i64 q], .pointer (some ⟨b.m, 0, none⟩)] w11 (fun e w' => ∃ (A : Option Addr) (cap : Nat), e = .returned (.slice A (mm) cap) ∧ OwnR w' w11.heap.size 2 1 A (mm) cap (intsV (L.take (0) ++ L.drop ((0) + 1))) ∧ Fr (fun _ => False) w11 w') from by
                      have h9 := dlist_ok b M' s7 R q w11 HMN.out HSN.out.cells.1 HSN.out.cells.2.1 (by have := HSN.out.cells; have := pow_pos R.l; omega) HSN.out.cells.2.2.2.2.2.2.1 (by have := HSN.out.cells; have := HSN.out.room; omega) ((HSN.out.cb (by omega)).1.more (by omega))
                      rw [HSN.out.list] at h9
                      unfold ListPost at h9
                      rw [HLN.out] at h9
                      exact h9)
                    have a0 := HB11.out.cell (i := 0) rfl
                    have a1 := HB11.out.cell (i := 1) rfl
                    go_wp2_with fail
                    refine HLS.out.mono ?_
                    rintro e w8 ⟨A8, cap8, rfl, hO8, hF8⟩
                    have HSM := hid (fun cA cB => same_yes A8 (some ⟨g3, 0, none⟩) (L.take (0) ++ L.drop ((0) + 1)) (mm) cA cB w8 (hO8.intR HLN.out.symm) ((HO11.out.same hF8).intR HLN.out.symm) HLN.out (by omega))
                    have HF8 := hid (HG11.out.trans hF8)
                    have HO8 := hid (HO11.out.same hF8)
                    have HB8 := hid (HB11.out.same hF8)
                    have HM8 := hid (HMN.out.same hF8)
                    have HS8 := hid (Nat.le_trans HBN.out hF8.size)
                    clear hO8 hF8 a0 a1
                    go_wp2_with fail
                    refine (HSM.out _ _).mono ?_
                    rintro e w9 ⟨rfl, hF9⟩
                    have HF9 := hid hF9
                    clear hF9
                    go_wp2_with fail
                    go_roundg (301 - (j + 1))
                    case rel => exact ⟨j + 1, _, _, M', s7, R, g3, _, by omega, by omega, rfl, HLN.out, rfl, by go_num, HO8.out.same HF9.out, HM8.out.same HF9.out, HSLN.out, by exact HSN.out, HF8.out.trans HF9.out, HB8.out.same HF9.out, Nat.le_trans HS8.out HF9.out.size⟩
                    case measure => omega
              · rcases Nat.eq_zero_or_pos m with rfl | hmp
                · have hL0 : L = [] := by
                    have := HLL.out
                    exact List.length_eq_zero_iff.1 (by omega)
                  subst hL0
                  obtain ⟨nn, o', M', hRun, hnn, hhow, hSN⟩ := HSQ2.out.pop0
                  obtain ⟨R', hR'⟩ : ∃ R', R = R' := ⟨_, rfl⟩
                  have HTELL := hid (show o'.tell = 0 from by unfold DOp.tell; rw [if_neg (by omega)])
                  have HSN0 := hid hSN
                  have HRN := hid (show ∀ (u : World) (o1 q1 c1 : Nat), Fr (fun _ => False) wr u → IsOp u b o1 q1 c1 q (beginOp 1 0) → Calls Try.prog 31 #[.pointer (some ⟨b.m, 0, none⟩), .pointer (some ⟨o1, 0, none⟩), .int .i64 0] u (fun e w' => e = .returned (.int .i64 3) ∧ ∃ cp' s', (cp' = c1 ∨ u.heap.size ≤ cp') ∧ IsOp w' b o1 q1 cp' q o' ∧ IsM w' b (MO M' s') ∧ s'.length = 3 ∧ Fr (OM b q1 c1) u w') from
                    fun u o1 q1 c1 F hI => (show Calls Try.prog 31 #[.pointer (some ⟨b.m, 0, none⟩), .pointer (some ⟨o1, 0, none⟩), .int .i64 0] u _ from run_ok b o1 q1 c1 q _ o' M M' s 0 nn u hRun (live_begin 1 0) (St.begin_ hI (HM.out.same F) (HSQ2.out.cb (by omega)).1 (by omega) (HSQ2.out.cb (by omega)).2) (by rw [HS.out]; omega) (by omega)).mono fun e w' ⟨h1, cp', s', h2, h3, h4, h5, h6⟩ => ⟨by rw [h1, hhow]; rfl, cp', s', h2, h3, h4, h5.trans HS.out, h6⟩)
                  have HHOW := hid hhow
                  clear hRun hhow hSN hnn
                  have a0 := HBD.out.cell (i := 0) rfl
                  have a1 := HBD.out.cell (i := 1) rfl
                  go_wp2_with fail
                  refine (HBS.out _ (Fr.refl _ _)).mono ?_
                  rintro e w6 ⟨o1, q1, c1, rfl, hI1, hF6, ⟨ho1, hq1, hc1⟩, hlt1⟩
                  have HFP := hid hF6
                  have k1 := HCK.out _ (HF.out.trans hF6)
                  rw [HKD.out] at k1
                  clear hI1 ho1 hq1 hc1 hlt1 hF6 a0 a1
                  have a0 := (HBD.out.same HFP.out).cell (i := 0) rfl
                  have a1 := (HBD.out.same HFP.out).cell (i := 1) rfl
                  go_wp2_with fail
                  refine (HBP.out _ HFP.out).mono ?_
                  rintro e w6p ⟨o2, q2, c2'', rfl, hI1, hF6, ⟨ho1, hq1, hc1⟩, hlt1⟩
                  have HQ1 := hid (show wr.heap.size ≤ q2 ∧ wr.heap.size ≤ c2'' from ⟨Nat.le_trans HFP.out.size hq1, Nat.le_trans HFP.out.size hc1⟩)
                  have HI1 := hid hI1
                  have HF6 := hid (HFP.out.trans hF6)
                  clear hI1 ho1 hq1 hc1 hlt1 hF6 a0 a1
                  go_wp2_with fail
                  refine (HRN.out _ _ _ _ HF6.out HI1.out).mono ?_
                  rintro e w7 ⟨rfl, cp7, s7, hcp7, hI7, hM7, hs7, hF7⟩
                  have HG7 := hid (fr_op_own (S := fun _ => False) (HF.out.trans HF6.out) hF7 (fun k h hlt => by have := HBO.out _ h; omega) (by have := HQ1.out; have := HF.out.size; omega) (by have := HQ1.out; have := HF.out.size; omega))
                  have HB7 := hid ((HBD.out.same HF6.out).keep hF7 (om_not HOL.out HBW.out HQ1.out HB.out))
                  have HO7 := hid ((HO.out.same HF6.out).keep hF7 (om_row HO.out HOL2.out HQ1.out))
                  have HMN := hid hM7
                  have HI7 := hid hI7
                  have HSLN := hid hs7
                  have HBN := hid (show wd.heap.size ≤ w7.heap.size from Nat.le_trans HB.out (Nat.le_trans HF6.out.size hF7.size))
                  clear hF7 hM7 hs7 hcp7 hI7
                  have HGT := hid (show ∀ u, Fr (fun _ => False) w7 u → Calls Try.prog 20 #[.pointer (some ⟨o2, 0, none⟩)] u (fun e w' => e = .returned (.int .i64 0) ∧ u = w') from fun u F => by
                    have := op_got' (HI7.out.same F) (fun _ h => by rw [HHOW.out] at h; cases h)
                    rw [HTELL.out] at this
                    exact this)
                  go_wp2_with fail
                  refine (HGT.out _ (Fr.refl _ _)).mono ?_
                  rintro e w' ⟨rfl, rfl⟩
                  have HSN := hid (show SeqI q M' R (1 + (((j + 1 : Nat)) : Int)) [] from (HSN0.out).up (by omega))
                  have HLN := hid (show ([] : List Int).length = 0 from rfl)
                  have HLS := hid (show Calls Try.prog 26 #[.agg #[.int .i64 0, .int .i64 q], .pointer (some ⟨b.m, 0, none⟩)] w7 (fun e w' => ∃ (A : Option Addr) (cap : Nat), e = .returned (.slice A (0) cap) ∧ OwnR w' w7.heap.size 2 1 A (0) cap (intsV ([])) ∧ Fr (fun _ => False) w7 w') from by
                    have h9 := dlist_ok b M' s7 R q w7 HMN.out HSN.out.cells.1 HSN.out.cells.2.1 (by have := HSN.out.cells; have := pow_pos R.l; omega) HSN.out.cells.2.2.2.2.2.2.1 (by have := HSN.out.cells; have := HSN.out.room; omega) ((HSN.out.cb (by omega)).1.more (by omega))
                    rw [HSN.out.list] at h9
                    unfold ListPost at h9
                    rw [HLN.out] at h9
                    exact h9)
                  have a0 := HB7.out.cell (i := 0) rfl
                  have a1 := HB7.out.cell (i := 1) rfl
                  go_wp2_with fail
                  refine HLS.out.mono ?_
                  rintro e w8 ⟨A8, cap8, rfl, hO8, hF8⟩
                  have HSM := hid (fun cA cB => same_yes A8 (some ⟨g, 0, none⟩) ([]) (0) cA cB w8 (hO8.intR HLN.out.symm) ((HO7.out.same hF8).intR HLN.out.symm) HLN.out (by omega))
                  have HF8 := hid (HG7.out.trans hF8)
                  have HO8 := hid (HO7.out.same hF8)
                  have HB8 := hid (HB7.out.same hF8)
                  have HM8 := hid (HMN.out.same hF8)
                  have HS8 := hid (Nat.le_trans HBN.out hF8.size)
                  clear hO8 hF8 a0 a1
                  go_wp2_with fail
                  refine (HSM.out _ _).mono ?_
                  rintro e w9 ⟨rfl, hF9⟩
                  have HF9 := hid hF9
                  clear hF9
                  go_wp2_with fail
                  go_roundg (301 - (j + 1))
                  case rel => exact ⟨j + 1, _, _, M', s7, R, g, _, by omega, by omega, rfl, HLN.out, rfl, by go_num, HO8.out.same HF9.out, HM8.out.same HF9.out, HSLN.out, by exact HSN.out, HF8.out.trans HF9.out, HB8.out.same HF9.out, Nat.le_trans HS8.out HF9.out.size⟩
                  case measure => omega
                · obtain ⟨m0, rfl⟩ : ∃ m0, m = m0 + 1 := ⟨m - 1, by omega⟩
                  obtain ⟨nn, o', M', hRun, hnn, hhow, hgot, hSN⟩ := HSQ2.out.pop (by have := HLL.out; omega)
                  obtain ⟨R', hR'⟩ : ∃ R', R = R' := ⟨_, rfl⟩
                  have hgot2 : o'.got = L.getD (m0) 0 := by rw [hgot]; congr 1; have := HLL.out; omega
                  obtain ⟨y, hy⟩ : ∃ y, L.getD (m0) 0 = y := ⟨_, rfl⟩
                  have HTELL := hid (show o'.tell = y from by unfold DOp.tell; rw [if_pos (.inr hhow), hgot2, hy])
                  have HY := hid hy
                  have HSN0 := hid (show SeqI q M' R (1 + (j : Int)) (L.take (m0) ++ L.drop (m0 + 1)) from by
                    have := hSN
                    rw [show L.length - 1 = m0 by have := HLL.out; omega] at this
                    rw [show L.drop (m0 + 1) = [] from List.drop_eq_nil_of_le (by have := HLL.out; omega), List.append_nil]
                    exact this)
                  clear hgot hgot2 hy
                  have HRN := hid (show ∀ (u : World) (o1 q1 c1 : Nat), Fr (fun _ => False) wr u → IsOp u b o1 q1 c1 q (beginOp 1 0) → Calls Try.prog 31 #[.pointer (some ⟨b.m, 0, none⟩), .pointer (some ⟨o1, 0, none⟩), .int .i64 0] u (fun e w' => e = .returned (.int .i64 1) ∧ ∃ cp' s', (cp' = c1 ∨ u.heap.size ≤ cp') ∧ IsOp w' b o1 q1 cp' q o' ∧ IsM w' b (MO M' s') ∧ s'.length = 3 ∧ Fr (OM b q1 c1) u w') from
                    fun u o1 q1 c1 F hI => (show Calls Try.prog 31 #[.pointer (some ⟨b.m, 0, none⟩), .pointer (some ⟨o1, 0, none⟩), .int .i64 0] u _ from run_ok b o1 q1 c1 q _ o' M M' s 0 nn u hRun (live_begin 1 0) (St.begin_ hI (HM.out.same F) (HSQ2.out.cb (by omega)).1 (by omega) (HSQ2.out.cb (by omega)).2) (by rw [HS.out]; omega) (by omega)).mono fun e w' ⟨h1, cp', s', h2, h3, h4, h5, h6⟩ => ⟨by rw [h1, hhow]; rfl, cp', s', h2, h3, h4, h5.trans HS.out, h6⟩)
                  have HHOW := hid hhow
                  clear hRun hhow hSN hnn
                  have hm300 : m0 + 1 ≤ 256 := by have := HSQ2.out.room; have := pow_le q hq8; have := HLL.out; omega
                  have a0 := HBD.out.cell (i := 0) rfl
                  have a1 := HBD.out.cell (i := 1) rfl
                  go_wp2_with fail
                  refine (HBS.out _ (Fr.refl _ _)).mono ?_
                  rintro e w6 ⟨o1, q1, c1, rfl, hI1, hF6, ⟨ho1, hq1, hc1⟩, hlt1⟩
                  have HFP := hid hF6
                  have k1 := HCK.out _ (HF.out.trans hF6)
                  rw [HKD.out] at k1
                  clear hI1 ho1 hq1 hc1 hlt1 hF6 a0 a1
                  have a0 := (HBD.out.same HFP.out).cell (i := 0) rfl
                  have a1 := (HBD.out.same HFP.out).cell (i := 1) rfl
                  go_wp2_with fail
                  refine (HBP.out _ HFP.out).mono ?_
                  rintro e w6p ⟨o2, q2, c2'', rfl, hI1, hF6, ⟨ho1, hq1, hc1⟩, hlt1⟩
                  have HQ1 := hid (show wr.heap.size ≤ q2 ∧ wr.heap.size ≤ c2'' from ⟨Nat.le_trans HFP.out.size hq1, Nat.le_trans HFP.out.size hc1⟩)
                  have HI1 := hid hI1
                  have HF6 := hid (HFP.out.trans hF6)
                  clear hI1 ho1 hq1 hc1 hlt1 hF6 a0 a1
                  go_wp2_with fail
                  refine (HRN.out _ _ _ _ HF6.out HI1.out).mono ?_
                  rintro e w7 ⟨rfl, cp7, s7, hcp7, hI7, hM7, hs7, hF7⟩
                  have HG7 := hid (fr_op_own (S := fun _ => False) (HF.out.trans HF6.out) hF7 (fun k h hlt => by have := HBO.out _ h; omega) (by have := HQ1.out; have := HF.out.size; omega) (by have := HQ1.out; have := HF.out.size; omega))
                  have HB7 := hid ((HBD.out.same HF6.out).keep hF7 (om_not HOL.out HBW.out HQ1.out HB.out))
                  have HO7 := hid ((HO.out.same HF6.out).keep hF7 (om_row HO.out HOL2.out HQ1.out))
                  have HMN := hid hM7
                  have HI7 := hid hI7
                  have HSLN := hid hs7
                  have HBN := hid (show wd.heap.size ≤ w7.heap.size from Nat.le_trans HB.out (Nat.le_trans HF6.out.size hF7.size))
                  clear hF7 hM7 hs7 hcp7 hI7
                  have HGT := hid (show ∀ u, Fr (fun _ => False) w7 u → Calls Try.prog 20 #[.pointer (some ⟨o2, 0, none⟩)] u (fun e w' => e = .returned (.int .i64 y) ∧ u = w') from fun u F => by
                    have := op_got' (HI7.out.same F) (fun _ h => by rw [HHOW.out] at h; cases h)
                    rw [HTELL.out] at this
                    exact this)
                  have HST := hid (show ∀ u, Fr (fun _ => False) w7 u → Calls Try.prog 18 #[.pointer (some ⟨o2, 0, none⟩), .pointer (some ⟨b.m, 0, none⟩), .int .i64 0] u (fun e w' => e = .returned (.int .i64 1) ∧ u = w') from fun u F => by
                    have := op_still' (HI7.out.same F) (by rw [HHOW.out]; omega) (by rw [HHOW.out]; omega) (.pointer (some ⟨b.m, 0, none⟩)) (.inr ⟨_, rfl⟩) 0
                    rw [HHOW.out] at this
                    exact this)
                  have hcell := (OwnR.cell HO7.out (by omega))
                  obtain ⟨g', hg', _, hglt, _, hcl7⟩ := hcell
                  have hgg : g = g' := by injection hg' with hg'; injection hg'
                  subst hgg
                  have r0 : w7.cell? ⟨g, m0, none⟩ = some (.int .i64 y) := hcl7 m0 _ (by rw [← HY.out]; exact intsV_at L (m0) (by have := HLL.out; omega))
                  have HCL7 := hid hcl7
                  have HY7 := hid (show (y != y) = false from by simp)
                  have ty := HY7.out
                  clear hg' hglt hcl7
                  go_upto_region 35 with fail
                  go_quiet ((first
                    | (go_at_call 20; exact (HGT.out _ (Fr.drewN _ _ _)).mono fun _ _ ⟨he, hm⟩ => ⟨he, _, hm.symm⟩)
                    | (go_at_call 18; exact (HST.out _ (Fr.drewN _ _ _)).mono fun _ _ ⟨he, hm⟩ => ⟨he, _, hm.symm⟩)))
                  generalize hw8 : w7.drewN _ = w8
                  have HF78 := hid (show Fr (fun _ => False) w7 w8 from by rw [← hw8]; exact Fr.drewN _ _ _)
                  have HG8 := hid (HG7.out.trans HF78.out)
                  have HO8 := hid (HO7.out.same HF78.out)
                  have HB8 := hid (HB7.out.same HF78.out)
                  have HM8 := hid (HMN.out.same HF78.out)
                  have HS8 := hid (Nat.le_trans HBN.out HF78.out.size)
                  have HE1 := hid (empty_own w8 wd.heap.size 2 HS8.out)
                  have HFA1 := hid (Fr.alloc (fun _ => False) w8 (.cells #[] 2))
                  have HNW1 := hid (news_take (HO8.out.same HFA1.out) (m0) (by omega) HLL.out)
                  have hcap := OwnR.capy HO8.out
                  have HSA := hid (show wd.heap.size ≤ (w8.alloc (.cells #[] 2)).heap.size from by have := HS8.out; simp; omega)
                  have c0 := hcap.1
                  have c1 := hcap.2
                  unfold maxLen at c1
                  clear hw8 hcap r0
                  go_upto_region 38 with (at_builtin; go_must (refine wpList_append_own _ rfl _ _ 30 rfl wd.heap.size 2 i0 (.int .i64 0) 1 8 Try.underlying30 HII.out HZ0.out HZ1.out HZ2.out rfl (by decide) (.slice (some ⟨w8.heap.size, 0, none⟩) 0 0) 0 _ rfl HE1.out ⟨g, 0, none⟩ (m0) cap (intsV (L.take (m0))) rfl (by simp only [intsV, List.length_map, List.length_take]; have := HLL.out; omega) HNW1.out (intsV_one _) (by unfold maxLen; omega) (by omega) HSA.out ?_; intro v2 w10 hown2 hgrow2 hnil2; rw [Nat.zero_add] at hown2; obtain ⟨g2, c2', rfl, ho2⟩ := OwnR.stays hown2 (fun hh => by have := hnil2.1 hh; cases this.1); have HO9 := hid ho2; have HFG := hid (Fr.of_grown hgrow2); clear hown2 hgrow2 ho2 hnil2))
                  have HGL := hid (OwnR.lt HO8.out g ⟨_, rfl, rfl⟩)
                  have HX := hid ((HO8.out.same HFA1.out).keep HFG.out (fun j hj hk => by
                    obtain ⟨a, ha, rfl⟩ := hj
                    obtain ⟨a', ha', hk⟩ := hk
                    injection ha with ha
                    injection ha' with ha'
                    subst ha ha'
                    have := HGL.out
                    simp only at hk this
                    omega))
                  have HNW2 := hid (news_drop2 HX.out (m0) (by omega) HLL.out)
                  have HB10 := hid ((HB8.out.same HFA1.out).keep HFG.out (fun hh => by obtain ⟨a, ha, hk⟩ := hh; injection ha with ha; subst ha; have := HS8.out; have := HSZ.out; simp only at hk; omega))
                  have HM10 := hid ((HM8.out.same HFA1.out).keep HFG.out (fun k hk hh => by obtain ⟨a, ha, hk2⟩ := hh; injection ha with ha; subst ha; have := HS8.out; have := HOL2.out _ hk; simp only at hk2; omega))
                  have HG10 := hid ((HG8.out.trans HFA1.out).since HFG.out (fun i hi hlt => by obtain ⟨a, ha, hk⟩ := hi; injection ha with ha; subst ha; have := HG8.out.size; simp only at hk; omega))
                  have HS10 := hid (Nat.le_trans HSA.out HFG.out.size)
                  obtain ⟨mm, hmm⟩ : ∃ mm, (m0) + 0 = mm := ⟨_, rfl⟩
                  have HMM := hid hmm
                  have hmm9 : mm ≤ 1000 := by omega
                  clear hmm
                  go_wp2_with (at_builtin; go_must (refine wpList_append_own _ rfl _ _ 30 rfl wd.heap.size 2 i0 (.int .i64 0) 1 8 Try.underlying30 HII.out HZ0.out HZ1.out HZ2.out rfl (by decide) (.slice (some ⟨g2, 0, none⟩) (m0) c2') (m0) _ rfl HO9.out (if cap = (m0) + 1 then ⟨g, 0, none⟩ else ⟨g, (m0) + 1, none⟩) 0 (cap - ((m0) + 1)) (intsV (L.drop ((m0) + 1))) (show Value.slice (if cap = (m0) + 1 then some ⟨g, 0, none⟩ else some ⟨g, (m0) + 1, none⟩) 0 (cap - ((m0) + 1)) = _ from by rw [ite_some]) (by simp only [intsV, List.length_map, List.length_drop]; have := HLL.out; omega) HNW2.out (intsV_one _) (by unfold maxLen; omega) (by omega) HS10.out ?_; intro v3 w11 hown3 hgrow3 hnil3; rw [HMM.out] at hown3; obtain ⟨g3, c3', rfl, ho3⟩ := OwnR.stays hown3 (fun hh => by have := hnil3.1 hh; cases this.1); have HO11 := hid (OwnR.eq (ys := intsV (L.take (m0) ++ L.drop ((m0) + 1))) ho3 (by simp [intsV])); have HFH := hid (Fr.of_grown hgrow3); clear hown3 hgrow3 ho3 hnil3; have HB11 := hid (HB10.out.keep HFH.out (fun hh => by have := (OwnR.lt HO9.out _ hh).1; have := HSZ.out; omega)); have b0 := HB11.out.cell (i := 0) rfl; have b1 := HB11.out.cell (i := 1) rfl))
                  all_goals
                    have HMN := hid (HM10.out.keep HFH.out (fun k hk hh => by have := (OwnR.lt HO9.out _ hh).1; have := HOL2.out _ hk; omega))
                    have HG11 := hid (HG10.out.since HFH.out (fun i hi hlt => by have := (OwnR.lt HO9.out i hi).1; have := HSZ.out; have := HWS.out; omega))
                    have HBN := hid (show wd.heap.size ≤ w11.heap.size from Nat.le_trans HS10.out HFH.out.size)
                    have HSN := hid (show SeqI q M' R (1 + (((j + 1 : Nat)) : Int)) (L.take (m0) ++ L.drop ((m0) + 1)) from HSN0.out.up (by omega))
                    have HLN := hid (show (L.take (m0) ++ L.drop ((m0) + 1)).length = mm from by rw [List.length_append, List.length_take, List.length_drop]; have := HLL.out; have := HMM.out; omega)
                    have HLS := hid (show Calls Try.prog 26 #[.agg #[.int .i64 0, .int .i64 q], .pointer (some ⟨b.m, 0, none⟩)] w11 (fun e w' => ∃ (A : Option Addr) (cap : Nat), e = .returned (.slice A (mm) cap) ∧ OwnR w' w11.heap.size 2 1 A (mm) cap (intsV (L.take (m0) ++ L.drop ((m0) + 1))) ∧ Fr (fun _ => False) w11 w') from by
                      have h9 := dlist_ok b M' s7 R q w11 HMN.out HSN.out.cells.1 HSN.out.cells.2.1 (by have := HSN.out.cells; have := pow_pos R.l; omega) HSN.out.cells.2.2.2.2.2.2.1 (by have := HSN.out.cells; have := HSN.out.room; omega) ((HSN.out.cb (by omega)).1.more (by omega))
                      rw [HSN.out.list] at h9
                      unfold ListPost at h9
                      rw [HLN.out] at h9
                      exact h9)
                    have a0 := HB11.out.cell (i := 0) rfl
                    have a1 := HB11.out.cell (i := 1) rfl
                    go_wp2_with fail
                    refine HLS.out.mono ?_
                    rintro e w8 ⟨A8, cap8, rfl, hO8, hF8⟩
                    have HSM := hid (fun cA cB => same_yes A8 (some ⟨g3, 0, none⟩) (L.take (m0) ++ L.drop ((m0) + 1)) (mm) cA cB w8 (hO8.intR HLN.out.symm) ((HO11.out.same hF8).intR HLN.out.symm) HLN.out (by omega))
                    have HF8 := hid (HG11.out.trans hF8)
                    have HO8 := hid (HO11.out.same hF8)
                    have HB8 := hid (HB11.out.same hF8)
                    have HM8 := hid (HMN.out.same hF8)
                    have HS8 := hid (Nat.le_trans HBN.out hF8.size)
                    clear hO8 hF8 a0 a1
                    go_wp2_with fail
                    refine (HSM.out _ _).mono ?_
                    rintro e w9 ⟨rfl, hF9⟩
                    have HF9 := hid hF9
                    clear hF9
                    go_wp2_with fail
                    go_roundg (301 - (j + 1))
                    case rel => exact ⟨j + 1, _, _, M', s7, R, g3, _, by omega, by omega, rfl, HLN.out, rfl, by go_num, HO8.out.same HF9.out, HM8.out.same HF9.out, HSLN.out, by exact HSN.out, HF8.out.trans HF9.out, HB8.out.same HF9.out, Nat.le_trans HS8.out HF9.out.size⟩
                    case measure => omega
            · obtain ⟨gl, ol, rfl, hcl⟩ := HR1.out.at_one hlt
              obtain ⟨X, hX⟩ : ∃ X, f j 0 = X := ⟨_, rfl⟩
              rw [hX] at hcl
              have HCL := hid hcl
              have HBE := hid (fun (u : World) (F : Fr (fun _ => False) wr u) => beg_push (most := q) X (HM.out.same F))
              obtain ⟨nn, o', M', R', hRun, hnn, hcase⟩ := HSQ2.out.push' X
              clear hcl hX hkd
              rcases hcase with hcase | hcase
              · obtain ⟨hlen, hhow, hSN⟩ := hcase
                have hmr : ((m : Int) == rm) = true := by have := HRM.out; have := HLL.out; simp; omega
                have HRN := hid (show ∀ (u : World) (o1 q1 c1 : Nat), Fr (fun _ => False) wr u → IsOp u b o1 q1 c1 q (beginOp 0 X) → Calls Try.prog 31 #[.pointer (some ⟨b.m, 0, none⟩), .pointer (some ⟨o1, 0, none⟩), .int .i64 0] u (fun e w' => e = .returned (.int .i64 4) ∧ ∃ cp' s', (cp' = c1 ∨ u.heap.size ≤ cp') ∧ IsM w' b (MO M' s') ∧ s'.length = 3 ∧ Fr (OM b q1 c1) u w') from
                  fun u o1 q1 c1 F hI => (show Calls Try.prog 31 #[.pointer (some ⟨b.m, 0, none⟩), .pointer (some ⟨o1, 0, none⟩), .int .i64 0] u _ from run_ok b o1 q1 c1 q _ o' M M' s 0 nn u hRun (live_begin 0 X) (St.begin_ hI (HM.out.same F) (HSQ2.out.cb (by omega)).1 (by omega) (HSQ2.out.cb (by omega)).2) (by rw [HS.out]; omega) hnn).mono fun e w' ⟨h1, cp', s', h2, _, h4, h5, h6⟩ => ⟨by rw [h1, hhow]; rfl, cp', s', h2, h4, h5.trans HS.out, h6⟩)
                have HSN0 := hid hSN
                have HL0 := hid hlen
                clear hRun hhow hSN hlen hnn
                have HFd := hid (Fr.refl (fun _ => False) wr)
                have HT := hid (show ∀ u, Fr (fun _ => False) wr u → u.cell? ⟨gl, ol + j, none⟩ = some (.int .i64 X) ∧ u.cell? ⟨w2.heap.size, 0, none⟩ = some (.int .i64 0) ∧ u.cell? ⟨w2.heap.size, 1, none⟩ = some (.int .i64 q) from
                  fun u F => ⟨HCL.out _ (HF.out.trans F), (HBD.out.same F).cell rfl, (HBD.out.same F).cell rfl⟩)
                go_upto_region 17 with fail
                go_region_held3 (fun u => u.cell? ⟨gl, ol + j, none⟩ = some (.int .i64 X) ∧ u.cell? ⟨w2.heap.size, 0, none⟩ = some (.int .i64 0) ∧ u.cell? ⟨w2.heap.size, 1, none⟩ = some (.int .i64 q))
                  (first | exact ⟨HCL.out _ HG7.out, HB7.out.cell rfl, HB7.out.cell rfl⟩ | exact HT.out _ HFd.out | exact HT.out _ (HFd.out.trans (Fr.drew _ _)))
                  (first
                    | (go_at_call 16; (with_reducible refine (HBE.out _ (by first | exact HFd.out | exact HFd.out.trans (Fr.drew _ _))).mono ?_); rintro e w6 ⟨o1, q1, c1, rfl, hI1, hF6, ⟨ho1, hq1, hc1⟩, hlt1⟩; have HI1 := hid hI1; have HQ1 := hid (show wr.heap.size ≤ q1 ∧ wr.heap.size ≤ c1 from ⟨Nat.le_trans HFd.out.size hq1, Nat.le_trans HFd.out.size hc1⟩); have HFd := hid (HFd.out.trans (Fr.trans (by first | exact Fr.refl _ _ | exact Fr.drew _ _) hF6)); clear hF6 hI1 ho1 hq1 hc1 hlt1)
                    | (go_at_call 31; (with_reducible refine (HRN.out _ _ _ _ (by first | exact HFd.out | exact HFd.out.trans (Fr.drew _ _)) (by first | exact HI1.out | exact HI1.out.same (Fr.drew _ _))).mono ?_); rintro e w7 ⟨rfl, cp7, s7, hcp7, hM7, hs7, hF7⟩; have HG7 := hid (fr_op_own (S := fun _ => False) (HF.out.trans (HFd.out.trans (by first | exact Fr.refl _ _ | exact Fr.drew _ _))) hF7 (fun k h hlt => by have := HBO.out _ h; omega) (by have := HQ1.out; have := HF.out.size; omega) (by have := HQ1.out; have := HF.out.size; omega)); have HB7 := hid ((HBD.out.same (HFd.out.trans (by first | exact Fr.refl _ _ | exact Fr.drew _ _))).keep hF7 (om_not HOL.out HBW.out HQ1.out HB.out)); have HO7 := hid ((HO.out.same (HFd.out.trans (by first | exact Fr.refl _ _ | exact Fr.drew _ _))).keep hF7 (om_row HO.out HOL2.out HQ1.out)); have HMN := hid hM7; have HSLN := hid hs7; have HBN := hid (show wd.heap.size ≤ w7.heap.size from Nat.le_trans HB.out (Nat.le_trans HFd.out.size hF7.size)); clear hF7 hM7 hs7 hcp7))
                all_goals
                  have HSN := hid (show SeqI q M' R' (1 + (((j + 1 : Nat)) : Int)) (L) from by
                    have := HSN0.out
                    rw [show (1 : Int) + ((j + 1 : Nat) : Int) = 1 + (j : Int) + 1 by omega]
                    exact this)
                  have HLN := hid (show (L).length = m from by exact HLL.out)
                  have hm300 : m ≤ 256 := by have := HSQ2.out.room; have := pow_le q hq8; have := HLL.out; omega
                  have HLS := hid (show Calls Try.prog 26 #[.agg #[.int .i64 0, .int .i64 q], .pointer (some ⟨b.m, 0, none⟩)] w7 (fun e w' => ∃ (A : Option Addr) (cap : Nat), e = .returned (.slice A (m) cap) ∧ OwnR w' w7.heap.size 2 1 A (m) cap (intsV (L)) ∧ Fr (fun _ => False) w7 w') from by
                    have h9 := dlist_ok b M' s7 R' q w7 HMN.out HSN.out.cells.1 HSN.out.cells.2.1 (by have := HSN.out.cells; have := pow_pos R'.l; omega) HSN.out.cells.2.2.2.2.2.2.1 (by have := HSN.out.cells; have := HSN.out.room; omega) ((HSN.out.cb (by omega)).1.more (by omega))
                    rw [HSN.out.list] at h9
                    unfold ListPost at h9
                    rw [HLN.out] at h9
                    exact h9)
                  have a0 := HB7.out.cell (i := 0) rfl
                  have a1 := HB7.out.cell (i := 1) rfl
                  go_wp2_with fail
                  refine HLS.out.mono ?_
                  rintro e w8 ⟨A8, cap8, rfl, hO8, hF8⟩
                  have HSM := hid (fun cA cB => same_yes A8 (some ⟨g, 0, none⟩) (L) (m) cA cB w8 (hO8.intR HLN.out.symm) ((HO7.out.same hF8).intR HLN.out.symm) HLN.out (by omega))
                  have HF8 := hid (HG7.out.trans hF8)
                  have HO8 := hid (HO7.out.same hF8)
                  have HB8 := hid (HB7.out.same hF8)
                  have HM8 := hid (HMN.out.same hF8)
                  have HS8 := hid (Nat.le_trans HBN.out hF8.size)
                  clear hO8 hF8 a0 a1
                  go_wp2_with fail
                  refine (HSM.out _ _).mono ?_
                  rintro e w9 ⟨rfl, hF9⟩
                  have HF9 := hid hF9
                  clear hF9
                  go_wp2_with fail
                  go_roundg (301 - (j + 1))
                  case rel => exact ⟨j + 1, _, _, M', s7, R', g, _, by omega, by omega, rfl, HLN.out, rfl, by go_num, HO8.out.same HF9.out, HM8.out.same HF9.out, HSLN.out, by exact HSN.out, HF8.out.trans HF9.out, HB8.out.same HF9.out, Nat.le_trans HS8.out HF9.out.size⟩
                  case measure => omega
              · obtain ⟨hlen, hhow, hSN⟩ := hcase
                have hmr : ((m : Int) == rm) = false := by have := HRM.out; have := HLL.out; simp; omega
                have HRN := hid (show ∀ (u : World) (o1 q1 c1 : Nat), Fr (fun _ => False) wr u → IsOp u b o1 q1 c1 q (beginOp 0 X) → Calls Try.prog 31 #[.pointer (some ⟨b.m, 0, none⟩), .pointer (some ⟨o1, 0, none⟩), .int .i64 0] u (fun e w' => e = .returned (.int .i64 1) ∧ ∃ cp' s', (cp' = c1 ∨ u.heap.size ≤ cp') ∧ IsM w' b (MO M' s') ∧ s'.length = 3 ∧ Fr (OM b q1 c1) u w') from
                  fun u o1 q1 c1 F hI => (show Calls Try.prog 31 #[.pointer (some ⟨b.m, 0, none⟩), .pointer (some ⟨o1, 0, none⟩), .int .i64 0] u _ from run_ok b o1 q1 c1 q _ o' M M' s 0 nn u hRun (live_begin 0 X) (St.begin_ hI (HM.out.same F) (HSQ2.out.cb (by omega)).1 (by omega) (HSQ2.out.cb (by omega)).2) (by rw [HS.out]; omega) hnn).mono fun e w' ⟨h1, cp', s', h2, _, h4, h5, h6⟩ => ⟨by rw [h1, hhow]; rfl, cp', s', h2, h4, h5.trans HS.out, h6⟩)
                have HSN0 := hid hSN
                have HL0 := hid hlen
                clear hRun hhow hSN hlen hnn
                have HFd := hid (Fr.refl (fun _ => False) wr)
                have HT := hid (show ∀ u, Fr (fun _ => False) wr u → u.cell? ⟨gl, ol + j, none⟩ = some (.int .i64 X) ∧ u.cell? ⟨w2.heap.size, 0, none⟩ = some (.int .i64 0) ∧ u.cell? ⟨w2.heap.size, 1, none⟩ = some (.int .i64 q) from
                  fun u F => ⟨HCL.out _ (HF.out.trans F), (HBD.out.same F).cell rfl, (HBD.out.same F).cell rfl⟩)
                go_upto_region 17 with fail
                go_region_held3 (fun u => u.cell? ⟨gl, ol + j, none⟩ = some (.int .i64 X) ∧ u.cell? ⟨w2.heap.size, 0, none⟩ = some (.int .i64 0) ∧ u.cell? ⟨w2.heap.size, 1, none⟩ = some (.int .i64 q))
                  (first | exact ⟨HCL.out _ HG7.out, HB7.out.cell rfl, HB7.out.cell rfl⟩ | exact HT.out _ HFd.out | exact HT.out _ (HFd.out.trans (Fr.drew _ _)))
                  (first
                    | (go_at_call 16; (with_reducible refine (HBE.out _ (by first | exact HFd.out | exact HFd.out.trans (Fr.drew _ _))).mono ?_); rintro e w6 ⟨o1, q1, c1, rfl, hI1, hF6, ⟨ho1, hq1, hc1⟩, hlt1⟩; have HI1 := hid hI1; have HQ1 := hid (show wr.heap.size ≤ q1 ∧ wr.heap.size ≤ c1 from ⟨Nat.le_trans HFd.out.size hq1, Nat.le_trans HFd.out.size hc1⟩); have HFd := hid (HFd.out.trans (Fr.trans (by first | exact Fr.refl _ _ | exact Fr.drew _ _) hF6)); clear hF6 hI1 ho1 hq1 hc1 hlt1)
                    | (go_at_call 31; (with_reducible refine (HRN.out _ _ _ _ (by first | exact HFd.out | exact HFd.out.trans (Fr.drew _ _)) (by first | exact HI1.out | exact HI1.out.same (Fr.drew _ _))).mono ?_); rintro e w7 ⟨rfl, cp7, s7, hcp7, hM7, hs7, hF7⟩; have HG7 := hid (fr_op_own (S := fun _ => False) (HF.out.trans (HFd.out.trans (by first | exact Fr.refl _ _ | exact Fr.drew _ _))) hF7 (fun k h hlt => by have := HBO.out _ h; omega) (by have := HQ1.out; have := HF.out.size; omega) (by have := HQ1.out; have := HF.out.size; omega)); have HB7 := hid ((HBD.out.same (HFd.out.trans (by first | exact Fr.refl _ _ | exact Fr.drew _ _))).keep hF7 (om_not HOL.out HBW.out HQ1.out HB.out)); have HO7 := hid ((HO.out.same (HFd.out.trans (by first | exact Fr.refl _ _ | exact Fr.drew _ _))).keep hF7 (om_row HO.out HOL2.out HQ1.out)); have HMN := hid hM7; have HSLN := hid hs7; have HBN := hid (show wd.heap.size ≤ w7.heap.size from Nat.le_trans HB.out (Nat.le_trans HFd.out.size hF7.size)); clear hF7 hM7 hs7 hcp7))
                all_goals
                  have HSN := hid (show SeqI q M' R' (1 + (((j + 1 : Nat)) : Int)) (L ++ [X]) from by
                    have := HSN0.out
                    rw [show (1 : Int) + ((j + 1 : Nat) : Int) = 1 + (j : Int) + 1 by omega]
                    exact this)
                  have HLN := hid (show (L ++ [X]).length = m + 1 from by rw [List.length_append, HLL.out]; rfl)
                  have hm300 : m ≤ 256 := by have := HSQ2.out.room; have := pow_le q hq8; have := HLL.out; omega
                  have l1 := HCL.out _ HG7.out
                  have HG8 := hid (HG7.out.trans (Fr.alloc _ w7 (.cells #[.int .i64 X] 2)))
                  have HO7a := hid (HO7.out.same (Fr.alloc (fun _ => False) w7 (.cells #[.int .i64 X] 2)))
                  have HB7a := hid (HB7.out.same (Fr.alloc (fun _ => False) w7 (.cells #[.int .i64 X] 2)))
                  have HM7a := hid (HMN.out.same (Fr.alloc (fun _ => False) w7 (.cells #[.int .i64 X] 2)))
                  have HNW := hid (newk w7 2 (.int .i64 X))
                  have HSA := hid (show wd.heap.size ≤ (w7.alloc (.cells #[.int .i64 X] 2)).heap.size from by have := HBN.out; simp; omega)
                  go_upto_region 23 with fail
                  go_wp2_with (at_builtin; go_must (refine wpList_append_own _ rfl _ _ 30 rfl wd.heap.size 2 i0 (.int .i64 0) 1 8 Try.underlying30 HII.out HZ0.out HZ1.out HZ2.out rfl (by decide) (.slice (some ⟨g, 0, none⟩) m cap) m _ rfl HO7a.out ⟨w7.heap.size, 0, none⟩ 1 1 [.int .i64 X] rfl rfl HNW.out (by simp [Value.oneCell']) (by unfold maxLen; omega) (by omega) HSA.out ?_; intro v2 w10 hown2 hgrow2 hnil2; obtain ⟨g2, c2', rfl, ho2⟩ := OwnR.stays hown2 (fun hh => by have := hnil2.1 hh; cases this.1); have HO9 := hid (OwnR.eq (ys := intsV (L ++ [X])) ho2 (by simp [intsV])); have HFG := hid (Fr.of_grown hgrow2); clear hown2 hgrow2 ho2 hnil2; have HB9 := hid (HB7a.out.keep HFG.out (fun hh => by have := (OwnR.lt HO7a.out _ hh).1; have := HSZ.out; omega)); have b0 := HB9.out.cell (i := 0) rfl; have b1 := HB9.out.cell (i := 1) rfl))
                  have HG9 := hid (HG8.out.since HFG.out (fun i hi hlt => by have := (OwnR.lt HO7a.out i hi).1; have := HSZ.out; have := HWS.out; omega))
                  have HMN := hid (HM7a.out.keep HFG.out (fun k hk hh => by have := (OwnR.lt HO7a.out _ hh).1; have := HOL.out _ hk; have := HSZ.out; omega))
                  have HBN := hid (show wd.heap.size ≤ w10.heap.size from Nat.le_trans HSA.out HFG.out.size)
                  have HLS := hid (show Calls Try.prog 26 #[.agg #[.int .i64 0, .int .i64 q], .pointer (some ⟨b.m, 0, none⟩)] w10 (fun e w' => ∃ (A : Option Addr) (cap : Nat), e = .returned (.slice A (m + 1) cap) ∧ OwnR w' w10.heap.size 2 1 A (m + 1) cap (intsV (L ++ [X])) ∧ Fr (fun _ => False) w10 w') from by
                    have h9 := dlist_ok b M' s7 R' q w10 HMN.out HSN.out.cells.1 HSN.out.cells.2.1 (by have := HSN.out.cells; have := pow_pos R'.l; omega) HSN.out.cells.2.2.2.2.2.2.1 (by have := HSN.out.cells; have := HSN.out.room; omega) ((HSN.out.cb (by omega)).1.more (by omega))
                    rw [HSN.out.list] at h9
                    unfold ListPost at h9
                    rw [HLN.out] at h9
                    exact h9)
                  have a0 := HB9.out.cell (i := 0) rfl
                  have a1 := HB9.out.cell (i := 1) rfl
                  go_wp2_with fail
                  refine HLS.out.mono ?_
                  rintro e w8 ⟨A8, cap8, rfl, hO8, hF8⟩
                  have HSM := hid (fun cA cB => same_yes A8 (some ⟨g2, 0, none⟩) (L ++ [X]) (m + 1) cA cB w8 (hO8.intR HLN.out.symm) ((HO9.out.same hF8).intR HLN.out.symm) HLN.out (by omega))
                  have HF8 := hid (HG9.out.trans hF8)
                  have HO8 := hid (HO9.out.same hF8)
                  have HB8 := hid (HB9.out.same hF8)
                  have HM8 := hid (HMN.out.same hF8)
                  have HS8 := hid (Nat.le_trans HBN.out hF8.size)
                  clear hO8 hF8 a0 a1
                  go_wp2_with fail
                  refine (HSM.out _ _).mono ?_
                  rintro e w9 ⟨rfl, hF9⟩
                  have HF9 := hid hF9
                  clear hF9
                  go_wp2_with fail
                  go_roundg (301 - (j + 1))
                  case rel => exact ⟨j + 1, _, _, M', s7, R', g2, _, by omega, by omega, rfl, HLN.out, rfl, by go_num, HO8.out.same HF9.out, HM8.out.same HF9.out, HSLN.out, by exact HSN.out, HF8.out.trans HF9.out, HB8.out.same HF9.out, Nat.le_trans HS8.out HF9.out.size⟩
                  case measure => omega
          · have hl1 : (j : Int) < n := by omega
            have hl2 : ¬ (j : Int) < n2 := by omega
            go_wp2_with fail
            refine (awake_ok _).mono ?_
            rintro e w9 ⟨rfl, hF9⟩
            go_wp2_with fail
            go_ret
            exact ⟨rfl, (HF.out.trans hF9).below (Nat.le_refl _) (fun _ hh => hh.elim)⟩
        · have hl1 : ¬ (j : Int) < n := by omega
          go_wp2_with fail
          refine (awake_ok _).mono ?_
          rintro e w9 ⟨rfl, hF9⟩
          go_wp2_with fail
          go_ret
          exact ⟨rfl, (HF.out.trans hF9).below (Nat.le_refl _) (fun _ hh => hh.elim)⟩

theorem aloneLaw (p q : Int) (A : Option Addr) (n c : Nat) (f : Nat → Nat → Int) (A2 : Option Addr) (n2 c2 : Nat) (f2 : Nat → Nat → Int) (w : World) (hr : Row w A n 1 f) (hr2 : Row w A2 n2 1 f2) :
    Calls Try.prog 5 #[.agg #[.int .i64 p, .int .i64 q], .slice A n c, .slice A2 n2 c2] w fun e w' => e = .returned (.bool true) ∧ Below w.heap.size w w' := by
  by_cases h : 0 ≤ p ∧ p ≤ q ∧ q ≤ 8 ∧ n ≤ 300
  · exact alone_yes p q A n c f A2 n2 c2 f2 w h.1 h.2.1 h.2.2.1 h.2.2.2 hr hr2
  · exact alone_no p q A n c A2 n2 c2 w h
end Go.Proofs.Ytecpdhfncmlbaaa
