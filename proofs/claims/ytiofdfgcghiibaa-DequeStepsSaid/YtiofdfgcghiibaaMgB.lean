/-
  A step of the document's operation in memory is the table's.
  The document's Push that finds no cells left.
  What the document finds in a deque.
  A new deque of the document.
  A new deque of the document, where there is room.
  A deque of which operations may break: an owner's operation and thieves', in any order (plain: for DequeSteps).
  How a deque begins, and bounds of what is held (plain: for DequeSteps).
  Four operations of the program and four of the document's in one memory (for DequeSteps).
  All that lies in memory while the law of the deque's steps goes on: the program's operations, and the document's (for DequeSteps).
  How the law of the deque's steps stands, plain and in memory (for DequeSteps).
  Small calls of the law of the deque's steps (for DequeSteps).
  A turn of the law of the deque's steps: the program's step, then the document's (for DequeSteps).
-/
import Derived.Test.YtiofdfgcghiibaaRefOp5
import Derived.Test.YtiofdfgcghiibaaStepD
import Derived.Test.YtiofdfgcghiibaaBeg
import Derived.Test.YtiofdfgcghiibaaMgA
import Derived.Deep.DeepCutAuto
import Derived.Deep.DeepMust
import Derived.Deep.LoopGhost
import Derived.Deep.QuietTactic
import Derived.BigQuiet
namespace Go.Proofs.Ytiofdfgcghiibaa
open Go.RowKit
set_option linter.unusedVariables false

theorem RO.keep {S : Nat → Prop} {w w' : World} {r cp : Nat} {most : Int} {o : DOp} (h : RO w r cp most o) (F : Fr S w w') (hr : ¬ S r) (hc : ¬ S cp) : RO w' r cp most o := by
  obtain ⟨cv, h1, h2⟩ := h
  exact ⟨cv, h1.keep F hr, fun a b => ⟨(h2 a b).1, (h2 a b).2.keep F hc⟩⟩

theorem take_rd (M : Mach) (k : Nat) (hk : k < M.used) : (M.all.take M.used).getD k 0 = rd M k := by
  simp [rd, List.getD_eq_getElem?_getD, hk]
theorem take_rd0 (M : Mach) (h : 3 ≤ M.used) : (M.all.take M.used).getD 0 0 = rd M 0 := take_rd M 0 (by omega)
theorem take_rd1 (M : Mach) (h : 3 ≤ M.used) : (M.all.take M.used).getD 1 0 = rd M 1 := take_rd M 1 (by omega)
theorem take_rd2 (M : Mach) (h : 3 ≤ M.used) : (M.all.take M.used).getD 2 0 = rd M 2 := take_rd M 2 (by omega)
theorem take_rdp (M : Mach) (p : Nat) (i : Int) (h : i = p) (hk : p < M.used) : (M.all.take M.used).getD p 0 = rd M i := by rw [h]; exact take_rd M p hk
theorem take_wrc (M : Mach) (k : Nat) (i x : Int) (h : i = k) : (wrc M i x).all.take M.used = (M.all.take M.used).set k x := by
  subst h
  simp [wrc, Mach.put, List.take_set]
theorem take_give (M : Mach) (N : Nat) (hf : ∀ i, M.used ≤ i → M.all.getD i 0 = 0) (hl : M.used + N ≤ M.all.length) : (M.give N).all.take (M.used + N) = M.all.take M.used ++ List.replicate N 0 := by
  show M.all.take (M.used + N) = _
  rw [List.take_add]
  congr 1
  rw [List.eq_replicate_iff]
  refine ⟨by simp; omega, ?_⟩
  intro b hb
  obtain ⟨i, hi, rfl⟩ := List.mem_iff_getElem.1 hb
  have h2 := hf (M.used + i) (by omega)
  simp at hi
  simp only [List.getElem_take, List.getElem_drop]
  rw [List.getD_eq_getElem?_getD, List.getElem?_eq_getElem (by omega)] at h2
  simpa using h2

/-- What holds ahead of a step. -/
structure RPre (w : World) (B c g r cp cap : Nat) (M : Mach) (size did most : Int) (op : DOp) : Prop where
  hO : RO w r cp most op
  hC : RC w B c g (M.all.take M.used) M.used cap size did
  hS : RSep c g r cp
  hs : op.safe M
  hb : OpB 100000 op
  hl : op.Live
  us : M.used ≤ M.all.length
  sz : size = M.all.length
  s6 : M.all.length ≤ 600
  fr : ∀ i, M.used ≤ i → M.all.getD i 0 = 0

/-- Which blocks a step turns. -/
def RK (c g r cp k : Nat) : Prop := k = r ∨ k = g ∨ k = cp ∨ k = c

def AQ (B c g r cp : Nat) (M : Mach) (size did most : Int) (op : DOp) (w w' : World) : Prop :=
  ∃ cp' g' cap', RO w' r cp' most (op.act most M).1 ∧ RC w' B c g' ((op.act most M).2.all.take (op.act most M).2.used) (op.act most M).2.used cap' size did ∧ RSep c g' r cp' ∧ (g' = g ∨ w.heap.size ≤ g') ∧ (cp' = cp ∨ w.heap.size ≤ cp' ∧ cp' < w'.heap.size) ∧ Fr (RK c g r cp) w w'

theorem ap_of {B c g r cp n cap : Nat} {most size did : Int} {o' : DOp} {L' : List Int} {w w' : World} {e : Ending} (op : DOp) (M M' : Mach) (hS : RSep c g r cp) (he : op.act most M = (o', M')) (hu : M'.used = n) (hL : M'.all.take n = L') (h : RPost B c g r cp most o' L' n cap size did w e w') : GoP (AQ B c g r cp M size did most op w) e w' := by
  obtain ⟨e1, h1, h2, h3⟩ := h
  refine ⟨e1, cp, g, cap, by rw [he]; exact h1, ?_, hS, .inl rfl, .inl rfl, h3.mono ?_⟩
  · rw [he]
    show RC w' B c g (M'.all.take M'.used) M'.used cap size did
    rw [hu, hL]
    exact h2
  · rintro k (h | h | h)
    · exact .inl h
    · exact .inr (.inl h)
    · exact .inr (.inr (.inl h))

theorem right_a {r : Rg} (h : r.Right) : 0 ≤ r.a := h.2.2.1

section
variable {B c g r cp cap : Nat} {M : Mach} {size did most : Int} {op : DOp} {w : World}

set_option maxHeartbeats 1000000 in
/-- A step of a steal. -/
theorem rsub_steal (P : RPre w B c g r cp cap M size did most op) (hk : op.kind = 2) :
    Calls Try.prog 59 #[.pointer (some ⟨r, 0, none⟩), .pointer (some ⟨c, 0, none⟩)] w (GoP (AQ B c g r cp M size did most op w)) := by
  obtain ⟨hO, hC, hS, ⟨h3, hin, hs⟩, hb, hl, us, sz, s6, fr⟩ := P
  obtain ⟨kind, nx, x, bo, t, ⟨ra, rl⟩, ⟨ta, tl⟩, pl, cx, ld, won, how, got, err⟩ := op
  unfold DOp.InR at hin
  unfold DOp.Live at hl
  unfold OpB at hb
  simp only at hk
  subst hk
  simp only at hin hl hb
  subst hl
  have hn : nx = 1 ∨ nx = 2 ∨ nx = 3 ∨ nx = 4 ∨ nx = 5 := by omega
  rcases hn with rfl | rfl | rfl | rfl | rfl
  · exact (rt1 B c g r cp M.used cap most size did (M.all.take M.used) x bo t ra rl ta tl pl cx got err ld won w hO hC hS h3 _ (take_rd0 M h3)).mono fun e w' h => ap_of _ M M hS rfl rfl rfl h
  · by_cases hc : t < rd M 1
    · exact (rt2_in B c g r cp M.used cap most size did (M.all.take M.used) x bo t ra rl ta tl pl cx got err ld won w hO hC hS h3 _ (take_rd1 M h3) hc).mono fun e w' h => ap_of _ M M hS (by show DOp.steal2 _ M = _; unfold DOp.steal2; rw [if_pos hc]; try rfl) rfl rfl h
    · exact (rt2_no B c g r cp M.used cap most size did (M.all.take M.used) x bo t ra rl ta tl pl cx got err ld won w hO hC hS h3 _ (take_rd1 M h3) hc).mono fun e w' h => ap_of _ M M hS (by show DOp.steal2 _ M = _; unfold DOp.steal2; rw [if_neg hc]; try rfl) rfl rfl h
  · simp only at hs
    obtain ⟨⟨ra2, rl2⟩, hR, hwd⟩ := hs
    have er : rgOf (rd M 2) = ⟨ra2, rl2⟩ := by rw [hwd, rgOf_word hR]
    exact (rt3 B c g r cp M.used cap most size did (M.all.take M.used) x bo t ra rl ta tl pl cx got err ld won w hO hC hS h3 _ (take_rd2 M h3) ra2 rl2 hR hwd).mono fun e w' h => ap_of _ M M hS (by show DOp.steal3 _ M = _; unfold DOp.steal3; rw [er]; try rfl) rfl rfl h
  · simp only at hs
    obtain ⟨hR, hp⟩ := hs
    have pin := place_in hR t
    have ra0 := right_a hR
    obtain ⟨p, hp9⟩ := Int.eq_ofNat_of_zero_le (show 0 ≤ Rg.place ⟨ra, rl⟩ t by omega)
    exact (rt4 B c g r cp M.used cap most size did (M.all.take M.used) x bo t ra rl ta tl pl cx got err ld won w hO hC hS h3 p hp9 (by omega) _ (take_rdp M p _ hp9 (by omega))).mono fun e w' h => ap_of _ M M hS rfl rfl rfl h
  · by_cases hc : rd M 0 = t
    · exact (rt5_won B c g r cp M.used cap most size did (M.all.take M.used) x bo t ra rl ta tl pl cx got err ld won w hO hC hS h3 _ (take_rd0 M h3) hc (by omega) (by omega)).mono fun e w' h => ap_of _ M (wrc M 0 (t + 1)) hS (by show DOp.steal5 _ M = _; unfold DOp.steal5; rw [if_pos hc]; try rfl) rfl (take_wrc M 0 0 _ rfl) h
    · exact (rt5_not B c g r cp M.used cap most size did (M.all.take M.used) x bo t ra rl ta tl pl cx got err ld won w hO hC hS h3 _ (take_rd0 M h3) hc).mono fun e w' h => ap_of _ M M hS (by show DOp.steal5 _ M = _; unfold DOp.steal5; rw [if_neg hc]; try rfl) rfl rfl h

set_option maxHeartbeats 1000000 in
/-- A step of a Pop. -/
theorem rsub_pop (P : RPre w B c g r cp cap M size did most op) (hk : op.kind = 1) :
    Calls Try.prog 58 #[.pointer (some ⟨r, 0, none⟩), .pointer (some ⟨c, 0, none⟩)] w (GoP (AQ B c g r cp M size did most op w)) := by
  obtain ⟨hO, hC, hS, ⟨h3, hin, hs⟩, hb, hl, us, sz, s6, fr⟩ := P
  obtain ⟨kind, nx, x, bo, t, ⟨ra, rl⟩, ⟨ta, tl⟩, pl, cx, ld, won, how, got, err⟩ := op
  unfold DOp.InR at hin
  unfold DOp.Live at hl
  unfold OpB at hb
  simp only at hk
  subst hk
  simp only at hin hl hb
  subst hl
  have hn : nx = 1 ∨ nx = 2 ∨ nx = 3 ∨ nx = 4 ∨ nx = 5 ∨ nx = 6 ∨ nx = 7 ∨ nx = 8 := by omega
  rcases hn with rfl | rfl | rfl | rfl | rfl | rfl | rfl | rfl
  · exact (ro1 B c g r cp M.used cap most size did (M.all.take M.used) x bo t ra rl ta tl pl cx got err ld won w hO hC hS h3 _ (take_rd1 M h3)).mono fun e w' h => ap_of _ M M hS rfl rfl rfl h
  · simp only at hs
    obtain ⟨⟨ra2, rl2⟩, hR, hwd⟩ := hs
    have er : rgOf (rd M 2) = ⟨ra2, rl2⟩ := by rw [hwd, rgOf_word hR]
    exact (ro2 B c g r cp M.used cap most size did (M.all.take M.used) x bo t ra rl ta tl pl cx got err ld won w hO hC hS h3 _ (take_rd2 M h3) ra2 rl2 hR hwd).mono fun e w' h => ap_of _ M M hS (by show DOp.pop2 _ M = _; unfold DOp.pop2; rw [er]; try rfl) rfl rfl h
  · exact (ro3 B c g r cp M.used cap most size did (M.all.take M.used) x bo t ra rl ta tl pl cx got err ld won w hO hC hS h3 (by omega) (by omega) (by omega) (by omega)).mono fun e w' h => ap_of _ M (wrc M 1 (bo - 1)) hS rfl rfl (take_wrc M 1 1 _ rfl) h
  · by_cases hc : bo - 1 < rd M 0
    · exact (ro4_hi B c g r cp M.used cap most size did (M.all.take M.used) x bo t ra rl ta tl pl cx got err ld won w hO hC hS h3 _ (take_rd0 M h3) hc (by omega) (by omega)).mono fun e w' h => ap_of _ M M hS (by show DOp.pop4 _ M = _; unfold DOp.pop4; dsimp only; rw [if_pos hc]; try rfl) rfl rfl h
    · exact (ro4_lo B c g r cp M.used cap most size did (M.all.take M.used) x bo t ra rl ta tl pl cx got err ld won w hO hC hS h3 _ (take_rd0 M h3) hc (by omega) (by omega)).mono fun e w' h => ap_of _ M M hS (by show DOp.pop4 _ M = _; unfold DOp.pop4; dsimp only; rw [if_neg hc]; try rfl) rfl rfl h
  · exact (ro5 B c g r cp M.used cap most size did (M.all.take M.used) x bo t ra rl ta tl pl cx got err ld won w hO hC hS h3).mono fun e w' h => ap_of _ M (wrc M 1 bo) hS rfl rfl (take_wrc M 1 1 _ rfl) h
  · simp only at hs
    obtain ⟨hR, hp⟩ := hs
    have pin := place_in hR (bo - 1)
    have ra0 := right_a hR
    obtain ⟨p, hp9⟩ := Int.eq_ofNat_of_zero_le (show 0 ≤ Rg.place ⟨ra, rl⟩ (bo - 1) by omega)
    by_cases hc : t < bo - 1
    · exact (ro6_far B c g r cp M.used cap most size did (M.all.take M.used) x bo t ra rl ta tl pl cx got err ld won w hO hC hS h3 p hp9 (by omega) _ (take_rdp M p _ hp9 (by omega)) hc (by omega) (by omega)).mono fun e w' h => ap_of _ M M hS (by show DOp.pop6 _ M = _; unfold DOp.pop6; dsimp only; rw [if_pos hc]; try rfl) rfl rfl h
    · exact (ro6_last B c g r cp M.used cap most size did (M.all.take M.used) x bo t ra rl ta tl pl cx got err ld won w hO hC hS h3 p hp9 (by omega) _ (take_rdp M p _ hp9 (by omega)) hc (by omega) (by omega)).mono fun e w' h => ap_of _ M M hS (by show DOp.pop6 _ M = _; unfold DOp.pop6; dsimp only; rw [if_neg hc]; try rfl) rfl rfl h
  · by_cases hc : rd M 0 = t
    · exact (ro7_won B c g r cp M.used cap most size did (M.all.take M.used) x bo t ra rl ta tl pl cx got err ld won w hO hC hS h3 _ (take_rd0 M h3) hc (by omega) (by omega)).mono fun e w' h => ap_of _ M (wrc M 0 (t + 1)) hS (by show DOp.pop7 _ M = _; unfold DOp.pop7; rw [if_pos hc]; try rfl) rfl (take_wrc M 0 0 _ rfl) h
    · exact (ro7_not B c g r cp M.used cap most size did (M.all.take M.used) x bo t ra rl ta tl pl cx got err ld won w hO hC hS h3 _ (take_rd0 M h3) hc).mono fun e w' h => ap_of _ M M hS (by show DOp.pop7 _ M = _; unfold DOp.pop7; rw [if_neg hc]; try rfl) rfl rfl h
  · cases won
    · exact (ro8_not B c g r cp M.used cap most size did (M.all.take M.used) x bo t ra rl ta tl pl cx got err ld true w hO hC hS h3).mono fun e w' h => ap_of _ M (wrc M 1 bo) hS rfl rfl (take_wrc M 1 1 _ rfl) h
    · exact (ro8_won B c g r cp M.used cap most size did (M.all.take M.used) x bo t ra rl ta tl pl cx got err ld true w hO hC hS h3).mono fun e w' h => ap_of _ M (wrc M 1 bo) hS rfl rfl (take_wrc M 1 1 _ rfl) h

set_option maxHeartbeats 1000000 in
/-- A step of a Push. -/
theorem rsub_push (P : RPre w B c g r cp cap M size did most op) (hk : op.kind = 0) :
    Calls Try.prog 57 #[.pointer (some ⟨r, 0, none⟩), .pointer (some ⟨c, 0, none⟩)] w (GoP (AQ B c g r cp M size did most op w)) := by
  obtain ⟨hO, hC, hS, ⟨h3, hin, hs⟩, hb, hl, us, sz, s6, fr⟩ := P
  obtain ⟨kind, nx, x, bo, t, ⟨ra, rl⟩, ⟨ta, tl⟩, pl, cx, ld, won, how, got, err⟩ := op
  unfold DOp.InR at hin
  unfold DOp.Live at hl
  unfold OpB at hb
  simp only at hk
  subst hk
  simp only at hin hl hb
  subst hl
  have hn : nx = 1 ∨ nx = 2 ∨ nx = 3 ∨ nx = 4 ∨ nx = 5 ∨ nx = 6 ∨ nx = 7 ∨ nx = 8 := by omega
  rcases hn with rfl | rfl | rfl | rfl | rfl | rfl | rfl | rfl
  · exact (ru1 B c g r cp M.used cap most size did (M.all.take M.used) x bo t ra rl ta tl pl cx got err ld won w hO hC hS h3 _ (take_rd1 M h3)).mono fun e w' h => ap_of _ M M hS rfl rfl rfl h
  · exact (ru2 B c g r cp M.used cap most size did (M.all.take M.used) x bo t ra rl ta tl pl cx got err ld won w hO hC hS h3 _ (take_rd0 M h3)).mono fun e w' h => ap_of _ M M hS rfl rfl rfl h
  · simp only at hs
    obtain ⟨⟨ra2, rl2⟩, hR, hwd⟩ := hs
    have er : rgOf (rd M 2) = ⟨ra2, rl2⟩ := by rw [hwd, rgOf_word hR]
    have hsz := size_eq hR
    by_cases hc : bo - t < pow rl2
    · exact (ru3_room B c g r cp M.used cap most size did (M.all.take M.used) x bo t ra rl ta tl pl cx got err ld won w hO hC hS h3 _ (take_rd2 M h3) ra2 rl2 _ hR hwd hsz hc (by omega) (by omega) (by omega) (by omega)).mono fun e w' h => ap_of _ M M hS (by show DOp.push3 most _ M = _; unfold DOp.push3; simp only [er, hsz]; rw [if_pos hc]; try rfl) rfl rfl h
    · by_cases hc2 : most ≤ rl2
      · exact (ru3_full B c g r cp M.used cap most size did (M.all.take M.used) x bo t ra rl ta tl pl cx got err ld won w hO hC hS h3 _ (take_rd2 M h3) ra2 rl2 _ hR hwd hsz hc hc2 (by omega) (by omega) (by omega) (by omega)).mono fun e w' h => ap_of _ M M hS (by show DOp.push3 most _ M = _; unfold DOp.push3; simp only [er, hsz]; rw [if_neg hc, if_pos hc2]; try rfl) rfl rfl h
      · exact (ru3_more B c g r cp M.used cap most size did (M.all.take M.used) x bo t ra rl ta tl pl cx got err ld won w hO hC hS h3 _ (take_rd2 M h3) ra2 rl2 _ hR hwd hsz hc hc2 (by omega) (by omega) (by omega) (by omega)).mono fun e w' h => ap_of _ M M hS (by show DOp.push3 most _ M = _; unfold DOp.push3; simp only [er, hsz]; rw [if_neg hc, if_neg hc2]; try rfl) rfl rfl h
  · simp only at hs
    obtain ⟨hR, h1, hl0, hl8, hrm, hu6, htb, hbt⟩ := hs
    have hsz := size_eq hR
    have ps := pow_succ rl hR.1
    have pp := pow_pos rl
    obtain ⟨N, hN⟩ : ∃ N : Nat, pow (rl + 1) = N := Int.eq_ofNat_of_zero_le (by omega)
    have hR2 : Rg.Right ⟨(M.used : Int), rl + 1⟩ := ⟨by simp only; omega, by simp only; omega, by simp only; omega, by simp only; rw [hN]; omega⟩
    refine (ru4_ok B c g r cp M.used cap most size did (M.all.take M.used) x bo t ra rl ta tl pl cx got err ld won w hO hC hS h3 (pow rl) hsz N (by omega) (by omega) (by omega) (by omega) (by omega) hR hR2 ⟨by omega, by omega, by omega, by omega⟩ (by omega) (by omega) (by omega)).mono ?_
    rintro e w' ⟨cp2, g2, cap2, e1, h1, h2, h4, h5, h6, h7, h8⟩
    have he : DOp.act most ⟨0, 4, x, bo, t, ⟨ra, rl⟩, ⟨ta, tl⟩, pl, cx, ld, won, 0, got, err⟩ M = (⟨0, 5, x, bo, t, ⟨ra, rl⟩, ⟨M.used, rl + 1⟩, t, 0, false, won, 0, got, err⟩, M.give N) := by
      show DOp.push4 _ M = _
      unfold DOp.push4
      dsimp only
      rw [hN]
      rfl
    refine ⟨e1, cp2, g2, cap2, ?_, ?_, h4, h5, .inr ⟨h6, h7⟩, h8.mono ?_⟩
    · show RO w' r cp2 most (DOp.act most ⟨0, 4, x, bo, t, ⟨ra, rl⟩, ⟨ta, tl⟩, pl, cx, ld, won, 0, got, err⟩ M).1
      rw [he]
      exact h1
    · show RC w' B c g2 ((DOp.act most ⟨0, 4, x, bo, t, ⟨ra, rl⟩, ⟨ta, tl⟩, pl, cx, ld, won, 0, got, err⟩ M).2.all.take (DOp.act most ⟨0, 4, x, bo, t, ⟨ra, rl⟩, ⟨ta, tl⟩, pl, cx, ld, won, 0, got, err⟩ M).2.used) (DOp.act most ⟨0, 4, x, bo, t, ⟨ra, rl⟩, ⟨ta, tl⟩, pl, cx, ld, won, 0, got, err⟩ M).2.used cap2 size did
      rw [he]
      show RC w' B c g2 ((M.give N).all.take (M.used + N)) (M.used + N) cap2 size did
      rw [take_give M N fr (by omega)]
      exact h2
    · rintro k (h | h | h)
      · exact .inl h
      · exact .inr (.inl h)
      · exact .inr (.inr (.inr h))
  · simp only at hs
    obtain ⟨hR, hR2, hpb, hp1, hp2, hp3, hbt, htl⟩ := hs
    have pin := place_in hR pl
    have ra0 := right_a hR
    have pin2 := place_in hR2 pl
    have ra2 := right_a hR2
    cases ld
    · obtain ⟨p, hp9⟩ := Int.eq_ofNat_of_zero_le (show 0 ≤ Rg.place ⟨ra, rl⟩ pl by omega)
      exact (ru5_load B c g r cp M.used cap most size did (M.all.take M.used) x bo t ra rl ta tl pl cx got err won w hO hC hS h3 p hp9 (by omega) _ (take_rdp M p _ hp9 (by omega)) (by omega)).mono fun e w' h => ap_of _ M M hS rfl rfl rfl h
    · obtain ⟨p, hp9⟩ := Int.eq_ofNat_of_zero_le (show 0 ≤ Rg.place ⟨ta, tl⟩ pl by omega)
      by_cases hlast : pl + 1 = bo
      · exact (ru5_last B c g r cp M.used cap most size did (M.all.take M.used) x bo t ra rl ta tl pl cx got err won w hO hC hS h3 p hp9 (by omega) (by omega) (by omega) (by omega) (by simpa using hlast)).mono fun e w' h => ap_of _ M (wrc M (Rg.place ⟨ta, tl⟩ pl) cx) hS (by show DOp.push5 _ M = _; unfold DOp.push5; dsimp only; rw [if_pos hlast]; rfl) rfl (take_wrc M p _ _ hp9) h
      · exact (ru5_store B c g r cp M.used cap most size did (M.all.take M.used) x bo t ra rl ta tl pl cx got err won w hO hC hS h3 p hp9 (by omega) (by omega) (by omega) (by omega) (by simpa using hlast)).mono fun e w' h => ap_of _ M (wrc M (Rg.place ⟨ta, tl⟩ pl) cx) hS (by show DOp.push5 _ M = _; unfold DOp.push5; dsimp only; rw [if_neg hlast]; rfl) rfl (take_wrc M p _ _ hp9) h
  · exact (ru6 B c g r cp M.used cap most size did (M.all.take M.used) x bo t ra rl ta tl pl cx got err ld won w hO hC hS h3 _ rfl).mono fun e w' h => ap_of _ M (wrc M 2 (Rg.word ⟨ta, tl⟩)) hS rfl rfl (take_wrc M 2 2 _ rfl) h
  · simp only at hs
    obtain ⟨hR, hp, hp3⟩ := hs
    obtain ⟨p, hp9⟩ := Int.eq_ofNat_of_zero_le (show 0 ≤ Rg.place ⟨ra, rl⟩ bo by omega)
    exact (ru7 B c g r cp M.used cap most size did (M.all.take M.used) x bo t ra rl ta tl pl cx got err ld won w hO hC hS h3 p hp9 (by omega)).mono fun e w' h => ap_of _ M (wrc M (Rg.place ⟨ra, rl⟩ bo) x) hS rfl rfl (take_wrc M p _ _ hp9) h
  · exact (ru8 B c g r cp M.used cap most size did (M.all.take M.used) x bo t ra rl ta tl pl cx got err ld won w hO hC hS h3 (by omega) (by omega) (by omega) (by omega)).mono fun e w' h => ap_of _ M (wrc M 1 (bo + 1)) hS rfl rfl (take_wrc M 1 1 _ rfl) h

theorem RPre.didUp (P : RPre w B c g r cp cap M size did most op) (x : Int) : RPre (w.setCell ⟨c, 2, none⟩ (.int .i64 x)) B c g r cp cap M size x most op :=
  { P with hO := P.hO.keep (S := fun k => k = c) (Fr.setCell _ _ _ rfl) P.hS.rc P.hS.pc, hC := P.hC.didUp x }

theorem aq_up {x : Int} {w' : World} (v : Value) (h : AQ B c g r cp M size x most op (w.setCell ⟨c, 2, none⟩ v) w') : AQ B c g r cp M size x most op w w' := by
  have hz : (w.setCell ⟨c, 2, none⟩ v).heap.size = w.heap.size := by simp [World.setCell]
  obtain ⟨cp', g', cap', h1, h2, h3, h4, h5, h6⟩ := h
  rw [hz] at h4 h5
  exact ⟨cp', g', cap', h1, h2, h3, h4, h5, (Fr.setCell (S := RK c g r cp) _ _ _ (.inr (.inr (.inr rfl)))).trans h6⟩

/-- A step of any that is under way. -/
theorem rstep_ok (P : RPre w B c g r cp cap M size did most op) (x : Int) (hx0 : 0 ≤ x) (hx4 : x < 4 ∨ x = 4) (hd0 : 0 ≤ did) (hd1 : did ≤ 100000) :
    Calls Try.prog 19 #[.pointer (some ⟨r, 0, none⟩), .pointer (some ⟨c, 0, none⟩), .int .i64 x, .int .i64 4] w (GoP (AQ B c g r cp M size (did + 1) most op w)) := by
  have hh : op.how = 0 ∨ op.how = 2 := by
    have hl := P.hl
    unfold DOp.Live at hl
    rw [hl]
    cases (op.kind == 2 && op.nx == 5)
    · exact .inl rfl
    · exact .inr rfl
  have up : ∀ (f : Nat) (hc : Calls Try.prog f #[.pointer (some ⟨r, 0, none⟩), .pointer (some ⟨c, 0, none⟩)] (w.setCell ⟨c, 2, none⟩ (.int .i64 (did + 1))) (GoP (AQ B c g r cp M size (did + 1) most op (w.setCell ⟨c, 2, none⟩ (.int .i64 (did + 1)))))), Calls Try.prog f #[.pointer (some ⟨r, 0, none⟩), .pointer (some ⟨c, 0, none⟩)] (w.setCell ⟨c, 2, none⟩ (.int .i64 (did + 1))) (GoP (AQ B c g r cp M size (did + 1) most op w)) :=
    fun f hc => hc.mono fun e w' h => ⟨h.1, aq_up _ h.2⟩
  obtain ⟨n1, ⟨hk, _⟩ | ⟨hk, _⟩ | ⟨hk, _⟩⟩ := P.hs.2.1
  · exact rgo_push B c g r cp M.used cap _ most size did x op w _ P.hO P.hC P.hS hk hh hx0 (by omega) hd0 hd1 (up _ (rsub_push (P.didUp _) hk))
  · exact rgo_pop B c g r cp M.used cap _ most size did x op w _ P.hO P.hC P.hS hk hh hx0 (by omega) hd0 hd1 (up _ (rsub_pop (P.didUp _) hk))
  · exact rgo_steal B c g r cp M.used cap _ most size did x op w _ P.hO P.hC P.hS hk hh hx0 (by omega) hd0 hd1 (up _ (rsub_steal (P.didUp _) hk))
end
end Go.Proofs.Ytiofdfgcghiibaa

namespace Go.Proofs.Ytiofdfgcghiibaa
open Go.RowKit
set_option linter.unusedVariables false

theorem rfull_ok {B c g r cp n cap : Nat} {L : List Int} {size did most : Int} {op : DOp} {w : World} (hO : RO w r cp most op) (hC : RC w B c g L n cap size did) (hS : RSep c g r cp) (hk : op.kind = 0) (h4 : op.nx = 4) (hh : op.how = 0) (h3 : 3 ≤ n)
    (hR : op.rg.Right) (hz1 : 0 ≤ size) (hz2 : size ≤ 600) (hn6 : n ≤ 600) (hd0 : 0 ≤ did) (hd1 : did < 100000) (hrm : size < n + pow (op.rg.l + 1)) (x : Int) (hx0 : 0 ≤ x) (hx4 : x ≤ 4) :
    Calls Try.prog 19 #[.pointer (some ⟨r, 0, none⟩), .pointer (some ⟨c, 0, none⟩), .int .i64 x, .int .i64 4] w
      (GoP fun w' => RO w' r cp most (op.brk 21) ∧ RC w' B c g L n cap size did ∧ Fr (RK c g r cp) w w') := by
  obtain ⟨kind, nx, x1, bo, t, ⟨ra, rl⟩, ⟨ta, tl⟩, pl, cx, ld, won, how, got, err⟩ := op
  simp only at hk h4 hh hR hrm
  subst hk h4 hh
  have ps := pow_succ rl hR.1
  have hsz := size_eq hR
  have hp := pow_le rl hR.2.1
  have hp0 := pow_pos rl
  refine rgo_push B c g r cp n cap L most size did x _ w _ hO hC hS rfl (.inl rfl) hx0 hx4 hd0 (by omega) ?_
  refine (ru4_full B c g r cp n cap most size (did + 1) L x1 bo t ra rl ta tl pl cx got err ld won _ (hO.keep (S := fun k => k = c) (Fr.setCell _ _ _ rfl) hS.rc hS.pc) (hC.didUp _) hS h3 (pow rl) hsz (by omega) (by omega) hz1 hz2 hn6 (by omega) (by omega) (by omega)).mono ?_
  rintro e w' ⟨e1, h1, h2, h5⟩
  refine ⟨e1, h1, ?_, ((Fr.setCell (S := RK c g r cp) _ _ _ (.inr (.inr (.inr rfl)))).trans (h5.mono ?_))⟩
  · have : did + 1 - 1 = did := by omega
    rw [this] at h2
    exact h2
  · rintro k ((h | h | h) | h)
    · exact .inl h
    · exact .inr (.inl h)
    · exact .inr (.inr (.inl h))
    · exact .inr (.inr (.inr h))
end Go.Proofs.Ytiofdfgcghiibaa

namespace Go.Proofs.Ytiofdfgcghiibaa
open Go.RowKit
set_option linter.unusedVariables false

theorem rplace_is (R : Rg) (i : Int) (w : World) : Calls Try.prog 67 #[.agg #[.int .i64 R.a, .int .i64 R.l], .int .i64 i] w fun e w' => e = .returned (.int .i64 (R.place i)) ∧ Fr (fun _ => False) w w' := rplace_any R.a R.l i w

theorem own_none (v : World) (B : Nat) (hB : B ≤ v.heap.size) : OwnR (v.alloc (.cells #[] 2)) B 2 1 (some ⟨v.heap.size, 0, none⟩) 0 0 (intsV []) := by
  exact ⟨by simp [intsV], .inr ⟨v.heap.size, 0, #[], rfl, hB, TBlk.new v #[] 2, Nat.le_refl _, by unfold maxLen; omega, by simp, by simp [intsV]⟩⟩

theorem fr_fresh2 {w0 w : World} {b : Nat} (h : Fr (fun _ => False) w0 w) (hb : w0.heap.size ≤ b) (v v' : Value) : Fr (fun _ => False) w0 ((w.setCell ⟨b, 0, none⟩ v).setCell ⟨b, 1, none⟩ v') :=
  h.since (fr_set2 w b v v') (fun i hi hl => by have h2 : i = b := hi; omega)

def RlRel (B c g cap : Nat) (M : Mach) (R : Rg) (size did : Int) (w : World) (B2 gd gr : Nat) (most : Int) (N : Nat) (d : Nat) (x k : Value) (wr : World) : Prop :=
  ∃ (j : Nat) (A : Option Addr) (cap2 : Nat), j ≤ N ∧ d = N + 1 - j ∧ x = .slice A j cap2 ∧ k = .int .i64 (rd M 0 + j) ∧ OwnR wr B2 2 1 A j cap2 (intsV (dqN M R j)) ∧ Fr (fun _ => False) w wr ∧ Blk wr gd #[.int .i64 0, .int .i64 most] ∧ Blk wr gr #[.int .i64 R.a, .int .i64 R.l] ∧ B2 ≤ wr.heap.size

set_option maxRecDepth 100000 in
set_option maxHeartbeats 1000000 in
theorem rlist_ok (B c g cap : Nat) (M : Mach) (R : Rg) (size did most : Int) (w : World) (hC : RC w B c g (M.all.take M.used) M.used cap size did) (hwd : rd M 2 = R.word) (hR : R.Right) (h3 : 3 ≤ M.used) (hu : R.a + pow R.l ≤ M.used) (hle : rd M 1 - rd M 0 ≤ pow R.l) (hbd : CellB 100000 M) :
    Calls Try.prog 27 #[.pointer (some ⟨c, 0, none⟩), .agg #[.int .i64 0, .int .i64 most]] w (ListPost (dqL M R) w) := by
  unfold CellB at hbd
  obtain ⟨i0, hi, hz⟩ := Option.map_eq_some_iff.1 infoint64
  simp only [Prod.mk.injEq] at hz
  obtain ⟨hz0, hz1, hz2⟩ := hz
  have HII := hid hi
  have HZ0 := hid hz0
  have HZ1 := hid hz1
  have HZ2 := hid hz2
  clear hi hz0 hz1 hz2
  obtain ⟨N, hN⟩ : ∃ N, (rd M 1 - rd M 0).toNat = N := ⟨_, rfl⟩
  obtain ⟨wd, hwd2⟩ : ∃ wd, R.word = wd := ⟨_, rfl⟩
  rw [hwd2] at hwd
  have HO := hid (show ∀ (u : World), Calls Try.prog 66 #[.int .i64 wd] u fun e w' => e = .returned (.tuple #[.agg #[.int .i64 R.a, .int .i64 R.l], .int .i64 0]) ∧ Fr (fun _ => False) u w' from fun u => hwd2 ▸ rof_is R.a R.l hR u)
  have HPL := hid (fun (i : Int) (u : World) => rplace_is R i u)
  have HC := hid hC
  have HPI := hid (fun (i : Int) => place_in hR i)
  have HRA := hid hR.2.2.1
  have HUU := hid hu
  have HNN := hid hN
  have HLE := hid hle
  have e0 : (dqL M R) = dqN M R N := by rw [← hN]; rfl
  rw [e0]
  obtain ⟨t, ht⟩ : ∃ t, rd M 0 = t := ⟨_, rfl⟩
  obtain ⟨bo, hbo⟩ : ∃ bo, rd M 1 = bo := ⟨_, rfl⟩
  obtain ⟨n, hn⟩ : ∃ n, pow R.l = n := ⟨_, rfl⟩
  rw [hn] at HPI HUU HLE
  have HREL := hid (show ∀ B2 gd gr d x k wr, RlRel B c g cap M R size did w B2 gd gr most N d x k wr → ∃ (j : Nat) (A : Option Addr) (cap2 : Nat), j ≤ N ∧ d = N + 1 - j ∧ x = .slice A j cap2 ∧ k = .int .i64 (t + j) ∧ OwnR wr B2 2 1 A j cap2 (intsV (dqN M R j)) ∧ Fr (fun _ => False) w wr ∧ Blk wr gd #[.int .i64 0, .int .i64 most] ∧ Blk wr gr #[.int .i64 R.a, .int .i64 R.l] ∧ B2 ≤ wr.heap.size from fun B2 gd gr d x k wr h => by rw [← ht]; exact h)
  have HRELB := hid (show ∀ B2 gd gr d x k wr, (∃ (j : Nat) (A : Option Addr) (cap2 : Nat), j ≤ N ∧ d = N + 1 - j ∧ x = .slice A j cap2 ∧ k = .int .i64 (t + j) ∧ OwnR wr B2 2 1 A j cap2 (intsV (dqN M R j)) ∧ Fr (fun _ => False) w wr ∧ Blk wr gd #[.int .i64 0, .int .i64 most] ∧ Blk wr gr #[.int .i64 R.a, .int .i64 R.l] ∧ B2 ≤ wr.heap.size) → RlRel B c g cap M R size did w B2 gd gr most N d x k wr from fun B2 gd gr d x k wr h => by rw [← ht] at h; exact h)
  have HCS := hid (show ∀ u, Fr (fun _ => False) w u → u.cell? ⟨c, 0, none⟩ = some (.slice (some ⟨g, 0, none⟩) M.used cap) ∧ u.cell? ⟨g, 0, none⟩ = some (.int .i64 t) ∧ u.cell? ⟨g, 1, none⟩ = some (.int .i64 bo) ∧ u.cell? ⟨g, 2, none⟩ = some (.int .i64 wd) from fun u F => by
    have hC' := hC.same F
    refine ⟨hC'.hc.cell (i := 0) rfl, ?_, ?_, ?_⟩
    · have := hC'.cell (k := 0) (by omega); rw [take_rd0 M h3, ht] at this; exact this
    · have := hC'.cell (k := 1) (by omega); rw [take_rd1 M h3, hbo] at this; exact this
    · have := hC'.cell (k := 2) (by omega); rw [take_rd2 M h3, hwd] at this; exact this)
  have HCP := hid (show ∀ (y : Int) (u : World), Fr (fun _ => False) w u → 0 ≤ y → y < M.used → ∃ p : Nat, y = p ∧ p < M.used ∧ u.cell? ⟨g, p, none⟩ = some (.int .i64 (rd M y)) from fun y u F h0 h1 => by
    obtain ⟨p, hp⟩ := Int.eq_ofNat_of_zero_le h0
    have := (hC.same F).cell (k := p) (by omega)
    rw [take_rdp M p y hp (by omega)] at this
    exact ⟨p, hp, by omega, this⟩)
  have HCC := hid (show ∀ (S : Nat → Prop) (v u : World), Fr (fun _ => False) w v → Fr S v u → ¬ S c → u.cell? ⟨c, 0, none⟩ = v.cell? ⟨c, 0, none⟩ from fun S v u F G n => by
    have h1 := (hC.same F).hc
    rw [(h1.keep G n).cell (i := 0) rfl, h1.cell (i := 0) rfl])
  have HCG := hid (show ∀ (S : Nat → Prop) (v u : World) (p : Nat), Fr (fun _ => False) w v → Fr S v u → ¬ S g → u.cell? ⟨g, p, none⟩ = v.cell? ⟨g, p, none⟩ from fun S v u p F G n => by
    obtain ⟨ex, h1, h2⟩ := (hC.same F).hg
    have h3 := G.block g (Array.getElem?_eq_some_iff.1 h1).1 n
    simp only [World.cell?, h3])
  rw [ht] at hbd HNN HLE hle hN
  rw [hbo] at hbd HNN HLE hle hN
  have hN256 : N ≤ 256 := by have := pow_le R.l hR.2.1; rw [hn] at this hle; omega
  have HTT := hid ht
  obtain ⟨us, hus⟩ : ∃ us, M.used = us := ⟨_, rfl⟩
  rw [hus] at HCS HCP HUU
  have hb2 : (2 : Int) < (us : Int) := by omega
  have hb1 : (1 : Int) < (us : Int) := by omega
  have hb0 : (0 : Int) < (us : Int) := by omega
  have tw2 : IntKind.i64.wrap 2 = 2 := by decide
  have tw1 : IntKind.i64.wrap 1 = 1 := by decide
  clear hC hwd hR h3 hu hle hwd2 ht hbo hn hN e0 hus
  go_enter Try.func27, Try.ntmps27
  go_upto_region 1 with fail
  obtain ⟨wA, hwA⟩ : ∃ wA, w.alloc (.cells #[.int .i64 0, .int .i64 most] 37) = wA := ⟨_, rfl⟩
  have HFA := hid (show Fr (fun _ => False) w wA from by rw [← hwA]; exact Fr.alloc _ _ _)
  have HBd := hid (show Blk wA w.heap.size #[.int .i64 0, .int .i64 most] from by rw [← hwA]; exact Blk.new _ _ _)
  have HSA := hid (show wA.heap.size = w.heap.size + 1 from by rw [← hwA]; simp)
  rw [hwA]
  clear hwA
  have HS := hid (show ∀ u, Fr (fun _ => False) wA u → u.cell? ⟨c, 0, none⟩ = some (.slice (some ⟨g, 0, none⟩) us cap) ∧ u.cell? ⟨g, 2, none⟩ = some (.int .i64 wd) ∧ u.cell? ⟨w.heap.size, 0, none⟩ = some (.int .i64 0) from
    fun u F => ⟨(HCS.out u (HFA.out.trans F)).1, (HCS.out u (HFA.out.trans F)).2.2.2, (HBd.out.same F).cell rfl⟩)
  have HFd := hid (Fr.refl (fun _ => False) wA)
  go_region_held3 (fun u => u.cell? ⟨c, 0, none⟩ = some (.slice (some ⟨g, 0, none⟩) us cap) ∧ u.cell? ⟨g, 2, none⟩ = some (.int .i64 wd) ∧ u.cell? ⟨w.heap.size, 0, none⟩ = some (.int .i64 0))
    (first | exact HS.out _ HFd.out | exact HS.out _ (fr_fresh2 HFd.out (Nat.le_refl _) _ _) | exact HS.out _ (fr_fresh2 (HFd.out.trans (Fr.alloc _ _ _)) (by have := HFd.out.size; omega) _ _) | exact HS.out _ (HFd.out.trans (Fr.drew _ _)) | exact HS.out _ (HFd.out.trans (Fr.alloc _ _ _)) | exact HS.out _ ((HFd.out.trans (Fr.alloc _ _ _)).trans (Fr.drew _ _)) | exact HS.out _ ((HFd.out.trans (Fr.drew _ _)).trans (Fr.alloc _ _ _)))
    (first
      | (go_at_call 66; go_must ((with_reducible refine (HO.out _).mono ?_); rintro e w6 ⟨rfl, hF6⟩; have HFd := hid (HFd.out.trans (Fr.trans (by first | exact Fr.refl _ _ | exact Fr.drew _ _ | exact Fr.alloc _ _ _ | exact (Fr.alloc _ _ _).trans (Fr.drew _ _) | exact (Fr.drew _ _).trans (Fr.alloc _ _ _)) hF6)); (try have HBA := hid ((Blk.new wA #[.int .i64 0, .int .i64 0] 47).same hF6)); (try have HBA := hid ((Blk.new wA #[.int .i64 0, .int .i64 0] 47).drew.same hF6)); (try have p0 := HBA.out.cell (i := 0) rfl); (try have p1 := HBA.out.cell (i := 1) rfl); (try have p2 := HBA.out.frozen 0); (try have p3 := HBA.out.frozen 1); clear hF6)))
  all_goals go_wp2_with fail
  focus
    have HB7 := hid (show Blk ((w6.alloc (.cells #[.int .i64 R.a, .int .i64 R.l] 47)).alloc (.cells #[] 2)) w6.heap.size #[.int .i64 R.a, .int .i64 R.l] from (Blk.new _ _ _).alloc _)
    have HD7 := hid (show Blk ((w6.alloc (.cells #[.int .i64 R.a, .int .i64 R.l] 47)).alloc (.cells #[] 2)) w.heap.size #[.int .i64 0, .int .i64 most] from (((HBd.out.same HFd.out).alloc _).alloc _))
    have HF7 := hid (show Fr (fun _ => False) w ((w6.alloc (.cells #[.int .i64 R.a, .int .i64 R.l] 47)).alloc (.cells #[] 2)) from ((HFA.out.trans HFd.out).trans (Fr.alloc _ _ _)).trans (Fr.alloc _ _ _))
    have HW7 := hid (show OwnR ((w6.alloc (.cells #[.int .i64 R.a, .int .i64 R.l] 47)).alloc (.cells #[] 2)) (w6.heap.size + 1) 2 1 (some ⟨w6.heap.size + 1, 0, none⟩) 0 0 (intsV []) from by simpa using own_none (w6.alloc (.cells #[.int .i64 R.a, .int .i64 R.l] 47)) (w6.heap.size + 1) (by simp))
    have HZ7 := hid (show w.heap.size < w6.heap.size + 1 ∧ w6.heap.size < w6.heap.size + 1 ∧ w6.heap.size + 1 ≤ ((w6.alloc (.cells #[.int .i64 R.a, .int .i64 R.l] 47)).alloc (.cells #[] 2)).heap.size from by have := HFd.out.size; have := HSA.out; simp; omega)
    obtain ⟨w7, hw7⟩ : ∃ w7, (w6.alloc (.cells #[.int .i64 R.a, .int .i64 R.l] 47)).alloc (.cells #[] 2) = w7 := ⟨_, rfl⟩
    rw [hw7] at HB7 HD7 HF7 HW7 HZ7 ⊢
    clear hw7
    obtain ⟨go, hgo⟩ : ∃ go, w6.heap.size + 1 = go := ⟨_, rfl⟩
    obtain ⟨gr, hgr⟩ : ∃ gr, w6.heap.size = gr := ⟨_, rfl⟩
    rw [hgo] at HW7 HZ7 ⊢
    rw [hgr] at HB7 HZ7 ⊢
    clear hgr hgo
  rotate_left 1
  focus
    have HB6 := hid (show Blk ((w6.setCell ⟨wA.heap.size, 0, none⟩ (.int .i64 R.a)).setCell ⟨wA.heap.size, 1, none⟩ (.int .i64 R.l)) wA.heap.size #[.int .i64 R.a, .int .i64 R.l] from HBA.out.set2 _ _)
    have HF6 := hid (fr_fresh2 (b := wA.heap.size) HFd.out (Nat.le_refl _) (.int .i64 R.a) (.int .i64 R.l))
    have HLL := hid (show wA.heap.size < w6.heap.size from HBA.out.lt)
    have HZZ := hid (show ((w6.setCell ⟨wA.heap.size, 0, none⟩ (.int .i64 R.a)).setCell ⟨wA.heap.size, 1, none⟩ (.int .i64 R.l)).heap.size = w6.heap.size from by simp)
    obtain ⟨w5, hw5⟩ : ∃ w5, (w6.setCell ⟨wA.heap.size, 0, none⟩ (.int .i64 R.a)).setCell ⟨wA.heap.size, 1, none⟩ (.int .i64 R.l) = w5 := ⟨_, rfl⟩
    rw [hw5] at HB6 HF6 HZZ ⊢
    clear hw5
    have HB7 := hid (show Blk (w5.alloc (.cells #[] 2)) wA.heap.size #[.int .i64 R.a, .int .i64 R.l] from HB6.out.alloc _)
    have HD7 := hid (show Blk (w5.alloc (.cells #[] 2)) w.heap.size #[.int .i64 0, .int .i64 most] from (HBd.out.same HF6.out).alloc _)
    have HF7 := hid (show Fr (fun _ => False) w (w5.alloc (.cells #[] 2)) from (HFA.out.trans HF6.out).trans (Fr.alloc _ _ _))
    have HW7 := hid (show OwnR (w5.alloc (.cells #[] 2)) w6.heap.size 2 1 (some ⟨w6.heap.size, 0, none⟩) 0 0 (intsV []) from by have := own_none w5 w6.heap.size (by have := HZZ.out; omega); rw [HZZ.out] at this; exact this)
    have HZ7 := hid (show w.heap.size < w6.heap.size ∧ wA.heap.size < w6.heap.size ∧ w6.heap.size ≤ (w5.alloc (.cells #[] 2)).heap.size from by have := HLL.out; have := HSA.out; have := HZZ.out; simp; omega)
    obtain ⟨w7, hw7⟩ : ∃ w7, w5.alloc (.cells #[] 2) = w7 := ⟨_, rfl⟩
    rw [hw7] at HB7 HD7 HF7 HW7 HZ7 ⊢
    clear hw7
    obtain ⟨go, hgo⟩ : ∃ go, w6.heap.size = go := ⟨_, rfl⟩
    obtain ⟨gr, hgr⟩ : ∃ gr, wA.heap.size = gr := ⟨_, rfl⟩
    rw [hgo] at HW7 HZ7 ⊢
    rw [hgr] at HB7 HZ7 ⊢
    clear hgr hgo
  all_goals
    have cs := (HCS.out w7 HF7.out).1
    have ct := (HCS.out w7 HF7.out).2.1
    have pd0 := HD7.out.cell (i := 0) rfl
    have pd1 := HD7.out.cell (i := 1) rfl
    go_upto_region 3 with fail
    go_region
    go_wp2_with fail
    clear cs ct pd0 pd1
    have HB8 := hid (HB7.out.same (Fr.drew _ _))
    have HD8 := hid (HD7.out.same (Fr.drew _ _))
    have HF8 := hid (HF7.out.trans (Fr.drew _ _))
    have HW8 := hid (HW7.out.same (Fr.drew _ _))
    have HZ8 := hid (show go ≤ w7.drew.heap.size from HZ7.out.2.2)
    obtain ⟨w8, hw8⟩ : ∃ w8, w7.drew = w8 := ⟨_, rfl⟩
    rw [hw8] at HB8 HD8 HF8 HW8 HZ8 ⊢
    clear hw8 HB7 HD7 HF7 HW7
    go_loopg [7, 8] (N + 1) (fun d x k wr => RlRel B c g cap M R size did w go w.heap.size gr most N d x k wr)
    case atStart => exact HRELB.out _ _ _ _ _ _ _ ⟨0, some ⟨go, 0, none⟩, 0, by omega, by omega, rfl, by simp, HW8.out, HF8.out, HD8.out, HB8.out, HZ8.out⟩
    case round =>
      obtain ⟨j, A, cap2, hj, hd, rfl, rfl, hO, hF, hBd, hBr, hsz⟩ := HREL.out _ _ _ _ _ _ _ hrel
      clear hrel
      have HO2 := hid hO
      have HF := hid hF
      have HDD := hid hd
      have HBr2 := hid hBr
      have HBd2 := hid hBd
      have HSZ2 := hid hsz
      have HJ := hid hj
      have r0 := hBr.cell (i := 0) rfl
      have r1 := hBr.cell (i := 1) rfl
      have pd0 := hBd.cell (i := 0) rfl
      have pd1 := hBd.cell (i := 1) rfl
      have cs := (HCS.out wr HF.out).1
      have cb := (HCS.out wr HF.out).2.2.1
      clear hO hF hd hBr hBd hsz
      by_cases hlt : j < N
      · have t1 : decide (t + (j : Int) < bo) = true := by have := HNN.out; simp; omega
        go_upto_region 4 with fail
        go_region
        go_wp2_with fail
        obtain ⟨p, hp, hpu, cp⟩ := HCP.out (R.place (t + (j : Int))) wr HF.out (by have := (HPI.out (t + (j : Int))).1; have := HRA.out; omega) (by have := (HPI.out (t + (j : Int))).2; have := HUU.out; omega)
        have HX := hid (show dqN M R (j + 1) = dqN M R j ++ [rd M (R.place (t + (j : Int)))] from by rw [dqN_succ, HTT.out])
        obtain ⟨xv, hxv⟩ : ∃ xv, rd M (R.place (t + (j : Int))) = xv := ⟨_, rfl⟩
        rw [hxv] at HX cp
        have HP2 := hid (show ∀ (u : World), Calls Try.prog 67 #[.agg #[.int .i64 R.a, .int .i64 R.l], .int .i64 (t + (j : Int))] u fun e w' => e = .returned (.int .i64 (p : Int)) ∧ Fr (fun _ => False) u w' from fun u => hp ▸ HPL.out (t + (j : Int)) u)
        have hpb : (p : Int) < (us : Int) := by omega
        have hpn : p < us := by omega
        clear hp hxv
        have HLO := hid (fun i hi => (OwnR.lt HO2.out i hi).1)
        have HCL := hid (show c < go ∧ g < go ∧ gr < go from by
          have h1 := HC.out.hc.lt
          have h2 := (HC.out.own.lt g ⟨_, rfl, rfl⟩).2
          have := HZ7.out
          omega)
        have HGR := hid (HBr2.out)
        have HS6 := hid (show ∀ u, Fr (ownB A) wr u → u.cell? ⟨c, 0, none⟩ = some (.slice (some ⟨g, 0, none⟩) us cap) ∧ u.cell? ⟨g, p, none⟩ = some (.int .i64 xv) ∧ u.cell? ⟨gr, 0, none⟩ = some (.int .i64 R.a) ∧ u.cell? ⟨gr, 1, none⟩ = some (.int .i64 R.l) from fun u F => by
          have nc : ¬ ownB A c := fun hh => by have := HLO.out c hh; have := HCL.out; omega
          have ng : ¬ ownB A g := fun hh => by have := HLO.out g hh; have := HCL.out; omega
          have nr : ¬ ownB A gr := fun hh => by have := HLO.out gr hh; have := HCL.out; omega
          exact ⟨by rw [← cs]; exact HCC.out _ _ u HF.out F nc, by rw [← cp]; exact HCG.out _ _ u p HF.out F ng, (HGR.out.keep F nr).cell rfl, (HGR.out.keep F nr).cell rfl⟩)
        have HFd := hid (Fr.refl (ownB A) wr)
        have HGd := hid (Fr.refl (fun _ => False) wr)
        clear cs cb r0 r1 pd0 pd1 cp
        go_region_held3 (fun u => u.cell? ⟨c, 0, none⟩ = some (.slice (some ⟨g, 0, none⟩) us cap) ∧ u.cell? ⟨g, p, none⟩ = some (.int .i64 xv) ∧ u.cell? ⟨gr, 0, none⟩ = some (.int .i64 R.a) ∧ u.cell? ⟨gr, 1, none⟩ = some (.int .i64 R.l))
          (first | exact HS6.out _ HFd.out | exact HS6.out _ (HFd.out.trans (Fr.drew _ _)) | exact HS6.out _ (HFd.out.trans ((Fr.drew _ _).trans (Fr.drew _ _))) | exact HS6.out _ (HFd.out.trans (Fr.alloc _ _ _)))
          (first
            | (go_at_call 67; go_must ((with_reducible refine (HP2.out _).mono ?_); rintro e w9 ⟨rfl, hF9⟩; have HGd := hid (HGd.out.trans (Fr.trans (by first | exact Fr.refl _ _ | exact Fr.drew _ _ | exact (Fr.drew _ _).trans (Fr.drew _ _)) hF9)); have HFd := hid (HGd.out.mono (T := ownB A) fun _ h => h.elim); clear hF9))
            | (have HO3 := hid ((HO2.out.same HGd.out).same (Fr.alloc (fun _ => False) w9 (.cells #[.int .i64 xv] 2))); have HNW := hid (newk w9 2 (.int .i64 xv)); have HS3 := hid (show go ≤ (w9.alloc (.cells #[.int .i64 xv] 2)).heap.size from by have := HSZ2.out; have := HGd.out.size; simp; omega); (refine step_append_lies _ (by rfl) _ _ _ (by rfl) go 2 i0 (.int .i64 0) 1 8 Try.underlying30 HII.out HZ0.out HZ1.out HZ2.out rfl (by decide) (.slice A j cap2) j _ (by rfl) HO3.out ⟨w9.heap.size, 0, none⟩ 1 1 [.int .i64 xv] (by rfl) (by rfl) HNW.out (by simp [Value.oneCell']) (by omega) (by unfold maxLen; omega) (by omega) HS3.out (w9.heap.size + 1) (by simp) ?_; intro g5 c5 w10 hown2 hgrow2 hat2 hlt2; have HO4 := hid (show OwnR w10 go 2 1 (some ⟨g5, 0, none⟩) (j + 1) c5 _ from hown2); have HFG := hid (Fr.of_grown hgrow2); have HFd := hid ((HFd.out.trans (Fr.alloc _ w9 (.cells #[.int .i64 xv] 2))).trans HFG.out); clear hown2 hgrow2 hat2 hlt2)))
        go_wp2_with fail
        go_roundg (N + 1 - (j + 1))
        case rel =>
          refine HRELB.out _ _ _ _ _ _ _ ⟨j + 1, some ⟨g5, 0, none⟩, c5, by omega, rfl, rfl, by go_num, by rw [HX.out]; exact OwnR.eq HO4.out (by simp [intsV]), HF.out.since HFd.out (fun i hi hl => by have := HLO.out i hi; have := HZ7.out; omega), HBd2.out.keep HFd.out (fun hh => by have := HLO.out _ hh; have := HZ7.out; omega), HBr2.out.keep HFd.out (fun hh => by have := HLO.out _ hh; have := HZ7.out; omega), by have := HFd.out.size; have := HSZ2.out; omega⟩
        case measure => have := HDD.out; omega
      · obtain rfl : j = N := by omega
        have t1 : decide (t + (j : Int) < bo) = false := by have := HNN.out; simp; omega
        go_upto_region 4 with fail
        go_region
        go_wp2_with fail
        go_ret
        refine ⟨A, cap2, ?_, ?_, HF.out.trans (Fr.drew _ _)⟩
        · simp [dqN_len]
        · rw [dqN_len]
          exact OwnR.less (HO2.out.same (Fr.drew _ _)) (Nat.le_of_lt HZ7.out.1)
end Go.Proofs.Ytiofdfgcghiibaa

namespace Go.Proofs.Ytiofdfgcghiibaa
open Go.RowKit
set_option linter.unusedVariables false

set_option maxHeartbeats 400000 in
theorem rdnew_log (c : Nat) (y z : Int) (w : World) (h : ¬ (0 ≤ y ∧ y ≤ z ∧ z ≤ 8)) :
    Calls Try.prog 12 #[.pointer (some ⟨c, 0, none⟩), .int .i64 y, .int .i64 z] w fun e w' => e = .returned (.tuple #[.agg #[.int .i64 0, .int .i64 0], .int .i64 10]) ∧ Fr (fun _ => False) w w' := by
  have H := hid h
  clear h
  have key : ∀ t1 t2 t3 : Bool, decide (y < 0) = t1 → decide (z < y) = t2 → decide (8 < z) = t3 → (t1 || t2 || t3) = true := by
    intro t1 t2 t3 h1 h2 h3
    subst h1 h2 h3
    have := H.out
    simp only [Bool.or_eq_true, decide_eq_true_eq]
    omega
  rcases ht1 : decide (y < 0) with _ | _
  · rcases ht2 : decide (z < y) with _ | _
    · have ht3 : decide (8 < z) = true := by
        rcases ht3 : decide (8 < z) with _ | _
        · exact absurd (key _ _ _ ht1 ht2 ht3) (by simp)
        · rfl
      clear key
      go_enter Try.func12, Try.ntmps12
      go_wp2_with fail
      refine bodyPost_ret (v := .tuple #[.agg #[.int .i64 0, .int .i64 0], .int .i64 10]) ?hv rfl ?hp
      case hv => (simp [results, Try.results12, go_sem]; try rfl)
      case hp => exact ⟨rfl, Fr.alloc _ _ _⟩
    · clear key
      go_enter Try.func12, Try.ntmps12
      go_wp2_with fail
      refine bodyPost_ret (v := .tuple #[.agg #[.int .i64 0, .int .i64 0], .int .i64 10]) ?hv rfl ?hp
      case hv => (simp [results, Try.results12, go_sem]; try rfl)
      case hp => exact ⟨rfl, Fr.alloc _ _ _⟩
  · clear key
    go_enter Try.func12, Try.ntmps12
    go_wp2_with fail
    refine bodyPost_ret (v := .tuple #[.agg #[.int .i64 0, .int .i64 0], .int .i64 10]) ?hv rfl ?hp
    case hv => (simp [results, Try.results12, go_sem]; try rfl)
    case hp => exact ⟨rfl, Fr.alloc _ _ _⟩

theorem size0 (l : Int) (h0 : 0 ≤ l) (h8 : l ≤ 8) : Rg.size ⟨0, l⟩ = pow l := by
  have hp := pow_le l h8
  exact if_pos ⟨h0, h8, Int.le_refl _, by simp only; omega⟩

set_option maxHeartbeats 800000 in
theorem rdnew_full (c : Nat) (size l m : Int) (w : World) (hc : TBlk w c #[.slice none 0 0, .int .i64 size, .int .i64 0] 32) (h0 : 0 ≤ l) (hlm : l ≤ m) (hm8 : m ≤ 8) (hz1 : 0 ≤ size) (hz2 : size ≤ 600) (hn : size < 3 + pow l) :
    Calls Try.prog 12 #[.pointer (some ⟨c, 0, none⟩), .int .i64 l, .int .i64 m] w fun e w' => e = .returned (.tuple #[.agg #[.int .i64 0, .int .i64 0], .int .i64 21]) ∧ Fr (fun _ => False) w w' := by
  have t1 : decide (l < 0) = false := by simp; omega
  have t2 : decide (m < l) = false := by simp; omega
  have t4 : decide (8 < m) = false := by simp; omega
  have hsz := size0 l h0 (by omega)
  have hp := pow_le l (by omega)
  have hp0 := pow_pos l
  obtain ⟨n, hnn⟩ : ∃ n, pow l = n := ⟨_, rfl⟩
  rw [hnn] at hsz hn hp hp0
  have HSZ := hid (fun (u : World) => hsz ▸ rsize_any 0 l u)
  have HC := hid (hc.same (Fr.alloc _ w (.cells #[.int .i64 0, .int .i64 0] 37)))
  have tc : decide (size < 3 + n) = true := by simp; omega
  clear hc hn hsz hnn
  go_enter Try.func12, Try.ntmps12
  go_wp2_with fail
  refine (HSZ.out _).mono ?_
  rintro e w1 ⟨rfl, hF⟩
  have HC1 := hid (HC.out.same hF)
  have HR0 := hid ((Blk.new w #[.int .i64 0, .int .i64 0] 37).same hF)
  have HF1 := hid ((Fr.alloc (fun _ => False) w (.cells #[.int .i64 0, .int .i64 0] 37)).trans hF)
  clear hF
  have cs := HC1.out.cell (i := 0) rfl
  have c1 := HC1.out.cell (i := 1) rfl
  have p0 : w1.cell? ⟨w.heap.size, 0, none⟩ = some (.int .i64 0) := HR0.out.cell rfl
  have p1 : w1.cell? ⟨w.heap.size, 1, none⟩ = some (.int .i64 0) := HR0.out.cell rfl
  have f0 := HR0.out.frozen 0
  have f1 := HR0.out.frozen 1
  go_wp2_with fail
  have hR9 := HR0.out.set2 (.int .i64 0) (.int .i64 0)
  have hF9 := fr_set2 w1 w.heap.size (.int .i64 0) (.int .i64 0)
  obtain ⟨w9, hw9⟩ : ∃ w9, w9 = ((w1.setCell ⟨w.heap.size, 0, none⟩ (.int .i64 0)).setCell ⟨w.heap.size, 1, none⟩ (.int .i64 0)) := ⟨_, rfl⟩
  rw [← hw9] at hR9 hF9 ⊢
  clear hw9 p0 p1
  have p0 : w9.cell? ⟨w.heap.size, 0, none⟩ = some (.int .i64 0) := hR9.cell rfl
  have p1 : w9.cell? ⟨w.heap.size, 1, none⟩ = some (.int .i64 0) := hR9.cell rfl
  refine bodyPost_ret (v := .tuple #[.agg #[.int .i64 0, .int .i64 0], .int .i64 21]) ?hv rfl ?hp
  case hv => (simp [results, Try.results12, go_sem, p0, p1]; try rfl)
  case hp => exact ⟨rfl, HF1.out.since hF9 (fun i hi hl => by have h2 : i = w.heap.size := hi; omega)⟩
end Go.Proofs.Ytiofdfgcghiibaa

namespace Go.Proofs.Ytiofdfgcghiibaa
open Go.RowKit
set_option linter.unusedVariables false

def RnewRel (B c br : Nat) (size : Int) (N : Nat) (w : World) (d : Nat) (z : Value) (wr : World) : Prop :=
  ∃ (j : Nat) (A : Option Addr) (cap : Nat), j ≤ N ∧ d = N + 1 - j ∧ z = .int .i64 j ∧ TBlk wr c #[.slice A j cap, .int .i64 size, .int .i64 0] 32 ∧ OwnR wr B 2 1 A j cap (intsV (List.replicate j 0)) ∧ Fr (fun k => k = c) w wr ∧ Blk wr br #[.int .i64 0, .int .i64 0] ∧ B ≤ wr.heap.size

def RnPost (B c : Nat) (m size : Int) (N : Nat) (wd : Int) (w : World) (e : Ending) (w' : World) : Prop :=
  ∃ g cap, e = .returned (.tuple #[.agg #[.int .i64 0, .int .i64 m], .int .i64 0]) ∧ RC w' B c g ((List.replicate N 0).set 2 wd) N cap size 2 ∧ w.heap.size ≤ g ∧ Fr (fun k => k = c) w w'

set_option maxRecDepth 100000 in
set_option maxHeartbeats 1000000 in
theorem rdnew_ok (c : Nat) (size l m : Int) (w : World) (hc : TBlk w c #[.slice none 0 0, .int .i64 size, .int .i64 0] 32) (h0 : 0 ≤ l) (hlm : l ≤ m) (hm8 : m ≤ 8) (hz2 : size ≤ 600) (hn : 3 + pow l ≤ size) (N : Nat) (hN : 3 + pow l = N) :
    Calls Try.prog 12 #[.pointer (some ⟨c, 0, none⟩), .int .i64 l, .int .i64 m] w (RnPost w.heap.size c m size N (Rg.word ⟨3, l⟩) w) := by
  have t1 : decide (l < 0) = false := by simp; omega
  have t2 : decide (m < l) = false := by simp; omega
  have t4 : decide (8 < m) = false := by simp; omega
  have hsz := size0 l h0 (by omega)
  have hp := pow_le l (by omega)
  have hp0 := pow_pos l
  have hwd : Rg.word ⟨3, l⟩ = 48 + l := by
    have : Rg.Right ⟨3, l⟩ := ⟨h0, by simp only; omega, by simp only; omega, by simp only; omega⟩
    have e : Rg.word ⟨3, l⟩ = 3 * 16 + l := if_pos this
    rw [e]
    omega
  rw [hwd]
  obtain ⟨n, hnn⟩ : ∃ n, pow l = n := ⟨_, rfl⟩
  rw [hnn] at hsz hn hp hp0 hN
  have HSZ := hid (fun (u : World) => hsz ▸ rsize_any 0 l u)
  have HC := hid (hc.same (Fr.alloc _ w (.cells #[.int .i64 0, .int .i64 0] 37)))
  have HCL := hid hc.lt
  have tc : decide (size < 3 + n) = false := by simp; omega
  obtain ⟨i0, hi, hz⟩ := Option.map_eq_some_iff.1 infoint64
  simp only [Prod.mk.injEq] at hz
  obtain ⟨hzz0, hzz1, hzz2⟩ := hz
  have HII := hid hi
  have HZ0 := hid hzz0
  have HZ1 := hid hzz1
  have HZ2 := hid hzz2
  have HNN := hid hN
  have HNB := hid (show 3 < N ∧ N ≤ 600 from by omega)
  have hz1 : 0 ≤ size := by omega
  clear hc hn hsz hnn hi hzz0 hzz1 hzz2 hwd hN
  go_enter Try.func12, Try.ntmps12
  go_wp2_with fail
  refine (HSZ.out _).mono ?_
  rintro e w1 ⟨rfl, hF⟩
  have HC1 := hid (HC.out.same hF)
  have HR1 := hid ((Blk.new w #[.int .i64 0, .int .i64 0] 37).same hF)
  have HF1 := hid (((Fr.alloc (fun _ => False) w (.cells #[.int .i64 0, .int .i64 0] 37)).trans hF).mono (T := fun k => k = c) fun _ h => h.elim)
  have HZ3 := hid (show w.heap.size < w1.heap.size from by have := hF.size; simp at this; omega)
  clear hF
  have cs := HC1.out.cell (i := 0) rfl
  have c1 := HC1.out.cell (i := 1) rfl
  go_wp2_with fail
  have hN2 : 3 + n = (N : Int) := HNN.out
  rw [hN2]
  clear cs c1 tc hN2
  have hN6 : N ≤ 600 := HNB.out.2
  obtain ⟨br, hbr⟩ : ∃ br, w.heap.size = br := ⟨_, rfl⟩
  rw [hbr] at HR1 HCL HZ3 ⊢
  have HBR := hid hbr
  clear hbr
  go_loopg [10] (N + 1) (fun d z wr => RnewRel w1.heap.size c br size N w d z wr)
  case atStart => exact ⟨0, none, 0, Nat.zero_le _, by omega, rfl, HC1.out, OwnR.nil _ _ _ _, HF1.out, HR1.out, Nat.le_refl _⟩
  case round =>
    clear HC1 HR1
    obtain ⟨j, A, cap, hj, rfl, rfl, hCj, hOj, hFj, hRj, hBj⟩ := hrel
    have HCj := hid hCj
    have HOj := hid hOj
    have HFj := hid hFj
    have HRj := hid hRj
    have HBj := hid hBj
    have HJ := hid hj
    clear hCj hOj hFj hRj hBj hj
    by_cases hlt : j < N
    · have hlt2 : decide ((j : Int) < 3 + n) = true := by have := HNN.out; simp; omega
      have cs := HCj.out.cell (i := 0) rfl
      have HA := hid (HOj.out.same (Fr.alloc (fun _ => False) wr (.cells #[.int .i64 0] 2)))
      have HCa := hid (HCj.out.alloc (.cells #[.int .i64 0] 2))
      have HRa := hid (HRj.out.alloc (.cells #[.int .i64 0] 2))
      have HNW := hid (newk wr 2 (.int .i64 0))
      have HLO := hid (fun i hi => (OwnR.lt HOj.out i hi).1)
      have HBS := hid (show w1.heap.size ≤ (wr.alloc (.cells #[.int .i64 0] 2)).heap.size from by have := HBj.out; simp; omega)
      go_wp2_with (at_builtin; go_must (refine wpList_append_lies _ rfl _ _ 30 rfl w1.heap.size 2 i0 (.int .i64 0) 1 8 Try.underlying30 HII.out HZ0.out HZ1.out HZ2.out rfl (by decide) (.slice A j cap) j _ rfl HA.out ⟨wr.heap.size, 0, none⟩ 1 1 [.int .i64 0] rfl rfl HNW.out (by simp [Value.oneCell']) (by omega) (by unfold maxLen; omega) (by omega) HBS.out (wr.heap.size + 1) (by simp) ?_; intro g5 c5 w5 hown5 hgrow5 hat5 hlt5; have HO5 := hid (show OwnR w5 w1.heap.size 2 1 (some ⟨g5, 0, none⟩) (j + 1) c5 _ from hown5); have HFG := hid (Fr.of_grown hgrow5); clear hown5 hgrow5 hat5 hlt5; have HC5 := hid (HCa.out.keep HFG.out (fun hh => by have := HLO.out _ hh; have := HCL.out; have := HZ3.out; omega)); have HR5 := hid (HRa.out.keep HFG.out (fun hh => by have := HLO.out _ hh; have := HZ3.out; omega)); have cc := HC5.out.cell (i := 0) rfl; have gg := HC5.out.frozen 0))
      have HSC := hid (show Fr (fun k => k = c) w5 (w5.setCell ⟨c, 0, none⟩ (.slice (some ⟨g5, 0, none⟩) (j + 1) c5)) from Fr.setCell _ _ _ rfl)
      have HFX := hid (show Fr (fun k => k = c) w (w5.setCell ⟨c, 0, none⟩ (.slice (some ⟨g5, 0, none⟩) (j + 1) c5)) from
        ((HFj.out.trans (Fr.alloc _ wr (.cells #[.int .i64 0] 2))).since HFG.out (fun i hi hl => by have := HLO.out i hi; have := HZ3.out; have := HBR.out; omega)).trans HSC.out)
      have HG5 := hid (show w1.heap.size ≤ g5 from (OwnR.lt HO5.out g5 ⟨_, rfl, rfl⟩).1)
      have HS5 := hid (show w1.heap.size ≤ (w5.setCell ⟨c, 0, none⟩ (.slice (some ⟨g5, 0, none⟩) (j + 1) c5)).heap.size from by have := HFG.out.size; have := HBS.out; simp at *; omega)
      go_roundg (N + 1 - (j + 1))
      case rel =>
        refine ⟨j + 1, some ⟨g5, 0, none⟩, c5, by omega, rfl, by go_num, (show TBlk _ c #[.slice (some ⟨g5, 0, none⟩) (j + 1) c5, .int .i64 size, .int .i64 0] _ from by simpa using HC5.out.set 0 (.slice (some ⟨g5, 0, none⟩) (j + 1) c5)), OwnR.eq (HO5.out.keep HSC.out (fun i hi hh => ?_)) (by simp [intsV, List.replicate_succ']), HFX.out, HR5.out.keep HSC.out (fun hh => by have := HCL.out; have h2 : br = c := hh; omega), HS5.out⟩
        obtain ⟨a, ha, hk⟩ := hi
        injection ha with ha
        subst ha
        have h1 : g5 = i := hk
        have h2 : i = c := hh
        have := HG5.out
        have := HCL.out
        have := HZ3.out
        omega
      case measure => omega
    · obtain rfl : j = N := by have := HJ.out; omega
      obtain ⟨g, cap3, hsl, hown⟩ := ownR_stays HOj.out (by intro hh; injection hh with _ h2 _; have := HNB.out; omega)
      injection hsl with hA hn3 hcap
      subst hA hcap
      have HOg := hid hown
      have HGB := hid (show w1.heap.size ≤ g ∧ g < wr.heap.size from OwnR.lt hown g ⟨_, rfl, rfl⟩)
      have HRC := hid (RC.of_own (OwnR.less hown (show w.heap.size ≤ w1.heap.size from by have := HZ3.out; have := HBR.out; omega)) HCj.out (show c ≠ g from by have := HGB.out; have := HCL.out; have := HZ3.out; omega))
      clear hown
      have cs := HRC.out.hc.cell (i := 0) rfl
      have cd := HRC.out.hc.cell (i := 2) rfl
      have fd := HRC.out.hc.frozen 2
      have gc := HRC.out.cell (k := 2) (by have := HNB.out; omega)
      have gf := HRC.out.frozen 2
      have ngc : g ≠ c := HRC.out.ne.symm
      have ncg : c ≠ g := HRC.out.ne
      have hb2 : (2 : Int) < (j : Int) := by have := HNB.out; omega
      have tw : IntKind.i64.wrap (48 + l) = 48 + l := wrap_in _ (by omega) (by omega)
      have tw2 : IntKind.i64.wrap 2 = 2 := by decide
      have tlt : decide ((j : Int) < 3 + n) = false := by have := HNN.out; simp; omega
      clear hlt
      have p0 := HRj.out.cell (i := 0) rfl
      have p1 := HRj.out.cell (i := 1) rfl
      have f0 := HRj.out.frozen 0
      have f1 := HRj.out.frozen 1
      have nbg : br ≠ g := by have := HGB.out; have := HZ3.out; omega
      have nbc : br ≠ c := by have := HCL.out; omega
      go_wp2_with fail
      have hR2 := (HRj.out.far (b' := g) 2 (.int .i64 (48 + l)) nbg).far (b' := c) 2 (.int .i64 2) nbc
      have hC2 := (HRC.out.set (k := 2) (by have := HNB.out; omega) (48 + l)).didUp 2
      have hF2 : Fr (fun k => k = c) w ((wr.setCell ⟨g, 2, none⟩ (.int .i64 (48 + l))).setCell ⟨c, 2, none⟩ (.int .i64 2)) :=
        (HFj.out.since (Fr.setCell (S := fun k => k = g) wr ⟨g, 2, none⟩ (.int .i64 (48 + l)) rfl) (fun i hi hl => by have h2 : i = g := hi; have := HGB.out; have := HZ3.out; have := HBR.out; omega)).trans (Fr.setCell _ _ _ rfl)
      obtain ⟨w2, hw2⟩ : ∃ w2, (wr.setCell ⟨g, 2, none⟩ (.int .i64 (48 + l))).setCell ⟨c, 2, none⟩ (.int .i64 2) = w2 := ⟨_, rfl⟩
      rw [hw2] at hR2 hC2 hF2 ⊢
      clear hw2 p0 p1
      have hR9 := hR2.set2 (.int .i64 0) (.int .i64 m)
      have hF9 := fr_set2 w2 br (.int .i64 0) (.int .i64 m)
      obtain ⟨w9, hw9⟩ : ∃ w9, w9 = ((w2.setCell ⟨br, 0, none⟩ (.int .i64 0)).setCell ⟨br, 1, none⟩ (.int .i64 m)) := ⟨_, rfl⟩
      rw [← hw9] at hR9 hF9 ⊢
      clear hw9
      have p0 : w9.cell? ⟨br, 0, none⟩ = some (.int .i64 0) := hR9.cell rfl
      have p1 : w9.cell? ⟨br, 1, none⟩ = some (.int .i64 m) := hR9.cell rfl
      refine bodyPost_ret (v := .tuple #[.agg #[.int .i64 0, .int .i64 m], .int .i64 0]) ?hv rfl ?hp
      case hv => (simp [results, Try.results12, go_sem, p0, p1]; try rfl)
      case hp => exact ⟨g, cap, rfl, hC2.keep hF9 (fun h => nbc h.symm) (fun h => nbg h.symm), by have := HGB.out; have := HZ3.out; have := HBR.out; omega, hF2.since hF9 (fun i hi hl => by have h2 : i = br := hi; have := HBR.out; omega)⟩
end Go.Proofs.Ytiofdfgcghiibaa

namespace Go.Proofs.Ytiofdfgcghiibaa
open Go.RowKit
set_option linter.unusedVariables false

/-- Under way, as the document asks it. -/
def DOp.Going (o : DOp) : Prop := o.how = 0 ∨ o.how = 2

theorem act_kind {most : Int} {o : DOp} {M : Mach} : (o.act most M).1.kind = o.kind := by
  unfold DOp.act
  split
  all_goals first
    | rfl
    | (unfold DOp.push3; dsimp only; split; rfl; split <;> rfl)
    | (unfold DOp.push5; split <;> rfl)
    | (unfold DOp.pop6; dsimp only; split <;> rfl)
    | (unfold DOp.pop7; split <;> rfl)
    | (unfold DOp.pop8; split <;> rfl)
    | (unfold DOp.steal2; split <;> rfl)
    | (unfold DOp.steal5; split <;> rfl)

structure QI (most : Int) (size : Nat) (M : Mach) (R : Rg) (N : Int) (f : Nat → DOp) (A : Nat → Bool) : Prop where
  ss : SS most size M R N
  n3 : 300 ≤ N
  lv : ∀ v, A v = true → (f v).Going → (f v).Live
  th : ∀ v, 1 ≤ v → A v = true → (f v).Going → ST M N (f v)
  ow : A 0 = true → (f 0).Going → SU most M R (f 0) ∨ SP M R (f 0)

section
variable {most : Int} {size : Nat} {M : Mach} {R : Rg} {N : Int} {f : Nat → DOp} {A : Nat → Bool}

/-- One that is no more under way. -/
theorem QI.still (h : QI most size M R N f A) (v : Nat) (o : DOp) (ho : ¬ o.Going) : QI most size M R N (upd f v o) (upd A v true) := by
  refine ⟨h.ss, h.n3, fun u => ?_, fun u hu => ?_, ?_⟩
  · by_cases e : u = v
    · subst e; rw [upd_same, upd_same]; exact fun _ hg => absurd hg ho
    · rw [upd_ne _ _ _ _ e, upd_ne _ _ _ _ e]; exact h.lv u
  · by_cases e : u = v
    · subst e; rw [upd_same, upd_same]; exact fun _ hg => absurd hg ho
    · rw [upd_ne _ _ _ _ e, upd_ne _ _ _ _ e]; exact h.th u hu
  · by_cases e : 0 = v
    · subst e; rw [upd_same, upd_same]; exact fun _ hg => absurd hg ho
    · rw [upd_ne _ _ _ _ e, upd_ne _ _ _ _ e]; exact h.ow

theorem QI.beginT (h : QI most size M R N f A) (v : Nat) (hv : 1 ≤ v) : QI most size M R N (upd f v (beginOp 2 0)) (upd A v true) := by
  refine ⟨h.ss, h.n3, fun u => ?_, fun u hu => ?_, ?_⟩
  · by_cases e : u = v
    · subst e; rw [upd_same, upd_same]; exact fun _ _ => rfl
    · rw [upd_ne _ _ _ _ e, upd_ne _ _ _ _ e]; exact h.lv u
  · by_cases e : u = v
    · subst e; rw [upd_same, upd_same]; exact fun _ _ => ST.begin_ M N
    · rw [upd_ne _ _ _ _ e, upd_ne _ _ _ _ e]; exact h.th u hu
  · rw [upd_ne _ _ _ _ (by omega), upd_ne _ _ _ _ (by omega)]; exact h.ow

theorem QI.beginO (h : QI most size M R N f A) (o : DOp) (ho : (∃ x, o = beginOp 0 x) ∨ o = beginOp 1 0) : QI most size M R N (upd f 0 o) (upd A 0 true) := by
  refine ⟨h.ss, h.n3, fun u => ?_, fun u hu => ?_, ?_⟩
  · by_cases e : u = 0
    · subst e; rw [upd_same, upd_same]
      rcases ho with ⟨x, rfl⟩ | rfl
      · exact fun _ _ => rfl
      · exact fun _ _ => rfl
    · rw [upd_ne _ _ _ _ e, upd_ne _ _ _ _ e]; exact h.lv u
  · rw [upd_ne _ _ _ _ (by omega), upd_ne _ _ _ _ (by omega)]; exact h.th u hu
  · rw [upd_same, upd_same]
    rcases ho with ⟨x, rfl⟩ | rfl
    · exact fun _ _ => .inl (SU.begin_ M R x)
    · exact fun _ _ => .inr (SP.begin_ M R)

theorem QI.safeT (h : QI most size M R N f A) (v : Nat) (hv : 1 ≤ v) (ha : A v = true) (hg : (f v).Going) : (f v).safe M := (h.th v hv ha hg).safe h.ss

/-- A thief's step. -/
theorem QI.thief (h : QI most size M R N f A) (v : Nat) (hv : 1 ≤ v) (ha : A v = true) (hg : (f v).Going) :
    QI most size ((f v).act most M).2 R (N + 1) (upd f v ((f v).act most M).1) A := by
  have t := h.th v hv ha hg
  have hl := h.lv v ha hg
  have hin := (t.safe h.ss).2.1
  have t0 := h.ss.t0
  have n3 := h.n3
  obtain ⟨h1, h2, h3⟩ := t.step h.ss
  have hu : M.used ≤ ((f v).act most M).2.used := by
    rcases h3 with e | e
    · rw [e]; exact Nat.le_refl _
    · rw [e]; exact Nat.le_refl _
  refine ⟨h2, by omega, fun u hu1 => ?_, fun u hu1 hu2 => ?_, fun h0 => ?_⟩
  · by_cases e : u = v
    · subst e; rw [upd_same]; exact fun hg2 => act_live hl hin hg2
    · rw [upd_ne _ _ _ _ e]; exact h.lv u hu1
  · by_cases e : u = v
    · subst e; rw [upd_same]; exact fun _ => h1
    · rw [upd_ne _ _ _ _ e]; exact fun hg2 => (h.th u hu1 hu2 hg2).used hu (by omega)
  · rw [upd_ne _ _ _ _ (by omega)]
    intro hg2
    rcases h3 with e | e
    · rw [e]; exact h.ow h0 hg2
    · rw [e]
      rcases h.ow h0 hg2 with k | k
      · exact .inl (k.top h.ss (by omega))
      · exact .inr (k.top h.ss (by omega))

/-- The owner's step, where there is room. -/
theorem QI.owner (h : QI most size M R N f A) (ha : A 0 = true) (hg : (f 0).Going) (hroom : (f 0).kind = 0 → (f 0).nx = 4 → (M.used : Int) + pow ((f 0).rg.l + 1) ≤ size) :
    (f 0).safe M ∧ ∃ R', QI most size ((f 0).act most M).2 R' (N + 1) (upd f 0 ((f 0).act most M).1) A := by
  have hl := h.lv 0 ha hg
  have n3 := h.n3
  rcases h.ow ha hg with k | k
  · have hs := k.safe h.ss (hroom k.k)
    have h0 : (f 0).how = 0 := by
      unfold DOp.Live at hl
      rw [hl, k.k]
      rfl
    obtain ⟨R', h1, h2, h3⟩ := k.step h.ss h0 h.n3 (hroom k.k)
    refine ⟨hs, R', h1, by omega, fun u hu1 => ?_, fun u hu1 hu2 => ?_, fun _ => ?_⟩
    · by_cases e : u = 0
      · subst e; rw [upd_same]; exact fun hg2 => act_live hl hs.2.1 hg2
      · rw [upd_ne _ _ _ _ e]; exact h.lv u hu1
    · rw [upd_ne _ _ _ _ (by omega)]; exact fun hg2 => (h.th u hu1 hu2 hg2).used h2 (by omega)
    · rw [upd_same]
      intro hg2
      by_cases n8 : (f 0).nx = 8
      · exfalso
        have e : (f 0).act most M = (f 0).push8 M := by unfold DOp.act; simp only [k.k, n8]
        rw [e] at hg2
        unfold DOp.push8 DOp.Going at hg2
        simp only at hg2
        omega
      · have hl2 := act_live hl hs.2.1 hg2
        have hk2 : ((f 0).act most M).1.how = (f 0).how := by
          rcases hg2 with e | e
          · rw [e, h0]
          · exfalso
            unfold DOp.Live at hl2
            have kk : ((f 0).act most M).1.kind = 0 := by rw [act_kind]; exact k.k
            rw [kk, e] at hl2
            cases hl2
        rcases h3 hk2 with e | e
        · exact absurd e n8
        · exact .inl e
  · have hs := k.safe h.ss
    have h0 : (f 0).how = 0 := by
      unfold DOp.Live at hl
      rw [hl, k.k]
      rfl
    obtain ⟨h1, h2, h3⟩ := k.step h.ss
    refine ⟨hs, R, h1, by omega, fun u hu1 => ?_, fun u hu1 hu2 => ?_, fun _ => ?_⟩
    · by_cases e : u = 0
      · subst e; rw [upd_same]; exact fun hg2 => act_live hl hs.2.1 hg2
      · rw [upd_ne _ _ _ _ e]; exact h.lv u hu1
    · rw [upd_ne _ _ _ _ (by omega)]; exact fun hg2 => (h.th u hu1 hu2 hg2).used h2 (by omega)
    · rw [upd_same]
      intro hg2
      by_cases n8 : (f 0).nx = 8
      · exfalso
        have e : (f 0).act most M = (f 0).pop8 M := by unfold DOp.act; simp only [k.k, n8]
        rw [e] at hg2
        unfold DOp.pop8 DOp.Going at hg2
        split at hg2 <;> simp only at hg2 <;> omega
      by_cases n5 : (f 0).nx = 5
      · exfalso
        have e : (f 0).act most M = (f 0).pop5 M := by unfold DOp.act; simp only [k.k, n5]
        rw [e] at hg2
        unfold DOp.pop5 DOp.Going at hg2
        simp only at hg2
        omega
      · have hl2 := act_live hl hs.2.1 hg2
        have hk2 : ((f 0).act most M).1.how = (f 0).how := by
          rcases hg2 with e | e
          · rw [e, h0]
          · exfalso
            unfold DOp.Live at hl2
            have kk : ((f 0).act most M).1.kind = 1 := by rw [act_kind]; exact k.k
            rw [kk, e] at hl2
            cases hl2
        rcases h3 hk2 with e | e | e
        · exact absurd e n8
        · exact absurd e n5
        · exact .inr e
end
end Go.Proofs.Ytiofdfgcghiibaa

namespace Go.Proofs.Ytiofdfgcghiibaa
open Go.RowKit
set_option linter.unusedVariables false

structure QB (M : Mach) (N : Int) (f : Nat → DOp) (A : Nat → Bool) : Prop where
  c : CellB N M
  o : ∀ v, A v = true → OpB N (f v)
  p : 0 ≤ N

theorem QB.step {most : Int} {M : Mach} {N : Int} {f : Nat → DOp} {A : Nat → Bool} (h : QB M N f A) (v : Nat) (ha : A v = true) (hl : 1 < M.all.length) (hs : (f v).safe M) :
    QB ((f v).act most M).2 (N + 1) (upd f v ((f v).act most M).1) A := by
  have hp := h.p
  have k := act_bd (most := most) hl hs h.p h.c (h.o v ha)
  refine ⟨k.1, fun u hu => ?_, by omega⟩
  by_cases e : u = v
  · subst e; rw [upd_same]; exact k.2
  · rw [upd_ne _ _ _ _ e]; exact (h.o u hu).more (by omega)

theorem QB.put {M : Mach} {N : Int} {f : Nat → DOp} {A : Nat → Bool} (h : QB M N f A) (v : Nat) (o : DOp) (ho : OpB N o) : QB M N (upd f v o) (upd A v true) := by
  refine ⟨h.c, fun u => ?_, h.p⟩
  by_cases e : u = v
  · subst e; rw [upd_same, upd_same]; exact fun _ => ho
  · rw [upd_ne _ _ _ _ e, upd_ne _ _ _ _ e]; exact h.o u

theorem QB.more {M : Mach} {N N' : Int} {f : Nat → DOp} {A : Nat → Bool} (h : QB M N f A) (hN : N ≤ N') : QB M N' f A :=
  ⟨h.c.more hN, fun u hu => (h.o u hu).more hN, by have := h.p; omega⟩

theorem QI.more {most : Int} {size : Nat} {M : Mach} {R : Rg} {N N' : Int} {f : Nat → DOp} {A : Nat → Bool} (h : QI most size M R N f A) (hN : N ≤ N') : QI most size M R N' f A :=
  ⟨h.ss.more hN, by have := h.n3; omega, h.lv, fun u h1 h2 h3 => (h.th u h1 h2 h3).used (Nat.le_refl _) hN, h.ow⟩

theorem rd_zero (size : Nat) (u : Nat) (s : List Int) (k : Int) : rd ⟨List.replicate size 0, u, s⟩ k = 0 := by
  unfold rd
  rw [List.getD_eq_getElem?_getD]
  by_cases h : k.toNat < size
  · simp [h]
  · simp [h]

theorem newM_ss (size : Nat) (s : List Int) (l most : Int) (h0 : 0 ≤ l) (hlm : l ≤ most) (hm8 : most ≤ 8) (hz : size ≤ 600) (hn : 3 + pow l ≤ size) :
    SS most size (newM ⟨List.replicate size 0, 0, s⟩ l) ⟨3, l⟩ 300 := by
  have hp := pow_le l (by omega)
  have hp0 := pow_pos l
  have hR : Rg.Right ⟨3, l⟩ := ⟨h0, by simp only; omega, by simp only; omega, by simp only; omega⟩
  have e0 : rd (newM ⟨List.replicate size 0, 0, s⟩ l) 0 = 0 := by
    unfold newM
    rw [rd_wr_far _ _ _ _ (by omega) (by omega) (by omega), rd_give]
    exact rd_zero _ _ _ _
  have e1 : rd (newM ⟨List.replicate size 0, 0, s⟩ l) 1 = 0 := by
    unfold newM
    rw [rd_wr_far _ _ _ _ (by omega) (by omega) (by omega), rd_give]
    exact rd_zero _ _ _ _
  have e2 : rd (newM ⟨List.replicate size 0, 0, s⟩ l) 2 = Rg.word ⟨3, l⟩ := by
    unfold newM
    exact rd_wr_same _ _ _ (by omega) (by show (2 : Int) < ((List.replicate size (0 : Int)).length : Nat); simp; omega)
  have hu : (newM ⟨List.replicate size 0, 0, s⟩ l).used = (3 + pow l).toNat := by
    show 0 + (3 + pow l).toNat = _
    omega
  refine ⟨?_, by rw [hu]; omega, hz, hR, by simp only; omega, by rw [hu]; simp only; omega, hlm, hm8, e2, by omega, by omega, by omega, by omega, by rw [e0, e1]; simp only; omega⟩
  show (wrc _ 2 _).all.length = size
  rw [wr_len]
  show (List.replicate size (0 : Int)).length = size
  simp

theorem newM_take (size : Nat) (s : List Int) (l : Int) (N : Nat) (hN : 3 + pow l = N) (hn : N ≤ size) :
    (newM ⟨List.replicate size 0, 0, s⟩ l).used = N ∧ (newM ⟨List.replicate size 0, 0, s⟩ l).all.take N = (List.replicate N 0).set 2 (Rg.word ⟨3, l⟩) := by
  have hu : (newM ⟨List.replicate size 0, 0, s⟩ l).used = N := by
    show 0 + (3 + pow l).toNat = N
    omega
  refine ⟨hu, ?_⟩
  have h2 := take_wrc (Mach.give ⟨List.replicate size 0, 0, s⟩ (3 + pow l).toNat) 2 2 (Rg.word ⟨3, l⟩) rfl
  have h3 : (Mach.give ⟨List.replicate size 0, 0, s⟩ (3 + pow l).toNat).used = N := hu
  rw [h3] at h2
  show (wrc (Mach.give ⟨List.replicate size 0, 0, s⟩ (3 + pow l).toNat) 2 (Rg.word ⟨3, l⟩)).all.take N = _
  rw [h2]
  congr 1
  show (List.replicate size (0 : Int)).take N = _
  rw [List.take_replicate, Nat.min_eq_left hn]
end Go.Proofs.Ytiofdfgcghiibaa

namespace Go.Proofs.Ytiofdfgcghiibaa
open Go.RowKit
set_option linter.unusedVariables false

structure PM (b : MB) (most : Int) (M : Mach) (s : List Int) (A : Nat → Bool) (O Q C : Nat → Nat) (f : Nat → DOp) (w : World) : Prop where
  hM : IsM w b (MO M s)
  sl : s.length = 5
  io : ∀ v, v < 4 → A v = true → IsOp w b (O v) (Q v) (C v) most (f v)

structure RM (B c g cap : Nat) (size did most : Int) (M : Mach) (A : Nat → Bool) (P D : Nat → Nat) (f : Nat → DOp) (w : World) : Prop where
  hC : RC w B c g (M.all.take M.used) M.used cap size did
  ir : ∀ v, v < 4 → A v = true → RO w (P v) (D v) most (f v) ∧ RSep c g (P v) (D v)

section
variable {b : MB} {B c g cap : Nat} {most size did : Int} {M : Mach} {s : List Int} {A : Nat → Bool} {O Q C P D : Nat → Nat} {f : Nat → DOp} {w w' : World}

theorem PM.keep (h : PM b most M s A O Q C f w) {S : Nat → Prop} (F : Fr S w w') (hb : ∀ k, b.own k → ¬ S k) (hs : ∀ v, v < 4 → A v = true → ¬ S (O v) ∧ ¬ S (Q v) ∧ ¬ S (C v)) : PM b most M s A O Q C f w' :=
  ⟨h.hM.keep F hb, h.sl, fun v hv ha => (h.io v hv ha).keep F (hs v hv ha).1 (hs v hv ha).2.1 (hs v hv ha).2.2⟩

theorem RM.keep (h : RM B c g cap size did most M A P D f w) {S : Nat → Prop} (F : Fr S w w') (hc : ¬ S c) (hg : ¬ S g) (hs : ∀ v, v < 4 → A v = true → ¬ S (P v) ∧ ¬ S (D v)) : RM B c g cap size did most M A P D f w' :=
  ⟨h.hC.keep F hc hg, fun v hv ha => ⟨(h.ir v hv ha).1.keep F (hs v hv ha).1 (hs v hv ha).2, (h.ir v hv ha).2⟩⟩

/-- The program's step. -/
theorem PM.step (h : PM b most M s A O Q C f w) (u : Nat) (hu : u < 4) (ha : A u = true) (hs : (f u).safe M) (hb : OpB 100000 (f u)) (hl : (f u).Live)
    (hap : ∀ v, v < 4 → v ≠ u → A v = true → ¬ OM b (Q u) (C u) (O v) ∧ ¬ OM b (Q u) (C u) (Q v) ∧ ¬ OM b (Q u) (C u) (C v)) :
    Calls Try.prog 18 #[.pointer (some ⟨O u, 0, none⟩), .pointer (some ⟨b.m, 0, none⟩), .int .i64 u] w fun e w' =>
      ∃ cp', (cp' = C u ∨ w.heap.size ≤ cp') ∧ e = .returned (.int .i64 (((f u).act most M).1.how : Nat)) ∧ PM b most ((f u).act most M).2 (stp s u) A O Q (upd C u cp') (upd f u ((f u).act most M).1) w' ∧ Fr (OM b (Q u) (C u)) w w' := by
  refine (op_step (b := b) (M := M) (s := s) (o := O u) (q := Q u) (cp := C u) (j := u) ⟨h.io u hu ha, h.hM, by rw [h.sl]; omega, hs, hb, hl⟩).mono ?_
  rintro e w' ⟨cp', h1, h2, h3, h4, h5⟩
  refine ⟨cp', h1, h2, ⟨h4, by rw [stp_len]; exact h.sl, fun v hv hav => ?_⟩, h5⟩
  by_cases e : v = u
  · subst e
    rw [upd_same, upd_same]
    exact h3
  · rw [upd_ne _ _ _ _ e, upd_ne _ _ _ _ e]
    have n := hap v hv e hav
    exact (h.io v hv hav).keep h5 n.1 n.2.1 n.2.2

/-- The document's step. -/
theorem RM.step (h : RM B c g cap size did most M A P D f w) (u : Nat) (hu : u < 4) (ha : A u = true) (hs : (f u).safe M) (hb : OpB 100000 (f u)) (hl : (f u).Live) (us : M.used ≤ M.all.length) (sz : size = M.all.length) (s6 : M.all.length ≤ 600)
    (fr : ∀ i, M.used ≤ i → M.all.getD i 0 = 0) (hd0 : 0 ≤ did) (hd1 : did ≤ 100000)
    (hap : ∀ v, v < 4 → v ≠ u → A v = true → ¬ RK c g (P u) (D u) (P v) ∧ ¬ RK c g (P u) (D u) (D v) ∧ P v < w.heap.size ∧ D v < w.heap.size) :
    Calls Try.prog 19 #[.pointer (some ⟨P u, 0, none⟩), .pointer (some ⟨c, 0, none⟩), .int .i64 u, .int .i64 4] w fun e w' =>
      e = .returned (.tuple #[]) ∧ ∃ D' g' cap', RM B c g' cap' size (did + 1) most ((f u).act most M).2 A P (upd D u D') (upd f u ((f u).act most M).1) w' ∧ (g' = g ∨ w.heap.size ≤ g') ∧ (D' = D u ∨ w.heap.size ≤ D' ∧ D' < w'.heap.size) ∧ Fr (RK c g (P u) (D u)) w w' := by
  refine (rstep_ok (B := B) (c := c) (g := g) (r := P u) (cp := D u) (cap := cap) (M := M) (size := size) (did := did) ⟨(h.ir u hu ha).1, h.hC, (h.ir u hu ha).2, hs, hb, hl, us, sz, s6, fr⟩ u (by omega) (by omega) hd0 hd1).mono ?_
  rintro e w' ⟨e1, D', g', cap', h1, h2, h3, h4, h5, h6⟩
  refine ⟨e1, D', g', cap', ⟨h2, fun v hv hav => ?_⟩, h4, h5, h6⟩
  by_cases e : v = u
  · subst e
    rw [upd_same, upd_same]
    exact ⟨h1, h3⟩
  · rw [upd_ne _ _ _ _ e, upd_ne _ _ _ _ e]
    have n := hap v hv e hav
    have k := (h.ir v hv hav).2
    refine ⟨(h.ir v hv hav).1.keep h6 n.1 n.2.1, ?_⟩
    rcases h4 with rfl | h4
    · exact k
    · exact ⟨by omega, k.rc, k.pr, by omega, k.pc⟩

theorem PM.brk (h : PM b most M s A O Q C f w) (u : Nat) (hu : u < 4) {er : Int} {e : Ending}
    (hap : ∀ v, v < 4 → v ≠ u → A v = true → ¬ OM b (Q u) (C u) (O v) ∧ ¬ OM b (Q u) (C u) (Q v) ∧ ¬ OM b (Q u) (C u) (C v))
    (hB : BadPost b M s (O u) (Q u) (C u) most (f u) er w e w') :
    ∃ cp', (cp' = C u ∨ w.heap.size ≤ cp') ∧ e = .returned (.int .i64 6) ∧ PM b most M s A O Q (upd C u cp') (upd f u ((f u).brk er)) w' ∧ Fr (OM b (Q u) (C u)) w w' := by
  obtain ⟨cp', h1, h2, h3, h4, h5⟩ := hB
  refine ⟨cp', h1, h2, ⟨h4, h.sl, fun v hv hav => ?_⟩, h5⟩
  by_cases e : v = u
  · subst e
    rw [upd_same, upd_same]
    exact h3
  · rw [upd_ne _ _ _ _ e, upd_ne _ _ _ _ e]
    have n := hap v hv e hav
    exact (h.io v hv hav).keep h5 n.1 n.2.1 n.2.2

theorem RM.brk (h : RM B c g cap size did most M A P D f w) (u : Nat) (hu : u < 4) (ha : A u = true) {S : Nat → Prop} {er : Int} (hO : RO w' (P u) (D u) most ((f u).brk er)) (hC : RC w' B c g (M.all.take M.used) M.used cap size did) (F : Fr S w w')
    (hap : ∀ v, v < 4 → v ≠ u → A v = true → ¬ S (P v) ∧ ¬ S (D v)) : RM B c g cap size did most M A P D (upd f u ((f u).brk er)) w' := by
  refine ⟨hC, fun v hv hav => ?_⟩
  by_cases e : v = u
  · subst e
    rw [upd_same]
    exact ⟨hO, (h.ir v hv hav).2⟩
  · rw [upd_ne _ _ _ _ e]
    have n := hap v hv e hav
    exact ⟨(h.ir v hv hav).1.keep F n.1 n.2, (h.ir v hv hav).2⟩

/-- A worker that is none: the document's. -/
theorem RM.bad (h : RM B c g cap size did most M A P D f w) (u : Nat) (hu : u < 4) (ha : A u = true) (hh : (f u).how = 0 ∨ (f u).how = 2) (x : Int) (hx : x < 0 ∨ 4 < x)
    (hap : ∀ v, v < 4 → v ≠ u → A v = true → P v ≠ P u ∧ D v ≠ P u) :
    Calls Try.prog 19 #[.pointer (some ⟨P u, 0, none⟩), .pointer (some ⟨c, 0, none⟩), .int .i64 x, .int .i64 4] w fun e w' =>
      e = .returned (.tuple #[]) ∧ RM B c g cap size did most M A P D (upd f u ((f u).brk 10)) w' ∧ Fr (fun k => k = P u) w w' := by
  have k := h.ir u hu ha
  refine (rbad_ok (P u) (D u) c most x (f u) w k.1 hh hx k.2.pr).mono ?_
  rintro e w' ⟨e1, h1, h2⟩
  exact ⟨e1, h.brk u hu ha h1 (h.hC.keep h2 (fun hh => k.2.rc hh.symm) (fun hh => k.2.rg hh.symm)) h2 hap, h2⟩

/-- A Push that finds no cells left: the document's. -/
theorem RM.full (h : RM B c g cap size did most M A P D f w) (u : Nat) (hu : u < 4) (ha : A u = true) (hk : (f u).kind = 0) (h4 : (f u).nx = 4) (hh : (f u).how = 0) (h3 : 3 ≤ M.used) (hR : (f u).rg.Right) (sz : size = M.all.length) (us : M.used ≤ M.all.length) (s6 : M.all.length ≤ 600)
    (hd0 : 0 ≤ did) (hd1 : did < 100000) (hrm : size < M.used + pow ((f u).rg.l + 1))
    (hap : ∀ v, v < 4 → v ≠ u → A v = true → ¬ RK c g (P u) (D u) (P v) ∧ ¬ RK c g (P u) (D u) (D v)) :
    Calls Try.prog 19 #[.pointer (some ⟨P u, 0, none⟩), .pointer (some ⟨c, 0, none⟩), .int .i64 u, .int .i64 4] w fun e w' =>
      e = .returned (.tuple #[]) ∧ RM B c g cap size did most M A P D (upd f u ((f u).brk 21)) w' ∧ Fr (RK c g (P u) (D u)) w w' := by
  have k := h.ir u hu ha
  refine (rfull_ok (op := f u) k.1 h.hC k.2 hk h4 hh h3 hR (by omega) (by omega) (by omega) hd0 hd1 hrm u (by omega) (by omega)).mono ?_
  rintro e w' ⟨e1, h1, h2, h5⟩
  exact ⟨e1, h.brk u hu ha h1 h2 h5 hap, h5⟩

/-- What the program tells of an operation is what the law reads of the document's. -/
theorem tell_is {o q cp : Nat} {op : DOp} (h : IsOp w b o q cp most op) : op.tell = op.tellR := by
  unfold DOp.tell DOp.tellR
  by_cases h2 : op.how = 2
  · rw [if_pos (.inl h2), if_pos (.inl h2)]
  by_cases h1 : op.how = 1
  · by_cases hk : op.kind = 0
    · rw [if_pos (.inr h1), if_neg (by omega)]
      rcases h.rep with ⟨_, ⟨_, wa, wl, cv, f, _, hg, _⟩ | ⟨k, _⟩ | ⟨k, _⟩⟩ | ⟨k, _⟩
      · exact hg
      all_goals omega
    · rw [if_pos (.inr h1), if_pos (.inr ⟨h1, hk⟩)]
  · rw [if_neg (by omega), if_neg (by omega)]
end
end Go.Proofs.Ytiofdfgcghiibaa

namespace Go.Proofs.Ytiofdfgcghiibaa
open Go.RowKit
set_option linter.unusedVariables false

/-! ### Where the blocks of operations lie -/

structure Lay (z : Nat) (A : Nat → Bool) (Wp Wr : Nat → Nat → Prop) (g N : Nat) : Prop where
  up : ∀ v, v < 4 → A v = true → ∀ k, Wp v k ∨ Wr v k → z < k ∧ k < N
  ap : ∀ u v, u < 4 → v < 4 → u ≠ v → A u = true → A v = true → ∀ k, Wp u k ∨ Wr u k → ¬ (Wp v k ∨ Wr v k)
  inn : ∀ v, v < 4 → A v = true → ∀ k, Wp v k → ¬ Wr v k
  gs : ∀ v, v < 4 → A v = true → ¬ (Wp v g ∨ Wr v g)
  gl : g < N
  zn : z < N

section
variable {z g g' N N' u : Nat} {A : Nat → Bool} {Wp Wr Wp' Wr' : Nat → Nat → Prop}

theorem Lay.more (h : Lay z A Wp Wr g N) (hn : N ≤ N') : Lay z A Wp Wr g N' :=
  ⟨fun v hv ha k hk => by have := h.up v hv ha k hk; omega, h.ap, h.inn, h.gs, by have := h.gl; omega, by have := h.zn; omega⟩

theorem Lay.turn (h : Lay z A Wp Wr g N) (hn : N ≤ N') (hp : ∀ v k, Wp' v k → Wp v k ∨ (v = u ∧ N ≤ k ∧ k < N')) (hr : ∀ v k, Wr' v k → Wr v k ∨ (v = u ∧ N ≤ k ∧ k < N')) (hin : ∀ k, Wp' u k → ¬ Wr' u k) (hg : g' = g ∨ (N ≤ g' ∧ g' < N' ∧ ¬ (Wp' u g' ∨ Wr' u g'))) : Lay z A Wp' Wr' g' N' := by
  have hz := h.zn
  have hgl := h.gl
  have key : ∀ v k, Wp' v k ∨ Wr' v k → (Wp v k ∨ Wr v k) ∨ (v = u ∧ N ≤ k ∧ k < N') := fun v k hk => by
    rcases hk with hk | hk
    · exact (hp v k hk).elim (fun a => .inl (.inl a)) .inr
    · exact (hr v k hk).elim (fun a => .inl (.inr a)) .inr
  refine ⟨fun v hv ha k hk => ?_, fun v v' hv hv' hne ha ha' k hk hk' => ?_, fun v hv ha k hk hk' => ?_, fun v hv ha hk => ?_, ?_, by omega⟩
  · rcases key v k hk with e | ⟨_, e1, e2⟩
    · have := h.up v hv ha k e; omega
    · omega
  · rcases key v k hk with e | ⟨e0, e1, e2⟩ <;> rcases key v' k hk' with d | ⟨d0, d1, d2⟩
    · exact h.ap v v' hv hv' hne ha ha' k e d
    · have := h.up v hv ha k e; omega
    · have := h.up v' hv' ha' k d; omega
    · omega
  · by_cases e : v = u
    · subst e; exact hin k hk hk'
    · rcases hp v k hk with d | ⟨d, _⟩
      · rcases hr v k hk' with d' | ⟨d', _⟩
        · exact h.inn v hv ha k d d'
        · exact e d'
      · exact e d
  · rcases hg with rfl | ⟨g1, g2, g3⟩
    · rcases key v g' hk with e | ⟨e0, e1, e2⟩
      · exact h.gs v hv ha e
      · omega
    · by_cases e : v = u
      · subst e; exact g3 hk
      · rcases key v g' hk with d | ⟨d, _⟩
        · have := h.up v hv ha g' d; omega
        · exact e d
  · rcases hg with rfl | ⟨g1, g2, g3⟩ <;> omega

theorem Lay.drop (h : Lay z A Wp Wr g N) (u : Nat) : Lay z (upd A u false) Wp Wr g N := by
  have key : ∀ v, upd A u false v = true → A v = true := fun v hv => by
    unfold upd at hv
    split at hv
    · cases hv
    · exact hv
  exact ⟨fun v hv ha => h.up v hv (key v ha), fun v v' hv hv' hne ha ha' => h.ap v v' hv hv' hne (key v ha) (key v' ha'), fun v hv ha => h.inn v hv (key v ha), fun v hv ha => h.gs v hv (key v ha), h.gl, h.zn⟩

theorem Lay.born (h : Lay z A Wp Wr g N) (hn : N ≤ N') (hp : ∀ v k, Wp' v k → (v ≠ u ∧ Wp v k) ∨ (v = u ∧ N ≤ k ∧ k < N')) (hr : ∀ v k, Wr' v k → (v ≠ u ∧ Wr v k) ∨ (v = u ∧ N ≤ k ∧ k < N')) (hin : ∀ k, Wp' u k → ¬ Wr' u k) : Lay z (upd A u true) Wp' Wr' g N' := by
  have hz := h.zn
  have hgl := h.gl
  have ka : ∀ v, v ≠ u → upd A u true v = true → A v = true := fun v e hv => by rw [upd_ne _ _ _ _ e] at hv; exact hv
  have key : ∀ v k, Wp' v k ∨ Wr' v k → (v ≠ u ∧ (Wp v k ∨ Wr v k)) ∨ (v = u ∧ N ≤ k ∧ k < N') := fun v k hk => by
    rcases hk with hk | hk
    · exact (hp v k hk).elim (fun a => .inl ⟨a.1, .inl a.2⟩) .inr
    · exact (hr v k hk).elim (fun a => .inl ⟨a.1, .inr a.2⟩) .inr
  refine ⟨fun v hv ha k hk => ?_, fun v v' hv hv' hne ha ha' k hk hk' => ?_, fun v hv ha k hk hk' => ?_, fun v hv ha hk => ?_, by omega, by omega⟩
  · rcases key v k hk with ⟨e0, e⟩ | ⟨_, e1, e2⟩
    · have := h.up v hv (ka v e0 ha) k e; omega
    · omega
  · rcases key v k hk with ⟨e', e⟩ | ⟨e0, e1, e2⟩ <;> rcases key v' k hk' with ⟨d', d⟩ | ⟨d0, d1, d2⟩
    · exact h.ap v v' hv hv' hne (ka v e' ha) (ka v' d' ha') k e d
    · have := h.up v hv (ka v e' ha) k e; omega
    · have := h.up v' hv' (ka v' d' ha') k d; omega
    · omega
  · by_cases e : v = u
    · subst e; exact hin k hk hk'
    · rcases hp v k hk with ⟨_, d⟩ | ⟨d, _⟩
      · rcases hr v k hk' with ⟨_, d'⟩ | ⟨d', _⟩
        · exact h.inn v hv (ka v e ha) k d d'
        · exact e d'
      · exact e d
  · rcases key v g hk with ⟨e', e⟩ | ⟨e0, e1, e2⟩
    · exact h.gs v hv (ka v e' ha) e
    · omega
end

/-! ### A push's copying -/

/-- A block for a push's copying that is not wanted any more may be any other one. -/
theorem IsOp.recp2 {w : World} {b : MB} {o q cp cp2 : Nat} {most : Int} {op : DOp} (h : IsOp w b o q cp most op) (hs : Sep b o q cp2) (hn : ∀ wa wl cv f, Blk w q (pushC most op wa wl cv f) → op.kind = 0 → op.how = 0 → op.nx = 5 → fresh op = false → False) : IsOp w b o q cp2 most op := by
  refine ⟨hs, h.kk, h.ob, ?_⟩
  rcases h.rep with ⟨h1, h2⟩ | h1
  · refine .inl ⟨h1, ?_⟩
    rcases h2 with ⟨k, wa, wl, cv, f, h2, h3, h4, h5⟩ | ⟨k, h2⟩ | ⟨k, h2⟩
    · exact .inl ⟨k, wa, wl, cv, f, h2, h3, h4, fun hh => ⟨(h5 hh).1, (h5 hh).2.1, fun a c => (hn _ _ _ _ h2 k hh a c).elim, (h5 hh).2.2.2⟩⟩
    · exact .inr (.inl ⟨k, h2⟩)
    · exact .inr (.inr ⟨k, h2⟩)
  · exact .inr h1

theorem IsOp.tight {w : World} {b : MB} {o q cp cp' : Nat} {most : Int} {op : DOp} {N : Nat} (h : IsOp w b o q cp' most op) (hs : Sep b o q cp) (hc : cp' = cp ∨ N ≤ cp') : ∃ cp2, (cp2 = cp ∨ (N ≤ cp2 ∧ cp2 < w.heap.size)) ∧ IsOp w b o q cp2 most op := by
  by_cases hn : op.kind = 0 ∧ op.how = 0 ∧ op.nx = 5 ∧ fresh op = false
  · obtain ⟨k0, h0, n5, f0⟩ := hn
    refine ⟨cp', ?_, h⟩
    rcases hc with hc | hc
    · exact .inl hc
    · refine .inr ⟨hc, ?_⟩
      rcases h.rep with ⟨h1, h2⟩ | ⟨h1, _⟩
      · rcases h2 with ⟨k, wa, wl, cv, f, h2, h3, h4, h5⟩ | ⟨k, h2⟩ | ⟨k, h2⟩
        · exact Blk.lt (show Blk w cp' _ from ((h5 h0).2.2.1 n5 f0).2)
        · omega
        · omega
      · omega
  · exact ⟨cp, .inl rfl, h.recp2 hs (fun _ _ _ _ _ a c d e => hn ⟨a, c, d, e⟩)⟩

theorem PM.tight {b : MB} {most : Int} {M : Mach} {s : List Int} {A : Nat → Bool} {O Q C : Nat → Nat} {f : Nat → DOp} {w : World} {u N cp' : Nat} (h : PM b most M s A O Q (upd C u cp') f w) (hu : u < 4) (ha : A u = true) (hs : Sep b (O u) (Q u) (C u)) (hc : cp' = C u ∨ N ≤ cp') :
    ∃ c2, (c2 = C u ∨ (N ≤ c2 ∧ c2 < w.heap.size)) ∧ PM b most M s A O Q (upd C u c2) f w := by
  have h1 := h.io u hu ha
  rw [upd_same] at h1
  obtain ⟨c2, h2, h3⟩ := h1.tight hs hc
  refine ⟨c2, h2, h.hM, h.sl, fun v hv hav => ?_⟩
  by_cases e : v = u
  · subst e; rw [upd_same]; exact h3
  · have := h.io v hv hav
    rw [upd_ne _ _ _ _ e] at this
    rw [upd_ne _ _ _ _ e]
    exact this

/-! ### Memory -/

def WP (O Q C : Nat → Nat) (v k : Nat) : Prop := k = O v ∨ k = Q v ∨ k = C v
def WR (P D : Nat → Nat) (v k : Nat) : Prop := k = P v ∨ k = D v

structure EnS (w0 : World) (b : MB) (c bd bq bo br : Nat) : Prop where
  ob : ∀ k, b.own k → w0.heap.size ≤ k ∧ k < c
  l0 : w0.heap.size ≤ c
  l1 : c < bd
  l2 : bd < bq
  l3 : bq < bo
  l4 : bo < br

structure StM (w0 : World) (b : MB) (B c bd bq bo br : Nat) (size most : Int) (Mp : Mach) (s : List Int) (A Z : Nat → Bool) (O Q C : Nat → Nat) (fp : Nat → DOp) (did : Int) (Mr : Mach) (P D : Nat → Nat) (fr : Nat → DOp) (g cap : Nat) (w : World) : Prop where
  pm : PM b most Mp s A O Q C fp w
  rm : RM B c g cap size did most Mr A P D fr w
  hd : Blk w bd #[.int .i64 0, .int .i64 most]
  hq : Blk w bq #[.int .i64 0, .int .i64 most]
  ho : ∃ cc : Array Value, Blk w bo cc ∧ cc.size = 4 ∧ ∀ v, v < 4 → A v = true → cc[v]? = some (.pointer (some ⟨O v, 0, none⟩))
  hr : ∃ cc : Array Value, Blk w br cc ∧ cc.size = 4 ∧ (∀ v, v < 4 → A v = true → cc[v]? = some (.pointer (some ⟨P v, 0, none⟩))) ∧ ∀ v, v < 4 → Z v = false → cc[v]? = some (.pointer none)
  lay : Lay br A (WP O Q C) (WR P D) g w.heap.size
  gb : ¬ b.own g ∧ g ≠ c ∧ g ≠ bd ∧ g ≠ bq ∧ g ≠ bo ∧ g ≠ br ∧ w0.heap.size ≤ g
  fm : Fr (fun _ => False) w0 w

section
variable {w0 w w' : World} {b : MB} {B c bd bq bo br : Nat} {size most : Int} {Mp : Mach} {s : List Int} {A Z : Nat → Bool} {O Q C : Nat → Nat} {fp : Nat → DOp} {did : Int} {Mr : Mach} {P D : Nat → Nat} {fr : Nat → DOp} {g cap : Nat}

theorem RM.same (h : RM B c g cap size did most Mr A P D fr w) (F : Fr (fun _ => False) w w') : RM B c g cap size did most Mr A P D fr w' := h.keep F id id (fun _ _ _ => ⟨id, id⟩)
theorem PM.same (h : PM b most Mp s A O Q C fp w) (F : Fr (fun _ => False) w w') : PM b most Mp s A O Q C fp w' := h.keep F (fun _ _ => id) (fun _ _ _ => ⟨id, id, id⟩)

theorem StM.same (h : StM w0 b B c bd bq bo br size most Mp s A Z O Q C fp did Mr P D fr g cap w) (F : Fr (fun _ => False) w w') : StM w0 b B c bd bq bo br size most Mp s A Z O Q C fp did Mr P D fr g cap w' := by
  obtain ⟨c1, a1, a2, a3⟩ := h.ho
  obtain ⟨c2, d1, d2, d3⟩ := h.hr
  exact ⟨h.pm.same F, h.rm.same F, h.hd.same F, h.hq.same F, ⟨c1, a1.same F, a2, a3⟩, ⟨c2, d1.same F, d2, d3⟩, h.lay.more F.size, h.gb, h.fm.trans F⟩

/-- The program's step has gone on. -/
theorem StM.ofP (E : EnS w0 b c bd bq bo br) (h : StM w0 b B c bd bq bo br size most Mp s A Z O Q C fp did Mr P D fr g cap w) {u c2 : Nat} {M' : Mach} {s' : List Int} {f' : Nat → DOp} (hu : u < 4) (ha : A u = true) (hc : c2 = C u ∨ (w.heap.size ≤ c2 ∧ c2 < w'.heap.size)) (hp : PM b most M' s' A O Q (upd C u c2) f' w') (F : Fr (OM b (Q u) (C u)) w w') :
    StM w0 b B c bd bq bo br size most M' s' A Z O Q (upd C u c2) f' did Mr P D fr g cap w' := by
  have E0 := E.l0; have E1 := E.l1; have E2 := E.l2; have E3 := E.l3; have E4 := E.l4
  have uQ := h.lay.up u hu ha (Q u) (.inl (.inr (.inl rfl)))
  have uC := h.lay.up u hu ha (C u) (.inl (.inr (.inr rfl)))
  have base : ∀ k, c ≤ k → k ≤ br → ¬ OM b (Q u) (C u) k := by
    rintro k h1 h2 ((e | e) | e)
    · have := E.ob _ e; omega
    · omega
    · omega
  have ng : ¬ OM b (Q u) (C u) g := by
    rintro ((e | e) | e)
    · exact h.gb.1 e
    · exact h.lay.gs u hu ha (.inl (.inr (.inr e)))
    · exact h.lay.gs u hu ha (.inl (.inr (.inl e)))
  have nr : ∀ v, v < 4 → A v = true → ∀ k, WR P D v k → ¬ OM b (Q u) (C u) k := by
    rintro v hv hav k hk e
    have hk2 := h.lay.up v hv hav k (.inr hk)
    have hin : WP O Q C u k := by
      rcases e with (e | e) | e
      · have := E.ob _ e; omega
      · exact .inr (.inr e)
      · exact .inr (.inl e)
    by_cases evu : v = u
    · subst evu; exact h.lay.inn v hv hav k hin hk
    · exact h.lay.ap v u hv hu evu hav ha k (.inr hk) (.inl hin)
  obtain ⟨c1, a1, a2, a3⟩ := h.ho
  obtain ⟨c3, d1, d2, d3⟩ := h.hr
  have hwp : ∀ v k, WP O Q (upd C u c2) v k → WP O Q C v k ∨ (v = u ∧ w.heap.size ≤ k ∧ k < w'.heap.size) := by
    rintro v k (e | e | e)
    · exact .inl (.inl e)
    · exact .inl (.inr (.inl e))
    · by_cases evu : v = u
      · subst evu
        rw [upd_same] at e
        rcases hc with hc | hc
        · exact .inl (.inr (.inr (e.trans hc)))
        · exact .inr ⟨rfl, by omega⟩
      · rw [upd_ne _ _ _ _ evu] at e
        exact .inl (.inr (.inr e))
  refine ⟨hp, h.rm.keep F (base _ (Nat.le_refl _) (by omega)) ng (fun v hv hav => ⟨nr v hv hav _ (.inl rfl), nr v hv hav _ (.inr rfl)⟩), h.hd.keep F (base _ (by omega) (by omega)), h.hq.keep F (base _ (by omega) (by omega)), ⟨c1, a1.keep F (base _ (by omega) (by omega)), a2, a3⟩, ⟨c3, d1.keep F (base _ (by omega) (by omega)), d2, d3⟩,
    h.lay.turn (u := u) F.size hwp (fun v k hk => .inl hk) ?_ (.inl rfl), h.gb, h.fm.since F ?_⟩
  · intro k hk hk2
    rcases hwp u k hk with e | ⟨_, e, _⟩
    · exact h.lay.inn u hu ha k e hk2
    · have := h.lay.up u hu ha k (.inr hk2); omega
  · rintro i ((e | e) | e) hl
    · have := E.ob _ e; omega
    · omega
    · omega

theorem StM.hapP (E : EnS w0 b c bd bq bo br) (h : StM w0 b B c bd bq bo br size most Mp s A Z O Q C fp did Mr P D fr g cap w) {u : Nat} (hu : u < 4) (ha : A u = true) :
    ∀ v, v < 4 → v ≠ u → A v = true → ¬ OM b (Q u) (C u) (O v) ∧ ¬ OM b (Q u) (C u) (Q v) ∧ ¬ OM b (Q u) (C u) (C v) := by
  have E0 := E.l0; have E1 := E.l1; have E2 := E.l2; have E3 := E.l3; have E4 := E.l4
  intro v hv hne hav
  have key : ∀ k, WP O Q C v k → ¬ OM b (Q u) (C u) k := by
    rintro k hk e
    have hk2 := h.lay.up v hv hav k (.inl hk)
    have hin : WP O Q C u k := by
      rcases e with (e | e) | e
      · have := E.ob _ e; omega
      · exact .inr (.inr e)
      · exact .inr (.inl e)
    exact h.lay.ap v u hv hu hne hav ha k (.inl hk) (.inl hin)
  exact ⟨key _ (.inl rfl), key _ (.inr (.inl rfl)), key _ (.inr (.inr rfl))⟩

/-- The program's step. -/
theorem StM.stepP (E : EnS w0 b c bd bq bo br) (h : StM w0 b B c bd bq bo br size most Mp s A Z O Q C fp did Mr P D fr g cap w) (u : Nat) (hu : u < 4) (ha : A u = true) (hs : (fp u).safe Mp) (hb : OpB 100000 (fp u)) (hl : (fp u).Live) (x : Int) (hx : x = u) :
    Calls Try.prog 18 #[.pointer (some ⟨O u, 0, none⟩), .pointer (some ⟨b.m, 0, none⟩), .int .i64 x] w fun e w' =>
      ∃ C', e = .returned (.int .i64 (((fp u).act most Mp).1.how : Nat)) ∧ StM w0 b B c bd bq bo br size most ((fp u).act most Mp).2 (stp s u) A Z O Q C' (upd fp u ((fp u).act most Mp).1) did Mr P D fr g cap w' := by
  subst hx
  refine (h.pm.step u hu ha hs hb hl (h.hapP E hu ha)).mono ?_
  rintro e w' ⟨cp', h1, h2, h3, h4⟩
  obtain ⟨c2, h5, h6⟩ := h3.tight hu ha (h.pm.io u hu ha).sep h1
  exact ⟨_, h2, h.ofP E hu ha h5 h6 h4⟩

/-- The program's step is refused. -/
theorem StM.brkP (E : EnS w0 b c bd bq bo br) (h : StM w0 b B c bd bq bo br size most Mp s A Z O Q C fp did Mr P D fr g cap w) (u : Nat) (hu : u < 4) (ha : A u = true) {er : Int} {e : Ending} (hB : BadPost b Mp s (O u) (Q u) (C u) most (fp u) er w e w') :
    ∃ C', e = .returned (.int .i64 6) ∧ StM w0 b B c bd bq bo br size most Mp s A Z O Q C' (upd fp u ((fp u).brk er)) did Mr P D fr g cap w' := by
  obtain ⟨cp', h1, h2, h3, h4⟩ := h.pm.brk u hu (h.hapP E hu ha) hB
  obtain ⟨c2, h5, h6⟩ := h3.tight hu ha (h.pm.io u hu ha).sep h1
  exact ⟨_, h2, h.ofP E hu ha h5 h6 h4⟩

/-- The document's step has gone on. -/
theorem StM.ofR (E : EnS w0 b c bd bq bo br) (h : StM w0 b B c bd bq bo br size most Mp s A Z O Q C fp did Mr P D fr g cap w) {u d2 g2 cap2 : Nat} {M' : Mach} {did' : Int} {f' : Nat → DOp} (hu : u < 4) (ha : A u = true) (hd2 : d2 = D u ∨ (w.heap.size ≤ d2 ∧ d2 < w'.heap.size)) (hg2 : g2 = g ∨ w.heap.size ≤ g2) (hr : RM B c g2 cap2 size did' most M' A P (upd D u d2) f' w') (F : Fr (RK c g (P u) (D u)) w w') :
    StM w0 b B c bd bq bo br size most Mp s A Z O Q C fp did' M' P (upd D u d2) f' g2 cap2 w' := by
  have E0 := E.l0; have E1 := E.l1; have E2 := E.l2; have E3 := E.l3; have E4 := E.l4
  have uP := h.lay.up u hu ha (P u) (.inr (.inl rfl))
  have uD := h.lay.up u hu ha (D u) (.inr (.inr rfl))
  have hgb := h.gb
  have base : ∀ k, bd ≤ k → k ≤ br → k ≠ g → ¬ RK c g (P u) (D u) k := by
    rintro k h1 h2 h3 (e | e | e | e)
    · omega
    · exact h3 e
    · omega
    · omega
  have nown : ∀ k, b.own k → ¬ RK c g (P u) (D u) k := by
    rintro k hk (e | e | e | e)
    · have := E.ob _ hk; omega
    · exact hgb.1 (e ▸ hk)
    · have := E.ob _ hk; omega
    · have := E.ob _ hk; omega
  have np : ∀ v, v < 4 → A v = true → ∀ k, WP O Q C v k → ¬ RK c g (P u) (D u) k := by
    rintro v hv hav k hk e
    have hk2 := h.lay.up v hv hav k (.inl hk)
    have hin : WR P D u k := by
      rcases e with e | e | e | e
      · exact .inl e
      · subst e; exact (h.lay.gs v hv hav (.inl hk)).elim
      · exact .inr e
      · omega
    by_cases evu : v = u
    · subst evu; exact h.lay.inn v hv hav k hk hin
    · exact h.lay.ap v u hv hu evu hav ha k (.inl hk) (.inr hin)
  obtain ⟨c1, a1, a2, a3⟩ := h.ho
  obtain ⟨c3, d1, d2', d3⟩ := h.hr
  have hgl : g2 < w'.heap.size := hr.hC.blk.elim fun _ hb => hb.lt
  have hRS := (hr.ir u hu ha).2
  rw [upd_same] at hRS
  have hwr : ∀ v k, WR P (upd D u d2) v k → WR P D v k ∨ (v = u ∧ w.heap.size ≤ k ∧ k < w'.heap.size) := by
    rintro v k (e | e)
    · exact .inl (.inl e)
    · by_cases evu : v = u
      · subst evu
        rw [upd_same] at e
        rcases hd2 with hd | hd
        · exact .inl (.inr (e.trans hd))
        · exact .inr ⟨rfl, by omega⟩
      · rw [upd_ne _ _ _ _ evu] at e
        exact .inl (.inr e)
  refine ⟨h.pm.keep F nown (fun v hv hav => ⟨np v hv hav _ (.inl rfl), np v hv hav _ (.inr (.inl rfl)), np v hv hav _ (.inr (.inr rfl))⟩), hr, h.hd.keep F (base _ (by omega) (by omega) (Ne.symm hgb.2.2.1)), h.hq.keep F (base _ (by omega) (by omega) (Ne.symm hgb.2.2.2.1)), ⟨c1, a1.keep F (base _ (by omega) (by omega) (Ne.symm hgb.2.2.2.2.1)), a2, a3⟩, ⟨c3, d1.keep F (base _ (by omega) (by omega) (Ne.symm hgb.2.2.2.2.2.1)), d2', d3⟩,
    h.lay.turn (u := u) F.size (fun v k hk => .inl hk) hwr ?_ ?_, ?_, h.fm.since F ?_⟩
  · intro k hk hk2
    rcases hwr u k hk2 with e | ⟨_, e, _⟩
    · exact h.lay.inn u hu ha k hk e
    · have := h.lay.up u hu ha k (.inl hk); omega
  · rcases hg2 with e | e
    · exact .inl e
    · refine .inr ⟨e, hgl, ?_⟩
      rintro (k | k)
      · have := h.lay.up u hu ha g2 (.inl k); omega
      · rcases k with k | k
        · omega
        · rw [upd_same] at k
          exact hRS.pg k.symm
  · rcases hg2 with e | e
    · rw [e]; exact hgb
    · have hz := h.lay.zn
      have := h.fm.size
      exact ⟨fun k => by have := E.ob _ k; omega, by omega, by omega, by omega, by omega, by omega, by omega⟩
  · rintro i (e | e | e | e) hl
    · omega
    · omega
    · omega
    · omega

theorem StM.hapR (h : StM w0 b B c bd bq bo br size most Mp s A Z O Q C fp did Mr P D fr g cap w) (hc : c ≤ br) {u : Nat} (hu : u < 4) (ha : A u = true) :
    ∀ v, v < 4 → v ≠ u → A v = true → ¬ RK c g (P u) (D u) (P v) ∧ ¬ RK c g (P u) (D u) (D v) ∧ P v < w.heap.size ∧ D v < w.heap.size := by
  intro v hv hne hav
  have key : ∀ k, WR P D v k → ¬ RK c g (P u) (D u) k ∧ k < w.heap.size := by
    intro k hk
    have hk2 := h.lay.up v hv hav k (.inr hk)
    refine ⟨?_, hk2.2⟩
    rintro (e | e | e | e)
    · exact h.lay.ap v u hv hu hne hav ha k (.inr hk) (.inr (.inl e))
    · subst e; exact h.lay.gs v hv hav (.inr hk)
    · exact h.lay.ap v u hv hu hne hav ha k (.inr hk) (.inr (.inr e))
    · omega
  exact ⟨(key _ (.inl rfl)).1, (key _ (.inr rfl)).1, (key _ (.inl rfl)).2, (key _ (.inr rfl)).2⟩

/-- The document's step. -/
theorem StM.stepR (E : EnS w0 b c bd bq bo br) (h : StM w0 b B c bd bq bo br size most Mp s A Z O Q C fp did Mr P D fr g cap w) (u : Nat) (hu : u < 4) (ha : A u = true) (hs : (fr u).safe Mr) (hb : OpB 100000 (fr u)) (hl : (fr u).Live) (us : Mr.used ≤ Mr.all.length) (sz : size = Mr.all.length) (s6 : Mr.all.length ≤ 600)
    (hfz : ∀ i, Mr.used ≤ i → Mr.all.getD i 0 = 0) (hd0 : 0 ≤ did) (hd1 : did ≤ 100000) (x : Int) (hx : x = u) :
    Calls Try.prog 19 #[.pointer (some ⟨P u, 0, none⟩), .pointer (some ⟨c, 0, none⟩), .int .i64 x, .int .i64 4] w fun e w' =>
      e = .returned (.tuple #[]) ∧ ∃ D' g' cap', StM w0 b B c bd bq bo br size most Mp s A Z O Q C fp (did + 1) ((fr u).act most Mr).2 P D' (upd fr u ((fr u).act most Mr).1) g' cap' w' := by
  subst hx
  have E0 := E.l1; have E2 := E.l2; have E3 := E.l3; have E4 := E.l4
  refine (h.rm.step u hu ha hs hb hl us sz s6 hfz hd0 hd1 (h.hapR (by omega) hu ha)).mono ?_
  rintro e w' ⟨h1, D', g', cap', h2, h3, h4, h5⟩
  exact ⟨h1, _, _, _, h.ofR E hu ha h4 h3 h2 h5⟩

/-- The document's step by a worker who is none. -/
theorem StM.badR (E : EnS w0 b c bd bq bo br) (h : StM w0 b B c bd bq bo br size most Mp s A Z O Q C fp did Mr P D fr g cap w) (u : Nat) (hu : u < 4) (ha : A u = true) (hh : (fr u).how = 0 ∨ (fr u).how = 2) (x : Int) (hx : x < 0 ∨ 4 < x) :
    Calls Try.prog 19 #[.pointer (some ⟨P u, 0, none⟩), .pointer (some ⟨c, 0, none⟩), .int .i64 x, .int .i64 4] w fun e w' =>
      e = .returned (.tuple #[]) ∧ ∃ D', StM w0 b B c bd bq bo br size most Mp s A Z O Q C fp did Mr P D' (upd fr u ((fr u).brk 10)) g cap w' := by
  have E0 := E.l1; have E2 := E.l2; have E3 := E.l3; have E4 := E.l4
  have hap := h.hapR (by omega) hu ha
  refine (h.rm.bad u hu ha hh x hx (fun v hv hne hav => ⟨fun e => (hap v hv hne hav).1 (.inl e), fun e => (hap v hv hne hav).2.1 (.inl e)⟩)).mono ?_
  rintro e w' ⟨h1, h2, h3⟩
  refine ⟨h1, _, h.ofR (d2 := D u) E hu ha (.inl rfl) (.inl rfl) ?_ (h3.mono fun k hk => .inl hk)⟩
  have e : upd D u (D u) = D := by
    funext k
    unfold upd
    split
    · subst_vars; rfl
    · rfl
  rw [e]
  exact h2

/-- The document's Push that finds no cells left. -/
theorem StM.fullR (E : EnS w0 b c bd bq bo br) (h : StM w0 b B c bd bq bo br size most Mp s A Z O Q C fp did Mr P D fr g cap w) (u : Nat) (hu : u < 4) (ha : A u = true) (hk : (fr u).kind = 0) (h4 : (fr u).nx = 4) (hh : (fr u).how = 0) (h3 : 3 ≤ Mr.used) (hR : (fr u).rg.Right) (sz : size = Mr.all.length) (us : Mr.used ≤ Mr.all.length) (s6 : Mr.all.length ≤ 600)
    (hd0 : 0 ≤ did) (hd1 : did < 100000) (hrm : size < Mr.used + pow ((fr u).rg.l + 1)) (x : Int) (hx : x = u) :
    Calls Try.prog 19 #[.pointer (some ⟨P u, 0, none⟩), .pointer (some ⟨c, 0, none⟩), .int .i64 x, .int .i64 4] w fun e w' =>
      e = .returned (.tuple #[]) ∧ ∃ D', StM w0 b B c bd bq bo br size most Mp s A Z O Q C fp did Mr P D' (upd fr u ((fr u).brk 21)) g cap w' := by
  subst hx
  have E0 := E.l1; have E2 := E.l2; have E3 := E.l3; have E4 := E.l4
  have hap := h.hapR (by omega) hu ha
  refine (h.rm.full u hu ha hk h4 hh h3 hR sz us s6 hd0 hd1 hrm (fun v hv hne hav => ⟨(hap v hv hne hav).1, (hap v hv hne hav).2.1⟩)).mono ?_
  rintro e w' ⟨h1, h2, h3⟩
  refine ⟨h1, _, h.ofR (d2 := D u) E hu ha (.inl rfl) (.inl rfl) ?_ h3⟩
  have e : upd D u (D u) = D := by
    funext k
    unfold upd
    split
    · subst_vars; rfl
    · rfl
  rw [e]
  exact h2
end
end Go.Proofs.Ytiofdfgcghiibaa

namespace Go.Proofs.Ytiofdfgcghiibaa
open Go.RowKit
set_option linter.unusedVariables false

theorem upd_is {α : Type} (f : Nat → α) (u : Nat) (x : α) (h : f u = x) : upd f u x = f := by
  funext k
  unfold upd
  split
  · subst_vars; rfl
  · rfl

theorem upd_upd {α : Type} (f : Nat → α) (u : Nat) (x y : α) : upd (upd f u x) u y = upd f u y := by
  funext k
  unfold upd
  split <;> rfl

theorem IsOp.qlt {w : World} {b : MB} {o q cp : Nat} {most : Int} {op : DOp} (h : IsOp w b o q cp most op) : q < w.heap.size := by
  rcases h.rep with ⟨_, h2⟩ | ⟨_, c, h2, _⟩
  · rcases h2 with ⟨_, _, _, _, _, h2, _⟩ | ⟨_, _, h2, _⟩ | ⟨_, _, _, h2, _⟩
    · exact h2.lt
    · exact h2.lt
    · exact h2.lt
  · exact h2.lt

/-! ### An operation begins -/

section
variable {w0 w w' : World} {b : MB} {B c bd bq bo br : Nat} {size most : Int} {Mp : Mach} {s : List Int} {A Z : Nat → Bool} {O Q C : Nat → Nat} {fp : Nat → DOp} {did : Int} {Mr : Mach} {P D : Nat → Nat} {fr : Nat → DOp} {g cap : Nat}

theorem StM.drop (h : StM w0 b B c bd bq bo br size most Mp s A Z O Q C fp did Mr P D fr g cap w) (u : Nat) : StM w0 b B c bd bq bo br size most Mp s (upd A u false) Z O Q C fp did Mr P D fr g cap w := by
  have key : ∀ v, upd A u false v = true → A v = true := fun v hv => by
    unfold upd at hv
    split at hv
    · cases hv
    · exact hv
  obtain ⟨c1, a1, a2, a3⟩ := h.ho
  obtain ⟨c2, d1, d2, d3, d4⟩ := h.hr
  exact ⟨⟨h.pm.hM, h.pm.sl, fun v hv ha => h.pm.io v hv (key v ha)⟩, ⟨h.rm.hC, fun v hv ha => h.rm.ir v hv (key v ha)⟩, h.hd, h.hq, ⟨c1, a1, a2, fun v hv ha => a3 v hv (key v ha)⟩, ⟨c2, d1, d2, fun v hv ha => d3 v hv (key v ha), d4⟩, h.lay.drop u, h.gb, h.fm⟩

/-- The program's operation is laid into its place. -/
theorem StM.setO (E : EnS w0 b c bd bq bo br) (h : StM w0 b B c bd bq bo br size most Mp s A Z O Q C fp did Mr P D fr g cap w) (u : Nat) (hau : A u = false) (hu : u < 4) (x : Value) :
    StM w0 b B c bd bq bo br size most Mp s A Z O Q C fp did Mr P D fr g cap (w.setCell ⟨bo, u, none⟩ x) ∧ (w.setCell ⟨bo, u, none⟩ x).cell? ⟨bo, u, none⟩ = some x := by
  have E0 := E.l0; have E1 := E.l1; have E2 := E.l2; have E3 := E.l3; have E4 := E.l4
  have F : Fr (fun k => k = bo) w (w.setCell ⟨bo, u, none⟩ x) := Fr.setCell _ _ _ rfl
  have hgb := h.gb
  have nw : ∀ v, v < 4 → A v = true → ∀ k, WP O Q C v k ∨ WR P D v k → ¬ k = bo := fun v hv ha k hk => by have := h.lay.up v hv ha k hk; omega
  obtain ⟨c1, a1, a2, a3⟩ := h.ho
  obtain ⟨c2, d1, d2, d3⟩ := h.hr
  have a4 := a1.set u x
  refine ⟨⟨h.pm.keep F (fun k hk => by have := E.ob k hk; omega) (fun v hv ha => ⟨nw v hv ha _ (.inl (.inl rfl)), nw v hv ha _ (.inl (.inr (.inl rfl))), nw v hv ha _ (.inl (.inr (.inr rfl)))⟩), h.rm.keep F (by omega) hgb.2.2.2.2.1 (fun v hv ha => ⟨nw v hv ha _ (.inr (.inl rfl)), nw v hv ha _ (.inr (.inr rfl))⟩), h.hd.keep F (by omega), h.hq.keep F (by omega), ⟨_, a4, by simpa using a2, fun v hv ha => ?_⟩, ⟨c2, d1.keep F (by omega), d2, d3⟩, h.lay.more F.size, hgb, h.fm.since F (fun i hi hl => by omega)⟩, ?_⟩
  · rw [Array.getElem?_setIfInBounds]
    split
    · rename_i e
      subst e
      rw [hau] at ha
      cases ha
    · exact a3 v hv ha
  · exact a4.cell (by rw [Array.getElem?_setIfInBounds, if_pos rfl, if_pos (by omega)])

/-- Both have begun. -/
theorem StM.born (E : EnS w0 b c bd bq bo br) (h : StM w0 b B c bd bq bo br size most Mp s A Z O Q C fp did Mr P D fr g cap w) (u : Nat) (hau : A u = false) (hu : u < 4) {N0 N1 o q1 c1 r d : Nat} {op : DOp} (L0 : Lay br A (WP O Q C) (WR P D) g N0) (hI : IsOp w b o q1 c1 most op) (hb : N0 ≤ o ∧ N0 ≤ q1 ∧ N0 ≤ c1) (hb1 : o < N1 ∧ q1 < N1 ∧ c1 < N1) (hc : w.cell? ⟨bo, u, none⟩ = some (.pointer (some ⟨o, 0, none⟩))) (hR : RO w r d most op) (hd : N1 ≤ r ∧ r < w.heap.size ∧ N1 ≤ d ∧ d < w.heap.size ∧ d ≠ r) :
    StM w0 b B c bd bq bo br size most Mp s (upd A u true) (upd Z u true) (upd O u o) (upd Q u q1) (upd C u c1) (upd fp u op) did Mr (upd P u r) (upd D u d) (upd fr u op) g cap (w.setCell ⟨br, u, none⟩ (.pointer (some ⟨r, 0, none⟩))) := by
  have E0 := E.l0; have E1 := E.l1; have E2 := E.l2; have E3 := E.l3; have E4 := E.l4
  have F : Fr (fun k => k = br) w (w.setCell ⟨br, u, none⟩ (.pointer (some ⟨r, 0, none⟩))) := Fr.setCell _ _ _ rfl
  have hgb := h.gb
  have hz := L0.zn
  have hgl := L0.gl
  have ka : ∀ v, v ≠ u → upd A u true v = true → A v = true := fun v e hv => by rw [upd_ne _ _ _ _ e] at hv; exact hv
  have nw : ∀ v, v < 4 → A v = true → ∀ k, WP O Q C v k ∨ WR P D v k → ¬ k = br := fun v hv ha k hk => by have := h.lay.up v hv ha k hk; omega
  obtain ⟨c1', a1, a2, a3⟩ := h.ho
  obtain ⟨c2, d1, d2, d3, d4⟩ := h.hr
  have d5 := d1.set u (.pointer (some ⟨r, 0, none⟩))
  have hcu : c1'[u]? = some (.pointer (some ⟨o, 0, none⟩)) := by
    have hx : c1'[u]? = some (c1'[u]'(by omega)) := Array.getElem?_eq_getElem (by omega)
    have := a1.cell hx
    rw [hc] at this
    rw [hx]
    exact this.symm
  refine ⟨⟨h.pm.hM.keep F (fun k hk hh => by have := E.ob k hk; omega), h.pm.sl, fun v hv ha => ?_⟩, ⟨h.rm.hC.keep F (by omega) hgb.2.2.2.2.2.1, fun v hv ha => ?_⟩, h.hd.keep F (by omega), h.hq.keep F (by omega), ⟨c1', a1.keep F (by omega), a2, fun v hv ha => ?_⟩, ⟨_, d5, by simpa using d2, fun v hv ha => ?_, fun v hv hz' => ?_⟩, ?_, hgb, h.fm.since F (fun i hi hl => by have := h.fm.size; omega)⟩
  · by_cases e : v = u
    · subst e
      rw [upd_same, upd_same, upd_same, upd_same]
      exact hI.keep F (by omega) (by omega) (by omega)
    · rw [upd_ne _ _ _ _ e, upd_ne _ _ _ _ e, upd_ne _ _ _ _ e, upd_ne _ _ _ _ e]
      have ha' := ka v e ha
      exact (h.pm.io v hv ha').keep F (nw v hv ha' _ (.inl (.inl rfl))) (nw v hv ha' _ (.inl (.inr (.inl rfl)))) (nw v hv ha' _ (.inl (.inr (.inr rfl))))
  · by_cases e : v = u
    · subst e
      rw [upd_same, upd_same, upd_same]
      exact ⟨hR.keep F (by omega) (by omega), by omega, by omega, by omega, by omega, by omega⟩
    · rw [upd_ne _ _ _ _ e, upd_ne _ _ _ _ e, upd_ne _ _ _ _ e]
      have ha' := ka v e ha
      exact ⟨(h.rm.ir v hv ha').1.keep F (nw v hv ha' _ (.inr (.inl rfl))) (nw v hv ha' _ (.inr (.inr rfl))), (h.rm.ir v hv ha').2⟩
  · by_cases e : v = u
    · subst e; rw [upd_same]; exact hcu
    · rw [upd_ne _ _ _ _ e]; exact a3 v hv (ka v e ha)
  · rw [Array.getElem?_setIfInBounds]
    by_cases e : u = v
    · subst e
      rw [if_pos rfl, if_pos (by omega), upd_same]
    · rw [if_neg e, upd_ne _ _ _ _ (fun hh => e hh.symm)]
      exact d3 v hv (ka v (fun hh => e hh.symm) ha)
  · rw [Array.getElem?_setIfInBounds]
    by_cases e : u = v
    · subst e
      rw [upd_same] at hz'
      cases hz'
    · rw [if_neg e]
      rw [upd_ne _ _ _ _ (fun hh => e hh.symm)] at hz'
      exact d4 v hv hz'
  · refine L0.born (u := u) (N' := (w.setCell ⟨br, u, none⟩ (.pointer (some ⟨r, 0, none⟩))).heap.size) ?_ ?_ ?_ ?_
    · have := F.size; omega
    · have hF := F.size
      rintro v k (e | e | e)
      · by_cases hv : v = u
        · subst hv; rw [upd_same] at e; exact .inr ⟨rfl, by omega⟩
        · rw [upd_ne _ _ _ _ hv] at e; exact .inl ⟨hv, .inl e⟩
      · by_cases hv : v = u
        · subst hv; rw [upd_same] at e; exact .inr ⟨rfl, by omega⟩
        · rw [upd_ne _ _ _ _ hv] at e; exact .inl ⟨hv, .inr (.inl e)⟩
      · by_cases hv : v = u
        · subst hv; rw [upd_same] at e; exact .inr ⟨rfl, by omega⟩
        · rw [upd_ne _ _ _ _ hv] at e; exact .inl ⟨hv, .inr (.inr e)⟩
    · have hF := F.size
      rintro v k (e | e)
      · by_cases hv : v = u
        · subst hv; rw [upd_same] at e; exact .inr ⟨rfl, by omega⟩
        · rw [upd_ne _ _ _ _ hv] at e; exact .inl ⟨hv, .inl e⟩
      · by_cases hv : v = u
        · subst hv; rw [upd_same] at e; exact .inr ⟨rfl, by omega⟩
        · rw [upd_ne _ _ _ _ hv] at e; exact .inl ⟨hv, .inr e⟩
    · rintro k (e | e | e) (e' | e') <;> (rw [upd_same] at e e'; omega)
end

/-! ### Plain -/

def sum5 (s : List Int) : Int := s.getD 0 0 + s.getD 1 0 + s.getD 2 0 + s.getD 3 0 + s.getD 4 0

theorem stp_at5 (s : List Int) (u j : Nat) (hu : u < s.length) : (stp s u).getD j 0 = if u = j then wrap64 (s.getD u 0 + 1) else s.getD j 0 := by
  unfold stp
  rw [List.getD_eq_getElem?_getD, List.getElem?_set]
  split
  · rename_i e
    subst e
    simp [hu]
  · rw [← List.getD_eq_getElem?_getD]

structure DsI (most : Int) (size : Nat) (M : Mach) (s : List Int) (f : Nat → DOp) (A : Nat → Bool) (did : Int) (K : Nat) : Prop where
  q : ∃ R, QI most size M R (300 + (K : Int)) f A
  qb : QB M (300 + (K : Int)) f A
  sm : sum5 s = did
  sl : s.length = 5
  sb : ∀ j, j < 5 → 0 ≤ s.getD j 0 ∧ s.getD j 0 ≤ 2 + (K : Int)
  d0 : 0 ≤ did
  d1 : did ≤ 2 + (K : Int)

section
variable {most : Int} {size : Nat} {M : Mach} {s : List Int} {f : Nat → DOp} {A : Nat → Bool} {did : Int} {K : Nat}

theorem DsI.begin (h : DsI most size M s f A did K) (u : Nat) (o : DOp) (kind : Nat) (x : Int) (ho : o = beginOp kind x) (hk : (u = 0 → (kind = 0 ∨ (kind = 1 ∧ x = 0))) ∧ (u ≠ 0 → kind = 2 ∧ x = 0)) : DsI most size M s (upd f u o) (upd A u true) did K := by
  obtain ⟨R, hq⟩ := h.q
  subst ho
  refine ⟨⟨R, ?_⟩, h.qb.put u _ (OpB.begin_ _ _ (by omega)), h.sm, h.sl, h.sb, h.d0, h.d1⟩
  by_cases e : u = 0
  · subst e
    rcases hk.1 rfl with k | ⟨k, kx⟩
    · subst k; exact hq.beginO _ (.inl ⟨x, rfl⟩)
    · subst k kx; exact hq.beginO _ (.inr rfl)
  · obtain ⟨k, kx⟩ := hk.2 e
    subst k kx
    exact hq.beginT u (by omega)

/-- A step is refused. -/
theorem DsI.brk (h : DsI most size M s f A did K) (u : Nat) (ha : A u = true) (er : Int) : DsI most size M s (upd f u ((f u).brk er)) A did (K + 1) := by
  obtain ⟨R, hq⟩ := h.q
  have e : upd A u true = A := upd_is A u true ha
  have h1 := (hq.more (N' := 300 + ((K + 1 : Nat) : Int)) (by omega)).still u ((f u).brk er) (by unfold DOp.Going DOp.brk; simp)
  have h2 := (h.qb.more (N' := 300 + ((K + 1 : Nat) : Int)) (by omega)).put u ((f u).brk er) (by have := (h.qb.o u ha).more (show 300 + (K : Int) ≤ 300 + ((K + 1 : Nat) : Int) by omega); exact this)
  rw [e] at h1 h2
  exact ⟨⟨R, h1⟩, h2, h.sm, h.sl, fun j hj => by have := h.sb j hj; omega, h.d0, by have := h.d1; omega⟩

theorem stp_sum (hl : s.length = 5) (u : Nat) (hu : u < 5) (hb : ∀ j, j < 5 → 0 ≤ s.getD j 0 ∧ s.getD j 0 ≤ 1000) : sum5 (stp s u) = sum5 s + 1 ∧ ∀ j, j < 5 → (stp s u).getD j 0 = if u = j then s.getD j 0 + 1 else s.getD j 0 := by
  have hw : wrap64 (s.getD u 0 + 1) = s.getD u 0 + 1 := by have := hb u hu; unfold wrap64; omega
  have key : ∀ j, j < 5 → (stp s u).getD j 0 = if u = j then s.getD j 0 + 1 else s.getD j 0 := fun j hj => by
    rw [stp_at5 s u j (by omega), hw]
    split
    · subst_vars; rfl
    · rfl
  refine ⟨?_, key⟩
  unfold sum5
  rw [key 0 (by omega), key 1 (by omega), key 2 (by omega), key 3 (by omega), key 4 (by omega)]
  rcases (by omega : u = 0 ∨ u = 1 ∨ u = 2 ∨ u = 3 ∨ u = 4) with rfl | rfl | rfl | rfl | rfl
  all_goals
    simp
    try omega

/-- A step goes on. -/
theorem DsI.step (h : DsI most size M s f A did K) (hK : K ≤ 600) (u : Nat) (hu : u < 4) (ha : A u = true) (hg : (f u).Going) (hroom : (f u).kind = 0 → (f u).nx = 4 → (M.used : Int) + pow ((f u).rg.l + 1) ≤ size) :
    (f u).safe M ∧ (f u).Live ∧ OpB 100000 (f u) ∧ DsI most size ((f u).act most M).2 (stp s u) (upd f u ((f u).act most M).1) A (did + 1) (K + 1) := by
  obtain ⟨R, hq⟩ := h.q
  have hl := hq.lv u ha hg
  have hN : ((300 + (K : Int)) + 1) = 300 + ((K + 1 : Nat) : Int) := by omega
  have hs : (f u).safe M ∧ ∃ R', QI most size ((f u).act most M).2 R' (300 + ((K + 1 : Nat) : Int)) (upd f u ((f u).act most M).1) A := by
    by_cases e : u = 0
    · subst e
      have := hq.owner ha hg hroom
      rw [hN] at this
      exact this
    · refine ⟨hq.safeT u (by omega) ha hg, R, ?_⟩
      have := hq.thief u (by omega) ha hg
      rw [hN] at this
      exact this
  have hqb := h.qb.step (most := most) u ha (by rw [hq.ss.len]; have := hq.ss.ra; have := hq.ss.ru; have := hq.ss.us; have := pow_pos R.l; omega) hs.1
  rw [hN] at hqb
  have hst := stp_sum h.sl u (by omega) (fun j hj => by have := h.sb j hj; omega)
  refine ⟨hs.1, hl, (h.qb.o u ha).more (by omega), hs.2, hqb, by rw [hst.1, h.sm], by rw [stp_len]; exact h.sl, fun j hj => ?_, by have := h.d0; omega, by have := h.d1; omega⟩
  rw [hst.2 j hj]
  have := h.sb j hj
  split <;> omega

/-- A Push that finds no cells left: whose it is. -/
theorem DsI.full (h : DsI most size M s f A did K) (u : Nat) (hu : u < 4) (ha : A u = true) (hg : (f u).Going) (hk : (f u).kind = 0) (h4 : (f u).nx = 4) : (f u).how = 0 ∧ (f u).rg.Right ∧ 3 ≤ M.used ∧ (f u).Live ∧ (f u).InR := by
  obtain ⟨R, hq⟩ := h.q
  have hl := hq.lv u ha hg
  have h0 : (f u).how = 0 := by
    unfold DOp.Live at hl
    rw [hl, hk]
    rfl
  by_cases e : u = 0
  · subst e
    rcases hq.ow ha hg with k | k
    · refine ⟨h0, by rw [k.rg (by omega)]; exact hq.ss.rt, ?_, hl, ?_⟩
      · have := hq.ss.ra; have := hq.ss.ru; have := pow_pos R.l; omega
      · unfold DOp.InR; omega
    · have := k.k; omega
  · have := (hq.th u (by omega) ha hg).k
    omega

theorem DsI.inr (h : DsI most size M s f A did K) (u : Nat) (hu : u < 4) (ha : A u = true) (hg : (f u).Going) : (f u).Live ∧ (f u).InR := by
  obtain ⟨R, hq⟩ := h.q
  refine ⟨hq.lv u ha hg, ?_⟩
  by_cases e : u = 0
  · subst e
    rcases hq.ow ha hg with k | k
    · have := k.k; have := k.n; unfold DOp.InR; omega
    · have := k.k; have := k.n; unfold DOp.InR; omega
  · have k := hq.th u (by omega) ha hg
    have := k.k; have := k.n; unfold DOp.InR; omega

/-- What there is to read. -/
theorem DsI.reads (h : DsI most size M s f A did K) (hK : K ≤ 600) : ∃ R : Rg, rd M 2 = R.word ∧ R.Right ∧ 3 ≤ M.used ∧ R.a + pow R.l ≤ M.used ∧ rd M 1 - rd M 0 ≤ pow R.l ∧ CellB 100000 M ∧ M.all.length = size ∧ M.used ≤ size ∧ size ≤ 600 := by
  obtain ⟨R, hq⟩ := h.q
  have hs := hq.ss
  exact ⟨R, hs.wd, hs.rt, by have := hs.ra; have := hs.ru; have := pow_pos R.l; omega, hs.ru, hs.bs, h.qb.c.more (by omega), hs.len, hs.us, hs.sz⟩

end

/-- Late, a thief tells nothing. -/
theorem act_five {op : DOp} {M : Mach} {most : Int} (hl : op.Live) (hin : op.InR) : (op.act most M).1.how = 5 → (op.act most M).1.got = 0 := by
  obtain ⟨kind, nx, x, bo, t, rg, tt, pl, cx, ld, won, how, got, err⟩ := op
  unfold DOp.InR at hin
  unfold DOp.Live at hl
  simp only at hin hl
  subst hl
  obtain ⟨n1, ⟨rfl, n8⟩ | ⟨rfl, n8⟩ | ⟨rfl, n5⟩⟩ := hin
  · have hn : nx = 1 ∨ nx = 2 ∨ nx = 3 ∨ nx = 4 ∨ nx = 5 ∨ nx = 6 ∨ nx = 7 ∨ nx = 8 := by omega
    rcases hn with rfl | rfl | rfl | rfl | rfl | rfl | rfl | rfl
    all_goals (simp [DOp.act, DOp.push1, DOp.push2, DOp.push3, DOp.push4, DOp.push5, DOp.push6, DOp.push7, DOp.push8])
    · by_cases hc : bo - t < (rgOf (rd M 2)).size
      · simp [hc]
      · by_cases hc2 : most ≤ (rgOf (rd M 2)).l
        · simp [hc, hc2]
        · simp [hc, hc2]
    · split <;> simp
  · have hn : nx = 1 ∨ nx = 2 ∨ nx = 3 ∨ nx = 4 ∨ nx = 5 ∨ nx = 6 ∨ nx = 7 ∨ nx = 8 := by omega
    rcases hn with rfl | rfl | rfl | rfl | rfl | rfl | rfl | rfl
    all_goals (simp [DOp.act, DOp.pop1, DOp.pop2, DOp.pop3, DOp.pop4, DOp.pop5, DOp.pop6, DOp.pop7, DOp.pop8])
    · by_cases hc : t < bo - 1
      · simp [hc]
      · simp [hc]
    · split <;> simp
    · cases won <;> simp
  · have hn : nx = 1 ∨ nx = 2 ∨ nx = 3 ∨ nx = 4 ∨ nx = 5 := by omega
    rcases hn with rfl | rfl | rfl | rfl | rfl
    all_goals (simp [DOp.act, DOp.steal1, DOp.steal2, DOp.steal3, DOp.steal4, DOp.steal5])
    · by_cases hc : t < rd M 1
      · simp [hc]
      · simp [hc]
    · by_cases hc : rd M 0 = t
      · simp [hc]
      · simp [hc]
end Go.Proofs.Ytiofdfgcghiibaa

namespace Go.Proofs.Ytiofdfgcghiibaa
open Go.RowKit
set_option linter.unusedVariables false

theorem Try.infoop : (Try.prog.info? 51).map (fun i => (i.zero, i.size, i.bytes)) = some (some (.pointer none), 1, 8) := by kernel_rfl
theorem Try.infoor : (Try.prog.info? 45).map (fun i => (i.zero, i.size, i.bytes)) = some (some (.pointer none), 1, 8) := by kernel_rfl

/-- Whose turn it is. -/
theorem who_ok (a d x : Int) (w : World) :
    Calls Try.prog 13 #[.agg #[.int .i64 a, .int .i64 d, .int .i64 x]] w fun e w' => e = .returned (.int .i64 (a % 4)) ∧ Fr (fun _ => False) w w' := by
  have h1 := tmod_bounds a 4 (by omega)
  have h2 := tmod_round a 4 (by omega)
  have h3 := Int.emod_nonneg a (show (4 : Int) ≠ 0 by omega)
  have h4 := Int.emod_lt_of_pos a (show (0 : Int) < 4 by omega)
  obtain ⟨t, ht⟩ : ∃ t, a.tmod 4 = t := ⟨_, rfl⟩
  obtain ⟨r, hr⟩ : ∃ r, a % 4 = r := ⟨_, rfl⟩
  rw [ht] at h1 h2
  rw [hr] at h2 h3 h4 ⊢
  clear hr
  go_enter Try.func13, Try.ntmps13
  go_wp2_with fail
  go_ret
  exact ⟨rfl, Fr.alloc _ _ _⟩

theorem row_at3 {w : World} {a : Option Addr} {len i : Nat} {f : Nat → Nat → Int} (h : Row w a len 3 f) (hi : i < len) :
    ∃ b off, a = some ⟨b, off, none⟩ ∧ (∀ v, Fr (fun _ => False) w v → v.cell? ⟨b, off + i * 3, none⟩ = some (.int .i64 (f i 0)) ∧ v.cell? ⟨b, off + i * 3 + 1, none⟩ = some (.int .i64 (f i 1)) ∧ v.cell? ⟨b, off + i * 3 + 2, none⟩ = some (.int .i64 (f i 2))) := by
  obtain ⟨b, off, ha, hb, hc⟩ := h (by omega)
  have key : ∀ v, Fr (fun _ => False) w v → ∀ j, j < 3 → v.cell? ⟨b, off + i * 3 + j, none⟩ = some (.int .i64 (f i j)) := by
    intro v hf j hj
    have := (hc i j hi hj).1
    rw [← Nat.add_assoc] at this
    rw [← this]
    exact World.cell?_of_block (w := w) (hf.block b hb id)
  exact ⟨b, off, ha, fun v hf => ⟨key v hf 0 (by omega), key v hf 1 (by omega), key v hf 2 (by omega)⟩⟩

set_option maxHeartbeats 400000 in
theorem rbegin2 (most x : Int) (kind : Nat) (k : Int) (hk : k = kind) (w : World) :
    Calls Try.prog 15 #[.agg #[.int .i64 0, .int .i64 most], .int .i64 k, .int .i64 x] w fun e w' => ∃ r d, e = .returned (.pointer (some ⟨r, 0, none⟩)) ∧ (∀ cp, RO w' r cp most (beginOp kind x)) ∧ Fr (fun _ => False) w w' ∧ w.heap.size ≤ r ∧ r < w'.heap.size ∧ w.heap.size ≤ d ∧ d < w'.heap.size ∧ d ≠ r := by
  have HK := hid hk
  clear hk
  go_enter Try.func15, Try.ntmps15
  go_wp2_with fail
  go_ret
  refine ⟨w.heap.size + 1, w.heap.size, rfl, fun cp => ⟨.pointer none, ?_, fun _ h => by cases h⟩, (Fr.alloc _ _ _).trans (Fr.alloc _ _ _), by omega, by simp, Nat.le_refl _, by simp; omega, by omega⟩
  rw [HK.out]
  exact (TBlk.new _ _ _).at (by simp)

end Go.Proofs.Ytiofdfgcghiibaa

namespace Go.Proofs.Ytiofdfgcghiibaa
open Go.RowKit
set_option linter.unusedVariables false

/-- How all stands, between two turns. -/
def DsS (w0 : World) (b : MB) (B c bd bq bo br : Nat) (size : Nat) (most : Int) (K : Nat) (M : Mach) (s : List Int) (A : Nat → Bool) (O Q C : Nat → Nat) (f : Nat → DOp) (did : Int) (P D : Nat → Nat) (g cap : Nat) (w : World) : Prop :=
  StM w0 b B c bd bq bo br (size : Int) most M s A A O Q C f did M P D f g cap w ∧ DsI most size M s f A did K

/-- Behind the program's step. -/
def MidD (w0 : World) (b : MB) (B c bd bq bo br : Nat) (size : Nat) (most : Int) (u : Nat) (y : Int) (M : Mach) (s : List Int) (A : Nat → Bool) (O Q : Nat → Nat) (f : Nat → DOp) (did : Int) (P D : Nat → Nat) (g cap : Nat) (how : Int) (w : World) : Prop :=
  (∀ i, M.used ≤ i → M.all.getD i 0 = 0) ∧ ∃ (M' : Mach) (s' : List Int) (C' : Nat → Nat) (f' : Nat → DOp), StM w0 b B c bd bq bo br (size : Int) most M' s' A A O Q C' f' did M P D f g cap w ∧ how = ((f' u).how : Nat) ∧
    ((y = u ∧ ((f u).kind = 0 → (f u).nx = 4 → (M.used : Int) + pow ((f u).rg.l + 1) ≤ size) ∧ M' = ((f u).act most M).2 ∧ s' = stp s u ∧ f' = upd f u ((f u).act most M).1)
    ∨ (y = -1 ∧ M' = M ∧ s' = s ∧ f' = upd f u ((f u).brk 10))
    ∨ (y = u ∧ (f u).kind = 0 ∧ (f u).nx = 4 ∧ (size : Int) < M.used + pow ((f u).rg.l + 1) ∧ M' = M ∧ s' = s ∧ f' = upd f u ((f u).brk 21)))

/-- Behind both. -/
def EndD (w0 : World) (b : MB) (B c bd bq bo br : Nat) (size : Nat) (most : Int) (K u : Nat) (A : Nat → Bool) (O Q : Nat → Nat) (P : Nat → Nat) (how : Int) (w : World) : Prop :=
  ∃ (M' : Mach) (s' : List Int) (C' : Nat → Nat) (f' : Nat → DOp) (did' : Int) (D' : Nat → Nat) (g' cap' : Nat), DsS w0 b B c bd bq bo br size most (K + 1) M' s' A O Q C' f' did' P D' g' cap' w ∧ how = ((f' u).how : Nat) ∧ ((f' u).kind = 2 → (f' u).how = 5 → (f' u).got = 0)

section
variable {w0 w : World} {b : MB} {B c bd bq bo br : Nat} {size : Nat} {most : Int} {K u : Nat} {M : Mach} {s : List Int} {A : Nat → Bool} {O Q C : Nat → Nat} {f : Nat → DOp} {did : Int} {P D : Nat → Nat} {g cap : Nat}

theorem DsI.preB (h : DsI most size M s f A did K) (hK : K ≤ 600) (u : Nat) (hu : u < 4) (ha : A u = true) (hg : (f u).Going) : ((f u).kind = 0 → (f u).nx = 4 → 0 ≤ (f u).rg.l ∧ (f u).rg.l + 1 ≤ 8) ∧ ((f u).kind = 0 → (f u).nx = 5 → (f u).safe M ∧ OpB 100000 (f u)) := by
  obtain ⟨R, hq⟩ := h.q
  by_cases e : u = 0
  · subst e
    rcases hq.ow ha hg with k | k
    · refine ⟨fun _ h4 => ?_, fun _ h5 => ⟨k.safe hq.ss (fun hh => by omega), (h.qb.o 0 ha).more (by omega)⟩⟩
      have h1 := (k.fu (by omega) (by omega)).2
      have h2 := hq.ss.m8
      have h3 := hq.ss.rt.1
      rw [k.rg (by omega)]
      omega
    · have := k.k
      exact ⟨fun h0 => by omega, fun h0 => by omega⟩
  · have := (hq.th u (by omega) ha hg).k
    exact ⟨fun h0 => by omega, fun h0 => by omega⟩

/-- The program's step, whoever does it. -/
theorem stepP_all (E : EnS w0 b c bd bq bo br) (hS : DsS w0 b B c bd bq bo br size most K M s A O Q C f did P D g cap w) (hK : K ≤ 600) (hu : u < 4) (ha : A u = true) (hg : (f u).Going) (y : Int) (hy : y = u ∨ y = -1) :
    Calls Try.prog 18 #[.pointer (some ⟨O u, 0, none⟩), .pointer (some ⟨b.m, 0, none⟩), .int .i64 y] w fun e w' => ∃ how : Int, e = .returned (.int .i64 how) ∧ MidD w0 b B c bd bq bo br size most u y M s A O Q f did P D g cap how w' := by
  obtain ⟨hT, hI⟩ := hS
  obtain ⟨hl, hin⟩ := hI.inr u hu ha hg
  obtain ⟨h4, h5⟩ := hI.preB hK u hu ha hg
  have hP : PreB w b M s (O u) (Q u) (C u) most (f u) := ⟨hT.pm.io u hu ha, hT.pm.hM, hin, h4, h5, hl⟩
  obtain ⟨R, _, _, _, _, _, _, hlen, hus, _⟩ := hI.reads hK
  rcases hy with hy | hy
  · by_cases hf : (f u).kind = 0 ∧ (f u).nx = 4 ∧ (size : Int) < M.used + pow ((f u).rg.l + 1)
    · obtain ⟨k0, n4, hf⟩ := hf
      subst hy
      refine (op_full hP k0 n4 (by rw [hT.pm.sl]; omega) (by rw [hlen]; omega)).mono ?_
      intro e w' hB
      obtain ⟨C', h1, h2⟩ := hT.brkP E u hu ha hB
      refine ⟨6, h1, hT.pm.hM.free, M, s, C', _, h2, ?_, .inr (.inr ⟨rfl, k0, n4, hf, rfl, rfl, rfl⟩)⟩
      rw [upd_same]; rfl
    · have hr : (f u).kind = 0 → (f u).nx = 4 → (M.used : Int) + pow ((f u).rg.l + 1) ≤ size := fun a d => by
        have : ¬ ((size : Int) < M.used + pow ((f u).rg.l + 1)) := fun hh => hf ⟨a, d, hh⟩
        omega
      obtain ⟨hs, hl2, hb, _⟩ := hI.step hK u hu ha hg hr
      refine (hT.stepP E u hu ha hs hb hl2 y hy).mono ?_
      rintro e w' ⟨C', h1, h2⟩
      refine ⟨_, h1, hT.pm.hM.free, _, _, C', _, h2, ?_, .inl ⟨hy, hr, rfl, rfl, rfl⟩⟩
      rw [upd_same]
  · refine (op_bad hP y (.inl (by omega))).mono ?_
    intro e w' hB
    obtain ⟨C', h1, h2⟩ := hT.brkP E u hu ha hB
    refine ⟨6, h1, hT.pm.hM.free, M, s, C', _, h2, ?_, .inr (.inl ⟨hy, rfl, rfl, rfl⟩)⟩
    rw [upd_same]; rfl

/-- The document's step, behind it. -/
theorem stepR_all (E : EnS w0 b c bd bq bo br) (hI : DsI most size M s f A did K) (hK : K ≤ 600) (hu : u < 4) (ha : A u = true) (hg : (f u).Going) (y how : Int) (hM : MidD w0 b B c bd bq bo br size most u y M s A O Q f did P D g cap how w) :
    Calls Try.prog 19 #[.pointer (some ⟨P u, 0, none⟩), .pointer (some ⟨c, 0, none⟩), .int .i64 y, .int .i64 4] w fun e w' => e = .returned (.tuple #[]) ∧ EndD w0 b B c bd bq bo br size most K u A O Q P how w' := by
  obtain ⟨hl, hin⟩ := hI.inr u hu ha hg
  obtain ⟨R, _, _, _, _, _, _, hlen, hus, h6⟩ := hI.reads hK
  have hd0 := hI.d0
  have hd1 := hI.d1
  obtain ⟨hfz, M', s', C', f', hT, hh, hcase⟩ := hM
  rcases hcase with ⟨hy, hr, rfl, rfl, rfl⟩ | ⟨hy, rfl, rfl, rfl⟩ | ⟨hy, k0, n4, hf, rfl, rfl, rfl⟩
  · obtain ⟨hs, hl2, hb, hI'⟩ := hI.step hK u hu ha hg hr
    refine (hT.stepR E u hu ha hs hb hl2 (by omega) (by omega) (by omega) hfz hd0 (by omega) y hy).mono ?_
    rintro e w' ⟨h1, D', g', cap', h2⟩
    refine ⟨h1, _, _, C', _, _, D', g', cap', ⟨h2, hI'⟩, hh, ?_⟩
    rw [upd_same]
    exact fun _ => act_five hl hin
  · refine (hT.badR E u hu ha hg y (.inl (by omega))).mono ?_
    rintro e w' ⟨h1, D', h2⟩
    refine ⟨h1, M', s', C', _, did, D', g, cap, ⟨h2, hI.brk u ha 10⟩, hh, ?_⟩
    rw [upd_same]
    intro _ h; exact absurd h (by unfold DOp.brk; simp)
  · obtain ⟨h0, hR, h3, _, _⟩ := hI.full u hu ha hg k0 n4
    refine (hT.fullR E u hu ha k0 n4 h0 h3 hR (by omega) (by omega) (by omega) hd0 (by omega) hf y hy).mono ?_
    rintro e w' ⟨h1, D', h2⟩
    refine ⟨h1, M', s', C', _, did, D', g, cap, ⟨h2, hI.brk u ha 21⟩, hh, ?_⟩
    rw [upd_same]
    intro _ h; exact absurd h (by unfold DOp.brk; simp)
end
end Go.Proofs.Ytiofdfgcghiibaa
