/-
  CellsPlay answers true at any machine and any calls.
-/
import Derived.Test.YtdhlicagdcefoaaRefAlloc
import Derived.Test.YtdhlicagdcefoaaLeave
namespace Go.Proofs.Ytdhlicagdcefoaa
open Go.RowKit

set_option maxHeartbeats 400000 in
theorem small_yes (x y : Int) (w : World) (h : 1 ≤ x ∧ x ≤ 64 ∧ 1 ≤ y ∧ y ≤ 16) :
    Calls Try.prog 10 #[.int .i64 x, .int .i64 y] w fun e w' => e = .returned (.bool true) ∧ w = w' := by
  have HX := hid h
  have t1 : x ≤ 64 := h.2.1
  clear h
  go_enter Try.func10, Try.ntmps10
  go_wp2_with fail
  refine (may_yes x y _ (by have := HX.out; omega)).mono ?_
  rintro e w' ⟨rfl, rfl⟩
  go_wp2_with fail
  go_ret
  exact ⟨by simp, rfl⟩

set_option maxHeartbeats 400000 in
theorem small_no (x y : Int) (w : World) (h : ¬ (1 ≤ x ∧ x ≤ 64 ∧ 1 ≤ y ∧ y ≤ 16)) :
    Calls Try.prog 10 #[.int .i64 x, .int .i64 y] w fun e w' => e = .returned (.bool false) ∧ w = w' := by
  have HX := hid h
  clear h
  by_cases hm : 1 ≤ x ∧ x ≤ 1048576 ∧ 1 ≤ y ∧ y ≤ 16
  · have HM := hid hm
    have t1 : ¬ x ≤ 64 := by have := HX.out; omega
    clear hm
    go_enter Try.func10, Try.ntmps10
    go_wp2_with fail
    refine (may_yes x y _ HM.out).mono ?_
    rintro e w' ⟨rfl, rfl⟩
    go_wp2_with fail
    go_ret
    exact ⟨by simp; omega, rfl⟩
  · have HM := hid hm
    clear hm
    go_enter Try.func10, Try.ntmps10
    go_wp2_with fail
    refine (may_no x y _ HM.out).mono ?_
    rintro e w' ⟨rfl, rfl⟩
    go_wp2_with fail
    go_ret
    exact ⟨rfl, rfl⟩

theorem does_len (M : Mach) (o : OpD) : (M.does o).2.2.all.length = M.all.length ∧ (M.does o).2.2.steps.length = M.steps.length := by
  unfold Mach.does Mach.load Mach.store Mach.cas Mach.add Mach.alloc
  repeat' split
  all_goals simp [Mach.step, Mach.put, Mach.give]

def PlayRel (w : World) (b : MB) (B rm n k len : Nat) (d : Nat) (i : Value) (wr : World) : Prop :=
  ∃ (q : Nat) (M : Mach) (r : RB), q ≤ len ∧ d = len - q ∧ i = .int .i64 q ∧ r.m = rm ∧ IsM wr b M ∧ IsR wr B r M ∧ B ≤ wr.heap.size ∧ Blk wr w.heap.size #[.int .i64 n, .int .i64 k] ∧ Fr (fun _ => False) w wr

def CountRel (w : World) (n d : Nat) (i : Value) (wr : World) : Prop := ∃ q : Nat, q ≤ n ∧ d = n - q ∧ i = .int .i64 ((q : Int) - 1) ∧ w = wr

set_option maxRecDepth 100000 in
set_option maxHeartbeats 1000000 in
theorem playLaw_no (x y : Int) (a : Option Addr) (len cap : Nat) (w : World) (h : ¬ ((1 ≤ x ∧ x ≤ 64 ∧ 1 ≤ y ∧ y ≤ 16) ∧ len ≤ 100)) :
    Calls Try.prog 3 #[.agg #[.int .i64 x, .int .i64 y], .slice a len cap] w fun e w' => e = .returned (.bool true) ∧ Below w.heap.size w w' := by
  by_cases hs : 1 ≤ x ∧ x ≤ 64 ∧ 1 ≤ y ∧ y ≤ 16
  · have hl : (100 : Int) < len := by
      have : ¬ len ≤ 100 := fun hh => h ⟨hs, hh⟩
      omega
    have HS := hid hs
    clear hs h
    go_enter Try.func3, Try.ntmps3
    go_wp2_with fail
    refine (small_yes x y _ HS.out).mono ?_
    rintro e w' ⟨rfl, rfl⟩
    go_wp2_with fail
    refine (awake_ok _).mono ?_
    rintro e w3 ⟨rfl, hF3⟩
    go_wp2_with fail
    go_ret
    exact ⟨rfl, ((Fr.alloc _ _ _).trans hF3).below (Nat.le_refl _) (fun _ hh => hh.elim)⟩
  · have HS := hid hs
    clear hs h
    go_enter Try.func3, Try.ntmps3
    go_wp2_with fail
    refine (small_no x y _ HS.out).mono ?_
    rintro e w' ⟨rfl, rfl⟩
    go_wp2_with fail
    refine (awake_ok _).mono ?_
    rintro e w3 ⟨rfl, hF3⟩
    go_wp2_with fail
    go_ret
    exact ⟨rfl, ((Fr.alloc _ _ _).trans hF3).below (Nat.le_refl _) (fun _ hh => hh.elim)⟩

set_option maxRecDepth 100000 in
set_option maxHeartbeats 2000000 in
theorem playLaw_yes (n k : Nat) (a : Option Addr) (len cap : Nat) (f : Nat → Nat → Int) (w : World) (h1 : 1 ≤ n) (h2 : n ≤ 64) (h3 : 1 ≤ k) (h4 : k ≤ 16) (hl : len ≤ 100) (hr : Row w a len 5 f) :
    Calls Try.prog 3 #[.agg #[.int .i64 n, .int .i64 k], .slice a len cap] w fun e w' => e = .returned (.bool true) ∧ Below w.heap.size w w' := by
  have HR := hid hr
  clear hr
  have t1 : decide ((100 : Int) < len) = false := by simp; omega
  go_enter Try.func3, Try.ntmps3
  go_wp2_with fail
  refine (small_yes n k _ (by omega)).mono ?_
  rintro e w' ⟨rfl, rfl⟩
  go_wp2_with fail
  refine (new_ok n k _ h1 (by omega) h3 h4).mono ?_
  rintro e w1 ⟨b, rfl, m1, hF1, hN1⟩
  have b1 : Blk w1 w.heap.size #[.int .i64 n, .int .i64 k] := (Blk.new _ _ _).keep hF1 id
  have hf1 : Fr (fun _ => False) w w1 := (Fr.alloc _ _ _).trans hF1
  have HL : Hid (∀ i, b.own i → w.heap.size + 1 ≤ i) := fun i hi => by have := hN1 i hi; simpa using this
  clear hN1 hF1
  have b1a := b1.cell (i := 0) rfl
  have b1b := b1.cell (i := 1) rfl
  go_wp2_with fail
  refine (rnew_ok n k _ (by omega) h4).mono ?_
  rintro e w2 ⟨r, rfl, r2, hF2⟩
  have HB : Hid (∀ i, b.own i → ¬ w1.heap.size ≤ i) := fun i hi hh => by have := m1.own_lt i hi; omega
  have HLB : Hid (w.heap.size < w1.heap.size) := b1.lt
  have m2 := m1.same hF2
  have b2 := b1.keep hF2 id
  have hf2 := hf1.trans hF2
  have hs2 := hF2.size
  clear b1 b1a b1b hf1 m1 hF2
  obtain ⟨B, hB⟩ : ∃ B, w1.heap.size = B := ⟨_, rfl⟩
  rw [hB] at r2 HB HLB hs2
  clear hB
  obtain ⟨rm, hrm⟩ : ∃ rm, r.m = rm := ⟨_, rfl⟩
  rw [hrm]
  go_wp2_with fail
  go_loopg [8] len (fun d i wr => PlayRel w b B rm n k len d i wr)
  case atStart => exact ⟨0, _, r, Nat.zero_le _, rfl, rfl, hrm, m2, r2, hs2, b2, hf2⟩
  case round =>
    clear hrm r2 m2 b2 hf2 hs2
    obtain ⟨q, M, r, hq, rfl, rfl, hrm, hM, hR, hs, hb, hf⟩ := hrel
    by_cases hlt : q < len
    · obtain ⟨o, ho⟩ : ∃ o, OpD.of f q = o := ⟨_, rfl⟩
      obtain ⟨bl, off, rfl, r0, r1, r2, r3, r4⟩ := HR.out.at_five hlt hf ho
      have HO := hid ho
      clear ho
      have HLw : Hid (∀ i, b.own i → i < w.heap.size → False) := fun i hi hh => by have := HL.out i hi; omega
      have HLb : Hid (¬ b.own w.heap.size) := fun hh => by have := HL.out _ hh; omega
      replace hR := hR.m_eq hrm
      clear hrm
      go_wp2_with fail
      have hc := does_any b M o _ hM
      have hp := fun W hW hBW => plain_any ⟨rm, r.s, r.p, r.cap⟩ B M o W hW hBW
      obtain ⟨D, hD⟩ : ∃ D, M.does o = D := ⟨_, rfl⟩
      rw [hD] at hc hp
      clear hD
      obtain ⟨x, er, M'⟩ := D
      have HP := hid hp
      clear hp
      refine hc.mono ?_
      clear hc
      rintro e w3 ⟨rfl, hM3, hF3⟩
      have hR3 := hR.keep hF3 (fun i hi hh => HB.out i hh hi)
      have hb3 := hb.keep hF3 HLb.out
      have hf3 := hf.since hF3 HLw.out
      have hs3 := Nat.le_trans hs hF3.size
      clear r0 r1 r2 r3 r4 hM hR hb hf hs hF3
      obtain ⟨r0, r1, r2, r3, r4⟩ := HR.out.cell_five hlt hf3 HO.out
      go_wp2_with fail
      refine (HP.out _ hR3 hs3).mono ?_
      rintro e w4 ⟨rfl, r', hrm', hR4, hF4⟩
      replace hR4 := hR4.m_eq hrm'
      clear hrm'
      have hM4 := hM3.keep hF4 HB.out
      have hb4 := hb3.keep hF4 (by have := HLB.out; omega)
      have hf4 := hf3.since hF4 (fun i hi hl => by have := HLB.out; omega)
      have hs4 := Nat.le_trans hs3 hF4.size
      clear r0 r1 r2 r3 r4 hM3 hR3 hb3 hf3 hs3 hF4
      obtain ⟨r0, r1, r2, r3, r4⟩ := HR.out.cell_five hlt hf4 HO.out
      clear r0 r2 r3 r4
      have u0 : w4.cell? ⟨rm, 0, none⟩ = some (.slice r'.p M'.used r'.cap) := hR4.c0
      obtain ⟨st, hst⟩ : ∃ st, M'.stepsOf o.w = st := ⟨_, rfl⟩
      have z1 := fun N => used_ok b M' (w4.drewN N) (hM4.same (Fr.drewN _ _ _))
      have z2 := fun N => steps_any b M' o.w (w4.drewN N) (hM4.same (Fr.drewN _ _ _))
      have z3 := fun N => rof_any ⟨rm, r'.s, r'.p, r'.cap⟩ B M' o.w (w4.drewN N) (hR4.same (Fr.drewN _ _ _))
      rw [hst] at z2 z3
      have Z1 := hid z1
      have Z2 := hid z2
      have Z3 := hid z3
      clear z1 z2 z3 hst
      go_wp2_with fail
      go_quiet ((first | (go_at_call 16; exact ((Z1.out _).mono fun _ _ ⟨he, hm⟩ => ⟨he, _, hm.symm⟩)) | (go_at_call 17; exact ((Z2.out _).mono fun _ _ ⟨he, hm⟩ => ⟨he, _, hm.symm⟩)) | (go_at_call 18; exact ((Z3.out _).mono fun _ _ ⟨he, hm⟩ => ⟨he, _, hm.symm⟩))))
      go_wp2_with fail
      go_roundg (len - (q + 1))
      case measure => omega
      case rel => exact ⟨q + 1, M', _, by omega, rfl, by go_num, rfl, hM4.same (Fr.drewN _ _ _), hR4.same (Fr.drewN _ _ _), hs4, hb4.drewN _, hf4.trans (Fr.drewN _ _ _)⟩
    · replace hR := hR.m_eq hrm
      clear hrm
      obtain ⟨wo, rfl⟩ : ∃ wo, wo = wr := ⟨_, rfl⟩
      have b0 := hb.cell (i := 0) rfl
      have b1 := hb.cell (i := 1) rfl
      go_wp2_with fail
      go_loopg [13] (n + 2) (fun d i wr => CountRel wo (n + 2) d i wr)
      case atStart => exact ⟨0, by omega, rfl, rfl, rfl⟩
      case round =>
        obtain ⟨z, hz, rfl, rfl, rfl⟩ := hrel
        by_cases hzt : z < n + 2
        · have tz : (z : Int) - 1 ≤ n := by omega
          obtain ⟨v, hv⟩ : ∃ v, M.peek ((z : Int) - 1) = v := ⟨_, rfl⟩
          have z1 := peek_any b M ((z : Int) - 1) _ hM
          have z2 := rpeek_any ⟨rm, r.s, r.p, r.cap⟩ B M ((z : Int) - 1) _ hR
          rw [hv] at z1 z2
          have Z1 := hid z1
          have Z2 := hid z2
          clear z1 z2 hv
          go_wp2_with fail
          refine (Z1.out).mono ?_
          rintro e w' ⟨rfl, rfl⟩
          go_wp2_with fail
          refine (Z2.out).mono ?_
          rintro e w' ⟨rfl, rfl⟩
          go_wp2_with fail
          go_roundg (n + 2 - (z + 1))
          case measure => omega
          case rel => exact ⟨z + 1, by omega, rfl, by congr 1; omega, rfl⟩
        · have tz : ¬ (z : Int) - 1 ≤ n := by omega
          go_wp2_with fail
          go_loopg [14] (k + 3) (fun d i wr => CountRel wo (k + 3) d i wr)
          case atStart => exact ⟨0, by omega, rfl, rfl, rfl⟩
          case round =>
            obtain ⟨y, hy, rfl, rfl, rfl⟩ := hrel
            by_cases hyt : y < k + 3
            · have ty : (y : Int) - 1 ≤ k + 1 := by omega
              obtain ⟨v, hv⟩ : ∃ v, M.stepsOf ((y : Int) - 1) = v := ⟨_, rfl⟩
              have z1 := steps_any b M ((y : Int) - 1) _ hM
              have z2 := rof_any ⟨rm, r.s, r.p, r.cap⟩ B M ((y : Int) - 1) _ hR
              rw [hv] at z1 z2
              have Z1 := hid z1
              have Z2 := hid z2
              clear z1 z2 hv
              go_wp2_with fail
              refine (Z1.out).mono ?_
              rintro e w' ⟨rfl, rfl⟩
              go_wp2_with fail
              refine (Z2.out).mono ?_
              rintro e w' ⟨rfl, rfl⟩
              go_wp2_with fail
              go_roundg (k + 3 - (y + 1))
              case measure => omega
              case rel => exact ⟨y + 1, by omega, rfl, by congr 1; omega, rfl⟩
            · have ty : ¬ (y : Int) - 1 ≤ k + 1 := by omega
              go_wp2_with fail
              refine (awake_ok _).mono ?_
              rintro e w5 ⟨rfl, hF5⟩
              go_wp2_with fail
              go_ret
              exact ⟨rfl, (hf.trans hF5).below (Nat.le_refl _) (fun _ hh => hh.elim)⟩

theorem playLaw (x y : Int) (a : Option Addr) (len cap : Nat) (f : Nat → Nat → Int) (w : World) (hr : Row w a len 5 f) :
    Calls Try.prog 3 #[.agg #[.int .i64 x, .int .i64 y], .slice a len cap] w fun e w' => e = .returned (.bool true) ∧ Below w.heap.size w w' := by
  by_cases h : (1 ≤ x ∧ x ≤ 64 ∧ 1 ≤ y ∧ y ≤ 16) ∧ len ≤ 100
  · obtain ⟨n, rfl⟩ := Int.eq_ofNat_of_zero_le (show 0 ≤ x by omega)
    obtain ⟨k, rfl⟩ := Int.eq_ofNat_of_zero_le (show 0 ≤ y by omega)
    exact playLaw_yes n k a len cap f w (by omega) (by omega) (by omega) (by omega) h.2 hr
  · exact playLaw_no x y a len cap w h
end Go.Proofs.Ytdhlicagdcefoaa
