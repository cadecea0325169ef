/-
  CellsOnce answers true at any number and any row of callers.
-/
import Derived.Test.YtdhlicagdcefoaaBase
import Derived.Test.YtdhlicagdcefoaaOpen
import Derived.LoopTactic
namespace Go.Proofs.Ytdhlicagdcefoaa
open Go.RowKit

theorem Row.at_one {w wr : World} {a : Option Addr} {len i : Nat} {f : Nat → Nat → Int} (h : Row w a len 1 f) (hi : i < len) (hf : Fr (fun _ => False) w wr) :
    ∃ b off, a = some ⟨b, off, none⟩ ∧ wr.cell? ⟨b, off + i, none⟩ = some (.int .i64 (f i 0)) := by
  obtain ⟨b, off, ha, hb, hc⟩ := h (by omega)
  refine ⟨b, off, ha, ?_⟩
  have := (hc i 0 hi (by omega)).1
  rw [show off + (i * 1 + 0) = off + i by omega] at this
  rw [← this]
  exact World.cell?_of_block (w := w) (hf.block b hb id)

theorem Row.cell_one {w wr : World} {b off : Nat} {len i : Nat} {f : Nat → Nat → Int} {x : Int} (h : Row w (some ⟨b, off, none⟩) len 1 f) (hi : i < len) (hf : Fr (fun _ => False) w wr) (hx : f i 0 = x) :
    wr.cell? ⟨b, off + i, none⟩ = some (.int .i64 x) := by
  obtain ⟨b', off', ha, hc⟩ := h.at_one hi hf
  simp only [Option.some.injEq, Addr.mk.injEq, and_true] at ha
  obtain ⟨rfl, rfl⟩ := ha
  rw [← hx]
  exact hc

/-- A machine of sixteen cells, all given away, of three workers. -/
def Good (M : Mach) : Prop := M.steps.length = 4 ∧ M.used = 16 ∧ M.all.length = 16
theorem Good.step {M : Mach} (h : Good M) (j : Nat) : Good (M.step j) := ⟨by simpa [Mach.step] using h.1, h.2.1, h.2.2⟩
theorem Good.put {M : Mach} (h : Good M) (k : Nat) (x : Int) : Good (M.put k x) := ⟨h.1, h.2.1, by simpa [Mach.put] using h.2.2⟩
theorem Good.made : Good made0 := ⟨rfl, rfl, rfl⟩

theorem Mach.put_at (M : Mach) (k : Nat) (x : Int) (h : k < M.all.length) : (M.put k x).all.getD k 0 = x := by
  simp [Mach.put, h]

/-- The number that the q-th caller would let the cell have. -/
def numOf (was : Int) (q : Nat) : Int := wrap64 (wrap64 (was + 1) + q)

theorem numOf_ne (was : Int) (q : Nat) (hq : q < 40) : numOf was q ≠ was := by
  unfold numOf wrap64
  omega

def OnceRel (w : World) (b : MB) (was : Int) (len : Nat) (first i : Value) (wr : World) : Prop :=
  ∃ (k : Nat) (fi : Int) (M : Mach), k ≤ len ∧ i = .int .i64 k ∧ first = .int .i64 fi ∧ IsM wr b M ∧ Good M ∧ Fr (fun _ => False) w wr ∧
    ((fi = -1 ∧ M.all.getD 5 0 = was) ∨ ∃ q : Nat, fi = q ∧ q < k ∧ M.all.getD 5 0 = numOf was q)

set_option maxHeartbeats 400000 in
theorem onceLaw_long (was : Int) (a : Option Addr) (len cap : Nat) (w : World) (h : 40 < len) :
    Calls Try.prog 7 #[.int .i64 was, .slice a len cap] w fun e w' => e = .returned (.bool true) ∧ Below w.heap.size w w' := by
  have h' : (40 : Int) < len := by omega
  go_enter Try.func7, Try.ntmps7
  go_wp2_with fail
  refine (made_ok _).mono ?_
  rintro e w1 ⟨b, rfl, m1, hF1, hN⟩
  clear hN m1
  go_wp2_with fail
  refine (awake_ok _).mono ?_
  rintro e w2 ⟨rfl, hF2⟩
  go_wp2_with fail
  go_ret
  exact ⟨rfl, (hF1.trans hF2).below (Nat.le_refl _) (fun _ hh => hh.elim)⟩

set_option maxHeartbeats 1000000 in
theorem onceLaw_short (was : Int) (a : Option Addr) (len cap : Nat) (f : Nat → Nat → Int) (w : World) (h : len ≤ 40) (hr : Row w a len 1 f) :
    Calls Try.prog 7 #[.int .i64 was, .slice a len cap] w fun e w' => e = .returned (.bool true) ∧ Below w.heap.size w w' := by
  have HR := hid hr
  clear hr
  have h' : ¬ (40 : Int) < len := by omega
  go_enter Try.func7, Try.ntmps7
  go_wp2_with fail
  refine (made_ok _).mono ?_
  rintro e w1 ⟨b, rfl, m1, hF1, hN⟩
  have HL : Hid (∀ i, b.own i → i < w.heap.size → False) := fun i hi hl => by have := hN i hi; omega
  clear hN
  go_wp2_with fail
  refine (store_ok b _ 3 5 was _ m1 (by simp [made0]) (by simp [made0])).mono ?_
  rintro e w2 ⟨rfl, m2, hF2⟩
  have hf2 : Fr (fun _ => False) w w2 := hF1.since hF2 HL.out
  clear hF1 hF2
  go_wp2_with fail
  go_loopw [6, 7] (fun first i wr => OnceRel w b was len first i wr) (fun _ i _ => len - (intOf i).toNat)
  case atStart => exact ⟨0, -1, _, Nat.zero_le _, rfl, rfl, m2, (Good.made.step 3).put 5 was, hf2, .inl ⟨rfl, Mach.put_at _ _ _ (by simp [made0, Mach.step])⟩⟩
  case round =>
    obtain ⟨k, fi, M, hk, rfl, rfl, hM, hG, hf, hcase⟩ := hrel
    have HC := hid hcase
    clear hcase
    by_cases hlt : k < len
    · obtain ⟨bl, off, rfl, hcell⟩ := HR.out.at_one hlt hf
      obtain ⟨x, hx⟩ : ∃ x, f k 0 = x := ⟨_, rfl⟩
      rw [hx] at hcell
      have HX := hid hx
      clear hx
      by_cases hv : 0 ≤ x ∧ x ≤ 3
      · obtain ⟨j, rfl⟩ := Int.eq_ofNat_of_zero_le hv.1
        have t1 : (0 : Int) ≤ j := by omega
        have t2 : (j : Int) ≤ 3 := by omega
        clear hv
        rcases HC.out with ⟨rfl, hc5⟩ | ⟨q, rfl, hq, hc5⟩
        · clear HC
          have HC5 := hid hc5
          clear hc5
          go_wp2_with fail
          refine (cas_yes b M j 5 was _ _ hM (by have := hG.1; omega) (by have := hG.2.1; omega) HC5.out).mono ?_
          rintro e w3 ⟨rfl, m3, hF3⟩
          have hf3 := hf.since hF3 HL.out
          have hcell3 := HR.out.cell_one hlt hf3 HX.out
          go_wp2_with fail
          go_roundw
          case rel => exact ⟨k + 1, k, _, by omega, by go_num, rfl, m3, (hG.step j).put 5 _, hf.since hF3 HL.out, .inr ⟨k, rfl, by omega, Mach.put_at _ _ _ (by have := (hG.step j).2.2; omega)⟩⟩
          case measure => simp [intOf]; omega
        · clear HC
          have HC5 := hid hc5
          clear hc5
          have t3 : (0 : Int) ≤ q := by omega
          go_wp2_with fail
          refine (cas_not b M j 5 was _ _ hM (by have := hG.1; omega) (by have := hG.2.1; omega) (by rw [HC5.out]; exact numOf_ne was q (by omega))).mono ?_
          rintro e w3 ⟨rfl, m3, hF3⟩
          have hf3 := hf.since hF3 HL.out
          have hcell3 := HR.out.cell_one hlt hf3 HX.out
          go_wp2_with fail
          go_roundw
          case rel => exact ⟨k + 1, q, _, by omega, by go_num, rfl, m3, hG.step j, hf.since hF3 HL.out, .inr ⟨q, rfl, by omega, HC5.out⟩⟩
          case measure => simp [intOf]; omega
      · have HV := hid hv
        clear hv
        go_wp2_with fail
        refine (cas_no b M x 5 was _ _ hM (by have := hG.1; have := HV.out; omega)).mono ?_
        rintro e w3 ⟨rfl, rfl⟩
        by_cases hx0 : 0 ≤ x
        · have hx3 : ¬ x ≤ 3 := by have := HV.out; omega
          go_wp2_with fail
          go_roundw
          case rel => exact ⟨k + 1, fi, M, by omega, by go_num, rfl, hM, hG, hf, HC.out.imp id (fun ⟨q, e1, e2, e3⟩ => ⟨q, e1, by omega, e3⟩)⟩
          case measure => simp [intOf]; omega
        · go_wp2_with fail
          go_roundw
          case rel => exact ⟨k + 1, fi, M, by omega, by go_num, rfl, hM, hG, hf, HC.out.imp id (fun ⟨q, e1, e2, e3⟩ => ⟨q, e1, by omega, e3⟩)⟩
          case measure => simp [intOf]; omega
    · rcases HC.out with ⟨rfl, hc5⟩ | ⟨q, rfl, hq, hc5⟩
      · clear HC
        have HC5 := hid hc5
        clear hc5
        go_wp2_with fail
        have hp := peek_in b M 5 _ hM (by have := hG.2.1; omega)
        rw [HC5.out] at hp
        refine hp.mono ?_
        clear hp
        rintro e w3 ⟨rfl, rfl⟩
        go_wp2_with fail
        refine (awake_ok _).mono ?_
        rintro e w4 ⟨rfl, hF4⟩
        go_wp2_with fail
        go_ret
        exact ⟨rfl, (hf.trans hF4).below (Nat.le_refl _) (fun _ hh => hh.elim)⟩
      · clear HC
        have HC5 := hid hc5
        clear hc5
        have t3 : ¬ (q : Int) < 0 := by omega
        go_wp2_with fail
        have hp := peek_in b M 5 _ hM (by have := hG.2.1; omega)
        rw [HC5.out] at hp
        unfold numOf at hp
        refine hp.mono ?_
        clear hp
        rintro e w3 ⟨rfl, rfl⟩
        go_wp2_with fail
        refine (awake_ok _).mono ?_
        rintro e w4 ⟨rfl, hF4⟩
        go_wp2_with fail
        go_ret
        exact ⟨rfl, (hf.trans hF4).below (Nat.le_refl _) (fun _ hh => hh.elim)⟩

theorem onceLaw (was : Int) (a : Option Addr) (len cap : Nat) (f : Nat → Nat → Int) (w : World) (hr : Row w a len 1 f) :
    Calls Try.prog 7 #[.int .i64 was, .slice a len cap] w fun e w' => e = .returned (.bool true) ∧ Below w.heap.size w w' := by
  by_cases h : len ≤ 40
  · exact onceLaw_short was a len cap f w h hr
  · exact onceLaw_long was a len cap w (by omega)
end Go.Proofs.Ytdhlicagdcefoaa
