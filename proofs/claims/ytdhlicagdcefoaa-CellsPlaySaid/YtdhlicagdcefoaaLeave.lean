/-
  CellsLeave answers true at any calls.
-/
import Derived.Test.YtdhlicagdcefoaaLeaves
import Derived.Deep.LoopGhost
import Derived.Deep.DeepCutAuto
namespace Go.Proofs.Ytdhlicagdcefoaa
open Go.RowKit

def OpD.of (f : Nat → Nat → Int) (i : Nat) : OpD := ⟨f i 0, f i 1, f i 2, f i 3, f i 4⟩

theorem Row.at_five {w wr : World} {a : Option Addr} {len i : Nat} {f : Nat → Nat → Int} (h : Row w a len 5 f) (hi : i < len) (hf : Fr (fun _ => False) w wr) {o : OpD} (ho : OpD.of f i = o) :
    ∃ b off, a = some ⟨b, off, none⟩ ∧ wr.cell? ⟨b, off + i * 5, none⟩ = some (.int .i64 o.kind) ∧ wr.cell? ⟨b, off + i * 5 + 1, none⟩ = some (.int .i64 o.w) ∧
      wr.cell? ⟨b, off + i * 5 + 2, none⟩ = some (.int .i64 o.at_) ∧ wr.cell? ⟨b, off + i * 5 + 3, none⟩ = some (.int .i64 o.x) ∧ wr.cell? ⟨b, off + i * 5 + 4, none⟩ = some (.int .i64 o.y) := by
  subst ho
  obtain ⟨b, off, ha, hb, hc⟩ := h (by omega)
  have key : ∀ j, j < 5 → wr.cell? ⟨b, off + i * 5 + j, none⟩ = some (.int .i64 (f i j)) := by
    intro j hj
    have := (hc i j hi hj).1
    rw [← Nat.add_assoc] at this
    rw [← this]
    exact World.cell?_of_block (w := w) (hf.block b hb id)
  exact ⟨b, off, ha, key 0 (by omega), key 1 (by omega), key 2 (by omega), key 3 (by omega), key 4 (by omega)⟩

theorem Row.cell_five {w wr : World} {b off : Nat} {len i : Nat} {f : Nat → Nat → Int} (h : Row w (some ⟨b, off, none⟩) len 5 f) (hi : i < len) (hf : Fr (fun _ => False) w wr) {o : OpD} (ho : OpD.of f i = o) :
    wr.cell? ⟨b, off + i * 5, none⟩ = some (.int .i64 o.kind) ∧ wr.cell? ⟨b, off + i * 5 + 1, none⟩ = some (.int .i64 o.w) ∧
      wr.cell? ⟨b, off + i * 5 + 2, none⟩ = some (.int .i64 o.at_) ∧ wr.cell? ⟨b, off + i * 5 + 3, none⟩ = some (.int .i64 o.x) ∧ wr.cell? ⟨b, off + i * 5 + 4, none⟩ = some (.int .i64 o.y) := by
  obtain ⟨b', off', ha, hc⟩ := h.at_five hi hf ho
  simp only [Option.some.injEq, Addr.mk.injEq, and_true] at ha
  obtain ⟨rfl, rfl⟩ := ha
  exact hc

def SameRel (w : World) (size n : Nat) (i : Value) (wr : World) : Prop := ∃ q : Nat, q ≤ size ∧ n = size - q ∧ i = .int .i64 q ∧ Fr (fun _ => False) w wr

def LeaveRel (w : World) (b : MB) (len : Nat) (n : Nat) (i : Value) (wr : World) : Prop :=
  ∃ (k : Nat) (M : Mach), k ≤ len ∧ n = len - k ∧ i = .int .i64 k ∧ IsM wr b M ∧ Good M ∧ Fr (fun _ => False) w wr

def FillRel (b : MB) (M : Mach) (w : World) (bw : Nat) (g : Nat → Int) (size n : Nat) (i : Value) (wr : World) : Prop :=
  ∃ k : Nat, k ≤ size ∧ n = size - k ∧ i = .int .i64 k ∧ IsM wr b M ∧ Blk wr bw (ints (fillTo g size k)) ∧ Fr (fun j => j = bw) w wr

set_option maxRecDepth 100000 in
set_option maxHeartbeats 1000000 in
theorem leaveLaw_short (a : Option Addr) (len cap : Nat) (f : Nat → Nat → Int) (w : World) (h : len ≤ 60) (hr : Row w a len 5 f) :
    Calls Try.prog 5 #[.slice a len cap] w fun e w' => e = .returned (.bool true) ∧ Below w.heap.size w w' := by
  have HR := hid hr
  clear hr
  have h' : decide ((60 : Int) < len) = false := by simp; omega
  go_enter Try.func5, Try.ntmps5
  go_wp2_with fail
  refine (made_ok _).mono ?_
  rintro e w1 ⟨b, rfl, m1, hF1, hN⟩
  have HL : Hid (∀ i, b.own i → i < w.heap.size → False) := fun i hi hl => by have := hN i hi; omega
  clear hN
  go_wp2_with fail
  go_loopg [4] len (fun n i wr => LeaveRel w b len n i wr)
  case atStart => exact ⟨0, _, Nat.zero_le _, rfl, rfl, m1, Good.made, hF1⟩
  case round =>
    obtain ⟨k, M, hk, rfl, rfl, hM, gM, hf⟩ := hrel
    by_cases hlt : k < len
    · obtain ⟨wo, rfl⟩ : ∃ wo, wo = wr := ⟨_, rfl⟩
      have HOL := hid hM.own_lt
      go_wp2_with fail
      go_loopg [6] 17 (fun n i wx => FillRel b M wo wo.heap.size (fun i => M.peek i) 17 n i wx)
      case atStart => exact ⟨0, by omega, rfl, rfl, hM.same (Fr.alloc _ _ _), by rw [fillTo_zero]; exact Blk.new _ _ _, Fr.alloc _ _ _⟩
      case round =>
        obtain ⟨q, hq, rfl, rfl, hM2, hB, hF2⟩ := hrel
        by_cases hq17 : q < 17
        · have cv := hB.cell (ints_at _ q (by rw [fillTo_len]; exact hq17))
          obtain ⟨v, HV, cv⟩ : ∃ v, True ∧ wr.cell? ⟨wo.heap.size, q, none⟩ = some v := ⟨_, trivial, cv⟩
          have fz := hB.frozen q
          go_wp2_with fail
          refine (peek_any b M q _ hM2).mono ?_
          rintro e w' ⟨rfl, rfl⟩
          go_wp2_with fail
          go_roundg (17 - (q + 1))
          case measure => omega
          case rel =>
            refine ⟨q + 1, by omega, rfl, by go_num, hM2.keep (Fr.setCell (S := fun j => j = wo.heap.size) _ _ _ rfl) (fun i hi hj => by have := HOL.out i hi; omega), ?_, hF2.trans (Fr.setCell _ _ _ rfl)⟩
            rw [← fillTo_set, ← ints_set]
            exact hB.set _ _
        · obtain rfl : q = 17 := by omega
          obtain ⟨wp, rfl⟩ : ∃ wp, wp = wr := ⟨_, rfl⟩
          have HOP := hid hM2.own_lt
          have HBP := hid hB.lt
          go_wp2_with fail
          go_loopg [8] 5 (fun n i wx => FillRel b M wp wp.heap.size (fun i => M.stepsOf ((i : Int) - 1)) 5 n i wx)
          case atStart => exact ⟨0, by omega, rfl, rfl, hM2.same (Fr.alloc _ _ _), by rw [fillTo_zero]; exact Blk.new _ _ _, Fr.alloc _ _ _⟩
          case round =>
            obtain ⟨q, hq, rfl, rfl, hM3, hB3, hF3⟩ := hrel
            by_cases hq5 : q < 5
            · have cv := hB3.cell (ints_at _ q (by rw [fillTo_len]; exact hq5))
              obtain ⟨v, HV, cv⟩ : ∃ v, True ∧ wr.cell? ⟨wp.heap.size, q, none⟩ = some v := ⟨_, trivial, cv⟩
              have fz := hB3.frozen q
              go_wp2_with fail
              refine (steps_any b M ((q : Int) - 1) _ hM3).mono ?_
              rintro e w' ⟨rfl, rfl⟩
              go_wp2_with fail
              go_roundg (5 - (q + 1))
              case measure => omega
              case rel =>
                refine ⟨q + 1, by omega, rfl, by go_num, hM3.keep (Fr.setCell (S := fun j => j = wp.heap.size) _ _ _ rfl) (fun i hi hj => by have := HOP.out i hi; omega), ?_, hF3.trans (Fr.setCell _ _ _ rfl)⟩
                rw [← fillTo_set, ← ints_set]
                exact hB3.set _ _
            · obtain rfl : q = 5 := by omega
              have hB4 := hB.keep hF3 (fun e => by have := HBP.out; omega)
              have hf4 : Fr (fun _ => False) w wr := (hf.since hF2 (fun i hi hl => by have := hf.size; omega)).since hF3 (fun i hi hl => by have := hf.size; have := hF2.size; omega)
              clear HBP hF2 hF3 hB hM2 hM hf
              clear hq hq5
              obtain ⟨o, ho⟩ : ∃ o, OpD.of f k = o := ⟨_, rfl⟩
              obtain ⟨bl, off, rfl, r0, r1, r2, r3, r4⟩ := HR.out.at_five hlt hf4 ho
              have HO := hid ho
              clear ho
              go_wp2_with fail
              have hc := does_any b M o _ hM3
              have hst := does_steps gM o
              have hpk := fun y => does_peek gM (o := o) (y := y)
              have hgd := does_good gM o
              obtain ⟨R, hR⟩ : ∃ R, M.does o = R := ⟨_, rfl⟩
              rw [hR] at hc hst hpk hgd
              clear hR
              obtain ⟨r, er, M'⟩ := R
              have HST := hid hst
              have HPK := hid hpk
              clear hst hpk
              refine hc.mono ?_
              clear hc
              rintro e w5 ⟨rfl, hM5, hF5⟩
              have hf5 := hf4.since hF5 HL.out
              have hBw : Blk w5 wo.heap.size (ints (fillTo (fun i => M.peek i) 17 17)) := hB4.keep hF5 (fun hh => by have := HOL.out _ hh; omega)
              have hBs : Blk w5 wp.heap.size (ints (fillTo (fun i => M.stepsOf ((i : Int) - 1)) 5 5)) := hB3.keep hF5 (fun hh => by have := HOP.out _ hh; omega)
              clear r0 r1 r2 r3 r4 hB3 hB4 hM3 hF5 hf4 HOL HOP
              obtain ⟨r0, r1, r2, r3, r4⟩ := HR.out.cell_five hlt hf5 HO.out
              go_upto_region 18 with (fail)
              go_cut [11] (fun s11 wx => s11 = .bool (keepsB o r er) ∧ wx = w5)
              case first =>
                cases t1 : (er != 0)
                · cases t2 : (o.kind == 0)
                  · cases t3 : (o.kind == 2)
                    · go_wp2_with fail
                      go_meet
                      exact ⟨by simp [keepsB, t1, t2, t3], rfl⟩
                    · cases t4 : (r == 0)
                      · go_wp2_with fail
                        go_meet
                        exact ⟨by simp [keepsB, t1, t2, t4], rfl⟩
                      · go_wp2_with fail
                        go_meet
                        exact ⟨by simp [keepsB, t3, t4], rfl⟩
                  · go_wp2_with fail
                    go_meet
                    exact ⟨by simp [keepsB, t2], rfl⟩
                · go_wp2_with fail
                  go_meet
                  exact ⟨by simp [keepsB, t1], rfl⟩
              case rest =>
                obtain ⟨rfl, hwc⟩ := hcut
                obtain rfl : w5 = wc := hwc.symm
                obtain ⟨kp, hkp⟩ : ∃ kp, keepsB o r er = kp := ⟨_, rfl⟩
                have HPK2 : Hid (∀ (y : Int), kp = true ∨ y ≠ o.at_ → M'.peek y = M.peek y) := by rw [← hkp]; exact HPK.out
                rw [hkp]
                clear hkp HPK r0 r1 r2 r3 r4
                go_wp2_with fail
                go_loopg [12] 17 (fun n i wx => SameRel w5 17 n i wx)
                case atStart => exact ⟨0, by omega, rfl, rfl, Fr.refl _ _⟩
                case round =>
                  obtain ⟨q, hq, rfl, rfl, hF6⟩ := hrel
                  have hM6 := hM5.same hF6
                  by_cases hq17 : q < 17
                  · have hp := fun (W : World) (hW : IsM W b M') => peek_any b M' q W hW
                    have hpk := HPK2.out (q : Int)
                    have cw := (hBw.keep hF6 id).cell (ints_at _ q (by rw [fillTo_len]; exact hq17))
                    rw [fillTo_get _ _ _ _ hq17 hq17] at cw
                    obtain ⟨u, hu⟩ : ∃ u, M'.peek q = u := ⟨_, rfl⟩
                    obtain ⟨v, hv⟩ : ∃ v, M.peek q = v := ⟨_, rfl⟩
                    simp only [hv] at cw
                    rw [hu] at hp
                    rw [hu, hv] at hpk
                    clear hu hv
                    have HP := hid hp
                    clear hp
                    obtain ⟨r0, r1, r2, r3, r4⟩ := HR.out.cell_five hlt (hf5.trans hF6) HO.out
                    clear r0 r1 r3 r4
                    by_cases huv : u = v
                    · subst huv
                      clear hpk
                      have tuu : (u != u) = false := by simp
                      go_wp2_with fail
                      go_quiet ((go_at_call 19; exact ((HP.out _ (hM6.same (Fr.drewN _ _ _))).mono fun _ _ ⟨he, hm⟩ => ⟨he, _, hm.symm⟩)))
                      go_wp2_with fail
                      go_roundg (17 - (q + 1))
                      case measure => omega
                      case rel => exact ⟨q + 1, by omega, rfl, by go_num, hF6.trans (Fr.drewN _ _ _)⟩
                    · have hkp : kp = false := by
                        cases kp
                        · rfl
                        · exact absurd (hpk (.inl rfl)) huv
                      have hat : ((q : Int) != o.at_) = false := by
                        by_cases hh : (q : Int) = o.at_
                        · simp [hh]
                        · exact absurd (hpk (.inr hh)) huv
                      have tuv : (u != v) = true := by simpa using huv
                      subst hkp
                      clear hpk huv
                      go_wp2_with fail
                      go_quiet ((go_at_call 19; exact ((HP.out _ (hM6.same (Fr.drewN _ _ _))).mono fun _ _ ⟨he, hm⟩ => ⟨he, _, hm.symm⟩)))
                      go_wp2_with fail
                      go_roundg (17 - (q + 1))
                      case measure => omega
                      case rel => exact ⟨q + 1, by omega, rfl, by go_num, hF6.trans (Fr.drewN _ _ _)⟩
                  · obtain rfl : q = 17 := by omega
                    obtain ⟨w6, rfl⟩ : ∃ w6, w6 = wr := ⟨_, rfl⟩
                    have hf6 := hf5.trans hF6
                    replace hBs := hBs.keep hF6 id
                    clear hBw HPK2 hM5 hF6 hf5
                    go_wp2_with fail
                    go_loopg [13] 5 (fun n i wx => SameRel w6 5 n i wx)
                    case atStart => exact ⟨0, by omega, rfl, rfl, Fr.refl _ _⟩
                    case round =>
                      obtain ⟨q, hq, rfl, rfl, hF7⟩ := hrel
                      have hM7 := hM6.same hF7
                      by_cases hq5 : q < 5
                      · have hp := fun (W : World) (hW : IsM W b M') => steps_any b M' ((q : Int) - 1) W hW
                        have hst := HST.out ((q : Int) - 1)
                        have cw := (hBs.keep hF7 id).cell (ints_at _ q (by rw [fillTo_len]; exact hq5))
                        rw [fillTo_get _ _ _ _ hq5 hq5] at cw
                        obtain ⟨u, hu⟩ : ∃ u, M'.stepsOf ((q : Int) - 1) = u := ⟨_, rfl⟩
                        obtain ⟨v, hv⟩ : ∃ v, M.stepsOf ((q : Int) - 1) = v := ⟨_, rfl⟩
                        simp only [hv] at cw
                        rw [hu] at hp
                        rw [hu, hv] at hst
                        clear hu hv
                        obtain ⟨r0, r1, r2, r3, r4⟩ := HR.out.cell_five hlt (hf6.trans hF7) HO.out
                        clear r0 r2 r3 r4
                        by_cases he : er = 0
                        · by_cases hz : (q : Int) - 1 = o.w
                          · rw [if_pos ⟨he, hz⟩] at hst
                            subst hst
                            have HP := hid hp
                            have tz : ((q : Int) - 1 == o.w) = true := by simpa using hz
                            subst he
                            clear hp hz
                            go_wp2_with fail
                            refine (HP.out _ hM7).mono ?_
                            rintro e w' ⟨rfl, rfl⟩
                            go_wp2_with fail
                            go_roundg (5 - (q + 1))
                            case measure => omega
                            case rel => exact ⟨q + 1, by omega, rfl, by go_num, hF7⟩
                          · rw [if_neg (fun hh => hz hh.2)] at hst
                            subst hst
                            have HP := hid hp
                            have tz : ((q : Int) - 1 == o.w) = false := by simpa using hz
                            subst he
                            clear hp hz
                            go_wp2_with fail
                            refine (HP.out _ hM7).mono ?_
                            rintro e w' ⟨rfl, rfl⟩
                            go_wp2_with fail
                            go_roundg (5 - (q + 1))
                            case measure => omega
                            case rel => exact ⟨q + 1, by omega, rfl, by go_num, hF7⟩
                        · rw [if_neg (fun hh => he hh.1)] at hst
                          subst hst
                          have HP := hid hp
                          have te : (er == 0) = false := by simpa using he
                          clear hp he
                          go_wp2_with fail
                          refine (HP.out _ hM7).mono ?_
                          rintro e w' ⟨rfl, rfl⟩
                          go_wp2_with fail
                          go_roundg (5 - (q + 1))
                          case measure => omega
                          case rel => exact ⟨q + 1, by omega, rfl, by go_num, hF7⟩
                      · obtain rfl : q = 5 := by omega
                        go_wp2_with fail
                        go_roundg (len - (k + 1))
                        case measure => omega
                        case rel => exact ⟨k + 1, M', by omega, rfl, by go_num, hM7, hgd, hf6.trans hF7⟩
    · go_wp2_with fail
      refine (awake_ok _).mono ?_
      rintro e w2 ⟨rfl, hF2⟩
      go_wp2_with fail
      go_ret
      exact ⟨rfl, (hf.trans hF2).below (Nat.le_refl _) (fun _ hh => hh.elim)⟩

set_option maxRecDepth 100000 in
set_option maxHeartbeats 400000 in
theorem leaveLaw_long (a : Option Addr) (len cap : Nat) (w : World) (h : 60 < len) :
    Calls Try.prog 5 #[.slice a len cap] w fun e w' => e = .returned (.bool true) ∧ Below w.heap.size w w' := by
  have h' : (60 : Int) < len := by omega
  go_enter Try.func5, Try.ntmps5
  go_wp2_with fail
  refine (made_ok _).mono ?_
  rintro e w1 ⟨b, rfl, m1, hF1, hN⟩
  clear hN m1
  go_wp2_with fail
  refine (awake_ok _).mono ?_
  rintro e w2 ⟨rfl, hF2⟩
  go_wp2_with fail
  go_ret
  exact ⟨rfl, (hF1.trans hF2).below (Nat.le_refl _) (fun _ hh => hh.elim)⟩

theorem leaveLaw (a : Option Addr) (len cap : Nat) (f : Nat → Nat → Int) (w : World) (hr : Row w a len 5 f) :
    Calls Try.prog 5 #[.slice a len cap] w fun e w' => e = .returned (.bool true) ∧ Below w.heap.size w w' := by
  by_cases h : len ≤ 60
  · exact leaveLaw_short a len cap f w h hr
  · exact leaveLaw_long a len cap w (by omega)
end Go.Proofs.Ytdhlicagdcefoaa
