/-
  asm.fields.
-/
import Derived.Test.YtepbnneggpcbcaaGreatDoorNamed
import Derived.Test.YtepbnneggpcbcaaGreatDoorEnc
namespace Go.Proofs.YtepbnneggpcbcaaGreatDoor
open Go.RowKit

theorem Tryz.infon : (Tryz.prog.info? 3).map (fun i => (i.zero, i.size, i.bytes)) = some (some (.int .i64 0), 1, 8) := by kernel_rfl

def nats (l : List Nat) : List Value := l.map fun (k : Nat) => Value.int .i64 (k : Int)
def fldsTo (op j : Nat) : List Nat := (List.range j).filter fun k => ak op k != 0

theorem fldsTo_no {op j : Nat} (h : ak op j = 0) : fldsTo op (j + 1) = fldsTo op j := by
  unfold fldsTo
  rw [List.range_succ, List.filter_append]
  simp [h]
theorem fldsTo_yes {op j : Nat} (h : ak op j ≠ 0) : fldsTo op (j + 1) = fldsTo op j ++ [j] := by
  unfold fldsTo
  rw [List.range_succ, List.filter_append]
  simp [h]

def OwnN (w : World) (B : Nat) (A : Option Addr) (n cap : Nat) (l : List Nat) : Prop := OwnR w B 3 1 A n cap (nats l)

def FlRel (w : World) (B op : Nat) (s k : Value) (d : Nat) (wr : World) : Prop :=
  ∃ (j : Nat) (A : Option Addr) (n cap : Nat), j ≤ 4 ∧ d = 4 - j ∧ k = .int .i64 j ∧ s = .slice A n cap ∧ n ≤ j ∧ OwnN wr B A n cap (fldsTo op j) ∧ Fr (fun k => B ≤ k) w wr

def FlPost (w : World) (l : List Nat) (e : Ending) (w' : World) : Prop :=
  ∃ A cap, e = .returned (.slice A l.length cap) ∧ OwnN w' w.heap.size A l.length cap l ∧ Fr (fun _ => False) w w'

theorem Fr.all {w w' : World} (h : Fr (fun k => w.heap.size ≤ k) w w') : Fr (fun _ => False) w w' :=
  ⟨h.os, h.tape, h.output, h.size, fun k hk _ => h.block k hk (by omega)⟩

theorem Fr.of_grown' {w w' : World} {A : Option Addr} {n cap : Nat} (h : w.grownBy w' (Value.slice A n cap).ownBlock) : Fr (ownB A) w w' := Fr.of_grown h

set_option maxHeartbeats 1000000 in
theorem fields_any (op : Nat) (ho : op < 17) (w : World) (ht : Tabs w) :
    Calls Tryz.prog 23 #[.int .i64 (op : Int)] w (FlPost w (flds op)) := by
  obtain ⟨i0, hi, hz⟩ := Option.map_eq_some_iff.1 Tryz.infon
  simp only [Prod.mk.injEq] at hz
  obtain ⟨hz0, hz1, hz2⟩ := hz
  have HI := hid hi
  have HZ0 := hid hz0
  have HZ1 := hid hz1
  have HZ2 := hid hz2
  clear hi hz0 hz1 hz2
  have H0 := ht.two
  have k0 := ht.kds op 0 ho (by omega)
  have k1 := ht.kds op 1 ho (by omega)
  have k2 := ht.kds op 2 ho (by omega)
  have k3 := ht.kds op 3 ho (by omega)
  simp only [Nat.add_zero] at k0
  have q0 := fun j x hx => index4 (ak op 0 : Nat) (ak op 1 : Nat) (ak op 2 : Nat) (ak op 3 : Nat) x j hx
  have Q0 := hid q0
  clear q0
  obtain ⟨B, hB⟩ : ∃ B, B = w.heap.size := ⟨_, rfl⟩
  have HB := hid hB
  have hBl : B ≤ w.heap.size := by omega
  clear hB
  go_enter Tryz.func23, Tryz.ntmps23
  go_wp2
  go_loopg [3, 10] 4 (fun d s k wr => FlRel w B op s k d wr)
  case atStart => exact ⟨0, none, 0, 0, by omega, by omega, rfl, rfl, by omega, OwnR.nil _ _ _ _, Fr.refl _ _⟩
  case round =>
    obtain ⟨j, A, n, cap, hj, hd, rfl, rfl, hn, ho', hF⟩ := hrel
    have HD := hid hd
    have HO := hid ho'
    clear hd ho' k0 k1 k2 k3
    have hBr : B ≤ wr.heap.size := Nat.le_trans hBl hF.size
    have hm : j = 0 ∨ j = 1 ∨ j = 2 ∨ j = 3 ∨ j = 4 := by omega
    rcases hm with rfl | rfl | rfl | rfl | rfl
    · obtain ⟨x, hx⟩ : ∃ x, ak op 0 = x := ⟨_, rfl⟩
      have q0 : ∀ W, (Instr.index 66 (.agg #[.int .i64 (ak op 0 : Nat), .int .i64 (ak op 1 : Nat), .int .i64 (ak op 2 : Nat), .int .i64 (ak op 3 : Nat)]) (.int .i64 0)).run Tryz.prog W = .ok (.int .i64 (ak op 0 : Nat)) W := Q0.out 0 _ rfl
      rw [show ((0 : Nat) : Int) = 0 from rfl]
      by_cases h0 : x = 0
      · have HX := hid (fldsTo_no (op := op) (j := 0) (by rw [hx, h0]))
        have t : ((ak op 0 : Int) != 0) = false := by rw [hx, h0]; rfl
        clear hx h0
        go_wp2
        go_roundg (4 - (0 + 1))
        case rel => exact ⟨0 + 1, A, n, cap, by omega, rfl, rfl, rfl, by omega, by rw [HX.out]; exact HO.out, hF⟩
        case measure => have := HD.out; omega
      · have HX := hid (fldsTo_yes (op := op) (j := 0) (by rw [hx]; exact h0))
        have t : ((ak op 0 : Int) != 0) = true := by rw [hx]; simpa using h0
        clear hx h0
        have HN1 := hid (news8 wr 3 [.int .i64 0])
        have HO1 := hid (OwnR.same HO.out (Fr.alloc _ wr (.cells #[.int .i64 0] 3)))
        go_wp2_with (at_builtin; refine wpList_append_own _ rfl _ _ 59 rfl B 3 i0 (.int .i64 0) 1 8 Tryz.underlying59 HI.out HZ0.out HZ1.out HZ2.out rfl (by decide) (.slice A n cap) n _ rfl HO1.out ⟨wr.heap.size, 0, none⟩ 1 1 [.int .i64 0] rfl rfl HN1.out (by simp [Value.oneCell']) (by unfold maxLen; omega) (by omega) (by simp; omega) ?_; intro v2 w2 hown2 hgrow2 hnil2; clear hnil2; obtain ⟨A2, c2, rfl, ho2⟩ := OwnR.form hown2; have hF2 := ((Fr.alloc (fun _ => False) wr (.cells #[.int .i64 0] 3)).mono (fun _ h => h.elim)).trans (Fr.of_grown' hgrow2); have HO2 := hid ho2; clear hown2 hgrow2 ho2)
        go_roundg (4 - (0 + 1))
        case rel => exact ⟨0 + 1, A2, n + 1, c2, by omega, rfl, rfl, rfl, by omega, by rw [HX.out]; exact OwnR.eq HO2.out (by simp [nats]), hF.trans (hF2.mono (fun k h => (OwnR.lt HO.out k h).1))⟩
        case measure => have := HD.out; omega
    · obtain ⟨x, hx⟩ : ∃ x, ak op 1 = x := ⟨_, rfl⟩
      have q0 : ∀ W, (Instr.index 66 (.agg #[.int .i64 (ak op 0 : Nat), .int .i64 (ak op 1 : Nat), .int .i64 (ak op 2 : Nat), .int .i64 (ak op 3 : Nat)]) (.int .i64 1)).run Tryz.prog W = .ok (.int .i64 (ak op 1 : Nat)) W := Q0.out 1 _ rfl
      rw [show ((1 : Nat) : Int) = 1 from rfl]
      by_cases h0 : x = 0
      · have HX := hid (fldsTo_no (op := op) (j := 1) (by rw [hx, h0]))
        have t : ((ak op 1 : Int) != 0) = false := by rw [hx, h0]; rfl
        clear hx h0
        go_wp2
        go_roundg (4 - (1 + 1))
        case rel => exact ⟨1 + 1, A, n, cap, by omega, rfl, rfl, rfl, by omega, by rw [HX.out]; exact HO.out, hF⟩
        case measure => have := HD.out; omega
      · have HX := hid (fldsTo_yes (op := op) (j := 1) (by rw [hx]; exact h0))
        have t : ((ak op 1 : Int) != 0) = true := by rw [hx]; simpa using h0
        clear hx h0
        have HN1 := hid (news8 wr 3 [.int .i64 1])
        have HO1 := hid (OwnR.same HO.out (Fr.alloc _ wr (.cells #[.int .i64 1] 3)))
        go_wp2_with (at_builtin; refine wpList_append_own _ rfl _ _ 59 rfl B 3 i0 (.int .i64 0) 1 8 Tryz.underlying59 HI.out HZ0.out HZ1.out HZ2.out rfl (by decide) (.slice A n cap) n _ rfl HO1.out ⟨wr.heap.size, 0, none⟩ 1 1 [.int .i64 1] rfl rfl HN1.out (by simp [Value.oneCell']) (by unfold maxLen; omega) (by omega) (by simp; omega) ?_; intro v2 w2 hown2 hgrow2 hnil2; clear hnil2; obtain ⟨A2, c2, rfl, ho2⟩ := OwnR.form hown2; have hF2 := ((Fr.alloc (fun _ => False) wr (.cells #[.int .i64 1] 3)).mono (fun _ h => h.elim)).trans (Fr.of_grown' hgrow2); have HO2 := hid ho2; clear hown2 hgrow2 ho2)
        go_roundg (4 - (1 + 1))
        case rel => exact ⟨1 + 1, A2, n + 1, c2, by omega, rfl, rfl, rfl, by omega, by rw [HX.out]; exact OwnR.eq HO2.out (by simp [nats]), hF.trans (hF2.mono (fun k h => (OwnR.lt HO.out k h).1))⟩
        case measure => have := HD.out; omega
    · obtain ⟨x, hx⟩ : ∃ x, ak op 2 = x := ⟨_, rfl⟩
      have q0 : ∀ W, (Instr.index 66 (.agg #[.int .i64 (ak op 0 : Nat), .int .i64 (ak op 1 : Nat), .int .i64 (ak op 2 : Nat), .int .i64 (ak op 3 : Nat)]) (.int .i64 2)).run Tryz.prog W = .ok (.int .i64 (ak op 2 : Nat)) W := Q0.out 2 _ rfl
      rw [show ((2 : Nat) : Int) = 2 from rfl]
      by_cases h0 : x = 0
      · have HX := hid (fldsTo_no (op := op) (j := 2) (by rw [hx, h0]))
        have t : ((ak op 2 : Int) != 0) = false := by rw [hx, h0]; rfl
        clear hx h0
        go_wp2
        go_roundg (4 - (2 + 1))
        case rel => exact ⟨2 + 1, A, n, cap, by omega, rfl, rfl, rfl, by omega, by rw [HX.out]; exact HO.out, hF⟩
        case measure => have := HD.out; omega
      · have HX := hid (fldsTo_yes (op := op) (j := 2) (by rw [hx]; exact h0))
        have t : ((ak op 2 : Int) != 0) = true := by rw [hx]; simpa using h0
        clear hx h0
        have HN1 := hid (news8 wr 3 [.int .i64 2])
        have HO1 := hid (OwnR.same HO.out (Fr.alloc _ wr (.cells #[.int .i64 2] 3)))
        go_wp2_with (at_builtin; refine wpList_append_own _ rfl _ _ 59 rfl B 3 i0 (.int .i64 0) 1 8 Tryz.underlying59 HI.out HZ0.out HZ1.out HZ2.out rfl (by decide) (.slice A n cap) n _ rfl HO1.out ⟨wr.heap.size, 0, none⟩ 1 1 [.int .i64 2] rfl rfl HN1.out (by simp [Value.oneCell']) (by unfold maxLen; omega) (by omega) (by simp; omega) ?_; intro v2 w2 hown2 hgrow2 hnil2; clear hnil2; obtain ⟨A2, c2, rfl, ho2⟩ := OwnR.form hown2; have hF2 := ((Fr.alloc (fun _ => False) wr (.cells #[.int .i64 2] 3)).mono (fun _ h => h.elim)).trans (Fr.of_grown' hgrow2); have HO2 := hid ho2; clear hown2 hgrow2 ho2)
        go_roundg (4 - (2 + 1))
        case rel => exact ⟨2 + 1, A2, n + 1, c2, by omega, rfl, rfl, rfl, by omega, by rw [HX.out]; exact OwnR.eq HO2.out (by simp [nats]), hF.trans (hF2.mono (fun k h => (OwnR.lt HO.out k h).1))⟩
        case measure => have := HD.out; omega
    · obtain ⟨x, hx⟩ : ∃ x, ak op 3 = x := ⟨_, rfl⟩
      have q0 : ∀ W, (Instr.index 66 (.agg #[.int .i64 (ak op 0 : Nat), .int .i64 (ak op 1 : Nat), .int .i64 (ak op 2 : Nat), .int .i64 (ak op 3 : Nat)]) (.int .i64 3)).run Tryz.prog W = .ok (.int .i64 (ak op 3 : Nat)) W := Q0.out 3 _ rfl
      rw [show ((3 : Nat) : Int) = 3 from rfl]
      by_cases h0 : x = 0
      · have HX := hid (fldsTo_no (op := op) (j := 3) (by rw [hx, h0]))
        have t : ((ak op 3 : Int) != 0) = false := by rw [hx, h0]; rfl
        clear hx h0
        go_wp2
        go_roundg (4 - (3 + 1))
        case rel => exact ⟨3 + 1, A, n, cap, by omega, rfl, rfl, rfl, by omega, by rw [HX.out]; exact HO.out, hF⟩
        case measure => have := HD.out; omega
      · have HX := hid (fldsTo_yes (op := op) (j := 3) (by rw [hx]; exact h0))
        have t : ((ak op 3 : Int) != 0) = true := by rw [hx]; simpa using h0
        clear hx h0
        have HN1 := hid (news8 wr 3 [.int .i64 3])
        have HO1 := hid (OwnR.same HO.out (Fr.alloc _ wr (.cells #[.int .i64 3] 3)))
        go_wp2_with (at_builtin; refine wpList_append_own _ rfl _ _ 59 rfl B 3 i0 (.int .i64 0) 1 8 Tryz.underlying59 HI.out HZ0.out HZ1.out HZ2.out rfl (by decide) (.slice A n cap) n _ rfl HO1.out ⟨wr.heap.size, 0, none⟩ 1 1 [.int .i64 3] rfl rfl HN1.out (by simp [Value.oneCell']) (by unfold maxLen; omega) (by omega) (by simp; omega) ?_; intro v2 w2 hown2 hgrow2 hnil2; clear hnil2; obtain ⟨A2, c2, rfl, ho2⟩ := OwnR.form hown2; have hF2 := ((Fr.alloc (fun _ => False) wr (.cells #[.int .i64 3] 3)).mono (fun _ h => h.elim)).trans (Fr.of_grown' hgrow2); have HO2 := hid ho2; clear hown2 hgrow2 ho2)
        go_roundg (4 - (3 + 1))
        case rel => exact ⟨3 + 1, A2, n + 1, c2, by omega, rfl, rfl, rfl, by omega, by rw [HX.out]; exact OwnR.eq HO2.out (by simp [nats]), hF.trans (hF2.mono (fun k h => (OwnR.lt HO.out k h).1))⟩
        case measure => have := HD.out; omega
    · have hl : (flds op).length = n := by
        have h : (nats (flds op)).length = n * 1 := HO.out.1
        rw [Nat.mul_one] at h
        rw [← h]
        unfold nats
        rw [List.length_map]
      have HL := hid hl
      clear hl
      rw [show ((4 : Nat) : Int) = 4 from rfl]
      go_wp2
      go_ret
      refine ⟨A, cap, by rw [HL.out]; rfl, ?_, ?_⟩
      · rw [HL.out, ← HB.out]
        exact HO.out
      · rw [HB.out] at hF
        exact hF.all

end Go.Proofs.YtepbnneggpcbcaaGreatDoor
