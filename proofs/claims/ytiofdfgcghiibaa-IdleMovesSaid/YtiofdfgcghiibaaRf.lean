/-
  The document's bits: Bits, Has, Members, First.
-/
import Derived.Test.YtiofdfgcghiibaaLst
import Derived.Test.YtiofdfgcghiibaaFst
import Derived.WalkKit
namespace Go.Proofs.Ytiofdfgcghiibaa
open Go.RowKit
set_option linter.unusedVariables false

theorem Try.infob : (Try.prog.info? 4).map (fun i => (i.zero, i.size, i.bytes)) = some (some (.bool false), 1, 1) := by kernel_rfl

def bitsV (x : Int) (n : Nat) : List Value := (List.range n).map fun k => .bool (bitB x k)
theorem bitsV_len (x : Int) (n : Nat) : (bitsV x n).length = n := by simp [bitsV]
theorem bitsV_succ (x : Int) (n : Nat) : bitsV x (n + 1) = bitsV x n ++ [.bool (bitB x n)] := by simp [bitsV, List.range_succ]
theorem bitsV_at (x : Int) (n k : Nat) (h : k < n) : (bitsV x n)[k]? = some (.bool (bitB x k)) := by simp [bitsV, h]

/-- What is left behind k halvings. -/
def leftU (x : Int) (k : Nat) : Int := x % 18446744073709551616 / 2 ^ k

theorem leftU_bit (x : Int) (k : Nat) (h : k < 64) : decide (leftU x k % 2 = 1) = bitB x k := by
  have h1 := bit_wrap x k h
  have h2 : bitB (IntKind.i64.wrap x) k = bitB (x % 18446744073709551616) k := by
    rw [← bit_wrap (x % 18446744073709551616) k h]
    congr 1
    rw [IntKind.wrap_i64, IntKind.wrap_i64]
    omega
  rw [← h1, h2]
  rfl
theorem leftU_nn (x : Int) (k : Nat) : 0 ≤ leftU x k := Int.ediv_nonneg (by omega) (Int.le_of_lt (Int.pow_pos (by decide)))
theorem leftU_lt (x : Int) (k : Nat) : leftU x k ≤ 18446744073709551615 := by
  unfold leftU
  have h1 : x % 18446744073709551616 / 2 ^ k ≤ x % 18446744073709551616 := Int.ediv_le_self _ (by omega)
  omega
theorem leftU_succ (x : Int) (k : Nat) : leftU x (k + 1) = leftU x k / 2 := by
  unfold leftU
  rw [Int.pow_succ, Int.ediv_ediv_of_nonneg (Int.le_of_lt (Int.pow_pos (by decide)))]
theorem leftU_zero (x : Int) : leftU x 0 = x % 18446744073709551616 := by simp [leftU]

def BtRel (x : Int) (w : World) (B : Nat) (d : Nat) (s l z : Value) (wr : World) : Prop :=
  ∃ (k : Nat) (A : Option Addr) (cap : Nat), k ≤ 64 ∧ d = 65 - k ∧ s = .slice A k cap ∧ l = .int .u64 (leftU x k) ∧ z = .int .i64 k ∧ OwnR wr B 4 1 A k cap (bitsV x k) ∧ Fr (fun _ => False) w wr ∧ B ≤ wr.heap.size

def BtPost (x : Int) (w : World) (e : Ending) (w' : World) : Prop := ∃ g cap, e = .returned (.slice (some ⟨g, 0, none⟩) 64 cap) ∧ OwnR w' w.heap.size 4 1 (some ⟨g, 0, none⟩) 64 cap (bitsV x 64) ∧ Fr (fun _ => False) w w'

theorem bits_cell {x : Int} {g cap B : Nat} {w : World} (h : OwnR w B 4 1 (some ⟨g, 0, none⟩) 64 cap (bitsV x 64)) : g < w.heap.size ∧ ∀ k, k < 64 → w.cell? ⟨g, k, none⟩ = some (.bool (bitB x k)) := by
  obtain ⟨g', hA, hB, hg, _, hc⟩ := h.cell (by omega)
  cases hA
  exact ⟨hg, fun k hk => hc k _ (bitsV_at x 64 k hk)⟩

set_option maxRecDepth 100000 in
set_option maxHeartbeats 1000000 in
theorem bits_any (x : Int) (w : World) : Calls Try.prog 69 #[.int .i64 x] w (BtPost x w) := by
  obtain ⟨i0, hi, hz⟩ := Option.map_eq_some_iff.1 Try.infob
  simp only [Prod.mk.injEq] at hz
  obtain ⟨hz0, hz1, hz2⟩ := hz
  have HII := hid hi
  have HZ0 := hid hz0
  have HZ1 := hid hz1
  have HZ2 := hid hz2
  clear hi hz0 hz1 hz2
  have hl0 := leftU_zero x
  have HL0 := hid hl0
  clear hl0
  go_enter Try.func69, Try.ntmps69
  go_wp2_with fail
  obtain ⟨w1, hw1⟩ : ∃ w1, w.alloc (.cells #[] 4) = w1 := ⟨_, rfl⟩
  have HO1 := hid (show OwnR w1 w.heap.size 4 1 (some ⟨w.heap.size, 0, none⟩) 0 0 (bitsV x 0) from by rw [← hw1]; exact ⟨by simp [bitsV], .inr ⟨w.heap.size, 0, #[], rfl, Nat.le_refl _, TBlk.new w #[] 4, Nat.le_refl _, by unfold maxLen; omega, by simp, by simp [bitsV]⟩⟩)
  have HF1 := hid (show Fr (fun _ => False) w w1 from by rw [← hw1]; exact Fr.alloc _ _ _)
  rw [hw1]
  clear hw1
  go_loopg [3, 4, 5] 65 (fun d s l z wr => BtRel x w w.heap.size d s l z wr)
  case atStart => exact ⟨0, _, 0, by omega, rfl, rfl, by rw [HL0.out, IntKind.wrap_u64], rfl, HO1.out, HF1.out, HF1.out.size⟩
  case round =>
    clear HO1 HF1 HL0
    obtain ⟨k, A, cap, hk, rfl, rfl, rfl, rfl, hO, hF, hS⟩ := hrel
    have HK := hid hk
    have HF := hid hF
    have HO := hid (hO.same (Fr.alloc (fun _ => False) wr (.cells #[.bool (bitB x k)] 4)))
    have HOO := hid hO
    have HS := hid hS
    clear hk hF hO hS
    by_cases hlt : k < 64
    · have hlt2 : (k : Int) < 64 := by omega
      have hb := leftU_bit x k hlt
      have hs := leftU_succ x k
      have h0 := leftU_nn x k
      have h9 := leftU_lt x k
      obtain ⟨L, hL⟩ : ∃ L, leftU x k = L := ⟨_, rfl⟩
      obtain ⟨bb, hbb⟩ : ∃ b, bitB x k = b := ⟨_, rfl⟩
      have HBB := hid hbb
      have HSS := hid hs
      have HLL := hid hL
      rw [hL, hbb] at hb
      rw [hL] at h0 h9 ⊢
      rw [hbb] at HO
      have t1 : (L % 2 == 1) = bb := by rw [← hb, Bool.eq_iff_iff]; simp
      have HNW := hid (one_new wr 4 (.bool bb) _ rfl)
      have HS3 := hid (show w.heap.size ≤ (wr.alloc (.cells #[.bool bb] 4)).heap.size from by have := HS.out; simp; omega)
      clear hs hL hbb hb
      go_wp2_with (at_builtin; go_must (refine wpList_append_own _ rfl _ _ 129 rfl w.heap.size 4 i0 (.bool false) 1 1 Try.underlying129 HII.out HZ0.out HZ1.out HZ2.out rfl (by decide) (.slice A k cap) k _ rfl HO.out ⟨wr.heap.size, 0, none⟩ 1 1 [.bool bb] rfl rfl HNW.out (by simp [Value.oneCell']) (by unfold maxLen; omega) (by omega) HS3.out ?_; intro v2 w10 hown2 hgrow2 hnil2; clear hnil2; obtain ⟨A2, c2, rfl, ho2⟩ := OwnR.form hown2; have HO4 := hid ho2; have HFG := hid (Fr.of_grown hgrow2); clear hown2 hgrow2 ho2))
      go_roundg (65 - (k + 1))
      case rel =>
        have hlo := fun i hi => (OwnR.lt HO.out i hi).1
        exact ⟨k + 1, A2, c2, by omega, rfl, rfl, by rw [HSS.out, HLL.out], by go_num, OwnR.eq HO4.out (by rw [bitsV_succ, HBB.out]), (HF.out.trans (Fr.alloc _ _ _)).since HFG.out (fun i hi hl => by have := hlo i hi; omega), Nat.le_trans HS3.out HFG.out.size⟩
      case measure => omega
    · obtain rfl : k = 64 := by have := HK.out; omega
      go_wp2_with fail
      go_ret
      obtain ⟨g, hA, hB, hg, _, hc⟩ := HOO.out.cell (by omega)
      subst hA
      exact ⟨g, cap, rfl, HOO.out, HF.out⟩

set_option maxHeartbeats 1000000 in
theorem rhas_any (x v : Int) (w : World) : Calls Try.prog 31 #[.int .i64 x, .int .i64 v] w fun e w' => e = .returned (.bool (hasB x v)) ∧ Fr (fun _ => False) w w' := by
  by_cases h0 : 0 ≤ v
  · by_cases h1 : v < 64
    · obtain ⟨k, rfl⟩ := Int.eq_ofNat_of_zero_le h0
      have hk : k < 64 := by omega
      have hk2 : ¬ (63 : Int) < (k : Int) := by omega
      rw [has_nat x k hk]
      obtain ⟨bb, hbb⟩ : ∃ b, bitB x k = b := ⟨_, rfl⟩
      have HBB := hid hbb
      rw [hbb]
      clear hbb
      go_enter Try.func31, Try.ntmps31
      go_wp2_with fail
      refine (bits_any x _).mono ?_
      rintro e w1 ⟨g, cap, rfl, ho, hF⟩
      have c0 := (bits_cell ho).2 k hk
      rw [HBB.out] at c0
      have HF := hid hF
      clear ho hF
      go_wp2_with fail
      go_ret
      exact ⟨rfl, HF.out⟩
    · rw [has_out x v (by omega)]
      have h2 : (63 : Int) < v := by omega
      go_enter Try.func31, Try.ntmps31
      go_wp2_with fail
      go_ret
      exact ⟨rfl, Fr.refl _ _⟩
  · rw [has_out x v (by omega)]
    have h2 : v < 0 := by omega
    go_enter Try.func31, Try.ntmps31
    go_wp2_with fail
    go_ret
    exact ⟨rfl, Fr.refl _ _⟩

def RfRel (x : Int) (m : Nat) (w : World) (d : Nat) (z : Value) (wr : World) : Prop := ∃ k : Nat, k ≤ m ∧ d = m + 1 - k ∧ z = .int .i64 k ∧ (∀ j, j < k → bitB x j = true) ∧ w = wr

set_option maxRecDepth 100000 in
set_option maxHeartbeats 1000000 in
theorem rfirst_any (x n : Int) (w : World) : Calls Try.prog 34 #[.int .i64 x, .int .i64 n] w fun e w' => ∃ r, e = .returned (.int .i64 r) ∧ FirstP x (lim n) r ∧ Fr (fun _ => False) w w' := by
  obtain ⟨r, hr⟩ := FirstP.ex x (lim n)
  obtain ⟨m, hm⟩ : ∃ m, lim n = m := ⟨_, rfl⟩
  rw [hm] at hr ⊢
  have HR := hid hr
  have HM := hid (show m = (min n 64).toNat from hm.symm)
  clear hr hm
  go_enter Try.func34, Try.ntmps34
  go_wp2_with fail
  refine (bits_any x _).mono ?_
  rintro e w1 ⟨g, cap, rfl, ho, hF⟩
  have HF := hid hF
  have HC := hid (bits_cell ho).2
  clear hF ho
  go_wp2_with fail
  go_loopg [6] (m + 1) (fun d u wr => RfRel x m w1 d u wr)
  case atStart => exact ⟨0, by omega, by omega, rfl, fun j hj => by omega, rfl⟩
  case round =>
    obtain ⟨k, hk, rfl, rfl, hb, hwr⟩ := hrel
    obtain ⟨ws, hws⟩ : ∃ ws, ws = wr := ⟨_, rfl⟩
    rw [← hws] at hwr ⊢
    clear hws
    subst hwr
    have HK := hid hk
    have HB := hid hb
    clear hk hb
    by_cases hlt : k < m
    · have hlt1 : (k : Int) < 64 := by have := HM.out; omega
      have hlt2 : (k : Int) < n := by have := HM.out; omega
      have hk64 : k < 64 := by omega
      have c0 := HC.out k hk64
      rcases hbit : bitB x k with _ | _
      · rw [hbit] at c0
        have HBT := hid hbit
        clear hbit
        have HE := hid (show r = (k : Int) from HR.out.one (.inr ⟨k, hlt, rfl, HBT.out, HB.out⟩))
        go_wp2_with fail
        go_ret
        exact ⟨r, by rw [HE.out]; rfl, HR.out, HF.out⟩
      · rw [hbit] at c0
        have HBT := hid hbit
        clear hbit
        go_wp2_with fail
        go_roundg (m + 1 - (k + 1))
        case rel => exact ⟨k + 1, by omega, rfl, by go_num, fun j hj => by
          by_cases e : j = k
          · subst e; exact HBT.out
          · exact HB.out j (by omega), rfl⟩
        case measure => omega
    · have HE := hid (show r = -1 from HR.out.one (.inl ⟨rfl, fun j hj => HB.out j (by have := HK.out; omega)⟩))
      by_cases hl1 : (k : Int) < 64
      · have hl2 : ¬ (k : Int) < n := by have := HM.out; have := HK.out; omega
        go_wp2_with fail
        go_ret
        exact ⟨r, by rw [HE.out]; rfl, HR.out, HF.out⟩
      · go_wp2_with fail
        go_ret
        exact ⟨r, by rw [HE.out]; rfl, HR.out, HF.out⟩

theorem OwnR.cap {w : World} {B : Nat} {e : TypeId} {k : Nat} {A : Option Addr} {n cap : Nat} {xs : List Value} (h : OwnR w B e k A n cap xs) : n ≤ cap := by
  obtain ⟨h1, h2⟩ := h
  rcases h2 with ⟨h2, h3⟩ | ⟨g, c, cur, hv, hb, hh, hn, _⟩
  · injection h2 with _ h4 h5
    omega
  · injection hv with _ h4 h5
    omega

theorem NatR.take {w : World} {A : Option Addr} {L : List Nat} (h : NatR w A L) (N : Nat) (hN : N ≤ L.length) : NatR w A (L.take N) := by
  intro h0
  rw [List.length_take, Nat.min_eq_left hN] at h0
  obtain ⟨g, off, hA, hg, hc⟩ := h (by omega)
  refine ⟨g, off, hA, hg, fun k hk => ?_⟩
  rw [List.length_take, Nat.min_eq_left hN] at hk
  have := hc k (by omega)
  rw [this, List.getD_eq_getElem?_getD, List.getD_eq_getElem?_getD, List.getElem?_take, if_pos hk]

def RmRel (x : Int) (w : World) (g cap0 : Nat) (d : Nat) (s z : Value) (wr : World) : Prop :=
  ∃ (k m : Nat) (A : Option Addr) (cap : Nat), k ≤ 64 ∧ d = 65 - k ∧ (memN x k).length = m ∧ s = .slice A m cap ∧ z = .int .i64 k ∧ OwnR wr w.heap.size 3 1 A m cap (natsV (memN x k)) ∧ Fr (fun _ => False) w wr ∧ w.heap.size ≤ wr.heap.size ∧ OwnR wr w.heap.size 4 1 (some ⟨g, 0, none⟩) 64 cap0 (bitsV x 64)

set_option maxRecDepth 100000 in
set_option maxHeartbeats 1000000 in
theorem rmem_all (x : Int) (w : World) : Calls Try.prog 29 #[.int .i64 x] w fun e w' => ∃ A cap, e = .returned (.slice A (memN x 64).length cap) ∧ NatR w' A (memN x 64) ∧ Fr (fun _ => False) w w' ∧ (memN x 64).length ≤ cap := by
  obtain ⟨i0, hi, hz⟩ := Option.map_eq_some_iff.1 Try.infon
  simp only [Prod.mk.injEq] at hz
  obtain ⟨hz0, hz1, hz2⟩ := hz
  have HII := hid hi
  have HZ0 := hid hz0
  have HZ1 := hid hz1
  have HZ2 := hid hz2
  clear hi hz0 hz1 hz2
  go_enter Try.func29, Try.ntmps29
  go_wp2_with fail
  refine (bits_any x _).mono ?_
  rintro e w1 ⟨g, cap0, rfl, ho, hF⟩
  have HO1 := hid (show OwnR w1 w.heap.size 3 1 (some ⟨w.heap.size, 0, none⟩) 0 0 (natsV (memN x 0)) from (show OwnR (w.alloc (.cells #[] 3)) w.heap.size 3 1 (some ⟨w.heap.size, 0, none⟩) 0 0 (natsV (memN x 0)) from ⟨by simp [natsV, memN], .inr ⟨w.heap.size, 0, #[], rfl, Nat.le_refl _, TBlk.new w #[] 3, Nat.le_refl _, by unfold maxLen; omega, by simp, by simp [natsV, memN]⟩⟩).same hF)
  have HF1 := hid ((Fr.alloc (fun _ => False) w (.cells #[] 3)).trans hF)
  have HBO := hid ((ho.less (C := w.heap.size) (by simp)))
  clear hF ho
  go_wp2_with fail
  go_loopg [3, 5] 65 (fun d s z wr => RmRel x w g cap0 d s z wr)
  case atStart => exact ⟨0, 0, _, 0, by omega, rfl, rfl, rfl, rfl, HO1.out, HF1.out, HF1.out.size, HBO.out⟩
  case round =>
    obtain ⟨k, m, A, cap, hk, rfl, hm, rfl, rfl, hO, hF, hS, hbo⟩ := hrel
    have HK := hid hk
    have HM := hid hm
    have HO := hid (hO.same (Fr.alloc (fun _ => False) wr (.cells #[.int .i64 (k : Int)] 3)))
    have HOO := hid hO
    have HS := hid hS
    have HF := hid hF
    have HBB := hid hbo
    have HML := hid (memN_len x k)
    clear hk hO hS hF hm hbo HO1 HBO HF1
    by_cases hlt : k < 64
    · have hlt2 : (k : Int) < 64 := by omega
      have c0 := (bits_cell HBB.out).2 k hlt
      have g0 := (bits_cell HBB.out).1
      have hm64 : m ≤ 64 := by have := HML.out; have := HM.out; omega
      rcases hbit : bitB x k with _ | _
      · rw [hbit] at c0
        have HE := hid (memN_no hbit)
        clear hbit
        go_wp2_with fail
        go_roundg (65 - (k + 1))
        case rel => exact ⟨k + 1, m, A, cap, by omega, rfl, by rw [HE.out]; exact HM.out, rfl, by go_num, by rw [HE.out]; exact HOO.out, HF.out, HS.out, HBB.out⟩
        case measure => omega
      · rw [hbit] at c0
        have HE := hid (memN_yes hbit)
        have HNW := hid (one_new wr 3 (.int .i64 (k : Int)) _ rfl)
        have HS3 := hid (show w.heap.size ≤ (wr.alloc (.cells #[.int .i64 (k : Int)] 3)).heap.size from by have := HS.out; simp; omega)
        clear hbit
        go_wp2_with (at_builtin; go_must (refine wpList_append_own _ rfl _ _ 67 rfl w.heap.size 3 i0 (.int .i64 0) 1 8 Try.underlying67 HII.out HZ0.out HZ1.out HZ2.out rfl (by decide) (.slice A m cap) m _ rfl HO.out ⟨wr.heap.size, 0, none⟩ 1 1 [.int .i64 (k : Int)] rfl rfl HNW.out (by simp [Value.oneCell']) (by unfold maxLen; omega) (by omega) HS3.out ?_; intro v2 w10 hown2 hgrow2 hnil2; clear hnil2; obtain ⟨A2, c2, rfl, ho2⟩ := OwnR.form hown2; have HO4 := hid ho2; have HFG := hid (Fr.of_grown hgrow2); clear hown2 hgrow2 ho2))
        go_roundg (65 - (k + 1))
        case rel =>
          have hlo := fun i hi => (OwnR.lt HO.out i hi).1
          have hap := OwnR.apart HO.out (HBB.out.same (Fr.alloc (fun _ => False) wr (.cells #[.int .i64 (k : Int)] 3))) (by decide)
          exact ⟨k + 1, m + 1, A2, c2, by omega, rfl, by rw [HE.out, List.length_append, HM.out]; rfl, rfl, by go_num, OwnR.eq HO4.out (by rw [HE.out, natsV_app]), (HF.out.trans (Fr.alloc _ _ _)).since HFG.out (fun i hi hl => by have := hlo i hi; omega), Nat.le_trans HS3.out HFG.out.size, (HBB.out.same (Fr.alloc (fun _ => False) wr (.cells #[.int .i64 (k : Int)] 3))).keep HFG.out (fun j hj hk => hap j hk hj)⟩
        case measure => omega
    · obtain rfl : k = 64 := by have := HK.out; omega
      go_wp2_with fail
      go_ret
      exact ⟨A, cap, by rw [HM.out]; rfl, HOO.out.natR HM.out.symm, HF.out, by rw [HM.out]; exact HOO.out.cap⟩

theorem rmem_any (x : Int) (w : World) : Calls Try.prog 29 #[.int .i64 x] w (LstPost (memN x 64) w) :=
  (rmem_all x w).mono fun e w' ⟨A, cap, h1, h2, h3, _⟩ => ⟨A, cap, h1, h2, h3⟩
end Go.Proofs.Ytiofdfgcghiibaa
