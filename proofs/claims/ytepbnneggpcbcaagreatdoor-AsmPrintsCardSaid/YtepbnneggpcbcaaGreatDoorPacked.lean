/-
  What is wrong with a function that is to be packed.
-/
import Derived.Test.YtepbnneggpcbcaaGreatDoorMem
namespace Go.Proofs.YtepbnneggpcbcaaGreatDoor
open Go.RowKit

set_option maxHeartbeats 400000 in
theorem within_any (n m : Int) (w : World) :
    Calls Tryz.prog 28 #[.int .i64 n, .int .i64 m] w fun e w' => e = .returned (.bool (decide (1 ≤ n ∧ n ≤ m))) ∧ w = w' := by
  by_cases h1 : 1 ≤ n
  · have t1 : decide (1 ≤ n) = true := by simpa using h1
    by_cases h2 : n ≤ m
    · go_enter Tryz.func28, Tryz.ntmps28
      go_wp2
      go_ret
      exact ⟨ret_bool (by simp [h1, h2]), rfl⟩
    · go_enter Tryz.func28, Tryz.ntmps28
      go_wp2
      go_ret
      exact ⟨ret_bool (by simp; omega), rfl⟩
  · have t1 : decide (1 ≤ n) = false := by simpa using h1
    go_enter Tryz.func28, Tryz.ntmps28
    go_wp2
    go_ret
    exact ⟨ret_bool (by simp), rfl⟩

theorem within_yes (n m : Int) (w : World) (h : 1 ≤ n ∧ n ≤ m) :
    Calls Tryz.prog 28 #[.int .i64 n, .int .i64 m] w fun e w' => e = .returned (.bool true) ∧ w = w' := by
  have := within_any n m w
  rwa [show decide (1 ≤ n ∧ n ≤ m) = true by simpa using h] at this

theorem within_no (n m : Int) (w : World) (h : ¬ (1 ≤ n ∧ n ≤ m)) :
    Calls Tryz.prog 28 #[.int .i64 n, .int .i64 m] w fun e w' => e = .returned (.bool false) ∧ w = w' := by
  have := within_any n m w
  rwa [show decide (1 ≤ n ∧ n ≤ m) = false from decide_eq_false h] at this

theorem fnErr_range {f : Fn} (h : f.needs < 0 ∨ 255 < f.needs) : fnErr f = 10 := by
  unfold fnErr
  rw [if_pos h]
theorem fnErr_long {f : Fn} (h : ¬ (f.needs < 0 ∨ 255 < f.needs)) (h2 : f.code.length < 1 ∨ 128 < f.code.length) : fnErr f = 12 := by
  unfold fnErr
  rw [if_neg h, if_pos h2]
theorem fnErr_code {f : Fn} (h : ¬ (f.needs < 0 ∨ 255 < f.needs)) (h2 : ¬ (f.code.length < 1 ∨ 128 < f.code.length)) : fnErr f = codeErr f.code := by
  unfold fnErr
  rw [if_neg h, if_neg h2]

def PkRel (w : World) (l : List Ins) (d : Nat) (i : Value) (wr : World) : Prop :=
  ∃ k : Nat, k ≤ l.length ∧ d = l.length - k ∧ i = .int .i64 k ∧ codeErr (l.take k) = 0 ∧ Fr (fun _ => False) w wr

set_option maxHeartbeats 1000000 in
theorem packed_code (B : Nat) (A : Option Addr) (c n : Nat) (needs : Int) (l : List Ins) (w : World) (ht : Tabs w) (hB : B ≤ w.heap.size) (hc : Cod w B A l) (hn : l.length = n) (h1 : 0 ≤ needs) (h2 : needs ≤ 255) (h3 : 1 ≤ n) (h4 : n ≤ 128) :
    Calls Tryz.prog 29 #[.agg #[.int .i64 needs, .slice A n c]] w fun e w' => e = .returned (.int .i64 (codeErr l)) ∧ Fr (fun _ => False) w w' := by
  have t1 : ¬ needs < 0 := by omega
  have t2 : ¬ 255 < needs := by omega
  have HN := hid hn
  clear hn
  go_enter Tryz.func29, Tryz.ntmps29
  go_wp2_with fail
  refine (within_yes _ _ _ (by omega)).mono ?_
  rintro e w' ⟨rfl, rfl⟩
  go_wp2_with fail
  go_loopg [22] n (fun d i wr => PkRel w l d i wr)
  case atStart => exact ⟨0, by omega, by rw [HN.out, Nat.sub_zero], rfl, rfl, Fr.alloc _ _ _⟩
  case round =>
    obtain ⟨k, hk, hd, rfl, he, hF⟩ := hrel
    rw [HN.out] at hk hd
    have HE := hid he
    have HD := hid hd
    clear he hd
    by_cases hlt : k < n
    · obtain ⟨⟨op, a, b, c', m⟩, hi⟩ : ∃ i, l[k]? = some i := ⟨_, List.getElem?_eq_getElem (by rw [HN.out]; exact hlt)⟩
      obtain ⟨g, o, rfl, hg, hcell⟩ := (hc.same hF hB) (by rw [HN.out]; omega)
      obtain ⟨p0, p1, p2, p3, p4⟩ := hcell k _ hi
      simp only at p0 p1 p2 p3 p4
      have HI := hid hi
      clear hi hcell
      have hgl : g < wr.heap.size := Nat.lt_of_lt_of_le hg (Nat.le_trans hB hF.size)
      have hT := ht.same (hF.trans (Fr.alloc _ wr (.cells #[.int .i64 op, .int .i64 a, .int .i64 b, .int .i64 c', .int .i64 m] 35)))
      have HK := hid (check_any ⟨op, a, b, c', m⟩)
      unfold Ins.val at HK
      by_cases hch : chk ⟨op, a, b, c', m⟩ = 0
      · have hk2 := HK.out _ hT
        rw [hch] at hk2
        have HK2 := hid hk2
        have HCH := hid hch
        clear HK hk2 hch
        go_wp2_with fail
        refine HK2.out.mono ?_
        rintro e w1 ⟨rfl, hF1⟩
        go_wp2_with fail
        go_roundg (n - (k + 1))
        case rel => exact ⟨k + 1, by rw [HN.out]; omega, by rw [HN.out], by go_num, codeErr_snoc HE.out HI.out HCH.out, (hF.trans (Fr.alloc _ _ _)).trans hF1⟩
        case measure => have := HD.out; omega
      · obtain ⟨x, hx⟩ : ∃ x, chk ⟨op, a, b, c', m⟩ = x := ⟨_, rfl⟩
        have hk2 := HK.out _ hT
        have hfin : codeErr l = x := by rw [← hx]; exact codeErr_take HE.out HI.out hch
        rw [hx] at hk2 hch
        have HK2 := hid hk2
        have HFIN := hid hfin
        have q1 : (x != 0) = true := by simpa using hch
        clear HK hk2 hch hx hfin
        go_wp2_with fail
        refine HK2.out.mono ?_
        rintro e w1 ⟨rfl, hF1⟩
        go_wp2_with fail
        go_ret
        exact ⟨ret_num HFIN.out.symm, (hF.trans (Fr.alloc _ _ _)).trans hF1⟩
    · have hz : codeErr l = 0 := by have h := HE.out; rwa [List.take_of_length_le (by rw [HN.out]; omega)] at h
      have HZ := hid hz
      clear hz
      go_wp2_with fail
      go_ret
      exact ⟨ret_num HZ.out.symm, hF⟩

set_option maxHeartbeats 1000000 in
theorem packed_any (B : Nat) (A : Option Addr) (c : Nat) (f : Fn) (w : World) (ht : Tabs w) (hB : B ≤ w.heap.size) (hc : Cod w B A f.code) :
    Calls Tryz.prog 29 #[.agg #[.int .i64 f.needs, .slice A f.code.length c]] w fun e w' => e = .returned (.int .i64 (fnErr f)) ∧ Fr (fun _ => False) w w' := by
  obtain ⟨needs, l⟩ := f
  simp only at hc ⊢
  by_cases h : needs < 0 ∨ 255 < needs
  · rw [fnErr_range h]
    clear ht hc
    rcases h with h | h
    · go_enter Tryz.func29, Tryz.ntmps29
      go_wp2_with fail
      go_ret
      exact ⟨rfl, Fr.alloc _ _ _⟩
    · have t1 : ¬ needs < 0 := by omega
      go_enter Tryz.func29, Tryz.ntmps29
      go_wp2_with fail
      go_ret
      exact ⟨rfl, Fr.alloc _ _ _⟩
  · by_cases h2 : l.length < 1 ∨ 128 < l.length
    · rw [fnErr_long h h2]
      clear ht hc
      obtain ⟨n, hn⟩ : ∃ n, l.length = n := ⟨_, rfl⟩
      rw [hn] at h2 ⊢
      clear hn
      have t1 : ¬ needs < 0 := by omega
      have t2 : ¬ 255 < needs := by omega
      go_enter Tryz.func29, Tryz.ntmps29
      go_wp2_with fail
      refine (within_no _ _ _ (by omega)).mono ?_
      rintro e w' ⟨rfl, rfl⟩
      go_wp2_with fail
      go_ret
      exact ⟨rfl, Fr.alloc _ _ _⟩
    · rw [fnErr_code h h2]
      exact packed_code B A c l.length needs l w ht hB hc rfl (by omega) (by omega) (by omega) (by omega)

end Go.Proofs.YtepbnneggpcbcaaGreatDoor
