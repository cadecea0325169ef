/-
  AsmBlank's walk.
-/
import Derived.Test.YtepbnneggpcbcaaDoorAwake
import Derived.Deep.RegionHeld3
namespace Go.Proofs.YtepbnneggpcbcaaDoor
open Go.RowKit

def LawPost (w : World) (e : Ending) (w' : World) : Prop := e = .returned (.bool true) ∧ Fr (fun _ => False) w w'

set_option maxRecDepth 100000 in
set_option maxHeartbeats 1000000 in
theorem blank_no (i : Ins) (k : Int) (w : World) (ht : Tabs w) (h : chk i ≠ 0) :
    Calls Tryd.prog 6 #[i.val, .int .i64 k] w (LawPost w) := by
  have HL := hid (line_any i)
  have HA := hid awake_ok
  have hA := Fr.alloc (fun _ => False) w (.cells #[.int .i64 i.op, .int .i64 i.a, .int .i64 i.b, .int .i64 i.c, .int .i64 i.n] 23)
  rw [show lnV i = ([], chk i) by unfold lnV; rw [if_neg h]] at HL
  obtain ⟨x, hx⟩ : ∃ x, chk i = x := ⟨_, rfl⟩
  rw [hx] at HL h
  have t1 : (x != 0) = true := by simpa using h
  clear hx h
  unfold Ins.val at *
  go_enter Tryd.func6, Tryd.ntmps6
  go_wp2_with fail
  refine (HL.out _ (ht.same hA)).mono ?_
  rintro e w1 ⟨rfl, hF1⟩
  go_wp2_with fail
  refine (HA.out _ (ht.same (hA.trans hF1))).mono ?_
  rintro e w2 ⟨rfl, hF2⟩
  go_wp2_with fail
  go_ret
  exact ⟨rfl, (hA.trans hF1).trans hF2⟩

set_option maxRecDepth 100000 in
set_option maxHeartbeats 1000000 in
theorem blank_out (i : Ins) (k : Int) (w : World) (ht : Tabs w) (h : chk i = 0) (hk : k < 0 ∨ ((txt i).length : Int) < k) :
    Calls Tryd.prog 6 #[i.val, .int .i64 k] w (LawPost w) := by
  have HL := hid (line_any i)
  have HA := hid awake_ok
  have hA := Fr.alloc (fun _ => False) w (.cells #[.int .i64 i.op, .int .i64 i.a, .int .i64 i.b, .int .i64 i.c, .int .i64 i.n] 23)
  rw [show lnV i = (txt i, 0) by unfold lnV; rw [if_pos h]] at HL
  have hl := txt_len i h
  rw [← bs_size] at hk hl
  obtain ⟨S, hS⟩ : ∃ S, bs (txt i) = S := ⟨_, rfl⟩
  rw [hS] at hk hl
  have HS := hid hS
  clear hS h
  unfold Ins.val at *
  have hHL := HL.out _ (ht.same hA)
  unfold LnPost at hHL
  simp only [HS.out] at hHL
  have HL2 := hid hHL
  clear hHL HL
  have HK := hid hk
  have t2 : (decide (k < 0) || decide ((S.size : Int) < k)) = true := by simpa using hk
  clear hk
  by_cases hk0 : k < 0
  · go_enter Tryd.func6, Tryd.ntmps6
    go_wp2_with fail
    refine HL2.out.mono ?_
    rintro e w1 ⟨rfl, hF1⟩
    go_wp2_with fail
    refine (HA.out _ (ht.same (hA.trans hF1))).mono ?_
    rintro e w2 ⟨rfl, hF2⟩
    go_wp2_with fail
    go_ret
    exact ⟨rfl, (hA.trans hF1).trans hF2⟩
  · have hk1 : (S.size : Int) < k := HK.out.resolve_left hk0
    have hk2 : ¬ k < 0 := hk0
    go_enter Tryd.func6, Tryd.ntmps6
    go_wp2_with fail
    refine HL2.out.mono ?_
    rintro e w1 ⟨rfl, hF1⟩
    go_wp2_with fail
    refine (HA.out _ (ht.same (hA.trans hF1))).mono ?_
    rintro e w2 ⟨rfl, hF2⟩
    go_wp2_with fail
    go_ret
    exact ⟨rfl, (hA.trans hF1).trans hF2⟩

theorem blank_bytes (t : Bs) (k : Nat) : bs (t.take k ++ 32 :: t.drop k) = (bs t).extract 0 k ++ ⟨#[32]⟩ ++ (bs t).extract k (bs t).size := by
  rw [bs_size]
  unfold bs
  apply ByteArray.ext
  simp
  rw [List.take_of_length_le (by simp)]

theorem add_ok (a b : ByteArray) (ha : a.size ≤ 200000) (hb : b.size ≤ 200000) : ∀ W, (Op.stringOp .add a b).run Tryd.prog W = .ok (.string (a ++ b)) W := fun W => run_string_add_sum W a b (by omega)

theorem blank_size (a : ByteArray) (h : a.size ≤ 30) : (a ++ ⟨#[32]⟩ : ByteArray).size ≤ 200000 := by
  rw [ByteArray.size_append]
  exact Nat.le_trans (Nat.add_le_add h (Nat.le_refl 1)) (by decide)

theorem fr_five {S : Nat → Prop} (w : World) (b : Nat) (v0 v1 v2 v3 v4 : Value) (h : S b) : Fr S w (((((w.setCell ⟨b, 0, none⟩ v0).setCell ⟨b, 1, none⟩ v1).setCell ⟨b, 2, none⟩ v2).setCell ⟨b, 3, none⟩ v3).setCell ⟨b, 4, none⟩ v4) :=
  ((((Fr.setCell _ _ _ h).trans (Fr.setCell _ _ _ h)).trans (Fr.setCell _ _ _ h)).trans (Fr.setCell _ _ _ h)).trans (Fr.setCell _ _ _ h)

theorem blank_len (t : Bs) (k : Nat) (h : t.length ≤ 30) : (t.take k ++ 32 :: t.drop k).length ≤ 31 := by
  rw [List.length_append, List.length_cons, List.length_take, List.length_drop]
  omega

theorem blank_read (i : Ins) (k : Nat) (h : chk i = 0) : ∃ q : Ins × Int, (q.2 = 14 ∨ q.2 = 11) ∧ ∀ w, Tabs w → Calls Tryd.prog 14 #[.string ((bs (txt i)).extract 0 k ++ ⟨#[32]⟩ ++ (bs (txt i)).extract k (bs (txt i)).size)] w (RdPost w q) := by
  have hr := rd_blank i h k
  have hl := blank_len (txt i) k (txt_len i h)
  rw [← blank_bytes]
  generalize (txt i).take k ++ 32 :: (txt i).drop k = t at hr hl
  exact ⟨rd t, hr, fun w ht => read_any t (Nat.le_trans hl (by decide)) w ht⟩

set_option maxRecDepth 100000 in
set_option maxHeartbeats 8000000 in
theorem blank_in (i : Ins) (k : Nat) (w : World) (ht : Tabs w) (h : chk i = 0) (hk : k ≤ (txt i).length) :
    Calls Tryd.prog 6 #[i.val, .int .i64 (k : Int)] w (LawPost w) := by
  have HL := hid (line_any i)
  have HA := hid awake_ok
  have hA := Fr.alloc (fun _ => False) w (.cells #[.int .i64 i.op, .int .i64 i.a, .int .i64 i.b, .int .i64 i.c, .int .i64 i.n] 23)
  rw [show lnV i = (txt i, 0) by unfold lnV; rw [if_pos h]] at HL
  have hl := txt_len i h
  obtain ⟨q, hr, hR⟩ := blank_read i k h
  rw [← bs_size] at hk hl
  obtain ⟨S, hS⟩ : ∃ S, bs (txt i) = S := ⟨_, rfl⟩
  rw [hS] at hk hl hR
  obtain ⟨⟨o2, a2, b2, c2, n2⟩, x⟩ := q
  simp only at hr
  unfold Ins.val at *
  have hHL := HL.out _ (ht.same hA)
  unfold LnPost at hHL
  simp only [hS] at hHL
  have HL2 := hid hHL
  have HR := hid hR
  have HX := hid hr
  clear hHL HL hS h hr hR
  have k0 : ¬ (k : Int) < 0 := by omega
  have k1 : ¬ (S.size : Int) < (k : Int) := by omega
  have k2 : (0 : Int) ≤ k := by omega
  have k3 : (k : Int) ≤ S.size := by omega
  have e1 : (S.extract 0 k).size ≤ 30 := by rw [ByteArray.size_extract]; omega
  have e2 : (S.extract k S.size).size ≤ 30 := by rw [ByteArray.size_extract]; omega
  have q5 := add_ok (S.extract 0 k) ⟨#[32]⟩ (Nat.le_trans e1 (by decide)) (by decide)
  have q6 := add_ok (S.extract 0 k ++ ⟨#[32]⟩) (S.extract k S.size) (blank_size _ e1) (Nat.le_trans e2 (by decide))
  go_enter Tryd.func6, Tryd.ntmps6
  go_wp2_with fail
  refine HL2.out.mono ?_
  rintro e w1 ⟨rfl, hF1⟩
  go_wp2_with fail
  have hG := Fr.alloc (fun _ => False) w1 (.cells #[.int .i64 0, .int .i64 0, .int .i64 0, .int .i64 0, .int .i64 0] 23)
  have hB := Blk.new w1 #[.int .i64 0, .int .i64 0, .int .i64 0, .int .i64 0, .int .i64 0] 23
  go_region_held3 (fun _ => True) (exact trivial)
    (first
      | (go_at_call 14; refine (HR.out _ (ht.same (((hA.trans hF1).trans hG).trans (Fr.drew _ _)))).mono ?_; rintro e w2 ⟨rfl, hF2⟩; unfold Ins.val; have hB2 := hB.drew.keep hF2 (fun h => h); have y0 := hB2.frozen 0; have y1 := hB2.frozen 1; have y2 := hB2.frozen 2; have y3 := hB2.frozen 3; have y4 := hB2.frozen 4; have x0 := hB2.cell (i := 0) rfl; have x1 := hB2.cell (i := 1) rfl; have x2 := hB2.cell (i := 2) rfl; have x3 := hB2.cell (i := 3) rfl; have x4 := hB2.cell (i := 4) rfl)
      | (go_at_call 14; refine (HR.out _ (ht.same ((hA.trans hF1).trans (Fr.drew _ _)))).mono ?_; rintro e w2 ⟨rfl, hF2⟩; unfold Ins.val))
  · have hFz : Fr (fun _ => False) w _ := (((hA.trans hF1).trans (Fr.drew _ _)).trans hF2).trans (Fr.alloc _ w2 (.cells #[.int .i64 o2, .int .i64 a2, .int .i64 b2, .int .i64 c2, .int .i64 n2] 23))
    rcases HX.out with rfl | rfl
    all_goals
      go_wp2_with fail
      refine (HA.out _ (ht.same hFz)).mono ?_
      rintro e w3 ⟨rfl, hF3⟩
      go_wp2_with fail
      go_ret
      exact ⟨rfl, hFz.trans hF3⟩
  · have hFz : Fr (fun _ => False) w _ := Fr.own ((((((((hA.trans hF1).trans hG).trans (Fr.drew _ _)).trans hF2).mono (fun _ h => h.elim)).trans (fr_five w2 w1.heap.size (.int .i64 o2) (.int .i64 a2) (.int .i64 b2) (.int .i64 c2) (.int .i64 n2) (by have := hA.size; have := hF1.size; show w.heap.size ≤ _; omega)))))
    rcases HX.out with rfl | rfl
    all_goals
      go_wp2_with fail
      refine (HA.out _ (ht.same hFz)).mono ?_
      rintro e w3 ⟨rfl, hF3⟩
      go_wp2_with fail
      go_ret
      exact ⟨rfl, hFz.trans hF3⟩

theorem blank_any (i : Ins) (k : Int) (w : World) (ht : Tabs w) : Calls Tryd.prog 6 #[i.val, .int .i64 k] w (LawPost w) := by
  by_cases h : chk i = 0
  · by_cases h1 : k < 0
    · exact blank_out i k w ht h (.inl h1)
    · by_cases h2 : ((txt i).length : Int) < k
      · exact blank_out i k w ht h (.inr h2)
      · obtain ⟨n, rfl⟩ : ∃ n : Nat, k = n := ⟨k.toNat, by omega⟩
        exact blank_in i n w ht h (by omega)
  · exact blank_no i k w ht h

end Go.Proofs.YtepbnneggpcbcaaDoor
