/-
  Plain facts on acts: how long, how late.
-/
import Derived.Test.YtpgbhgkikpmhiaaAw
namespace Go.Proofs.Ytpgbhgkikpmhiaa
set_option linter.unusedVariables false

theorem ins_len (x : Due) (T : List Due) : (ins x T).length = T.length + 1 := by rw [(ins_perm x T).length_eq]; rfl
theorem drp_len (id : Int) (T : List Due) : (drp id T).length ≤ T.length := List.length_filter_le _ _
theorem lat_len (t : Int) (T : List Due) : (lat t T).length ≤ T.length := (List.dropWhile_sublist _).length_le
theorem due_len (t : Int) (T : List Due) : (due t T).length ≤ T.length := (List.takeWhile_sublist _).length_le

theorem setT_len (id n now : Int) (T : List Due) : (setT id n now T).length ≤ T.length + 1 := by
  unfold setT
  cases (decide (id < 0) || decide (n < 1) || decide (1099511627776 < n))
  · cases hasId id T
    · rw [cond_false, cond_false, ins_len]; omega
    · rw [cond_false, cond_true]; omega
  · rw [cond_true]; omega

theorem dropT_len (id : Int) (T : List Due) : (dropT id T).length ≤ T.length := by
  unfold dropT
  cases hasId id T
  · rw [cond_false]; omega
  · rw [cond_true]; exact drp_len _ _

theorem advT_len (n now : Int) (T : List Due) : (advT n now T).length ≤ T.length := by
  unfold advT
  cases advNo n now
  · rw [cond_false]; exact lat_len _ _
  · rw [cond_true]; omega

theorem actT_len (d id n now : Int) (T : List Due) : (actT d id n now T).length ≤ T.length + 1 := by
  unfold actT
  cases d == 0
  · cases d == 1
    · cases d == 2
      · simp
      · have := advT_len n now T; simp only [cond_false, cond_true]; omega
    · have := dropT_len id T; simp only [cond_false, cond_true]; omega
  · exact setT_len _ _ _ _

theorem advL_len (n now : Int) (T : List Due) : (advL n now T).length ≤ T.length := by
  unfold advL
  cases advNo n now
  · have := due_len (now + n) T; simp only [cond_false, idsOf, List.length_map]; exact this
  · simp

theorem actL_len (d n now : Int) (T : List Due) : (actL d n now T).length ≤ T.length := by
  unfold actL
  cases d == 2
  · simp
  · exact advL_len _ _ _

theorem advN_in (n now : Int) (h0 : 0 ≤ now) (h1 : now ≤ 1099511627776) : 0 ≤ advN n now ∧ advN n now ≤ 1099511627776 ∧ now ≤ advN n now := by
  unfold advN
  cases hb : advNo n now
  · unfold advNo at hb
    simp only [Bool.or_eq_false_iff, decide_eq_false_iff_not] at hb
    simp only [cond_false]
    omega
  · simp only [cond_true]; omega

theorem actN_in (d n now : Int) (h0 : 0 ≤ now) (h1 : now ≤ 1099511627776) : 0 ≤ actN d n now ∧ actN d n now ≤ 1099511627776 ∧ now ≤ actN d n now := by
  unfold actN
  cases d == 2
  · simp only [cond_false]; omega
  · exact advN_in n now h0 h1

theorem advNo_no {n now : Int} (h0 : 0 ≤ n) (h1 : n ≤ 1099511627776 - now) : advNo n now = false := by
  unfold advNo
  simp
  omega
theorem advNo_yes {n now : Int} (h : n < 0 ∨ 1099511627776 - now < n) : advNo n now = true := by
  unfold advNo
  rcases h with h | h <;> simp [h]

theorem OwnC.act {w0 w w' : World} {O : Nat → Prop} {c : Nat} {d id n now : Int} {T : List Due} {e : Ending} (h : OwnC w0 w O c now T) (p : DoPost O c d id n now T w e w') :
    ∃ A cap O', e = .returned (.tuple #[.slice A (actL d n now T).length cap, .bool (actB d id T), .int .i64 (actE d id n now T)]) ∧ OwnR w' w.heap.size 3 1 A (actL d n now T).length cap (intsV (actL d n now T)) ∧ OwnC w0 w' O' c (actN d n now) (actT d id n now T) ∧ Fr O w w' ∧ ∀ k, O' k → O k ∨ w.heap.size ≤ k := by
  obtain ⟨A, cap, O', h1, h2, h3, h4, h5⟩ := p
  refine ⟨A, cap, O', h1, h2, ⟨h3, fun k hk => ?_, h.fr.since h4 (fun k hk hl => by have := h.lo k hk; omega)⟩, h4, h5⟩
  rcases h5 k hk with h6 | h6
  · exact h.lo k h6
  · have := h.fr.size; omega

theorem OwnC.older {v w0 w : World} {O : Nat → Prop} {c : Nat} {now : Int} {T : List Due} (h : OwnC w0 w O c now T) (f : Fr (fun _ => False) v w0) : OwnC v w O c now T :=
  ⟨h.ck, fun k hk => Nat.le_trans f.size (h.lo k hk), f.trans h.fr⟩
end Go.Proofs.Ytpgbhgkikpmhiaa
