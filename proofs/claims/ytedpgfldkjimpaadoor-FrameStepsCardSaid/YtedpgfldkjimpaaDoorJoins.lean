/-
  Joined for whatever instruction and kind, the program's and the document's.
-/
import Derived.Test.YtedpgfldkjimpaaDoorJoin
import Derived.Test.YtedpgfldkjimpaaDoorRJoin
namespace Go.Proofs.YtedpgfldkjimpaaDoor
open Go.RowKit

/-- The task behind a join, or a try. -/
def Frm.joined (F : Frm) (i : Ins) (kd v : Int) : Frm :=
  if 2 ≤ kd ∧ kd ≤ 4 then
    if isOp i 10 then ((F.put i.a.toNat (if kd = 4 then 0 else v)).put i.b.toNat (kd - 2)).on
    else if isOp i 9 then if kd = 2 then (F.put i.a.toNat v).on else F.setSt (wrap64 (F.st + 1))
    else F
  else F
def panics (i : Ins) (kd : Int) : Bool := decide (2 < kd) && decide (kd ≤ 4) && isOp i 9
def codeOf (i : Ins) (kd v : Int) : Int := if panics i kd then if kd = 4 then -1 else v else 0

theorem Frm.put_put (F : Frm) (a b : Nat) (x y : Int) (h : a ≠ b) : (F.put b y).put a x = (F.put a x).put b y := by
  unfold Frm.put
  simp only
  congr 1
  funext j
  by_cases h1 : j = a
  · subst h1
    simp [h]
  · simp [h1]
theorem Frm.put_same (F : Frm) (a : Nat) (x y : Int) : (F.put a y).put a x = F.put a x := by
  unfold Frm.put
  simp only
  congr 1
  funext j
  by_cases h1 : j = a <;> simp [h1]

theorem isOp_not {i : Ins} {o p : Int} (h : isOp i o = true) (hp : o ≠ p) : isOp i p = false := by
  unfold isOp at *
  simp only [Bool.and_eq_true, beq_iff_eq] at h
  rw [beq_eq_false_iff_ne.2 (by rw [h.1]; exact hp)]
  rfl
theorem isOp_chk {i : Ins} {o : Int} (h : isOp i o = true) : chk i = 0 := by
  unfold isOp at h
  simp only [Bool.and_eq_true, beq_iff_eq] at h
  exact h.2
theorem isOp_ne {i : Ins} {o : Int} (hc : chk i = 0) (h : isOp i o = false) : i.op ≠ o := by
  intro e
  unfold isOp at h
  rw [e, hc] at h
  simp at h

/-- The ways of a join. -/
inductive JWay (F : Frm) (i : Ins) (kd v : Int) : Frm → Int → Bool → Prop
  | off (h : ¬ (2 ≤ kd ∧ kd ≤ 4)) : JWay F i kd v F 0 false
  | other (h : 2 ≤ kd ∧ kd ≤ 4) (h10 : isOp i 10 = false) (h9 : isOp i 9 = false) : JWay F i kd v F 0 false
  | try_ (a b c : Nat) (n : Int) (ha : a < 8) (hb : b < 8) (hi : i = ⟨10, a, b, c, n⟩) (h10 : isOp i 10 = true) (x y : Int) (h : (kd = 2 ∧ x = v ∧ y = 0) ∨ (kd = 3 ∧ x = v ∧ y = 1) ∨ (kd = 4 ∧ x = 0 ∧ y = 2)) : JWay F i kd v ((F.put a x).put b y).on 0 false
  | join (a b c : Nat) (n : Int) (ha : a < 8) (hi : i = ⟨9, a, b, c, n⟩) (h9 : isOp i 9 = true) (h : kd = 2) : JWay F i kd v (F.put a v).on 0 false
  | panic (a b c : Nat) (n : Int) (hi : i = ⟨9, a, b, c, n⟩) (h9 : isOp i 9 = true) (x : Int) (h : (kd = 3 ∧ x = v) ∨ (kd = 4 ∧ x = -1)) : JWay F i kd v (F.setSt (wrap64 (F.st + 1))) x true

theorem joined_way (F : Frm) (i : Ins) (kd v : Int) : JWay F i kd v (F.joined i kd v) (codeOf i kd v) (panics i kd) := by
  by_cases h : 2 ≤ kd ∧ kd ≤ 4
  · rcases Bool.eq_false_or_eq_true (isOp i 10) with h10 | h10
    · have h9 := isOp_not h10 (p := 9) (by omega)
      obtain ⟨a, b, c, n, ha, hb, hc, hi⟩ := isOp_letters h10
      have e1 : F.joined i kd v = ((F.put a (if kd = 4 then 0 else v)).put b (kd - 2)).on := by
        unfold Frm.joined
        rw [if_pos h, if_pos h10, hi]
        rfl
      have e2 : panics i kd = false := by unfold panics; rw [h9]; simp
      have e3 : codeOf i kd v = 0 := by unfold codeOf; rw [e2]; rfl
      rw [e1, e2, e3]
      refine JWay.try_ a b c n ha hb hi h10 _ _ ?_
      have : kd = 2 ∨ kd = 3 ∨ kd = 4 := by omega
      rcases this with rfl | rfl | rfl
      · exact .inl ⟨rfl, rfl, rfl⟩
      · exact .inr (.inl ⟨rfl, rfl, rfl⟩)
      · exact .inr (.inr ⟨rfl, rfl, rfl⟩)
    · rcases Bool.eq_false_or_eq_true (isOp i 9) with h9 | h9
      · obtain ⟨a, b, c, n, ha, hb, hc, hi⟩ := isOp_letters h9
        by_cases h2 : kd = 2
        · have e1 : F.joined i kd v = (F.put a v).on := by
            unfold Frm.joined
            rw [if_pos h, if_neg (by rw [h10]; simp), if_pos h9, if_pos h2, hi]
            rfl
          have e2 : panics i kd = false := by unfold panics; rw [h2]; rfl
          have e3 : codeOf i kd v = 0 := by unfold codeOf; rw [e2]; rfl
          rw [e1, e2, e3]
          exact JWay.join a b c n ha hi h9 h2
        · have e1 : F.joined i kd v = F.setSt (wrap64 (F.st + 1)) := by
            unfold Frm.joined
            rw [if_pos h, if_neg (by rw [h10]; simp), if_pos h9, if_neg h2]
          have e2 : panics i kd = true := by
            unfold panics
            rw [h9, decide_eq_true (show 2 < kd by omega), decide_eq_true h.2]
            rfl
          have e3 : codeOf i kd v = if kd = 4 then -1 else v := by unfold codeOf; rw [e2]; rfl
          rw [e1, e2, e3]
          refine JWay.panic a b c n hi h9 _ ?_
          have : kd = 3 ∨ kd = 4 := by omega
          rcases this with rfl | rfl
          · exact .inl ⟨rfl, rfl⟩
          · exact .inr ⟨rfl, rfl⟩
      · have e1 : F.joined i kd v = F := by
          unfold Frm.joined
          rw [if_pos h, if_neg (by rw [h10]; simp), if_neg (by rw [h9]; simp)]
        have e2 : panics i kd = false := by unfold panics; rw [h9]; simp
        have e3 : codeOf i kd v = 0 := by unfold codeOf; rw [e2]; rfl
        rw [e1, e2, e3]
        exact JWay.other h h10 h9
  · have e1 : F.joined i kd v = F := by unfold Frm.joined; rw [if_neg h]
    have e2 : panics i kd = false := by
      unfold panics
      by_cases h2 : 2 < kd
      · rw [decide_eq_false (show ¬ kd ≤ 4 by omega)]
        simp
      · rw [decide_eq_false h2]
        simp
    have e3 : codeOf i kd v = 0 := by unfold codeOf; rw [e2]; rfl
    rw [e1, e2, e3]
    exact JWay.off h

theorem join_any {cel : Frm → Array Value} (hC : Cel cel) (F : Frm) (i : Ins) (kd v : Int) (w : World) (ht : Tabs w) :
    Calls Tryd.prog 25 #[.agg (cel F), i.val, .int .i64 kd, .int .i64 v] w fun e w' => e = .returned (.tuple #[.agg (cel (F.joined i kd v)), .int .i64 (codeOf i kd v), .bool (panics i kd)]) ∧ Fr (fun _ => False) w w' := by
  have hw := joined_way F i kd v
  generalize F.joined i kd v = G at hw ⊢
  generalize codeOf i kd v = x at hw ⊢
  generalize panics i kd = p at hw ⊢
  cases hw with
  | off h =>
    by_cases hk : chk i = 0
    · rcases (show kd < 2 ∨ 4 < kd by omega) with h1 | h1
      · exact join_no2 hC F i kd v w ht hk h1
      · exact join_no3 hC F i kd v w ht hk h1
    · exact join_no1 hC F i kd v w ht hk
  | other h h10 h9 =>
    by_cases hk : chk i = 0
    · exact join_no4 hC F i kd v w ht hk h (isOp_ne hk h9) (isOp_ne hk h10)
    · exact join_no1 hC F i kd v w ht hk
  | try_ a b c n ha hb hi h10 x y h =>
    have hk := isOp_chk h10
    subst hi
    by_cases hab : a = b
    · subst hab
      rw [F.put_same]
      rcases h with ⟨rfl, rfl, rfl⟩ | ⟨rfl, rfl, rfl⟩ | ⟨rfl, rfl, rfl⟩
      · have := join_try2e hC F a c n x w ht hk ha
        rwa [F.put_same] at this
      · have := join_try3e hC F a c n x w ht hk ha
        rwa [F.put_same] at this
      · have := join_try4e hC F a c n v w ht hk ha
        rwa [F.put_same] at this
    · rw [← F.put_put a b _ _ hab]
      rcases h with ⟨rfl, rfl, rfl⟩ | ⟨rfl, rfl, rfl⟩ | ⟨rfl, rfl, rfl⟩
      · exact join_try2n hC F a b c n _ w ht hk ha hb hab
      · exact join_try3n hC F a b c n _ w ht hk ha hb hab
      · exact join_try4n hC F a b c n _ w ht hk ha hb hab
  | join a b c n ha hi h9 h =>
    have hk := isOp_chk h9
    subst hi
    subst h
    exact join_join2 hC F a b c n _ w ht hk ha
  | panic a b c n hi h9 x h =>
    have hk := isOp_chk h9
    subst hi
    rcases h with ⟨rfl, rfl⟩ | ⟨rfl, rfl⟩
    · exact join_join3 hC F a b c n _ w ht hk
    · exact join_join4 hC F a b c n _ w ht hk

theorem rjoin_any {cel : Frm → Array Value} (hC : Cel cel) (F : Frm) (i : Ins) (kd v : Int) (w : World) :
    Calls Tryd.prog 26 #[.agg (cel F), i.val, .int .i64 kd, .int .i64 v] w fun e w' => e = .returned (.tuple #[.agg (cel (F.joined i kd v)), .int .i64 (codeOf i kd v), .bool (panics i kd)]) ∧ Fr (fun _ => False) w w' := by
  have hw := joined_way F i kd v
  generalize F.joined i kd v = G at hw ⊢
  generalize codeOf i kd v = x at hw ⊢
  generalize panics i kd = p at hw ⊢
  cases hw with
  | off h => exact rjoin_no1 hC F i kd v w (by omega) (by omega) (by omega)
  | other h h10 h9 =>
    rcases (show kd = 2 ∨ kd = 3 ∨ kd = 4 by omega) with rfl | rfl | rfl
    · exact rjoin_no2_2 hC F i v w h10 h9
    · exact rjoin_no2_3 hC F i v w h10 h9
    · exact rjoin_no2_4 hC F i v w h10 h9
  | try_ a b c n ha hb hi h10 x y h =>
    subst hi
    rcases h with ⟨rfl, rfl, rfl⟩ | ⟨rfl, rfl, rfl⟩ | ⟨rfl, rfl, rfl⟩
    · exact rjoin_try2 hC F a b c n _ w h10 ha hb
    · exact rjoin_try3 hC F a b c n _ w h10 ha hb
    · exact rjoin_try4 hC F a b c n _ w h10 ha hb
  | join a b c n ha hi h9 h =>
    have h10 := isOp_not h9 (p := 10) (by omega)
    subst hi
    subst h
    exact rjoin_join2 hC F a b c n _ w h9 h10 ha
  | panic a b c n hi h9 x h =>
    obtain ⟨a', _, _, _, ha', _, _, e⟩ := isOp_letters h9
    have h10 := isOp_not h9 (p := 10) (by omega)
    subst hi
    have haa : a < 8 := by
      have := congrArg Ins.a e
      simp only at this
      omega
    rcases h with ⟨rfl, rfl⟩ | ⟨rfl, rfl⟩
    · exact rjoin_join3 hC F a b c n _ w h9 h10 haa
    · exact rjoin_join4 hC F a b c n _ w h9 h10 haa

end Go.Proofs.YtedpgfldkjimpaaDoor
