/-
  Plain for whatever instruction, the program's and the document's, and the chapter's example.
-/
import Derived.Test.YtedpgfldkjimpaaDoorPl
import Derived.Test.YtedpgfldkjimpaaDoorRPl
namespace Go.Proofs.YtedpgfldkjimpaaDoor
open Go.RowKit
set_option linter.unusedVariables false

/-- Whether an instruction concerns registers alone. -/
def plainB (i : Ins) : Bool := chk i == 0 && decide (i.op ≤ 7)
/-- The task behind it. -/
def Frm.plain (F : Frm) (i : Ins) : Frm := if chk i = 0 then F.did i.op.toNat i.a.toNat i.b.toNat i.c.toNat i.n else F

theorem plain_cases (F : Frm) (i : Ins) : (chk i ≠ 0 ∧ F.plain i = F ∧ plainB i = false) ∨
    ∃ (o a b c : Nat) (n : Int), o ≤ 16 ∧ a < 8 ∧ b < 8 ∧ c < 8 ∧ i = ⟨o, a, b, c, n⟩ ∧ chk i = 0 ∧ F.plain i = F.did o a b c n ∧ plainB i = decide (o ≤ 7) := by
  by_cases h : chk i = 0
  · obtain ⟨o, a, b, c, n, ho, ha, hb, hc, rfl⟩ := chk_letters h
    refine .inr ⟨o, a, b, c, n, ho, ha, hb, hc, rfl, h, ?_, ?_⟩
    · unfold Frm.plain
      rw [if_pos h]
      rfl
    · unfold plainB
      rw [h]
      simp only [beq_self_eq_true, Bool.true_and]
      exact decide_eq_decide.2 (by omega)
  · exact .inl ⟨h, by unfold Frm.plain; rw [if_neg h], by unfold plainB; rw [beq_eq_false_iff_ne.2 h]; rfl⟩

theorem fplain_any {cel : Frm → Array Value} (hC : Cel cel) (F : Frm) (i : Ins) (w : World) (ht : Tabs w) :
    Calls Tryd.prog 13 #[.agg (cel F), i.val] w fun e w' => e = .returned (.tuple #[.agg (cel (F.plain i)), .bool (plainB i)]) ∧ Fr (fun _ => False) w w' := by
  rcases plain_cases F i with ⟨h, e1, e2⟩ | ⟨o, a, b, c, n, ho, ha, hb, hc, e, h, e1, e2⟩
  · rw [e1, e2]
    exact plain_no hC F i w ht h
  · rw [e1, e2]
    subst e
    exact plain_in hC F o a b c n w ht h ho ha hb hc

theorem rplain_any {cel : Frm → Array Value} (hC : Cel cel) (F : Frm) (i : Ins) (w : World) :
    Calls Tryd.prog 15 #[.agg (cel F), i.val] w fun e w' => e = .returned (.tuple #[.agg (cel (F.plain i)), .bool (plainB i)]) ∧ Fr (fun _ => False) w w' := by
  rcases plain_cases F i with ⟨h, e1, e2⟩ | ⟨o, a, b, c, n, ho, ha, hb, hc, e, h, e1, e2⟩
  · rw [e1, e2]
    exact rplain_no hC F i w h
  · rw [e1, e2]
    subst e
    exact rplain_in hC F o a b c n w h ho ha hb hc

theorem ex1 : plainB ⟨0, 1, 0, 0, 7⟩ = true := by decide
theorem ex2 : plainB ⟨2, 2, 1, 1, 0⟩ = true := by decide
theorem ex3 : plainB ⟨6, 0, 0, 0, 0⟩ = true := by decide
theorem ex_r : (((Frm.root.plain ⟨0, 1, 0, 0, 7⟩).plain ⟨2, 2, 1, 1, 0⟩).plain ⟨6, 0, 0, 0, 0⟩).r 2 = 14 := by decide +kernel
theorem ex_pc : (((Frm.root.plain ⟨0, 1, 0, 0, 7⟩).plain ⟨2, 2, 1, 1, 0⟩).plain ⟨6, 0, 0, 0, 0⟩).pc = 0 := by decide +kernel
theorem ex_st : (((Frm.root.plain ⟨0, 1, 0, 0, 7⟩).plain ⟨2, 2, 1, 1, 0⟩).plain ⟨6, 0, 0, 0, 0⟩).st = 3 := by decide +kernel
theorem ex_h : (((Frm.root.plain ⟨0, 1, 0, 0, 7⟩).plain ⟨2, 2, 1, 1, 0⟩).plain ⟨6, 0, 0, 0, 0⟩).h 7 = -1 := by decide +kernel

set_option maxRecDepth 100000 in
set_option maxHeartbeats 2000000 in
theorem awake_in {cel : Frm → Array Value} (hC : Cel cel) (w : World) (ht : Tabs w) : Calls Tryd.prog 12 #[] w fun e w' => e = .returned (.bool true) ∧ Fr (fun _ => False) w w' := by
  obtain ⟨G1, h1⟩ : ∃ G, G = Frm.root.plain ⟨0, 1, 0, 0, 7⟩ := ⟨_, rfl⟩
  obtain ⟨G2, h2⟩ : ∃ G, G = G1.plain ⟨2, 2, 1, 1, 0⟩ := ⟨_, rfl⟩
  obtain ⟨G3, h3⟩ : ∃ G, G = G2.plain ⟨6, 0, 0, 0, 0⟩ := ⟨_, rfl⟩
  have HR := hid (show G3.r 2 = 14 by rw [h3, h2, h1]; exact ex_r)
  have HPC := hid (show G3.pc = 0 by rw [h3, h2, h1]; exact ex_pc)
  have HST := hid (show G3.st = 3 by rw [h3, h2, h1]; exact ex_st)
  have HH := hid (show G3.h 7 = -1 by rw [h3, h2, h1]; exact ex_h)
  have C1 := fun w' (F' : Fr (fun _ => False) w w') => fplain_any hC Frm.root ⟨0, 1, 0, 0, 7⟩ w' (ht.same F')
  have C2 := fun w' (F' : Fr (fun _ => False) w w') => fplain_any hC G1 ⟨2, 2, 1, 1, 0⟩ w' (ht.same F')
  have C3 := fun w' (F' : Fr (fun _ => False) w w') => fplain_any hC G2 ⟨6, 0, 0, 0, 0⟩ w' (ht.same F')
  rw [← h1, ex1] at C1
  rw [← h2, ex2] at C2
  rw [← h3, ex3] at C3
  have HC1 := hid C1
  have HC2 := hid C2
  have HC3 := hid C3
  clear C1 C2 C3 h1 h2 h3 ht
  unfold Ins.val at HC1 HC2 HC3
  go_enter Tryd.func12, Tryd.ntmps12
  go_wp2_with fail
  refine (root_any hC _).mono ?_
  rintro e w1 ⟨rfl, hF1⟩
  go_wp2_with fail
  refine (HC1.out _ hF1).mono ?_
  rintro e w2 ⟨rfl, hF2⟩
  go_wp2_with (refine row_store rfl 25 _ _ rfl _ _ rfl rfl (Blk.new w2 zeros 25) infoF rfl (hC.size _) (hC.one _) ?_)
  intro w3 hB3 hF3
  have HF3 := hid ((hF1.trans (hF2.trans (Fr.alloc _ _ _))).over hF3 (Nat.le_trans hF1.size hF2.size))
  clear hF3
  go_wp2_with (refine row_load rfl 25 _ rfl _ rfl hB3 Tryd.underlying25 rfl infoF (hC.size _) ?_)
  refine (HC2.out _ HF3.out).mono ?_
  rintro e w4 ⟨rfl, hF4⟩
  have hB4 := hB3.keep hF4 (fun h => h)
  clear hB3
  go_wp2_with (refine row_store rfl 25 _ _ rfl _ _ rfl rfl hB4 infoF (hC.size _) (hC.size _) (hC.one _) ?_)
  intro w5 hB5 hF5
  have HF5 := hid ((HF3.out.trans hF4).over hF5 (Nat.le_trans hF1.size hF2.size))
  clear hF5 hB4
  go_wp2_with (refine row_load rfl 25 _ rfl _ rfl hB5 Tryd.underlying25 rfl infoF (hC.size _) ?_)
  refine (HC3.out _ HF5.out).mono ?_
  rintro e w6 ⟨rfl, hF6⟩
  have hB6 := hB5.keep hF6 (fun h => h)
  clear hB5
  go_wp2_with (refine row_store rfl 25 _ _ rfl _ _ rfl rfl hB6 infoF (hC.size _) (hC.size _) (hC.one _) ?_)
  intro w7 hB7 hF7
  have HF7 := hid ((HF5.out.trans hF6).over hF7 (Nat.le_trans hF1.size hF2.size))
  clear hF7 hB6
  have q2 := hB7.cell (hC.r G3 2 (by omega))
  have q1 := hB7.cell (hC.pc G3)
  have q18 := hB7.cell (hC.st G3)
  have q17 := hB7.cell (hC.h G3 7 (by omega))
  rw [HR.out] at q2
  rw [HPC.out] at q1
  rw [HST.out] at q18
  rw [HH.out] at q17
  simp only [Nat.reduceAdd] at q2 q17
  go_wp2_with fail
  go_ret
  exact ⟨rfl, HF7.out⟩

theorem awake_any (w : World) (ht : Tabs w) : Calls Tryd.prog 12 #[] w fun e w' => e = .returned (.bool true) ∧ Fr (fun _ => False) w w' := awake_in cel_is w ht

end Go.Proofs.YtedpgfldkjimpaaDoor
