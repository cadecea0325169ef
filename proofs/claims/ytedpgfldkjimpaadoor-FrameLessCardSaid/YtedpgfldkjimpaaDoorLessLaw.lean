/-
  FrameLess.
-/
import Derived.Test.YtedpgfldkjimpaaDoorRing
import Derived.Deep.LoopGhost
namespace Go.Proofs.YtedpgfldkjimpaaDoor
open Go.RowKit
set_option linter.unusedVariables false

set_option maxRecDepth 100000 in
set_option maxHeartbeats 8000000 in
theorem lessLawC {cel : Frm → Array Value} (hC : Cel cel) (a b c : Int) (W : World) (ht : Tabs W) : Calls Tryd.prog 9 #[.int .i64 a, .int .i64 b, .int .i64 c] W (LawPost W) := by
  have HT := hid (fun (w' : World) (F' : Fr (fun _ => False) W w') => ht.same F')
  clear ht
  obtain ⟨N, hN, hN1, hN2⟩ := nineteen
  have hsz : ∀ F, (cel F).size = N := fun F => by rw [hC.size, hN]
  have HN := hid hN
  clear hN
  obtain ⟨F0, hF0⟩ : ∃ F0, F0 = regs3 a b c := ⟨_, rfl⟩
  have HF0 := hid hF0
  go_enter Tryd.func9, Tryd.ntmps9
  go_wp2_with fail
  refine (root_any hC W).mono ?_
  rintro e w1 ⟨rfl, hF1⟩
  have HA1 := hid hF1
  have hst1 := store_at (P := Tryd.prog) (Blk.new w1 zeros 25) rfl (hC.size Frm.root) (hC.one Frm.root)
  have hz1 : (w1.alloc (.cells zeros 25)).setRow w1.heap.size (cel Frm.root) = w1.alloc (.cells (cel Frm.root) 25) := setRowA _ _ _ _
  rw [hz1] at hst1
  unfold zeros at hst1
  have p0 : (cel Frm.root).setIfInBounds 2 (.int .i64 a) = cel (Frm.root.put 0 a) := hC.put Frm.root 0 a (by omega)
  have p1 : (cel (Frm.root.put 0 a)).setIfInBounds 3 (.int .i64 b) = cel ((Frm.root.put 0 a).put 1 b) := hC.put _ 1 b (by omega)
  have p2 : (cel ((Frm.root.put 0 a).put 1 b)).setIfInBounds 4 (.int .i64 c) = cel F0 := by rw [hF0]; exact hC.put _ 2 c (by omega)
  have r0 : (cel Frm.root)[2]? = some (.int .i64 (Frm.root.r 0)) := hC.r Frm.root 0 (by omega)
  have r1 : (cel (Frm.root.put 0 a))[3]? = some (.int .i64 ((Frm.root.put 0 a).r 1)) := hC.r _ 1 (by omega)
  have r2 : (cel ((Frm.root.put 0 a).put 1 b))[4]? = some (.int .i64 (((Frm.root.put 0 a).put 1 b).r 2)) := hC.r _ 2 (by omega)
  clear hF0 hF1 hz1
  obtain ⟨w2, hw2⟩ : ∃ w2, w2 = w1.alloc (.cells (cel F0) 25) := ⟨_, rfl⟩
  have HA2 := hid (show Fr (fun _ => False) w1 w2 by rw [hw2]; exact Fr.alloc _ _ _)
  have HG2 := hid (show Blk w2 w1.heap.size (cel F0) by rw [hw2]; exact Blk.new _ _ _)
  go_upto_region 5 with fail
  rw [← hw2]
  clear hw2 hst1 p0 p1 p2 r0 r1 r2
  have HAs := hid (HA1.out.trans HA2.out)
  have HLs := hid HA1.out.size
  obtain ⟨e1, e2, e3, e4⟩ := less_r a b c
  obtain ⟨b1, b2, b3, b4⟩ := less_b
  obtain ⟨G0, hG0⟩ : ∃ G, (regs3 a b c).plain ⟨5, 3, 0, 1, 0⟩ = G := ⟨_, rfl⟩
  have HC0 := hid (fun w' (F' : Fr (fun _ => False) W w') => fplain_any hC (regs3 a b c) ⟨5, 3, 0, 1, 0⟩ w' (HT.out w' F'))
  rw [b1, hG0, ← HF0.out] at HC0
  unfold Ins.val at HC0
  simp only at HC0
  rw [hG0] at e1
  have HE0 := hid e1
  clear e1 b1 hG0
  obtain ⟨G1, hG1⟩ : ∃ G, (regs3 a b c).plain ⟨5, 3, 1, 0, 0⟩ = G := ⟨_, rfl⟩
  have HC1 := hid (fun w' (F' : Fr (fun _ => False) W w') => fplain_any hC (regs3 a b c) ⟨5, 3, 1, 0, 0⟩ w' (HT.out w' F'))
  rw [b2, hG1, ← HF0.out] at HC1
  unfold Ins.val at HC1
  simp only at HC1
  rw [hG1] at e2
  have HE1 := hid e2
  clear e2 b2 hG1
  obtain ⟨G2, hG2⟩ : ∃ G, (regs3 a b c).plain ⟨5, 3, 1, 2, 0⟩ = G := ⟨_, rfl⟩
  have HC2 := hid (fun w' (F' : Fr (fun _ => False) W w') => fplain_any hC (regs3 a b c) ⟨5, 3, 1, 2, 0⟩ w' (HT.out w' F'))
  rw [b3, hG2, ← HF0.out] at HC2
  unfold Ins.val at HC2
  simp only at HC2
  rw [hG2] at e3
  have HE2 := hid e3
  clear e3 b3 hG2
  obtain ⟨G3, hG3⟩ : ∃ G, (regs3 a b c).plain ⟨5, 3, 0, 2, 0⟩ = G := ⟨_, rfl⟩
  have HC3 := hid (fun w' (F' : Fr (fun _ => False) W w') => fplain_any hC (regs3 a b c) ⟨5, 3, 0, 2, 0⟩ w' (HT.out w' F'))
  rw [b4, hG3, ← HF0.out] at HC3
  unfold Ins.val at HC3
  simp only at HC3
  rw [hG3] at e4
  have HE3 := hid e4
  clear e4 b4 hG3
  have HGs := hid HG2.out
  have HF2 := hid HAs.out
  go_wp2_with (refine row_load rfl 25 _ rfl _ rfl HGs.out Tryd.underlying25 rfl infoF (hC.size _) ?_)
  refine (HC0.out _ HF2.out).mono ?_
  rintro e v0 ⟨rfl, hFa⟩
  go_wp2_with (refine row_store rfl 25 _ _ rfl _ _ rfl rfl (Blk.new v0 zeros 25) infoF rfl (hC.size _) (hC.one _) ?_)
  intro u0 hB0 hFb
  have hFc := (hFa.trans (Fr.alloc _ _ _)).over hFb hFa.size
  have HGs := hid (HGs.out.keep hFc (fun h => h))
  have HF2 := hid (HF2.out.trans hFc)
  clear hFa hFb hFc
  go_wp2_with (refine row_load rfl 25 _ rfl _ rfl HGs.out Tryd.underlying25 rfl infoF (hC.size _) ?_)
  refine (HC1.out _ HF2.out).mono ?_
  rintro e v1 ⟨rfl, hFa⟩
  go_wp2_with (refine row_store rfl 25 _ _ rfl _ _ rfl rfl (Blk.new v1 zeros 25) infoF rfl (hC.size _) (hC.one _) ?_)
  intro u1 hB1 hFb
  have hFc := (hFa.trans (Fr.alloc _ _ _)).over hFb hFa.size
  have HGs := hid (HGs.out.keep hFc (fun h => h))
  have hB0 := hB0.keep hFc (fun h => h)
  have HF2 := hid (HF2.out.trans hFc)
  clear hFa hFb hFc
  go_wp2_with (refine row_load rfl 25 _ rfl _ rfl HGs.out Tryd.underlying25 rfl infoF (hC.size _) ?_)
  refine (HC2.out _ HF2.out).mono ?_
  rintro e v2 ⟨rfl, hFa⟩
  go_wp2_with (refine row_store rfl 25 _ _ rfl _ _ rfl rfl (Blk.new v2 zeros 25) infoF rfl (hC.size _) (hC.one _) ?_)
  intro u2 hB2 hFb
  have hFc := (hFa.trans (Fr.alloc _ _ _)).over hFb hFa.size
  have HGs := hid (HGs.out.keep hFc (fun h => h))
  have hB0 := hB0.keep hFc (fun h => h)
  have hB1 := hB1.keep hFc (fun h => h)
  have HF2 := hid (HF2.out.trans hFc)
  clear hFa hFb hFc
  go_wp2_with (refine row_load rfl 25 _ rfl _ rfl HGs.out Tryd.underlying25 rfl infoF (hC.size _) ?_)
  refine (HC3.out _ HF2.out).mono ?_
  rintro e v3 ⟨rfl, hFa⟩
  go_wp2_with (refine row_store rfl 25 _ _ rfl _ _ rfl rfl (Blk.new v3 zeros 25) infoF rfl (hC.size _) (hC.one _) ?_)
  intro u3 hB3 hFb
  have hFc := (hFa.trans (Fr.alloc _ _ _)).over hFb hFa.size
  have HGs := hid (HGs.out.keep hFc (fun h => h))
  have hB0 := hB0.keep hFc (fun h => h)
  have hB1 := hB1.keep hFc (fun h => h)
  have hB2 := hB2.keep hFc (fun h => h)
  have HF2 := hid (HF2.out.trans hFc)
  clear hFa hFb hFc
  have x0 := hB0.cell (hC.r G0 3 (by omega))
  have x1 := hB1.cell (hC.r G1 3 (by omega))
  have x2 := hB2.cell (hC.r G2 3 (by omega))
  have x3 := hB3.cell (hC.r G3 3 (by omega))
  rw [HE0.out] at x0
  rw [HE1.out] at x1
  rw [HE2.out] at x2
  rw [HE3.out] at x3
  simp only [Nat.reduceAdd] at x0 x1 x2 x3
  clear HE0 HE1 HE2 HE3 hB0 hB1 hB2 hB3
  have HAW := hid (awake_any u3 (HT.out _ HF2.out))
  go_upto_region 9 with fail
  rcases Int.lt_trichotomy a b with hab | hab | hab
  · have tne : (a != b) = true := by simpa using (show ¬ a = b by omega)
    by_cases hbc : b < c
    · by_cases hac : a < c
      · rw [if_pos (show a < b by omega)] at x0
        rw [if_neg (show ¬ b < a by omega)] at x1
        rw [if_pos (show b < c by omega)] at x2
        rw [if_pos (show a < c by omega)] at x3
        clear hab hbc hac
        go_wp2_with fail
        refine HAW.out.mono ?_
        rintro e w9 ⟨rfl, hF9⟩
        go_wp2_with fail
        go_ret
        exact ⟨rfl, HF2.out.trans hF9⟩
      · exact absurd (show a < c by omega) hac
    · by_cases hac : a < c
      · rw [if_pos (show a < b by omega)] at x0
        rw [if_neg (show ¬ b < a by omega)] at x1
        rw [if_neg (show ¬ b < c by omega)] at x2
        rw [if_pos (show a < c by omega)] at x3
        clear hab hbc hac
        go_wp2_with fail
        refine HAW.out.mono ?_
        rintro e w9 ⟨rfl, hF9⟩
        go_wp2_with fail
        go_ret
        exact ⟨rfl, HF2.out.trans hF9⟩
      · rw [if_pos (show a < b by omega)] at x0
        rw [if_neg (show ¬ b < a by omega)] at x1
        rw [if_neg (show ¬ b < c by omega)] at x2
        rw [if_neg (show ¬ a < c by omega)] at x3
        clear hab hbc hac
        go_wp2_with fail
        refine HAW.out.mono ?_
        rintro e w9 ⟨rfl, hF9⟩
        go_wp2_with fail
        go_ret
        exact ⟨rfl, HF2.out.trans hF9⟩
  · subst hab
    have tne : (a != a) = false := by simp
    by_cases hbc : a < c
    · rw [if_neg (show ¬ a < a by omega)] at x0 x1
      rw [if_pos (show a < c by omega)] at x2 x3
      clear hbc
      go_wp2_with fail
      refine HAW.out.mono ?_
      rintro e w9 ⟨rfl, hF9⟩
      go_wp2_with fail
      go_ret
      exact ⟨rfl, HF2.out.trans hF9⟩
    · rw [if_neg (show ¬ a < a by omega)] at x0 x1
      rw [if_neg (show ¬ a < c by omega)] at x2 x3
      clear hbc
      go_wp2_with fail
      refine HAW.out.mono ?_
      rintro e w9 ⟨rfl, hF9⟩
      go_wp2_with fail
      go_ret
      exact ⟨rfl, HF2.out.trans hF9⟩
  · have tne : (a != b) = true := by simpa using (show ¬ a = b by omega)
    by_cases hbc : b < c
    · by_cases hac : a < c
      · rw [if_neg (show ¬ a < b by omega)] at x0
        rw [if_pos (show b < a by omega)] at x1
        rw [if_pos (show b < c by omega)] at x2
        rw [if_pos (show a < c by omega)] at x3
        clear hab hbc hac
        go_wp2_with fail
        refine HAW.out.mono ?_
        rintro e w9 ⟨rfl, hF9⟩
        go_wp2_with fail
        go_ret
        exact ⟨rfl, HF2.out.trans hF9⟩
      · rw [if_neg (show ¬ a < b by omega)] at x0
        rw [if_pos (show b < a by omega)] at x1
        rw [if_pos (show b < c by omega)] at x2
        rw [if_neg (show ¬ a < c by omega)] at x3
        clear hab hbc hac
        go_wp2_with fail
        refine HAW.out.mono ?_
        rintro e w9 ⟨rfl, hF9⟩
        go_wp2_with fail
        go_ret
        exact ⟨rfl, HF2.out.trans hF9⟩
    · by_cases hac : a < c
      · exact absurd (show b < c by omega) hbc
      · rw [if_neg (show ¬ a < b by omega)] at x0
        rw [if_pos (show b < a by omega)] at x1
        rw [if_neg (show ¬ b < c by omega)] at x2
        rw [if_neg (show ¬ a < c by omega)] at x3
        clear hab hbc hac
        go_wp2_with fail
        refine HAW.out.mono ?_
        rintro e w9 ⟨rfl, hF9⟩
        go_wp2_with fail
        go_ret
        exact ⟨rfl, HF2.out.trans hF9⟩

theorem lessLaw (a b c : Int) (W : World) (ht : Tabs W) : Calls Tryd.prog 9 #[.int .i64 a, .int .i64 b, .int .i64 c] W (LawPost W) := lessLawC cel_is a b c W ht

end Go.Proofs.YtedpgfldkjimpaaDoor
