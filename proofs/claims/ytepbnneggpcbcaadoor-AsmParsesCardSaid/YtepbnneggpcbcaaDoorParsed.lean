/-
  AsmParses' walk.
-/
import Derived.Test.YtepbnneggpcbcaaDoorRefParse
import Derived.Test.YtepbnneggpcbcaaDoorRefSame
import Derived.Test.YtepbnneggpcbcaaDoorOnly
namespace Go.Proofs.YtepbnneggpcbcaaDoor
open Go.RowKit

theorem prs_bounds (s : Bs) : (prs s).1.length ≤ 32 ∧ ∀ f ∈ (prs s).1, f.code.length ≤ 128 := by
  have hn : ([] : List Fn).length ≤ 32 ∧ ∀ f ∈ ([] : List Fn), f.code.length ≤ 128 := ⟨by simp, fun f hf => by simp at hf⟩
  unfold prs
  split
  · exact hn
  · unfold endL
    split
    · exact hn
    · split
      · exact hn
      · rename_i h1 h2
        obtain ⟨⟨gs, m, e⟩, hq⟩ : ∃ q, runL (lns s) [] 0 = q := ⟨_, rfl⟩
        rw [hq] at h1 ⊢
        simp only [ne_eq, Decidable.not_not] at h1
        subst h1
        exact okS_bounds (run_ok (show okS [] from .inl rfl) hq).1

set_option maxRecDepth 100000 in
set_option maxHeartbeats 1000000 in
theorem parses_out (S : ByteArray) (w : World) (ht : Tabs w) (h : (4000 < S.size ∧ S.size ≤ 131072) ∨ 140000 < S.size) (hs : S.size ≤ maxLen) :
    Calls Tryd.prog 7 #[.string S] w (LawPost w) := by
  have HA := hid awake_ok
  have HS := hid hs
  clear hs
  by_cases h1 : 140000 < S.size
  · have h2 : 4000 < S.size := by omega
    have h3 : ¬ S.size ≤ 131072 := by omega
    clear h
    go_enter Tryd.func7, Tryd.ntmps7
    go_wp2_with fail
    refine (HA.out _ ht).mono ?_
    rintro e w2 ⟨rfl, hF2⟩
    go_wp2_with fail
    go_ret
    exact ⟨rfl, hF2⟩
  · have h2 : 4000 < S.size := by omega
    have h3 : S.size ≤ 131072 := by omega
    clear h h1
    go_enter Tryd.func7, Tryd.ntmps7
    go_wp2_with fail
    refine (HA.out _ ht).mono ?_
    rintro e w2 ⟨rfl, hF2⟩
    go_wp2_with fail
    go_ret
    exact ⟨rfl, hF2⟩

/-- What stands ahead of the calls is passed, in either way. -/
def Passed (n : Nat) : Prop := (n ≤ 4000) ∨ (131072 < n ∧ n ≤ 140000)

set_option maxRecDepth 100000 in
set_option maxHeartbeats 4000000 in
theorem parses_in (l : Bs) (w : World) (ht : Tabs w) (h : Passed l.length) :
    Calls Tryd.prog 7 #[.string (bs l)] w (LawPost w) := by
  have HA := hid awake_ok
  have hle : l.length ≤ 1000000 := by unfold Passed at h; omega
  have hP := parse_any l hle w ht
  have hQ := fun w => rparse_any l hle w
  have hb := prs_bounds l
  have hat := prs_at l
  obtain ⟨⟨P, a, x⟩, hq⟩ : ∃ q, prs l = q := ⟨_, rfl⟩
  rw [hq] at hP hQ hb hat
  simp only at hb hat
  have HP := hid hP
  have HQ := hid hQ
  have HB := hid hb
  have HT := hid ht
  have h2 : Passed (bs l).size := by rw [bs_size]; exact h
  have hle2 : (bs l).size ≤ 1000000 := by rw [bs_size]; exact hle
  have ha : a ≤ 1000001 := by omega
  obtain ⟨S, hS⟩ : ∃ S, bs l = S := ⟨_, rfl⟩
  rw [hS] at HP HQ h2 hle2 ⊢
  clear hP hQ hb hat hq hS h hle ht
  unfold Passed at h2
  rcases h2 with h2 | ⟨h2, h3⟩
  · go_enter Tryd.func7, Tryd.ntmps7
    have h4 : ¬ 4000 < S.size := by omega
    have h5 : ¬ 140000 < S.size := by omega
    go_wp2_with fail
    refine HP.out.mono ?_
    intro e w1 hp
    obtain ⟨A1, c1, rfl, hPr1, hF1⟩ := hp.form
    clear hp
    have HPR1 := hid hPr1
    obtain ⟨n, hn⟩ : ∃ n, P.length = n := ⟨_, rfl⟩
    have HN := hid hn
    rw [hn]
    clear hn hPr1
    have hA1 := Fr.alloc (fun _ => False) w1 (.cells #[.slice A1 n c1] 38)
    have hb1 := Blk.new w1 #[.slice A1 n c1] 38
    go_wp2_with fail
    refine (HQ.out _).mono ?_
    intro e w2 hp
    obtain ⟨A2, c2, rfl, hPr2, hF2⟩ := hp.form
    clear hp
    rw [HN.out]
    have HPR2 := hid hPr2
    clear hPr2
    have hA2 := Fr.alloc (fun _ => False) w2 (.cells #[.slice A2 n c2] 38)
    have hF12 := ((hF1.trans hA1).trans hF2).trans hA2
    have hSM := rsame_any A1 A2 c1 c2 P P (w2.alloc (.cells #[.slice A2 n c2] 38)) ((HPR1.out.same ((hA1.trans hF2).trans hA2) (Nat.le_refl _)).more ((hA1.trans hF2).trans hA2).size) ((HPR2.out.same hA2 (Nat.le_refl _)).more hA2.size) (by have := HB.out.1; omega) (fun f hf => by have := HB.out.2 f hf; omega)
    rw [HN.out, show decide (P = P) = true from decide_eq_true rfl] at hSM
    have HSM := hid hSM
    have c0 : w2.cell? ⟨w1.heap.size, 0, none⟩ = some (.slice A1 n c1) := (hb1.keep hF2 (fun h => h)).cell rfl
    have l0 := (hb1.keep hF2 (fun h => h)).lt
    clear hSM
    go_wp2_with fail
    refine HSM.out.mono ?_
    rintro e w3 ⟨rfl, hF3⟩
    clear c0
    go_wp2_with fail
    refine (HA.out _ (HT.out.same (hF12.trans hF3))).mono ?_
    rintro e w4 ⟨rfl, hF4⟩
    go_wp2_with fail
    go_ret
    exact ⟨rfl, (hF12.trans hF3).trans hF4⟩
  · go_enter Tryd.func7, Tryd.ntmps7
    have h4 : 4000 < S.size := by omega
    have h5 : ¬ S.size ≤ 131072 := by omega
    have h6 : ¬ 140000 < S.size := by omega
    go_wp2_with fail
    refine HP.out.mono ?_
    intro e w1 hp
    obtain ⟨A1, c1, rfl, hPr1, hF1⟩ := hp.form
    clear hp
    have HPR1 := hid hPr1
    obtain ⟨n, hn⟩ : ∃ n, P.length = n := ⟨_, rfl⟩
    have HN := hid hn
    rw [hn]
    clear hn hPr1
    have hA1 := Fr.alloc (fun _ => False) w1 (.cells #[.slice A1 n c1] 38)
    have hb1 := Blk.new w1 #[.slice A1 n c1] 38
    go_wp2_with fail
    refine (HQ.out _).mono ?_
    intro e w2 hp
    obtain ⟨A2, c2, rfl, hPr2, hF2⟩ := hp.form
    clear hp
    rw [HN.out]
    have HPR2 := hid hPr2
    clear hPr2
    have hA2 := Fr.alloc (fun _ => False) w2 (.cells #[.slice A2 n c2] 38)
    have hF12 := ((hF1.trans hA1).trans hF2).trans hA2
    have hSM := rsame_any A1 A2 c1 c2 P P (w2.alloc (.cells #[.slice A2 n c2] 38)) ((HPR1.out.same ((hA1.trans hF2).trans hA2) (Nat.le_refl _)).more ((hA1.trans hF2).trans hA2).size) ((HPR2.out.same hA2 (Nat.le_refl _)).more hA2.size) (by have := HB.out.1; omega) (fun f hf => by have := HB.out.2 f hf; omega)
    rw [HN.out, show decide (P = P) = true from decide_eq_true rfl] at hSM
    have HSM := hid hSM
    have c0 : w2.cell? ⟨w1.heap.size, 0, none⟩ = some (.slice A1 n c1) := (hb1.keep hF2 (fun h => h)).cell rfl
    have l0 := (hb1.keep hF2 (fun h => h)).lt
    clear hSM
    go_wp2_with fail
    refine HSM.out.mono ?_
    rintro e w3 ⟨rfl, hF3⟩
    clear c0
    go_wp2_with fail
    refine (HA.out _ (HT.out.same (hF12.trans hF3))).mono ?_
    rintro e w4 ⟨rfl, hF4⟩
    go_wp2_with fail
    go_ret
    exact ⟨rfl, (hF12.trans hF3).trans hF4⟩

theorem parses_all (l : Bs) (hs : (bs l).size ≤ maxLen) (w : World) (ht : Tabs w) : Calls Tryd.prog 7 #[.string (bs l)] w (LawPost w) := by
  by_cases h : Passed l.length
  · exact parses_in l w ht h
  · exact parses_out _ w ht (by rw [bs_size]; unfold Passed at h; omega) hs

end Go.Proofs.YtepbnneggpcbcaaDoor
