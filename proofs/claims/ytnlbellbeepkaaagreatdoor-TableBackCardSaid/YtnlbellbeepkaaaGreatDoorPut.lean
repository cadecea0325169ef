/-
  Stage 7: put.
-/
import Derived.Test.YtnlbellbeepkaaaGreatDoorRead2
import Derived.Test.YtnlbellbeepkaaaGreatDoorUnder
namespace Go.Proofs.YtnlbellbeepkaaaGreatDoor
open Go.RowKit
set_option linter.unusedVariables false
set_option linter.unusedSimpArgs false

/-- A line may stand behind rows. -/
def okB (m : List Tw) (x : Bs) : Prop := rdG x ∧ rightE m (rdR x) = 0

def PtPost (m : List Tw) (x : Bs) (w : World) (B : Nat) (A : Option Addr) (e : Ending) (w' : World) : Prop :=
  (okB m x ∧ ∃ (A' : Option Addr) (cap : Nat), e = .returned (.tuple #[.slice A' (m.length + 1) cap, .int .i64 0]) ∧ OwnR w' B 34 7 A' (m.length + 1) cap (flatT (m ++ [rdR x])) ∧ Fr (ownB A) w w') ∨
  (¬ okB m x ∧ ∃ e0 : Int, e0 ≠ 0 ∧ e = .returned (.tuple #[.slice none 0 0, .int .i64 e0]) ∧ Fr (fun _ => False) w w')

theorem rdR_cl {x : Bs} (h : rdG x) : (rdR x).cl.size ≤ x.length + 1 := by
  obtain ⟨t, rfl, hg⟩ := h
  have e : (rdR (t ++ [10])).cl = bs (clW ((wrds t).getD 6 [])) := by unfold rdR; rw [List.dropLast_concat]; rfl
  rw [e, bs_size]
  have h1 : ((wrds t).getD 6 []).length ≤ t.length := by
    rcases wrds_le (t := t) (j := 6) with h | h
    · exact h
    · exact absurd hg.len h
  unfold clW
  split
  · simp
  · split
    · simp
    · rw [List.length_append, List.length_singleton]; omega

set_option maxRecDepth 100000 in
set_option maxHeartbeats 4000000 in
theorem put_any (A : Option Addr) (n cap B : Nat) (m : List Tw) (x : Bs) (W : World) (ht : Tabz W) (hx : x.length ≤ 131072) (hO : OwnR W B 34 7 A n cap (flatT m)) (hn : m.length = n) (hn2 : n ≤ 1000000) (hB : B ≤ W.heap.size) (htb : Tabl m) :
    Calls Tryz.prog 16 #[.slice A n cap, .string (bs x)] W (PtPost m x W B A) := by
  have HRD := hid (read_any x hx W ht)
  have HWR := hid (fun W' (h : Fr (fun _ => False) W W') (r : Tw) (hc : r.cl.size ≤ 4000000) => wrong_any A n cap m r W' (hO.same h).rdT hn (by omega) htb hc)
  have HO := hid hO
  have HN := hid hn
  obtain ⟨i0, hii, hzz⟩ := Option.map_eq_some_iff.1 infoWz
  simp only [Prod.mk.injEq] at hzz
  obtain ⟨hy0, hy1, hy2⟩ := hzz
  have HII := hid hii
  have HZ0 := hid hy0
  have HZ1 := hid hy1
  have HZ2 := hid hy2
  obtain ⟨S, hS⟩ : ∃ S, bs x = S := ⟨_, rfl⟩
  rw [hS] at HRD ⊢
  unfold RdPost at HRD
  unfold rowC at HRD HWR
  clear hO hn htb hii hy0 hy1 hy2 ht hS
  go_enter Tryz.func16, Tryz.ntmps16
  go_wp2_with fail
  refine HRD.out.mono ?_
  rintro e w1 ⟨⟨p, i, f, k, v, s, cl⟩, e0, rfl, h1, h2, hF1⟩
  have H1 := hid h1
  have H2 := hid h2
  simp only
  have HF1 := hid hF1
  clear h1 h2 hF1
  obtain ⟨w2, hw2⟩ : ∃ w2, w2 = w1.alloc (.cells #[.int .i64 p, .int .i64 i, .int .i64 f, .int .i64 k, .int .i64 v, .int .i64 s, .string cl] 34) := ⟨_, rfl⟩
  have hB2 : Blk w2 w1.heap.size #[.int .i64 p, .int .i64 i, .int .i64 f, .int .i64 k, .int .i64 v, .int .i64 s, .string cl] := by rw [hw2]; exact Blk.new _ _ _
  have HF2 := hid (show Fr (fun _ => False) W w2 by rw [hw2]; exact HF1.out.trans (Fr.alloc _ _ _))
  by_cases he0 : e0 = 0
  · have t1 : (e0 == 0) = true := beq_iff_eq.2 he0
    have hg := H1.out he0
    have HG := hid hg
    have hcl : cl.size ≤ 4000000 := by
      have h3 := rdR_cl hg.1
      rw [← hg.2] at h3
      simp only at h3
      omega
    have HW2 := hid (HWR.out w2 HF2.out ⟨p, i, f, k, v, s, cl⟩ hcl)
    have HE0 := hid he0
    clear he0 hg
    go_upto_region 2 with fail
    rw [← hw2]
    have b0 := hB2.cell (i := 0) rfl
    have b1 := hB2.cell (i := 1) rfl
    have b2 := hB2.cell (i := 2) rfl
    have b3 := hB2.cell (i := 3) rfl
    have b4 := hB2.cell (i := 4) rfl
    have b5 := hB2.cell (i := 5) rfl
    have b6 := hB2.cell (i := 6) rfl
    simp only [List.getElem_toArray, List.getElem_cons_zero, List.getElem_cons_succ] at b0 b1 b2 b3 b4 b5 b6
    have l2 := hB2.lt
    have HB2 := hid hB2
    clear hw2 hB2
    go_wp2_with fail
    refine HW2.out.mono ?_
    rintro e w3 ⟨rfl, hF3⟩
    obtain ⟨y, hy⟩ : ∃ y, rightE m ⟨p, i, f, k, v, s, cl⟩ = y := ⟨_, rfl⟩
    rw [hy]
    have HY := hid (show rightE m (rdR x) = y by rw [← HG.out.2]; exact hy)
    have HF3 := hid (HF2.out.trans hF3)
    have hB3 := HB2.out.keep hF3 (fun h => h)
    clear hy hF3 b0 b1 b2 b3 b4 b5 b6 l2
    by_cases hy0 : y = 0
    · have t2 : (y != 0) = false := by simp [hy0]
      have HOK := hid (show okB m x from ⟨HG.out.1, HY.out.trans hy0⟩)
      clear hy0
      have b0 := hB3.cell (i := 0) rfl
      have b1 := hB3.cell (i := 1) rfl
      have b2 := hB3.cell (i := 2) rfl
      have b3 := hB3.cell (i := 3) rfl
      have b4 := hB3.cell (i := 4) rfl
      have b5 := hB3.cell (i := 5) rfl
      have b6 := hB3.cell (i := 6) rfl
      simp only [List.getElem_toArray, List.getElem_cons_zero, List.getElem_cons_succ] at b0 b1 b2 b3 b4 b5 b6
      have l3 := hB3.lt
      obtain ⟨xs, hxs⟩ : ∃ xs, flatT m = xs := ⟨_, rfl⟩
      have hO3 := OwnR.same HO.out HF3.out
      rw [hxs] at hO3
      have HXS := hid hxs
      have HA2 := hid (Fr.alloc (fun _ => False) w3 (.cells #[.int .i64 p, .int .i64 i, .int .i64 f, .int .i64 k, .int .i64 v, .int .i64 s, .string cl] 34))
      have HOW := hid (OwnR.same hO3 HA2.out)
      have HNW := hid (news_cells w3 34 [.int .i64 p, .int .i64 i, .int .i64 f, .int .i64 k, .int .i64 v, .int .i64 s, .string cl])
      have hbs : B ≤ w3.heap.size := by have := HF3.out.size; omega
      clear hO3 hxs hB3
      go_upto_region 6 with fail
      go_wp2_with (at_builtin; go_must (refine wpList_append_own _ rfl _ _ 22 rfl B 34 i0 (.agg #[.int .i64 0, .int .i64 0, .int .i64 0, .int .i64 0, .int .i64 0, .int .i64 0, .string ⟨#[]⟩]) 7 64 Tryz.underlying22 HII.out HZ0.out HZ1.out HZ2.out rfl (by decide) (.slice A n cap) n _ rfl HOW.out ⟨w3.heap.size, 0, none⟩ 1 1 [.int .i64 p, .int .i64 i, .int .i64 f, .int .i64 k, .int .i64 v, .int .i64 s, .string cl] rfl rfl HNW.out (by simp [Value.oneCell']) (by unfold maxLen; omega) (by omega) (by simp; omega) ?_; intro v2 w5 hown2 hgrow2 hnil2; clear hnil2; obtain ⟨A2, c2, rfl, ho2⟩ := OwnR.form hown2; have HO3 := hid ho2; have HFG := hid ((HF3.out.mono (fun _ h => h.elim)).trans ((HA2.out.mono (fun _ h => h.elim)).trans (Fr.of_grown hgrow2))); clear hown2 hgrow2 ho2))
      go_ret2
      exact .inl ⟨HOK.out, A2, c2, by rw [HN.out]; rfl, by
        rw [HN.out, flatT_app, HXS.out, flatT_one, ← HG.out.2]
        exact HO3.out, HFG.out⟩
    · have t2 : (y != 0) = true := by simpa using hy0
      have HY0 := hid hy0
      clear hy0 hB3
      go_wp2_with fail
      go_ret2
      exact .inr ⟨fun h => HY0.out (HY.out.symm.trans h.2), y, HY0.out, rfl, HF3.out⟩
  · have t1 : (e0 == 0) = false := beq_eq_false_iff_ne.2 he0
    have t2 : (e0 != 0) = true := by simpa using he0
    have HE := hid he0
    clear he0
    go_upto_region 2 with fail
    rw [← hw2]
    clear hw2 hB2
    go_wp2_with fail
    go_ret2
    exact .inr ⟨fun h => HE.out (H2.out h.1), e0, HE.out, rfl, HF2.out⟩

end Go.Proofs.YtnlbellbeepkaaaGreatDoor
