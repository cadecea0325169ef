/-
  A clock's line: Len, Less, Swap.
-/
import Derived.Test.YtpgbhgkikpmhiaaLm
import Derived.Test.YtpgbhgkikpmhiaaChecked
import Derived.BigRegion
import Derived.Deep.LoopGhost
import Derived.Deep.RegionHeld3
import Derived.Deep.DeepCutAuto
import Derived.Deep.DeepMust
import Derived.Deep.AppendLies
namespace Go.Proofs.Ytpgbhgkikpmhiaa
open Go.RowKit
set_option linter.unusedVariables false

section
variable {c : Nat} {now : Int} {A : Option Addr} {cap b : Nat} {L : List Due} (w : World)

set_option maxHeartbeats 400000 in
theorem ln_len (h : IsK w c now A cap b L) : Calls Try.prog 30 #[.pointer (some ⟨c, 1, none⟩)] w fun e w' => e = .returned (.int .i64 L.length) ∧ w = w' := by
  have c1 := h.c1
  go_enter Try.func30, Try.ntmps30
  go_wp2
  go_ret
  exact ⟨rfl, rfl⟩

set_option maxHeartbeats 800000 in
theorem ln_less (h : IsK w c now A cap b L) (i j : Nat) (hi : i < L.length) (hj : j < L.length) : Calls Try.prog 54 #[.pointer (some ⟨c, 1, none⟩), .int .i64 i, .int .i64 j] w fun e w' => e = .returned (.bool (decide (dlt (at_ L i) (at_ L j)))) ∧ Fr (fun _ => False) w w' := by
  have c1 := h.c1
  obtain ⟨g, rfl, hg, hcap, hG⟩ := h.gt hi
  obtain ⟨x1, y1, -, -⟩ := hG w (fun _ => False) (Fr.refl _ _) id i hi
  obtain ⟨x2, y2, -, -⟩ := hG w (fun _ => False) (Fr.refl _ _) id j hj
  obtain ⟨n, hn⟩ : ∃ n, L.length = n := ⟨_, rfl⟩
  rw [hn] at hi hj c1 hcap
  obtain ⟨d1, hd1⟩ : ∃ d, at_ L i = d := ⟨_, rfl⟩
  obtain ⟨d2, hd2⟩ : ∃ d, at_ L j = d := ⟨_, rfl⟩
  rw [hd1] at x1 y1 ⊢
  rw [hd2] at x2 y2 ⊢
  obtain ⟨a1, b1⟩ := d1
  obtain ⟨a2, b2⟩ := d2
  have HS := hid (show ∀ W, Fr (fun _ => False) w W → W.cell? ⟨c, 1, none⟩ = some (.slice (some ⟨g, 0, none⟩) n cap) ∧ W.cell? ⟨g, i * 2, none⟩ = some (.int .i64 a1) ∧ W.cell? ⟨g, i * 2 + 1, none⟩ = some (.int .i64 b1) ∧ W.cell? ⟨g, j * 2, none⟩ = some (.int .i64 a2) ∧ W.cell? ⟨g, j * 2 + 1, none⟩ = some (.int .i64 b2) from fun W F => by
    obtain ⟨z1, z2, -, -⟩ := hG W _ F id i (by omega)
    obtain ⟨z3, z4, -, -⟩ := hG W _ F id j (by omega)
    rw [hd1] at z1 z2
    rw [hd2] at z3 z4
    have z5 := (h.same F).c1
    rw [hn] at z5
    exact ⟨z5, z1, z2, z3, z4⟩)
  clear hG h hd1 hd2 c1 x1 y1 x2 y2
  have hi1 : (i : Int) < n := by omega
  have hj1 : (j : Int) < n := by omega
  go_enter Try.func54, Try.ntmps54
  go_upto_region 1 with fail
  have HFd := hid (Fr.refl (fun _ => False) w)
  go_region_held3 (fun W => W.cell? ⟨c, 1, none⟩ = some (.slice (some ⟨g, 0, none⟩) n cap) ∧ W.cell? ⟨g, i * 2, none⟩ = some (.int .i64 a1) ∧ W.cell? ⟨g, i * 2 + 1, none⟩ = some (.int .i64 b1) ∧ W.cell? ⟨g, j * 2, none⟩ = some (.int .i64 a2) ∧ W.cell? ⟨g, j * 2 + 1, none⟩ = some (.int .i64 b2))
    (first | exact HS.out _ (Fr.refl _ _) | exact HS.out _ (Fr.drew _ _) | exact HS.out _ (Fr.alloc _ _ _) | exact HS.out _ ((Fr.alloc _ _ _).trans (Fr.alloc _ _ _)) | exact HS.out _ ((Fr.alloc _ _ _).trans (Fr.drew _ _)) | exact HS.out _ (((Fr.alloc _ _ _).trans (Fr.alloc _ _ _)).trans (Fr.drew _ _)))
    (fail)
  all_goals
    rcases ht : (a1 != a2) with _ | _
    · have e : a1 = a2 := by simpa using ht
      go_wp2_with fail
      go_ret
      refine ⟨congrArg _ (congrArg _ (decide_eq_decide.2 ?_)), ((Fr.alloc _ _ _).trans (Fr.alloc _ _ _)).trans (Fr.drew _ _)⟩
      unfold dlt
      simp only []
      omega
    · have e : a1 ≠ a2 := by simpa using ht
      go_wp2_with fail
      go_ret
      refine ⟨congrArg _ (congrArg _ (decide_eq_decide.2 ?_)), ((Fr.alloc _ _ _).trans (Fr.alloc _ _ _)).trans (Fr.drew _ _)⟩
      unfold dlt
      simp only []
      omega

theorem OwnR.stored {w : World} {B : Nat} {e : TypeId} {k g n cap : Nat} {xs : List Value} (h : OwnR w B e k (some ⟨g, 0, none⟩) n cap xs) (j : Nat) (u : Value) : OwnR (w.setCell ⟨g, j, none⟩ u) B e k (some ⟨g, 0, none⟩) n cap (xs.set j u) := (World.ownsRow.stored h j u).1

theorem fr_four (w : World) (g x1 x2 x3 x4 : Nat) (v1 v2 v3 v4 : Value) : Fr (fun k => k = g) w (((((w.setCell ⟨g, x1, none⟩ v1).setCell ⟨g, x2, none⟩ v2).setCell ⟨g, x3, none⟩ v3).setCell ⟨g, x4, none⟩ v4).drew) :=
  ((((Fr.setCell (S := fun k => k = g) _ ⟨g, x1, none⟩ _ rfl).trans (Fr.setCell (S := fun k => k = g) _ ⟨g, x2, none⟩ _ rfl)).trans (Fr.setCell (S := fun k => k = g) _ ⟨g, x3, none⟩ _ rfl)).trans (Fr.setCell (S := fun k => k = g) _ ⟨g, x4, none⟩ _ rfl)).trans (Fr.drew _ _)

theorem own_four {w : World} {B : Nat} {e : TypeId} {k g n cap : Nat} {xs ys : List Value} (h : OwnR w B e k (some ⟨g, 0, none⟩) n cap xs) (x1 x2 x3 x4 : Nat) (v1 v2 v3 v4 : Value) (hy : (((xs.set x1 v1).set x2 v2).set x3 v3).set x4 v4 = ys) : OwnR (((((w.setCell ⟨g, x1, none⟩ v1).setCell ⟨g, x2, none⟩ v2).setCell ⟨g, x3, none⟩ v3).setCell ⟨g, x4, none⟩ v4).drew) B e k (some ⟨g, 0, none⟩) n cap ys := by
  subst hy
  exact (((h.stored x1 v1).stored x2 v2).stored x3 v3).stored x4 v4

theorem at_swp1 (L : List Due) (i j : Nat) (hi : i < L.length) (hj : j < L.length) : at_ (swp L i j) i = at_ L j := by
  rw [swp_at _ _ _ _ hi hj]
  by_cases e : i = j
  · rw [if_pos e, e]
  · rw [if_neg e, if_pos rfl]
theorem at_swp2 (L : List Due) (i j : Nat) (hi : i < L.length) (hj : j < L.length) : at_ (swp L i j) j = at_ L i := by
  rw [swp_at _ _ _ _ hi hj, if_pos rfl]

set_option maxRecDepth 100000 in
set_option maxHeartbeats 1600000 in
theorem ln_swap (h : IsK w c now A cap b L) (i j : Nat) (hi : i < L.length) (hj : j < L.length) : Calls Try.prog 57 #[.pointer (some ⟨c, 1, none⟩), .int .i64 i, .int .i64 j] w fun e w' => e = .returned (.tuple #[]) ∧ IsK w' c now A cap b (swp L i j) ∧ Fr (ownK c A b) w w' := by
  have c1 := h.c1
  have e1 := at_swp1 L i j hi hj
  have e2 := at_swp2 L i j hi hj
  obtain ⟨g, rfl, hg, hcap, hG⟩ := h.gt hi
  obtain ⟨x1, y1, q1, p1⟩ := hG w (fun _ => False) (Fr.refl _ _) id i hi
  obtain ⟨x2, y2, q2, p2⟩ := hG w (fun _ => False) (Fr.refl _ _) id j hj
  obtain ⟨m, hm, hP⟩ := h.map
  have HM := hid hm
  have HPL := hid (hP.swp hi hj)
  obtain ⟨K, hK⟩ : ∃ K, swp L i j = K := ⟨_, rfl⟩
  obtain ⟨n, hn⟩ : ∃ n, L.length = n := ⟨_, rfl⟩
  have hKn : K.length = n := by rw [← hK, swp_len, hn]
  have hrow := h.row
  have hdu : ((((dues L).set (i * 2) (iV (at_ L j).1)).set (i * 2 + 1) (iV (at_ L j).2)).set (j * 2) (iV (at_ L i).1)).set (j * 2 + 1) (iV (at_ L i).2) = dues K := by
    rw [dues_set L i _ hi, dues_set _ j _ (by simpa using hj), ← hK]; rfl
  rw [hK] at e1 e2 HPL ⊢
  obtain ⟨d1, hd1⟩ : ∃ d, at_ L i = d := ⟨_, rfl⟩
  obtain ⟨d2, hd2⟩ : ∃ d, at_ L j = d := ⟨_, rfl⟩
  rw [hd1] at x1 y1 e2 hdu HPL
  rw [hd2] at x2 y2 e1 hdu HPL
  obtain ⟨a1, b1⟩ := d1
  obtain ⟨a2, b2⟩ := d2
  simp only at x1 y1 x2 y2 hdu HPL
  rw [hn] at hi hj c1 hcap hrow
  have hi1 : (i : Int) < n := by omega
  have hj1 : (j : Int) < n := by omega
  have HROW := hid hrow
  have HDU := hid hdu
  have HH := hid h
  have HE1 := hid e1
  have HE2 := hid e2
  have HKN := hid hKn
  have HGL := hid hg
  have HCB := hid h.cb
  have HCA := hid h.cA
  have HBA := hid h.bA
  have HN := hid hn
  clear hrow hdu h e1 e2 hKn hG hP hm hd1 hd2 hK hn hg
  go_enter Try.func57, Try.ntmps57
  by_cases hij : i = j
  · subst hij
    obtain ⟨rfl, rfl⟩ : a1 = a2 ∧ b1 = b2 := by
      rw [x1] at x2; rw [y1] at y2
      simp only [Option.some.injEq, Value.int.injEq, true_and] at x2 y2
      exact ⟨x2, y2⟩
    go_upto_region 0 with fail
    go_region
    have HR2 := hid (show OwnR (((((w.setCell ⟨g, i * 2, none⟩ (.int .i64 a1)).setCell ⟨g, i * 2 + 1, none⟩ (.int .i64 b1)).setCell ⟨g, i * 2, none⟩ (.int .i64 a1)).setCell ⟨g, i * 2 + 1, none⟩ (.int .i64 b1)).drew) 0 64 2 (some ⟨g, 0, none⟩) n cap (dues K) from own_four HROW.out _ _ _ _ _ _ _ _ HDU.out)
    have HF2 := hid (show Fr (fun k => k = g) w (((((w.setCell ⟨g, i * 2, none⟩ (.int .i64 a1)).setCell ⟨g, i * 2 + 1, none⟩ (.int .i64 b1)).setCell ⟨g, i * 2, none⟩ (.int .i64 a1)).setCell ⟨g, i * 2 + 1, none⟩ (.int .i64 b1)).drew) from fr_four _ _ _ _ _ _ _ _ _ _)
    obtain ⟨w2, hw2⟩ : ∃ w2, ((((w.setCell ⟨g, i * 2, none⟩ (.int .i64 a1)).setCell ⟨g, i * 2 + 1, none⟩ (.int .i64 b1)).setCell ⟨g, i * 2, none⟩ (.int .i64 a1)).setCell ⟨g, i * 2 + 1, none⟩ (.int .i64 b1)).drew = w2 := ⟨_, rfl⟩
    rw [hw2] at HR2 HF2 ⊢
    have hgb : b ≠ g := fun e => HBA.out ⟨_, rfl, e.symm⟩
    have hgc : c ≠ g := fun e => HCA.out ⟨_, rfl, e.symm⟩
    have HGB := hid hgb
    have HGC := hid hgc
    clear hw2 c1 x1 y1 q1 p1 hgb hgc
    have HK2 := hid (show TBlk w2 c #[.int .i64 now, .slice (some ⟨g, 0, none⟩) n cap, .map (some b)] 58 from by have := HH.out.hc.keep HF2.out HGC.out; rw [HN.out] at this; exact this)
    have HM2 := hid (HM.out.fr HF2.out HGB.out)
    have HS := hid (show ∀ W, Fr (fun k => k = b) w2 W → (∃ m', IsPm W b m') → W.cell? ⟨c, 1, none⟩ = some (.slice (some ⟨g, 0, none⟩) n cap) ∧ W.cell? ⟨c, 2, none⟩ = some (.map (some b)) ∧ W.cell? ⟨g, i * 2 + 1, none⟩ = some (.int .i64 b1) ∧ W.cell? ⟨g, i * 2 + 1, none⟩ = some (.int .i64 b1) ∧ (Instr.mapUpdate 53 (.map (some b)) (.int .i64 b1) (.int .i64 i)).run Try.prog W = .ok () (updW b b1 i W) ∧ (Instr.mapUpdate 53 (.map (some b)) (.int .i64 b1) (.int .i64 i)).run Try.prog W = .ok () (updW b b1 i W) from
      fun W F hm' => by
        obtain ⟨m', hm'⟩ := hm'
        have hk := HK2.out.keep F HCB.out
        have hr := OwnR.keep HR2.out F (fun q hq e => HBA.out (e ▸ hq))
        obtain ⟨g', hA, _, _, _, hcl⟩ := OwnR.cell hr (by omega)
        injection hA with hA
        injection hA with hA
        subst hA
        have r1 := hcl _ _ (dues_at K i (by rw [HKN.out]; omega)).2
        have r2 := hcl _ _ (dues_at K i (by rw [HKN.out]; omega)).2
        rw [HE1.out] at r1
        rw [HE2.out] at r2
        exact ⟨hk.cell rfl, hk.cell rfl, r1, r2, (upd_run hm' b1 i).1, (upd_run hm' b1 i).1⟩)
    go_upto_region 1 with fail
    go_region_held3 (fun W => W.cell? ⟨c, 1, none⟩ = some (.slice (some ⟨g, 0, none⟩) n cap) ∧ W.cell? ⟨c, 2, none⟩ = some (.map (some b)) ∧ W.cell? ⟨g, i * 2 + 1, none⟩ = some (.int .i64 b1) ∧ W.cell? ⟨g, i * 2 + 1, none⟩ = some (.int .i64 b1) ∧ (Instr.mapUpdate 53 (.map (some b)) (.int .i64 b1) (.int .i64 i)).run Try.prog W = .ok () (updW b b1 i W) ∧ (Instr.mapUpdate 53 (.map (some b)) (.int .i64 b1) (.int .i64 i)).run Try.prog W = .ok () (updW b b1 i W))
      (first
        | exact HS.out _ (Fr.refl _ _) ⟨_, HM2.out⟩
        | exact HS.out _ (Fr.drew _ _) ⟨_, HM2.out.fr (Fr.drew (fun _ => False) _) id⟩
        | exact HS.out _ ((Fr.drew _ _).trans (upd_run (HM2.out.fr (Fr.drew (fun _ => False) _) id) b1 i).2.2) ⟨_, (upd_run (HM2.out.fr (Fr.drew (fun _ => False) _) id) b1 i).2.1⟩)
      (fail)
    all_goals
      have HU := hid (upd_run (HM2.out.fr (Fr.drew (fun _ => False) _) id) b1 i)
      have HM3 := hid HU.out.2.1
      have HF3 := hid ((Fr.drew (fun k => k = b) w2).trans HU.out.2.2)
      obtain ⟨w3, hw3⟩ : ∃ w3, updW b b1 i w2.drew = w3 := ⟨_, rfl⟩
      rw [hw3] at HM3 HF3 ⊢
      clear hw3 HU
      go_upto_region 2 with fail
      go_region_held3 (fun W => W.cell? ⟨c, 1, none⟩ = some (.slice (some ⟨g, 0, none⟩) n cap) ∧ W.cell? ⟨c, 2, none⟩ = some (.map (some b)) ∧ W.cell? ⟨g, i * 2 + 1, none⟩ = some (.int .i64 b1) ∧ W.cell? ⟨g, i * 2 + 1, none⟩ = some (.int .i64 b1) ∧ (Instr.mapUpdate 53 (.map (some b)) (.int .i64 b1) (.int .i64 i)).run Try.prog W = .ok () (updW b b1 i W) ∧ (Instr.mapUpdate 53 (.map (some b)) (.int .i64 b1) (.int .i64 i)).run Try.prog W = .ok () (updW b b1 i W))
        (first
          | exact HS.out _ HF3.out ⟨_, HM3.out⟩
          | exact HS.out _ (HF3.out.trans (Fr.drew _ _)) ⟨_, HM3.out.fr (Fr.drew (fun _ => False) _) id⟩
          | exact HS.out _ (HF3.out.trans ((Fr.drew _ _).trans (upd_run (HM3.out.fr (Fr.drew (fun _ => False) _) id) b1 i).2.2)) ⟨_, (upd_run (HM3.out.fr (Fr.drew (fun _ => False) _) id) b1 i).2.1⟩)
        (fail)
      all_goals
        have HU := hid (upd_run (HM3.out.fr (Fr.drew (fun _ => False) _) id) b1 i)
        have HM4 := hid HU.out.2.1
        have HF4 := hid (HF3.out.trans ((Fr.drew (fun k => k = b) w3).trans HU.out.2.2))
        obtain ⟨w4, hw4⟩ : ∃ w4, updW b b1 i w3.drew = w4 := ⟨_, rfl⟩
        rw [hw4] at HM4 HF4 ⊢
        clear hw4 HU
        go_wp2_with fail
        go_end0
        refine ⟨rfl, ⟨?_, ?_, _, HM4.out, HPL.out⟩, (HF2.out.mono (T := ownK c (some ⟨g, 0, none⟩) b) (fun k hk => .inr (.inr ⟨_, rfl, hk.symm⟩))).trans (HF4.out.mono (fun k hk => .inr (.inl hk)))⟩
        · rw [HKN.out]; exact HK2.out.keep HF4.out HCB.out
        · rw [HKN.out]; exact OwnR.keep HR2.out HF4.out (fun q hq e => HBA.out (e ▸ hq))
  · go_upto_region 0 with fail
    go_region
    have HR2 := hid (show OwnR (((((w.setCell ⟨g, i * 2, none⟩ (.int .i64 a2)).setCell ⟨g, i * 2 + 1, none⟩ (.int .i64 b2)).setCell ⟨g, j * 2, none⟩ (.int .i64 a1)).setCell ⟨g, j * 2 + 1, none⟩ (.int .i64 b1)).drew) 0 64 2 (some ⟨g, 0, none⟩) n cap (dues K) from own_four HROW.out _ _ _ _ _ _ _ _ HDU.out)
    have HF2 := hid (show Fr (fun k => k = g) w (((((w.setCell ⟨g, i * 2, none⟩ (.int .i64 a2)).setCell ⟨g, i * 2 + 1, none⟩ (.int .i64 b2)).setCell ⟨g, j * 2, none⟩ (.int .i64 a1)).setCell ⟨g, j * 2 + 1, none⟩ (.int .i64 b1)).drew) from fr_four _ _ _ _ _ _ _ _ _ _)
    obtain ⟨w2, hw2⟩ : ∃ w2, ((((w.setCell ⟨g, i * 2, none⟩ (.int .i64 a2)).setCell ⟨g, i * 2 + 1, none⟩ (.int .i64 b2)).setCell ⟨g, j * 2, none⟩ (.int .i64 a1)).setCell ⟨g, j * 2 + 1, none⟩ (.int .i64 b1)).drew = w2 := ⟨_, rfl⟩
    rw [hw2] at HR2 HF2 ⊢
    have hgb : b ≠ g := fun e => HBA.out ⟨_, rfl, e.symm⟩
    have hgc : c ≠ g := fun e => HCA.out ⟨_, rfl, e.symm⟩
    have HGB := hid hgb
    have HGC := hid hgc
    clear hw2 c1 x1 y1 q1 p1 x2 y2 q2 p2 hgb hgc
    have HK2 := hid (show TBlk w2 c #[.int .i64 now, .slice (some ⟨g, 0, none⟩) n cap, .map (some b)] 58 from by have := HH.out.hc.keep HF2.out HGC.out; rw [HN.out] at this; exact this)
    have HM2 := hid (HM.out.fr HF2.out HGB.out)
    have HS := hid (show ∀ W, Fr (fun k => k = b) w2 W → (∃ m', IsPm W b m') → W.cell? ⟨c, 1, none⟩ = some (.slice (some ⟨g, 0, none⟩) n cap) ∧ W.cell? ⟨c, 2, none⟩ = some (.map (some b)) ∧ W.cell? ⟨g, i * 2 + 1, none⟩ = some (.int .i64 b2) ∧ W.cell? ⟨g, j * 2 + 1, none⟩ = some (.int .i64 b1) ∧ (Instr.mapUpdate 53 (.map (some b)) (.int .i64 b2) (.int .i64 i)).run Try.prog W = .ok () (updW b b2 i W) ∧ (Instr.mapUpdate 53 (.map (some b)) (.int .i64 b1) (.int .i64 j)).run Try.prog W = .ok () (updW b b1 j W) from
      fun W F hm' => by
        obtain ⟨m', hm'⟩ := hm'
        have hk := HK2.out.keep F HCB.out
        have hr := OwnR.keep HR2.out F (fun q hq e => HBA.out (e ▸ hq))
        obtain ⟨g', hA, _, _, _, hcl⟩ := OwnR.cell hr (by omega)
        injection hA with hA
        injection hA with hA
        subst hA
        have r1 := hcl _ _ (dues_at K i (by rw [HKN.out]; omega)).2
        have r2 := hcl _ _ (dues_at K j (by rw [HKN.out]; omega)).2
        rw [HE1.out] at r1
        rw [HE2.out] at r2
        exact ⟨hk.cell rfl, hk.cell rfl, r1, r2, (upd_run hm' b2 i).1, (upd_run hm' b1 j).1⟩)
    go_upto_region 1 with fail
    go_region_held3 (fun W => W.cell? ⟨c, 1, none⟩ = some (.slice (some ⟨g, 0, none⟩) n cap) ∧ W.cell? ⟨c, 2, none⟩ = some (.map (some b)) ∧ W.cell? ⟨g, i * 2 + 1, none⟩ = some (.int .i64 b2) ∧ W.cell? ⟨g, j * 2 + 1, none⟩ = some (.int .i64 b1) ∧ (Instr.mapUpdate 53 (.map (some b)) (.int .i64 b2) (.int .i64 i)).run Try.prog W = .ok () (updW b b2 i W) ∧ (Instr.mapUpdate 53 (.map (some b)) (.int .i64 b1) (.int .i64 j)).run Try.prog W = .ok () (updW b b1 j W))
      (first
        | exact HS.out _ (Fr.refl _ _) ⟨_, HM2.out⟩
        | exact HS.out _ (Fr.drew _ _) ⟨_, HM2.out.fr (Fr.drew (fun _ => False) _) id⟩
        | exact HS.out _ ((Fr.drew _ _).trans (upd_run (HM2.out.fr (Fr.drew (fun _ => False) _) id) b2 i).2.2) ⟨_, (upd_run (HM2.out.fr (Fr.drew (fun _ => False) _) id) b2 i).2.1⟩)
      (fail)
    all_goals
      have HU := hid (upd_run (HM2.out.fr (Fr.drew (fun _ => False) _) id) b2 i)
      have HM3 := hid HU.out.2.1
      have HF3 := hid ((Fr.drew (fun k => k = b) w2).trans HU.out.2.2)
      obtain ⟨w3, hw3⟩ : ∃ w3, updW b b2 i w2.drew = w3 := ⟨_, rfl⟩
      rw [hw3] at HM3 HF3 ⊢
      clear hw3 HU
      go_upto_region 2 with fail
      go_region_held3 (fun W => W.cell? ⟨c, 1, none⟩ = some (.slice (some ⟨g, 0, none⟩) n cap) ∧ W.cell? ⟨c, 2, none⟩ = some (.map (some b)) ∧ W.cell? ⟨g, i * 2 + 1, none⟩ = some (.int .i64 b2) ∧ W.cell? ⟨g, j * 2 + 1, none⟩ = some (.int .i64 b1) ∧ (Instr.mapUpdate 53 (.map (some b)) (.int .i64 b2) (.int .i64 i)).run Try.prog W = .ok () (updW b b2 i W) ∧ (Instr.mapUpdate 53 (.map (some b)) (.int .i64 b1) (.int .i64 j)).run Try.prog W = .ok () (updW b b1 j W))
        (first
          | exact HS.out _ HF3.out ⟨_, HM3.out⟩
          | exact HS.out _ (HF3.out.trans (Fr.drew _ _)) ⟨_, HM3.out.fr (Fr.drew (fun _ => False) _) id⟩
          | exact HS.out _ (HF3.out.trans ((Fr.drew _ _).trans (upd_run (HM3.out.fr (Fr.drew (fun _ => False) _) id) b1 j).2.2)) ⟨_, (upd_run (HM3.out.fr (Fr.drew (fun _ => False) _) id) b1 j).2.1⟩)
        (fail)
      all_goals
        have HU := hid (upd_run (HM3.out.fr (Fr.drew (fun _ => False) _) id) b1 j)
        have HM4 := hid HU.out.2.1
        have HF4 := hid (HF3.out.trans ((Fr.drew (fun k => k = b) w3).trans HU.out.2.2))
        obtain ⟨w4, hw4⟩ : ∃ w4, updW b b1 j w3.drew = w4 := ⟨_, rfl⟩
        rw [hw4] at HM4 HF4 ⊢
        clear hw4 HU
        go_wp2_with fail
        go_end0
        refine ⟨rfl, ⟨?_, ?_, _, HM4.out, HPL.out⟩, (HF2.out.mono (T := ownK c (some ⟨g, 0, none⟩) b) (fun k hk => .inr (.inr ⟨_, rfl, hk.symm⟩))).trans (HF4.out.mono (fun k hk => .inr (.inl hk)))⟩
        · rw [HKN.out]; exact HK2.out.keep HF4.out HCB.out
        · rw [HKN.out]; exact OwnR.keep HR2.out HF4.out (fun q hq e => HBA.out (e ▸ hq))
end
end Go.Proofs.Ytpgbhgkikpmhiaa
