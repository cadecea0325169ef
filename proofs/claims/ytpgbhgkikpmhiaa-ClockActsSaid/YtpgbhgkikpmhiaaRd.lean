/-
  The document's clock: Drop (walk).
-/
import Derived.Test.YtpgbhgkikpmhiaaRs
namespace Go.Proofs.Ytpgbhgkikpmhiaa
open Go.RowKit
set_option linter.unusedVariables false

theorem at_split {L : List Due} {i : Nat} (h : i < L.length) : L.Perm (at_ L i :: (L.take i ++ L.drop (i + 1))) := by
  have h1 : L = L.take i ++ at_ L i :: L.drop (i + 1) := by
    conv => lhs; rw [← List.take_append_drop i L, List.drop_eq_getElem_cons h]
    unfold at_
    rw [List.getD_eq_getElem?_getD, List.getElem?_eq_getElem h]
    rfl
  conv => lhs; rw [h1]
  exact List.perm_middle

theorem dues_drop (L : List Due) (n : Nat) : (dues L).drop (n * 2) = dues (L.drop n) := by
  induction L generalizing n with
  | nil => simp [dues]
  | cons d L ih =>
    have e : ∀ (d : Due) L, dues (d :: L) = iV d.1 :: iV d.2 :: dues L := fun _ _ => rfl
    cases n with
    | zero => simp
    | succ n =>
      rw [e, show (n + 1) * 2 = n * 2 + 2 by omega]
      simp only [List.drop_succ_cons]
      exact ih n

section
variable {r : Nat} {now : Int} {O : Nat → Prop} {T : List Due} (w : World)

set_option maxRecDepth 100000 in
set_option maxHeartbeats 1600000 in
theorem r_drop_ok (id : Int) (h : Rkm w O r now T) (hi : Ids T) (ht : hasId id T = true) (hs : T.length < 50000) :
    Calls Try.prog 14 #[.pointer (some ⟨r, 0, none⟩), .int .i64 id] w fun e w' => e = .returned (.bool true) ∧ RkPost O r now (drp id T) w w' := by
  obtain ⟨A, cap, L, k1, k2, k3⟩ := h.ex
  have HFD := hid (r_find w id k1 (by rw [k2.length_eq]; omega))
  have hL : hasId id L = true := by rw [hasId_perm k2, ht]
  obtain ⟨x, hx, hxe⟩ := hasId_yes hL
  obtain ⟨i, hil, rfl⟩ := mem_at hx
  have hid2 : idx L id = i := by rw [← hxe]; exact (idx_one (hi.perm k2.symm) hil).1
  have hf : findI L id = (i : Nat) := by unfold findI; rw [hL, hid2]; rfl
  rw [hf] at HFD
  have HPM := hid (show (L.take i ++ L.drop (i + 1)).Perm (drp id T) from by have := drp_perm2 (at_split hil) k2 hi (k2.subset hx); rw [hxe] at this; exact this)
  have HO := hid k3
  have HLT := hid h.lt
  have HRA := hid k1.rA
  have HK := hid k1
  obtain ⟨g, rfl, hg, hcap, -⟩ := k1.gt hil
  have HG := hid hg
  obtain ⟨q, hq⟩ : ∃ q, L.length = q := ⟨_, rfl⟩
  have HQ := hid hq
  have hqb : q < 50000 := by rw [← hq, k2.length_eq]; exact hs
  have hiq : i < q := by omega
  rw [hq] at hcap
  have hic : i ≤ cap := by omega
  have hi0 : (0 : Int) ≤ (i : Int) := by omega
  have hic2 : (i : Int) ≤ (cap : Int) := by omega
  have hiq2 : (i : Int) + 1 ≤ (q : Int) := by omega
  have c1 : w.cell? ⟨r, 1, none⟩ = some (.slice (some ⟨g, 0, none⟩) q cap) := by have := k1.hc.cell (i := 1) rfl; rw [hq] at this; exact this
  have hl := k1.hc.lt
  have HCL := hid (show ∀ W, Fr (fun _ => False) w W → ∀ j u, (dues L)[j]? = some u → W.cell? ⟨g, j, none⟩ = some u from fun W F j u hu => by
    obtain ⟨g', hA, _, _, _, hcl⟩ := OwnR.cell (k1.same F).row (by omega)
    injection hA with hA
    injection hA with hA
    subst hA
    exact hcl j u hu)
  have hFA := Fr.alloc (fun _ => False) w (.cells #[] 60)
  have HRUN := hid (run_appD (c2 := cap) 26 (own_empty w) (Y := L.take i) ⟨g, 0, none⟩ (show (L.take i).length = i by rw [List.length_take]; omega) (fun j u hu => by
    rw [add_none, Nat.zero_add]
    refine HCL.out _ hFA j u ?_
    rw [← dues_take, List.getElem?_take] at hu
    split at hu
    · exact hu
    · cases hu) (by omega) (by simp))
  have HX6 := hid (show ∀ (v' : Value) (w' : World), (∃ A' cap', v' = Value.slice A' (0 + i) cap' ∧ OwnR w' w.heap.size 60 2 A' (0 + i) cap' (dues ([] ++ L.take i)) ∧ Fr (ownB (some ⟨w.heap.size, 0, none⟩)) (w.alloc (.cells #[] 60)) w') → ∃ A' cap', v' = Value.slice A' i cap' ∧ OwnR w' w.heap.size 60 2 A' i cap' (dues (L.take i)) ∧ Fr (fun _ => False) w w' from by
    rintro v' w' ⟨A', cap', rfl, h1, h2⟩
    rw [Nat.zero_add, List.nil_append] at h1
    have hF : Fr (fun _ => False) w w' := hFA.since h2 (fun j hj hl => by
      obtain ⟨q, hq, rfl⟩ := hj
      injection hq with hq
      subst hq
      simp only at hl
      omega)
    exact ⟨A', cap', by rw [Nat.zero_add], h1, hF⟩)
  clear h k1 k2 k3 hx hxe hid2 hf hL hil hq hg ht hs hFA
  have HLN := hid (show (L.take i ++ L.drop (i + 1)).length = i + (q - (i + 1)) from by rw [List.length_append, List.length_take, List.length_drop, HQ.out]; omega)
  have HRUN2 := hid (show ∀ (A6 : Option Addr) (cap6 : Nat) (w6 : World), OwnR w6 w.heap.size 60 2 A6 i cap6 (dues (L.take i)) → Fr (fun _ => False) w w6 → _ from fun A6 cap6 w6 h1 h2 => run_appD (c2 := cap - (i + 1)) 26 h1 (Y := L.drop (i + 1)) ⟨g, (i + 1) * 2, none⟩ (show (L.drop (i + 1)).length = q - (i + 1) by rw [List.length_drop, HQ.out]) (fun j u hu => by
    rw [add_none]
    refine HCL.out _ h2 _ u ?_
    rw [← dues_drop, List.getElem?_drop] at hu
    exact hu) (by omega) h2.size)
  have HRUN3 := hid (show cap = i + 1 → ∀ (A6 : Option Addr) (cap6 : Nat) (w6 : World), OwnR w6 w.heap.size 60 2 A6 i cap6 (dues (L.take i)) → Fr (fun _ => False) w w6 → _ from fun hc A6 cap6 w6 h1 h2 => run_appD (c2 := 0) 26 h1 (Y := L.drop (i + 1)) ⟨g, 0, none⟩ (show (L.drop (i + 1)).length = q - (i + 1) by rw [List.length_drop, HQ.out]) (fun j u hu => by
    rw [List.drop_of_length_le (by rw [HQ.out]; omega)] at hu
    simp [dues] at hu) (by omega) h2.size)
  have HEND := hid (show ∀ (A7 : Option Addr) (cap7 : Nat) (w6 w7 : World), Fr (fun _ => False) w w6 → OwnR w7 w.heap.size 60 2 A7 (i + (q - (i + 1))) cap7 (dues (L.take i ++ L.drop (i + 1))) → (∃ S, Fr S w6 w7 ∧ ∀ k, S k → w.heap.size ≤ k) → RkPost O r now (drp id T) w (w7.setCell ⟨r, 1, none⟩ (.slice A7 (i + (q - (i + 1))) cap7)) from by
    intro A7 cap7 w6 w7 f1 h2 ⟨S, f2, hS⟩
    have hF : Fr (fun _ => False) w w7 := f1.since f2 (fun k hk hl => by have := hS k hk; omega)
    have hK := HK.out.same hF
    have hFs := Fr.setCell (S := fun j => j = r) w7 ⟨r, 1, none⟩ (.slice A7 (i + (q - (i + 1))) cap7) rfl
    have hrl := HK.out.hc.lt
    have hR : Rk (w7.setCell ⟨r, 1, none⟩ (.slice A7 (i + (q - (i + 1))) cap7)) r now A7 cap7 (L.take i ++ L.drop (i + 1)) := ⟨by rw [HLN.out]; exact TBlk.set hK.hc 1 (.slice A7 (i + (q - (i + 1))) cap7), by rw [HLN.out]; exact OwnR.less (OwnR.keep h2 hFs (fun j hj e => by have := (OwnR.lt h2 j hj).1; omega)) (Nat.zero_le _)⟩
    refine ⟨fun k => k = r ∨ ownB A7 k, ⟨⟨_, _, _, hR, HPM.out, fun _ h => h⟩, ?_⟩, (hF.mono (fun _ h => h.elim)).trans (hFs.mono (fun k hk => HO.out k (.inl hk))), ?_⟩
    · rintro k (rfl | hk)
      · exact hR.hc.lt
      · exact (OwnR.lt hR.row k hk).2
    · rintro k (rfl | hk)
      · exact .inl (HO.out _ (.inl rfl))
      · exact .inr (OwnR.lt h2 k hk).1)
  by_cases hcq : cap = i + 1
  · have HR := hid (HRUN3.out hcq)
    go_enter Try.func14, Try.ntmps14
    go_wp2_with fail
    refine HFD.out.mono ?_
    rintro e w' ⟨rfl, rfl⟩
    go_wp2_with (at_builtin; (first
      | (refine wpList_app (by rfl) _ _ 26 rfl _ _ rfl rfl _ HR6.out ?_; rintro v7 w7 ⟨A7, cap7, rfl, hO7, hF7⟩; have HK7 := hid (HK6.out.keep hF7 (fun k hk hk2 => by have := (OwnR.lt HO6.out k hk2).1; rcases hk with rfl | hk; omega; have := (OwnR.lt HK.out.row k hk).2; omega)); have HE := hid (HEND.out A7 cap7 w6 w7 HF6.out hO7 ⟨_, hF7, fun k hk => (OwnR.lt HO6.out k hk).1⟩); have d1 : w7.cell? ⟨r, 1, none⟩ = some (.slice (some ⟨g, 0, none⟩) q cap) := HQ.out ▸ HK7.out.hc.cell (i := 1) rfl; have z1 := HK7.out.hc.frozen 1; have dl := HK7.out.hc.lt; clear hO7 hF7)
      | (refine wpList_app (by rfl) _ _ 26 rfl _ _ rfl rfl _ HRUN.out ?_; rintro v6 w6 hZ; obtain ⟨A6, cap6, rfl, hO6, hF6⟩ := HX6.out v6 w6 hZ; have HO6 := hid hO6; have HF6 := hid hF6; have HK6 := hid (HK.out.same hF6); have HR6 := hid (HR.out A6 cap6 w6 hO6 hF6); have d1 : w6.cell? ⟨r, 1, none⟩ = some (.slice (some ⟨g, 0, none⟩) q cap) := HQ.out ▸ HK6.out.hc.cell (i := 1) rfl; have z1 := HK6.out.hc.frozen 1; have dl := HK6.out.hc.lt; clear hZ hO6 hF6)))
    go_ret
    exact ⟨rfl, HE.out⟩
  · have HR := hid (HRUN2.out)
    go_enter Try.func14, Try.ntmps14
    go_wp2_with fail
    refine HFD.out.mono ?_
    rintro e w' ⟨rfl, rfl⟩
    go_wp2_with (at_builtin; (first
      | (refine wpList_app (by rfl) _ _ 26 rfl _ _ rfl rfl _ HR6.out ?_; rintro v7 w7 ⟨A7, cap7, rfl, hO7, hF7⟩; have HK7 := hid (HK6.out.keep hF7 (fun k hk hk2 => by have := (OwnR.lt HO6.out k hk2).1; rcases hk with rfl | hk; omega; have := (OwnR.lt HK.out.row k hk).2; omega)); have HE := hid (HEND.out A7 cap7 w6 w7 HF6.out hO7 ⟨_, hF7, fun k hk => (OwnR.lt HO6.out k hk).1⟩); have d1 : w7.cell? ⟨r, 1, none⟩ = some (.slice (some ⟨g, 0, none⟩) q cap) := HQ.out ▸ HK7.out.hc.cell (i := 1) rfl; have z1 := HK7.out.hc.frozen 1; have dl := HK7.out.hc.lt; clear hO7 hF7)
      | (refine wpList_app (by rfl) _ _ 26 rfl _ _ rfl rfl _ HRUN.out ?_; rintro v6 w6 hZ; obtain ⟨A6, cap6, rfl, hO6, hF6⟩ := HX6.out v6 w6 hZ; have HO6 := hid hO6; have HF6 := hid hF6; have HK6 := hid (HK.out.same hF6); have HR6 := hid (HR.out A6 cap6 w6 hO6 hF6); have d1 : w6.cell? ⟨r, 1, none⟩ = some (.slice (some ⟨g, 0, none⟩) q cap) := HQ.out ▸ HK6.out.hc.cell (i := 1) rfl; have z1 := HK6.out.hc.frozen 1; have dl := HK6.out.hc.lt; clear hZ hO6 hF6)))
    go_ret
    exact ⟨rfl, HE.out⟩

theorem r_drop (id : Int) (h : Rkm w O r now T) (hi : Ids T) (hs : T.length < 50000) :
    Calls Try.prog 14 #[.pointer (some ⟨r, 0, none⟩), .int .i64 id] w fun e w' => e = .returned (.bool (hasId id T)) ∧ RkPost O r now (dropT id T) w w' := by
  unfold dropT
  cases hh : hasId id T with
  | true => exact r_drop_ok w id h hi hh hs
  | false =>
    obtain ⟨A, cap, L, k1, k2, k3⟩ := h.ex
    have HFD := hid (r_find w id k1 (by rw [k2.length_eq]; omega))
    have hf : findI L id = -1 := by unfold findI; rw [hasId_perm k2, hh]; rfl
    rw [hf] at HFD
    have HH := hid h
    clear h hf k1 k2 k3 hh
    go_enter Try.func14, Try.ntmps14
    go_wp2_with fail
    refine HFD.out.mono ?_
    rintro e w' ⟨rfl, rfl⟩
    go_wp2_with fail
    go_ret
    exact ⟨rfl, RkPost.of_eq HH.out rfl⟩
end
end Go.Proofs.Ytpgbhgkikpmhiaa
