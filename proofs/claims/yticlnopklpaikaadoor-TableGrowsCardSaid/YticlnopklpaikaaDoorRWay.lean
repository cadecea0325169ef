/-
  Stage 7: ways, and what lies at their ends: the document's.
-/
import Derived.Test.YticlnopklpaikaaDoorBrood
namespace Go.Proofs.YticlnopklpaikaaDoor
open Go.RowKit
set_option linter.unusedVariables false

def natI (l : List Nat) : List Int := l.map (fun (k : Nat) => (k : Int))

/-- Where the outer loop stands. -/
def WyRel (l : List Tw) (ws0 : List Nat) (n B : Nat) (w : World) (d : Nat) (iv ov : Value) (wr : World) : Prop :=
  ∃ (y nk : Nat) (ws : List Nat) (A' : Option Addr) (cap : Nat), y < n ∧ d = y + 1 ∧ iv = .int .i64 y ∧ ws.length = nk ∧ nk + y ≤ n ∧ ov = .slice A' nk cap ∧ ws0 = ws ++ wayN l (y + 1) y ∧ OwnR wr B 3 1 A' nk cap (intsV (natI ws)) ∧ Fr (fun _ => False) w wr

/-- Where the count stands. -/
def WyIn (l : List Tw) (p : Int) (y : Nat) (w : World) (d : Nat) (nv kv : Value) (wr : World) : Prop :=
  ∃ k : Nat, k ≤ y ∧ d = y + 1 - k ∧ kv = .int .i64 k ∧ nv = .int .i64 ((kidsN l p k).length : Int) ∧ Fr (fun _ => False) w wr

def WyPost (l : List Tw) (i : Nat) (w : World) (e : Ending) (w' : World) : Prop :=
  ∃ (nk : Nat) (A' : Option Addr) (cap : Nat), e = .returned (.slice A' nk cap) ∧ (wayN l (i + 1) i).length = nk ∧ nk ≤ 4000000 ∧ OwnR w' w.heap.size 3 1 A' nk cap (intsV (natI (wayN l (i + 1) i))) ∧ Fr (fun _ => False) w w'

set_option maxRecDepth 100000 in
set_option maxHeartbeats 4000000 in
theorem rway_any (A : Option Addr) (n c i : Nat) (l : List Tw) (w : World) (hA : RdT w A l) (hl : l.length = n) (hn : n ≤ 4000000) (hi : i < n) (ht : Tabl l) :
    Calls Tryd.prog 40 #[.slice A n c, .int .i64 (i : Int)] w (WyPost l i w) := by
  have HL := hid hl
  have HTB := hid ht
  have HCE := hid (fun (W : World) (hW : Fr (fun _ => False) w W) (j : Nat) (r : Tw) (hr : l[j]? = some r) => (hA.same hW).cell hr)
  obtain ⟨i0, hii, hzz⟩ := Option.map_eq_some_iff.1 infoint
  simp only [Prod.mk.injEq] at hzz
  obtain ⟨hy0, hy1, hy2⟩ := hzz
  have HII := hid hii
  have HZ0 := hid hy0
  have HZ1 := hid hy1
  have HZ2 := hid hy2
  obtain ⟨ws0, hws0⟩ : ∃ x, wayN l (i + 1) i = x := ⟨_, rfl⟩
  have HWS := hid hws0
  unfold WyPost
  rw [hws0]
  clear hl ht hA hii hy0 hy1 hy2 hws0
  go_enter Tryd.func40, Tryd.ntmps40
  go_wp2_with fail
  go_loopg [1, 5] (i + 1) (fun d iv ov wr => WyRel l ws0 n w.heap.size w d iv ov wr)
  case atStart => exact ⟨i, 0, [], none, 0, hi, rfl, rfl, rfl, by omega, rfl, HWS.out.symm, OwnR.nil _ _ _ _, Fr.refl _ _⟩
  case round =>
    obtain ⟨wo, rfl⟩ : ∃ wo, wo = wr := ⟨_, rfl⟩
    obtain ⟨y, nk, ws, A', cap, hy, hd, rfl, hk, hnk, rfl, hws, hO, hF⟩ := hrel
    have HD := hid hd
    have HK := hid hk
    have HW := hid hws
    have HO := hid hO
    have HF := hid hF
    clear hd hk hws hO hF
    obtain ⟨r, hr⟩ : ∃ r, l[y]? = some r := ⟨_, List.getElem?_eq_getElem (by rw [HL.out]; omega)⟩
    obtain ⟨ga, oga, rfl, hga, hcc⟩ := HCE.out wo HF.out y r hr
    have q0 : wo.cell? ⟨ga, oga + y * 7, none⟩ = some (.int .i64 r.par) := hcc 0 _ rfl
    have HP := hid (parAt_of' hr)
    have hyy : (0 : Int) ≤ y ∧ (y : Int) < n := by omega
    obtain ⟨p, hp⟩ : ∃ p, r.par = p := ⟨_, rfl⟩
    rw [hp] at q0 HP
    clear hr hcc hp
    by_cases h0 : 0 ≤ p
    · have hlow := parAt_low HTB.out (i := (y : Int)) (by rw [HP.out]; exact h0)
      rw [HP.out] at hlow
      obtain ⟨z, rfl⟩ : ∃ z : Nat, p = z := ⟨p.toNat, by omega⟩
      have hzy : z < y := by omega
      clear hlow
      go_wp2_with fail
      go_loopg [6, 7] (y + 1) (fun d nv kv wr => WyIn l (z : Int) y wo d nv kv wr)
      case atStart => exact ⟨0, by omega, by omega, rfl, rfl, Fr.refl _ _⟩
      case round =>
        obtain ⟨k, hk2, hd2, rfl, rfl, hF2⟩ := hrel
        have HD2 := hid hd2
        have HF2 := hid hF2
        clear hd2 hF2
        have hkl := kidsN_len l (z : Int) k
        by_cases hlt : k < y
        · obtain ⟨s, hs⟩ : ∃ s, l[k]? = some s := ⟨_, List.getElem?_eq_getElem (by rw [HL.out]; omega)⟩
          obtain ⟨gb, ob, e1, hgb, hcc⟩ := HCE.out wr (HF.out.trans HF2.out) k s hs
          injection e1 with e1
          injection e1 with e1 eo
          subst e1 eo
          have c0 : wr.cell? ⟨ga, oga + k * 7, none⟩ = some (.int .i64 s.par) := hcc 0 _ rfl
          obtain ⟨ry, hry⟩ : ∃ r, l[y]? = some r := ⟨_, List.getElem?_eq_getElem (by rw [HL.out]; omega)⟩
          obtain ⟨gc, oc, e2, _, hcc2⟩ := HCE.out wr (HF.out.trans HF2.out) y ry hry
          injection e2 with e2
          injection e2 with e2 eo
          subst e2 eo
          have c1 : wr.cell? ⟨ga, oga + y * 7, none⟩ = some (.int .i64 z) := by
            have h1 := hcc2 0 _ rfl
            have h2 := parAt_of' hry
            rw [HP.out] at h2
            rw [← h2] at h1
            exact h1
          have HPK := hid (parAt_of' hs)
          have hk0 : (0 : Int) ≤ k ∧ (k : Int) < n := by omega
          obtain ⟨pk, hpk⟩ : ∃ x, s.par = x := ⟨_, rfl⟩
          rw [hpk] at c0 HPK
          obtain ⟨N, hN⟩ : ∃ x, (kidsN l (z : Int) k).length = x := ⟨_, rfl⟩
          rw [hN] at hkl ⊢
          have HN := hid hN
          clear hs hcc hry hcc2 hpk q0 hN
          go_upto_region 7 with fail
          go_region_held3 (fun W => W.cell? ⟨ga, oga + k * 7, none⟩ = some (.int .i64 pk) ∧ W.cell? ⟨ga, oga + y * 7, none⟩ = some (.int .i64 z)) (exact ⟨c0, c1⟩) (fail)
          clear c0 c1
          have HFd := hid (HF2.out.trans (Fr.drew _ wr))
          by_cases he : pk = z
          · have t1 : (pk == (z : Int)) = true := beq_iff_eq.2 he
            have HE := hid he
            clear he
            go_wp2_with fail
            go_roundg (y + 1 - (k + 1))
            case rel => exact ⟨k + 1, by omega, rfl, by go_num, by
              simp only [kidsN]
              rw [if_pos (by rw [HPK.out]; exact HE.out), List.length_append, HN.out]
              go_num, HFd.out⟩
            case measure => have := HD2.out; omega
          · have t1 : (pk == (z : Int)) = false := beq_eq_false_iff_ne.2 he
            have HE := hid he
            clear he
            go_wp2_with fail
            go_roundg (y + 1 - (k + 1))
            case rel => exact ⟨k + 1, by omega, rfl, by go_num, by
              simp only [kidsN]
              rw [if_neg (by rw [HPK.out]; exact HE.out), List.append_nil, HN.out], HFd.out⟩
            case measure => have := HD2.out; omega
        · have hky : k = y := by omega
          obtain ⟨N, hN⟩ : ∃ x, (kidsN l (z : Int) k).length = x := ⟨_, rfl⟩
          rw [hN] at hkl ⊢
          have HNO := hid (show kidNo l y = N by unfold kidNo; rw [HP.out, ← hky]; exact hN)
          have HNX := hid (show ws0 = (ws ++ [N]) ++ wayN l (z + 1) z by
            rw [HW.out, wayN, HP.out, if_pos (by omega), Int.toNat_natCast, HNO.out, wayN_more HTB.out y (z + 1) z (by omega) (by omega)]
            simp)
          obtain ⟨ry, hry⟩ : ∃ r, l[y]? = some r := ⟨_, List.getElem?_eq_getElem (by rw [HL.out]; omega)⟩
          have HC1 := hid (show ∀ W, Fr (fun _ => False) wo W → W.cell? ⟨ga, oga + y * 7, none⟩ = some (.int .i64 z) ∧ ga < W.heap.size from fun W hW => by
            obtain ⟨gc, oc, e2, hgc, hcc2⟩ := HCE.out W (HF.out.trans hW) y ry hry
            injection e2 with e2
            injection e2 with e2 eo
            subst e2 eo
            have h1 := hcc2 0 _ rfl
            have h2 := parAt_of' hry
            rw [HP.out] at h2
            rw [← h2] at h1
            exact ⟨h1, hgc⟩)
          have HA2 := hid (HF2.out.trans (Fr.alloc (fun _ => False) wr (.cells #[.int .i64 N] 3)))
          have HO2 := hid (OwnR.same HO.out HA2.out)
          have hBs : w.heap.size ≤ wr.heap.size := (HF.out.trans HF2.out).size
          have HNW := hid (newk wr 3 (.int .i64 N))
          have HNO2 := hid (fun j (hj : ownB A' j) => (OwnR.lt HO.out j hj).1)
          have hNy : N ≤ y := by omega
          have HGA := hid (show ¬ ownB A' ga from fun h => by
            obtain ⟨g', o', e, hg', _⟩ := HCE.out w (Fr.refl _ _) y ry hry
            injection e with e
            injection e with e eo
            subst e eo
            have := HNO2.out _ h
            omega)
          clear hN hky hry q0 hkl
          go_upto_region 9 with fail
          go_wp2_with (at_builtin; go_must (refine wpList_append_own _ rfl _ _ 28 rfl w.heap.size 3 i0 (.int .i64 0) 1 8 Tryd.underlying28 HII.out HZ0.out HZ1.out HZ2.out rfl (by decide) (.slice A' nk cap) nk _ rfl HO2.out ⟨wr.heap.size, 0, none⟩ 1 1 [.int .i64 N] rfl rfl HNW.out (by simp [Value.oneCell']) (by unfold maxLen; omega) (by omega) (by simp; omega) ?_; intro v2 w2 hown2 hgrow2 hnil2; clear hnil2; obtain ⟨A2, c2, rfl, ho2⟩ := OwnR.form hown2; have HO3 := hid ho2; have HFG := hid ((HA2.out.mono (fun _ h => h.elim)).trans (Fr.of_grown hgrow2)); have HF3 := hid (HF.out.since HFG.out (fun i hi hlt => by have := HNO2.out _ hi; show False; omega)); have HK2 := hid (show w2.cell? ⟨ga, oga + y * 7, none⟩ = some (.int .i64 z) ∧ ga < w2.heap.size from ⟨(cell_keep HFG.out (p := ⟨ga, oga + y * 7, none⟩) (HC1.out wo (Fr.refl _ _)).2 HGA.out).trans (HC1.out wo (Fr.refl _ _)).1, Nat.lt_of_lt_of_le (HC1.out wo (Fr.refl _ _)).2 HFG.out.size⟩); have r1 := HK2.out.1; have r2 := HK2.out.2; clear hown2 hgrow2 ho2))
          go_roundg (z + 1)
          case rel => exact ⟨z, nk + 1, ws ++ [N], A2, c2, by omega, rfl, rfl, by rw [List.length_append, HK.out]; rfl, by omega, rfl, HNX.out, by
            have := HO3.out
            unfold intsV natI at this ⊢
            rw [List.map_append, List.map_append]
            exact this, HF3.out⟩
          case measure => have := HD.out; omega
    · have HE := hid (show ws0 = ws by
        rw [HW.out]
        simp only [wayN]
        rw [HP.out, if_neg h0, List.append_nil])
      go_wp2_with fail
      go_ret
      exact ⟨nk, A', cap, rfl, by rw [HE.out]; exact HK.out, by omega, by rw [HE.out]; exact HO.out, HF.out⟩

end Go.Proofs.YticlnopklpaikaaDoor
