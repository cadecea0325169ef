/-
  Stage 7: the row at the end of a way: the document's.
-/
import Derived.Test.YticlnopklpaikaaDoorRWay
namespace Go.Proofs.YticlnopklpaikaaDoor
open Go.RowKit
set_option linter.unusedVariables false

theorem findN_low (m : List Tw) (w : List Nat) : findN m w < 0 → findN m w = -1 := by
  cases w with
  | nil => intro h; simp [findN] at h
  | cons n w =>
    intro h
    simp only [findN] at h ⊢
    by_cases hn : findN m w < 0
    · rw [if_pos hn]
    · rw [if_neg hn] at h ⊢
      cases hk : (kidsN m (findN m w) m.length)[n]? with
      | none => rfl
      | some x =>
        rw [hk] at h
        obtain ⟨k, hx, _⟩ := kidsN_at _ hk
        simp at h
        omega

theorem findN_app (m : List Tw) (a b : List Nat) (h : findN m b = -1) : findN m (a ++ b) = -1 := by
  induction a with
  | nil => exact h
  | cons x a ih =>
    rw [List.cons_append, findN, ih, if_pos (by omega)]

def FdRel (mm : List Tw) (ws : List Nat) (m : Nat) (w : World) (d : Nat) (iv kv : Value) (wr : World) : Prop :=
  ∃ (e q : Nat), e ≤ ws.length ∧ q < m ∧ d = e + 1 ∧ kv = .int .i64 ((e : Int) - 1) ∧ iv = .int .i64 q ∧ findN mm (ws.drop e) = q ∧ Fr (fun _ => False) w wr

set_option maxRecDepth 100000 in
set_option maxHeartbeats 4000000 in
theorem rfind_any (B A' : Option Addr) (m c' nk cap B0 : Nat) (mm : List Tw) (ws : List Nat) (w : World) (hB : RdT w B mm) (hm : mm.length = m) (hm4 : m ≤ 4000000) (hm0 : 0 < m) (hk : ws.length = nk) (hnk : nk ≤ 4000000) (hO : OwnR w B0 3 1 A' nk cap (intsV (natI ws))) :
    Calls Tryd.prog 39 #[.slice B m c', .slice A' nk cap] w fun e w' => e = .returned (.int .i64 (findN mm ws)) ∧ Fr (fun _ => False) w w' := by
  have HKD := hid (fun (W : World) (hW : Fr (fun _ => False) w W) (t : Int) => rkids_any B m c' mm t W (hB.same hW) hm hm4)
  have HM := hid hm
  have HK := hid hk
  have HOW := hid hO
  obtain ⟨X, hX⟩ : ∃ X, findN mm ws = X := ⟨_, rfl⟩
  rw [hX]
  have HX := hid hX
  clear hB hm hk hO hX
  go_enter Tryd.func39, Tryd.ntmps39
  go_wp2_with fail
  go_loopg [5, 6] (nk + 1) (fun d iv kv wr => FdRel mm ws m w d iv kv wr)
  case atStart => exact ⟨nk, 0, by rw [HK.out]; omega, hm0, rfl, rfl, rfl, by rw [List.drop_of_length_le (by rw [HK.out]; omega)]; rfl, Fr.refl _ _⟩
  case round =>
    obtain ⟨e, q, he, hq, hd, rfl, rfl, hf, hF⟩ := hrel
    rw [HK.out] at he
    have HD := hid hd
    have HFN := hid hf
    have HF := hid hF
    clear hd hf hF
    by_cases h0 : 0 < e
    · obtain ⟨x, hx⟩ : ∃ x, ws[e - 1]? = some x := ⟨_, List.getElem?_eq_getElem (by rw [HK.out]; omega)⟩
      have hdr : ws.drop (e - 1) = x :: ws.drop e := by
        rw [List.drop_eq_getElem_cons (by rw [HK.out]; omega), show e - 1 + 1 = e by omega]
        have := (List.getElem?_eq_some_iff.1 hx).2
        rw [this]
      have hfn : findN mm (ws.drop (e - 1)) = ((kidsN mm q m)[x]?).getD (-1) := by
        rw [hdr, findN, HFN.out, if_neg (by omega), HM.out]
      have HNX := hid hfn
      have HWX := hid hx
      clear hx hdr hfn
      go_wp2_with fail
      refine (HKD.out _ HF.out _).mono ?_
      rintro e2 w2 ⟨N, K, kcap, rfl, hN, hKO, hF2⟩
      have HF2 := hid (HF.out.trans hF2)
      obtain ⟨gw, rfl, _, hgw, _, hcw⟩ := (OwnR.same HOW.out HF2.out).cell (by omega)
      have v1 := hcw (e - 1) (.int .i64 x) (by unfold intsV natI; rw [List.getElem?_map, List.getElem?_map, HWX.out]; rfl)
      have hNm : N ≤ m := by rw [hN]; exact kidsN_len mm q m
      have HN := hid hN
      have HKO := hid hKO
      have hi0 : (0 : Int) ≤ (e : Int) - 1 ∧ (e : Int) - 1 < nk := by omega
      have hi1 : ((e : Int) - 1).toNat = e - 1 := by omega
      clear hN hKO hF2 hcw
      by_cases hxN : x < N
      · obtain ⟨y, hy⟩ : ∃ y, (kidsN mm q m)[x]? = some y := ⟨_, List.getElem?_eq_getElem (by rw [← HN.out]; exact hxN)⟩
        obtain ⟨z, rfl, hz, _⟩ := kidsN_at m hy
        obtain ⟨gk, rfl, _, hgk, _, hck⟩ := HKO.out.cell (by omega)
        have v2 := hck x (.int .i64 z) (by unfold intsV; rw [List.getElem?_map, hy]; rfl)
        have HY := hid hy
        have hx0 : (0 : Int) ≤ x ∧ (x : Int) < N := by omega
        clear hy hck
        go_wp2_with fail
        go_roundg e
        case rel => exact ⟨e - 1, z, by rw [HK.out]; omega, hz, by omega, by rw [show (((e - 1 : Nat) : Int)) = (e : Int) - 1 by omega], rfl, by rw [HNX.out, HY.out]; rfl, HF2.out⟩
        case measure => have := HD.out; omega
      · have hxn : (N : Int) ≤ x := by omega
        have HNO := hid (show X = -1 by
          rw [← HX.out]
          have h1 : findN mm (ws.drop (e - 1)) = -1 := by
            rw [HNX.out, List.getElem?_eq_none (by rw [← HN.out]; omega)]
            rfl
          have h2 := findN_app mm (ws.take (e - 1)) _ h1
          rwa [List.take_append_drop] at h2)
        go_wp2_with fail
        go_ret
        exact ⟨by rw [HNO.out]; rfl, HF2.out⟩
    · have HE := hid (show X = q by
        rw [← HX.out, ← HFN.out, show e = 0 by omega]
        rfl)
      go_wp2_with fail
      go_ret
      exact ⟨by rw [HE.out]; rfl, HF.out⟩

end Go.Proofs.YticlnopklpaikaaDoor
