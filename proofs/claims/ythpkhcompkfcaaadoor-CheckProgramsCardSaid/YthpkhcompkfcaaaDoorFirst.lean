/-
  The first fault that is told.
-/
import Derived.Test.YthpkhcompkfcaaaDoorParts
namespace Go.Proofs.YthpkhcompkfcaaaDoor
open Go.RowKit

/-- Who tells, and what. -/
structure Tell where
  f : Nat
  r : Value
  x : Flt

def Tell.fv (t : Tell) : Value := .func (.func t.f) #[t.r] #[]

def firstT : List Tell → Flt
  | [] => Flt.none
  | t :: r => if t.x = Flt.none then firstT r else t.x

theorem firstT_stop {L : List Tell} {k : Nat} {t : Tell} (h : ∀ (j : Nat) (t' : Tell), j < k → L[j]? = some t' → t'.x = Flt.none) (hk : L[k]? = some t) (hx : t.x ≠ Flt.none) : firstT L = t.x := by
  induction L generalizing k with
  | nil => simp at hk
  | cons a r ih =>
    cases k with
    | zero =>
      simp at hk
      subst hk
      simp [firstT, hx]
    | succ k =>
      have h0 := h 0 a (by omega) rfl
      rw [firstT, if_pos h0]
      exact ih (k := k) (fun j t' hj ht => h (j + 1) t' (by omega) (by simpa using ht)) (by simpa using hk)

theorem firstT_none {L : List Tell} (h : ∀ (j : Nat) t', L[j]? = some t' → t'.x = Flt.none) : firstT L = Flt.none := by
  induction L with
  | nil => rfl
  | cons a r ih =>
    rw [firstT, if_pos (h 0 a rfl)]
    exact ih fun j t' ht => h (j + 1) t' (by simpa using ht)

def FiRel (L : List Tell) (W0 : World) (d : Nat) (k : Value) (wr : World) : Prop :=
  ∃ j : Nat, j ≤ L.length ∧ d = L.length - j ∧ k = .int .i64 j ∧ (∀ (i : Nat) (t : Tell), i < j → L[i]? = some t → t.x = Flt.none) ∧ Fr (fun _ => False) W0 wr

set_option maxHeartbeats 1000000 in
theorem first_any (b o c : Nat) (L : List Tell) (n : Nat) (w : World) (hn : L.length = n) (hn2 : n ≤ 4) (hb : b < w.heap.size) (hcell : ∀ (k : Nat) (t : Tell), L[k]? = some t → w.cell? ⟨b, o + k, none⟩ = some t.fv)
    (hent : ∀ (k : Nat) (t : Tell), L[k]? = some t → ∀ args w, (callFunc t.f args).run Tryd.prog w = .ok (.enter t.f args) w)
    (hcall : ∀ (k : Nat) (t : Tell) (W : World), L[k]? = some t → (∀ (j : Nat) (t' : Tell), j < k → L[j]? = some t' → t'.x = Flt.none) → Fr (fun _ => False) w W → Calls Tryd.prog t.f #[t.r] W (FltPost W t.x)) :
    Calls Tryd.prog 29 #[.slice (some ⟨b, o, none⟩) n c] w (FltPost w (firstT L)) := by
  have HN := hid hn
  have HENT := hid hent
  have HCALL := hid hcall
  have HCELL := hid hcell
  clear hn hent hcall hcell
  have HA := hid (Fr.alloc (fun _ => False) w (.cells #[.int .i64 0, .int .i64 0, .int .i64 0] 38))
  have HR0 := hid (Blk.new w #[.int .i64 0, .int .i64 0, .int .i64 0] 38)
  go_enter Tryd.func29, Tryd.ntmps29
  go_wp2_with fail
  go_loopg [8] n (fun d k wr => FiRel L (w.alloc (.cells #[.int .i64 0, .int .i64 0, .int .i64 0] 38)) d k wr)
  case atStart => exact ⟨0, by omega, by rw [HN.out, Nat.sub_zero], rfl, fun i t h => by omega, Fr.refl _ _⟩
  case round =>
    obtain ⟨wo, rfl⟩ : ∃ wo, wo = wr := ⟨_, rfl⟩
    obtain ⟨k, hk, hd, rfl, he, hF⟩ := hrel
    rw [HN.out] at hk hd
    have HE := hid he
    have HD := hid hd
    have HF := hid hF
    have hR := HR0.out.keep hF (fun h => h)
    clear he hd
    by_cases hlt : k < n
    · obtain ⟨t, ht⟩ : ∃ t, L[k]? = some t := ⟨_, List.getElem?_eq_getElem (by rw [HN.out]; exact hlt)⟩
      have p0 : wo.cell? ⟨b, o + k, none⟩ = some t.fv := (cell_keep (HA.out.trans hF) (p := ⟨b, o + k, none⟩) hb (fun h => h)).trans (HCELL.out k t ht)
      have hbl : b < wo.heap.size := Nat.lt_of_lt_of_le hb (HA.out.trans hF).size
      have eg := HENT.out k t ht
      have HC := hid (HCALL.out k t wo ht HE.out (HA.out.trans hF))
      have HT := hid ht
      clear ht hF
      obtain ⟨f, r, ⟨x0, x1, x2⟩⟩ := t
      unfold Tell.fv at p0
      simp only at p0 eg HC
      go_wp2_with fail
      refine HC.out.mono ?_
      rintro e w1 ⟨rfl, hF1⟩
      unfold Flt.val
      simp only
      have hF2 := hF1.trans (Fr.alloc _ w1 (.cells #[.int .i64 x0, .int .i64 x1, .int .i64 x2] 38))
      have hR2 := hR.keep hF2 (fun h => h)
      have HF2 := hid (HF.out.trans hF2)
      clear hF1 hF2 hR p0 eg
      by_cases hx : x0 = 0 ∧ x1 = 0 ∧ x2 = 0
      · obtain ⟨rfl, rfl, rfl⟩ := hx
        go_wp2_with fail
        go_roundg (n - (k + 1))
        case rel =>
          refine ⟨k + 1, by rw [HN.out]; omega, by rw [HN.out], by go_num, fun i t hi hit => ?_, HF2.out⟩
          rcases Nat.lt_or_ge i k with h | h
          · exact HE.out i t h hit
          · obtain rfl : i = k := by omega
            have := HT.out
            rw [hit] at this
            cases this
            rfl
        case measure => have := HD.out; omega
      · have HX := hid hx
        have HQ := hid (show firstT L = ⟨x0, x1, x2⟩ from firstT_stop HE.out HT.out (by intro h; injection h with h1 h2 h3; exact hx ⟨h1, h2, h3⟩))
        have hm : ¬ x0 = 0 ∨ (x0 = 0 ∧ ¬ x1 = 0) ∨ (x0 = 0 ∧ x1 = 0 ∧ ¬ x2 = 0) := by
          by_cases h0 : x0 = 0
          · by_cases h1 : x1 = 0
            · exact .inr (.inr ⟨h0, h1, fun h2 => hx ⟨h0, h1, h2⟩⟩)
            · exact .inr (.inl ⟨h0, h1⟩)
          · exact .inl h0
        clear hx
        rcases hm with hm | ⟨rfl, hm⟩ | ⟨rfl, rfl, hm⟩
        all_goals
          have z0 := hR2.frozen 0
          have z1 := hR2.frozen 1
          have z2 := hR2.frozen 2
          have r0 := hR2.cell (i := 0) rfl
          have r1 := hR2.cell (i := 1) rfl
          have r2 := hR2.cell (i := 2) rfl
          go_wp2_with fail
          refine bodyPost_ret (by simp [results, Tryd.results29, go_sem, r0, r1, r2]; try rfl) rfl (FltPost.eq (x := firstT L) ⟨by rw [HQ.out]; rfl, Fr.put3 (HA.out.trans HF2.out) _ _ _ (by omega)⟩ rfl)
    · have HQ := hid (show firstT L = Flt.none from firstT_none fun j t hj => HE.out j t (by have := (List.getElem?_eq_some_iff.1 hj).1; rw [HN.out] at this; omega) hj)
      have z0 := hR.frozen 0
      have z1 := hR.frozen 1
      have z2 := hR.frozen 2
      have r0 := hR.cell (i := 0) rfl
      have r1 := hR.cell (i := 1) rfl
      have r2 := hR.cell (i := 2) rfl
      clear hF hR
      go_wp2_with fail
      refine bodyPost_ret (v := .agg #[.int .i64 0, .int .i64 0, .int .i64 0]) (by simp [results, Tryd.results29, go_sem, r0, r1, r2]; try rfl) rfl (FltPost.eq (x := Flt.none) ⟨rfl, Fr.put3 (HA.out.trans HF.out) _ _ _ (by omega)⟩ HQ.out.symm)

end Go.Proofs.YthpkhcompkfcaaaDoor
