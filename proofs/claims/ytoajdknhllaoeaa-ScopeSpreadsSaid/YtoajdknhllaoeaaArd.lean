/-
  around of the laws (walk); blocks told by functions.
-/
import Derived.Test.YtoajdknhllaoeaaGrx
namespace Go.Proofs.Ytoajdknhllaoeaa
open Go.RowKit
set_option linter.unusedVariables false

/-- Values told by a function, in a block. -/
def aV (f : Nat → Value) (n : Nat) : Array Value := ((List.range n).map f).toArray

theorem aV_size (f : Nat → Value) (n : Nat) : (aV f n).size = n := by simp [aV]
theorem aV_at (f : Nat → Value) {n k : Nat} (h : k < n) : (aV f n)[k]? = some (f k) := by simp [aV, h]
theorem aV_cong {f g : Nat → Value} {n : Nat} (h : ∀ k, k < n → f k = g k) : aV f n = aV g n := by
  unfold aV
  congr 1
  exact List.map_congr_left (fun k hk => h k (List.mem_range.1 hk))
theorem aV_set (f : Nat → Value) {n k : Nat} (h : k < n) (x : Value) : (aV f n).setIfInBounds k x = aV (fun i => if i = k then x else f i) n := by
  unfold aV
  rw [List.setIfInBounds_toArray]
  congr 1
  apply List.ext_getElem
  · simp
  · intro i h1 h2
    rw [List.getElem_set]
    by_cases e : k = i
    · subst e; simp
    · rw [if_neg e]; simp [show ¬ i = k from fun h => e h.symm]
theorem made_aV (z : Value) (n : Nat) : madeCells #[z] n = aV (fun _ => z) n := by
  apply Array.ext
  · simp [size_madeCells, aV]
  · intro i h1 h2
    simp [madeCells, aV, Nat.mod_one]

def AdRel (w : World) (par nst : Nat → Nat) (s of : Nat) (d : Nat) (z : Value) (wr : World) : Prop :=
  (∃ t : Nat, t ≤ nst s ∧ d = nst s + 2 - t ∧ z = .int .i64 (up par s t : Nat) ∧ w = wr ∧ ∀ j, j < t → up par s j ≠ of) ∨ (d = 1 ∧ z = .int .i64 (-1) ∧ w = wr ∧ ¬ Ard par nst s of)

set_option maxRecDepth 100000 in
set_option maxHeartbeats 2000000 in
theorem around_ok {n : Nat} {par nst : Nat → Nat} (hT : Tre n par nst) (A : Option Addr) (cap B : Nat) (s of : Nat) (r : Bool) (w : World) (hs : s < n) (ho : of < n) (hn : n < 1000000) (hr : r = true ↔ Ard par nst s of) (h : OwnR w B 3 1 A n cap (fV (pI par) n)) :
    Calls Try.prog 36 #[.slice A n cap, .int .i64 s, .int .i64 of] w fun e w' => e = .returned (.bool r) ∧ w = w' := by
  have HT := hid hT
  have HS := hid hs
  have HO := hid ho
  have HR := hid hr
  have HH := hid h
  have HN := hid hn
  have HREL := hid (show AdRel w par nst s of (nst s + 2) (.int .i64 s) w from .inl ⟨0, Nat.zero_le _, by omega, rfl, rfl, fun j hj => by omega⟩)
  clear hT hs ho hr h hn
  go_enter Try.func36, Try.ntmps36
  go_wp2_with fail
  go_loopg [1] (nst s + 2) (fun d z wr => AdRel w par nst s of d z wr)
  case atStart => exact HREL.out
  case round =>
    clear HREL
    rcases hrel with ⟨t, ht, rfl, rfl, hw, hno⟩ | ⟨rfl, rfl, hw, hno⟩
    · subst hw
      have HTT := hid ht
      have HNO := hid hno
      have HA := hid (HT.out.ard_at HS.out ht hno)
      have HUP := hid (HT.out.up_in HS.out t ht)
      have HPU := hid (show t < nst s → pI par (up par s t) = (up par s (t + 1) : Nat) from fun h => pI_up HT.out HS.out h)
      have HPT := hid (show t = nst s → pI par (up par s t) = -1 from fun h => by rw [h]; exact pI_top HT.out HS.out)
      obtain ⟨k, hk⟩ : ∃ k, up par s t = k := ⟨_, rfl⟩
      rw [hk] at HA HUP HPU HPT ⊢
      have HK := hid hk
      have t1 : decide ((0 : Int) ≤ (k : Int)) = true := decide_eq_true (by omega)
      clear hk ht hno
      by_cases he : k = of
      · have hrt : r = true := HR.out.2 (HA.out.1 he)
        subst hrt
        subst he
        have t2 : ((k : Int) != (k : Int)) = false := by simp
        go_wp2_with fail
        go_ret
        exact ⟨rfl, rfl⟩
      · have t2 : ((k : Int) != (of : Int)) = true := by simp; omega
        have hkn : k < n := HUP.out.1
        have hkn2 : (k : Int) < n := by omega
        obtain ⟨g, rfl, hcap, hgl, hc⟩ := HH.out.at_ hkn
        obtain ⟨q, hq⟩ : ∃ q, pI par k = q := ⟨_, rfl⟩
        rw [hq] at hc
        have HQ := hid hq
        have HE := hid he
        clear hq he
        go_wp2_with fail
        go_roundg (nst s + 2 - (t + 1))
        case rel =>
          by_cases hlt : t < nst s
          · refine .inl ⟨t + 1, hlt, rfl, by rw [← HQ.out, HPU.out hlt], rfl, fun j hj => ?_⟩
            by_cases e : j = t
            · rw [e, HK.out]; exact HE.out
            · exact HNO.out j (by omega)
          · have hte : t = nst s := by have := HTT.out; omega
            refine .inr ⟨by omega, by rw [← HQ.out, HPT.out hte], rfl, HA.out.2.1 HE.out ?_⟩
            rw [← HK.out, hte]
            exact HT.out.up_top HS.out
        case measure => have := HTT.out; omega
    · subst hw
      have hrf : r = false := by
        cases r with
        | false => rfl
        | true => exact absurd (HR.out.1 rfl) hno
      subst hrf
      have t3 : ((-1 : Int) == (of : Int)) = false := by simp
      clear hno
      go_wp2_with fail
      go_ret
      exact ⟨rfl, rfl⟩
end Go.Proofs.Ytoajdknhllaoeaa
