/-
  container/heap over a clock's line: up, down.
-/
import Derived.Test.YtpgbhgkikpmhiaaPo
namespace Go.Proofs.Ytpgbhgkikpmhiaa
open Go.RowKit
set_option linter.unusedVariables false

def lnV (c : Nat) : Value := .iface 67 (.pointer (some ⟨c, 1, none⟩))

theorem m_len (c : Nat) : ∀ w : World, (method 198 67 (.pointer (some ⟨c, 1, none⟩)) "Len").run Try.prog w = .ok (30, .pointer (some ⟨c, 1, none⟩)) w := fun _ => by kernel_rfl
theorem m_less (c : Nat) : ∀ w : World, (method 198 67 (.pointer (some ⟨c, 1, none⟩)) "Less").run Try.prog w = .ok (54, .pointer (some ⟨c, 1, none⟩)) w := fun _ => by kernel_rfl
theorem m_swap (c : Nat) : ∀ w : World, (method 198 67 (.pointer (some ⟨c, 1, none⟩)) "Swap").run Try.prog w = .ok (57, .pointer (some ⟨c, 1, none⟩)) w := fun _ => by kernel_rfl
theorem m_push (c : Nat) : ∀ w : World, (method 198 67 (.pointer (some ⟨c, 1, none⟩)) "Push").run Try.prog w = .ok (56, .pointer (some ⟨c, 1, none⟩)) w := fun _ => by kernel_rfl
theorem m_pop (c : Nat) : ∀ w : World, (method 198 67 (.pointer (some ⟨c, 1, none⟩)) "Pop").run Try.prog w = .ok (55, .pointer (some ⟨c, 1, none⟩)) w := fun _ => by kernel_rfl

/-- The same deadlines, and nothing turned from n on. -/
structure Sme (n : Nat) (L M : List Due) : Prop where
  len : M.length = L.length
  perm : M.Perm L
  beh : ∀ x, n ≤ x → at_ M x = at_ L x

theorem Sme.refl (n : Nat) (L : List Due) : Sme n L L := ⟨rfl, List.Perm.refl _, fun _ _ => rfl⟩
theorem Sme.trans {n : Nat} {L M K : List Due} (h : Sme n L M) (g : Sme n M K) : Sme n L K := ⟨g.len.trans h.len, g.perm.trans h.perm, fun x hx => (g.beh x hx).trans (h.beh x hx)⟩
theorem Sme.swp {n : Nat} {L M : List Due} (h : Sme n L M) {i j : Nat} (hn : n ≤ L.length) (hi : i < n) (hj : j < n) : Sme n L (swp M i j) := by
  have hl := h.len
  refine ⟨by rw [swp_len, hl], (swp_perm M i j (by omega) (by omega)).trans h.perm, fun x hx => ?_⟩
  rw [swp_at M i j x (by omega) (by omega), if_neg (by omega), if_neg (by omega)]
  exact h.beh x hx

def HeapPost (c : Nat) (now : Int) (A : Option Addr) (cap b n : Nat) (L : List Due) (w w' : World) : Prop := ∃ L', IsK w' c now A cap b L' ∧ Hp n L' ∧ Sme n L L' ∧ Fr (ownK c A b) w w'

def UpRel (c : Nat) (now : Int) (A : Option Addr) (cap b n : Nat) (L : List Due) (w : World) (d : Nat) (p : Value) (wr : World) : Prop :=
  ∃ (k : Nat) (M : List Due), d = k ∧ p = .int .i64 k ∧ HpU n M k ∧ IsK wr c now A cap b M ∧ Sme n L M ∧ Fr (ownK c A b) w wr

theorem par_quo (k : Nat) (h : k < 100000) : wrap64 ((wrap64 ((k : Int) - 1)).tdiv 2) = (par k : Nat) := by
  rcases Nat.eq_zero_or_pos k with rfl | hk
  · rw [show wrap64 (((0 : Nat) : Int) - 1) = -1 by unfold wrap64; omega, show Int.tdiv (-1) 2 = 0 from rfl]
    unfold wrap64 par
    omega
  · have e1 : wrap64 ((k : Int) - 1) = (k : Int) - 1 := by unfold wrap64; omega
    have e2 : ((k : Int) - 1).tdiv 2 = ((k : Int) - 1) / 2 := Int.tdiv_eq_ediv_of_nonneg (by omega)
    rw [e1, e2]
    unfold wrap64 par
    omega

section
variable {c : Nat} {now : Int} {A : Option Addr} {cap b : Nat} {L : List Due} (w : World)

set_option maxRecDepth 100000 in
set_option maxHeartbeats 1600000 in
theorem up_ok (h : IsK w c now A cap b L) (n k : Nat) (hu : HpU n L k) (hs : L.length < 100000) : Calls Try.prog 35 #[lnV c, .int .i64 k] w fun e w' => e = .returned (.tuple #[]) ∧ HeapPost c now A cap b n L w w' := by
  have HH := hid h
  have HU := hid hu
  have HL := hid hs
  have hml := m_less c
  have hms := m_swap c
  have HNL := hid hu.ln
  unfold lnV
  clear h hu hs
  go_enter Try.func35, Try.ntmps35
  go_wp2_with fail
  go_loopg [1] k (fun d p wr => UpRel c now A cap b n L w d p wr)
  case atStart => exact ⟨k, L, rfl, rfl, HU.out, HH.out, Sme.refl n L, Fr.refl _ _⟩
  case round =>
    obtain ⟨k', M, rfl, rfl, hu, hK, hS, hF⟩ := hrel
    have HK := hid hK
    have HU2 := hid hu
    have HS2 := hid hS
    have HF2 := hid hF
    have hkn : gk < n := hu.kn
    have hlm : M.length = L.length := hS.len
    have hb : gk < 100000 := by have := HL.out; have := HNL.out; omega
    have hq := par_quo gk hb
    clear hK hu hS hF
    rcases Nat.eq_zero_or_pos gk with rfl | hk
    · have e0 : par 0 = 0 := rfl
      rw [e0] at hq
      go_wp2_with fail
      go_end0
      exact ⟨rfl, M, HK.out, HU2.out.done (.inl rfl), HS2.out, HF2.out⟩
    · obtain ⟨p, hp⟩ : ∃ p, par gk = p := ⟨_, rfl⟩
      have hpk : p < gk := by rw [← hp]; unfold par; omega
      rw [hp] at hq
      have HP := hid hp
      have ht : ((p : Int) == (gk : Int)) = false := by simp; omega
      have HLE := hid (ln_less wr HK.out gk p (by have := HNL.out; omega) (by have := HNL.out; omega))
      clear hp hb
      by_cases hl : dlt (at_ M gk) (at_ M p)
      · rw [decide_eq_true hl] at HLE
        have HD := hid hl
        clear hl
        go_wp2_with fail
        refine HLE.out.mono ?_
        rintro e w1 ⟨rfl, hF1⟩
        have HK1 := hid (HK.out.same hF1)
        have HF1 := hid (HF2.out.trans (hF1.mono (T := ownK c A b) (fun _ h => h.elim)))
        clear hF1
        go_wp2_with fail
        refine (ln_swap w1 HK1.out p gk (by have := HNL.out; omega) (by have := HNL.out; omega)).mono ?_
        rintro e w2 ⟨rfl, hK2, hF2⟩
        have HK2 := hid hK2
        have HF3 := hid (HF1.out.trans hF2)
        clear hK2 hF2
        go_wp2_with fail
        go_roundg p
        case rel => exact ⟨p, swp M p gk, rfl, rfl, by have := HU2.out.step hk (by rw [HP.out]; exact HD.out); rw [HP.out] at this; exact this, HK2.out, HS2.out.swp HNL.out (by omega) hkn, HF3.out⟩
        case measure => omega
      · rw [decide_eq_false hl] at HLE
        have HD := hid hl
        clear hl
        go_wp2_with fail
        refine HLE.out.mono ?_
        rintro e w1 ⟨rfl, hF1⟩
        have HK1 := hid (HK.out.same hF1)
        have HF1 := hid (HF2.out.trans (hF1.mono (T := ownK c A b) (fun _ h => h.elim)))
        clear hF1
        go_wp2_with fail
        go_end0
        exact ⟨rfl, M, HK1.out, HU2.out.done (.inr (by rw [HP.out]; exact HD.out)), HS2.out, HF1.out⟩
end
end Go.Proofs.Ytpgbhgkikpmhiaa
