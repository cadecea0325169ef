/-
  Plain.
-/
import Derived.Test.YtpjcdjooiaefdaaDoorVSmall
import Derived.Deep.LoopGhost
namespace Go.Proofs.YtpjcdjooiaefdaaDoor
open Go.RowKit
set_option linter.unusedVariables false

theorem all_snoc {α : Type} {p : α → Bool} {l : List α} {k : Nat} {x : α} (h : (l.take k).all p = true) (hk : l[k]? = some x) (hx : p x = true) : (l.take (k + 1)).all p = true := by
  rw [take_snoc' hk, List.all_append, h]
  simp [hx]

theorem all_stop {α : Type} {p : α → Bool} {l : List α} {k : Nat} {x : α} (hk : l[k]? = some x) (hx : p x = false) : l.all p = false := by
  rw [List.all_eq_false]
  exact ⟨x, List.mem_of_getElem? hk, by simp [hx]⟩

def PlRel (P : List Fn) (W0 : World) (d : Nat) (k : Value) (wr : World) : Prop :=
  ∃ j : Nat, j ≤ P.length ∧ d = P.length - j ∧ k = .int .i64 j ∧ (P.take j).all (fun f => f.code.all plainI) = true ∧ Fr (fun _ => False) W0 wr

def PlRel' (l : List Ins) (W0 : World) (d : Nat) (k : Value) (wr : World) : Prop :=
  ∃ j : Nat, j ≤ l.length ∧ d = l.length - j ∧ k = .int .i64 j ∧ (l.take j).all plainI = true ∧ Fr (fun _ => False) W0 wr

set_option maxRecDepth 100000 in
set_option maxHeartbeats 2000000 in
theorem plain_any (A : Option Addr) (n c : Nat) (P : List Fn) (w : World) (hp : Prg w w.heap.size A P) (hn : P.length = n) (hnl : n ≤ 1000) (hfl : ∀ (k : Nat) f, P[k]? = some f → f.code.length ≤ 1000) : Calls Tryd.prog 11 #[.agg #[.slice A n c]] w fun e w' => e = .returned (.bool (plainP P)) ∧ Fr (fun _ => False) w w' := by
  have HN := hid hn
  clear hn
  obtain ⟨W0, hW0⟩ : ∃ W0, W0 = w.alloc (.cells #[.slice A n c] 24) := ⟨_, rfl⟩
  have HA := hid (show Fr (fun _ => False) w W0 by rw [hW0]; exact Fr.alloc _ _ _)
  go_enter Tryd.func11, Tryd.ntmps11
  go_wp2_with fail
  rw [← hW0]
  clear hW0
  go_loopg [10] n (fun d k wr => PlRel P W0 d k wr)
  case atStart => exact ⟨0, by omega, by rw [HN.out, Nat.sub_zero], rfl, rfl, Fr.refl _ _⟩
  case round =>
    obtain ⟨wo, rfl⟩ : ∃ wo, wo = wr := ⟨_, rfl⟩
    obtain ⟨k, hk, hd, rfl, he, hF⟩ := hrel
    rw [HN.out] at hk hd
    have HE := hid he
    have HD := hid hd
    clear he hd
    have hFw := HA.out.trans hF
    have HF := hid hF
    have HFw := hid hFw
    by_cases hlt : k < n
    · obtain ⟨⟨needs, l⟩, hfk⟩ : ∃ f, P[k]? = some f := ⟨_, List.getElem?_eq_getElem (by rw [HN.out]; exact hlt)⟩
      obtain ⟨g, o, rfl, hg, hcell⟩ := (hp.same hFw (Nat.le_refl _)) (by rw [HN.out]; omega)
      obtain ⟨A', c', p0, p1, hcod⟩ := hcell k _ hfk
      simp only at p0 p1 hcod
      have HFK := hid hfk
      have hgl : g < wo.heap.size := Nat.lt_of_lt_of_le hg hFw.size
      have hle := hfl k _ hfk
      simp only at hle
      clear hfk hcell hF hFw
      obtain ⟨ln, hln⟩ : ∃ ln, l.length = ln := ⟨_, rfl⟩
      rw [hln] at p1 hle
      have HLN := hid hln
      have HCOD := hid hcod
      clear hln hcod
      have hF1 := HF.out.trans (Fr.alloc _ wo (.cells #[.int .i64 needs, .slice A' ln c'] 40))
      have HF1 := hid hF1
      have HFo := hid (Fr.alloc (fun _ => False) wo (.cells #[.int .i64 needs, .slice A' ln c'] 40))
      clear hF1
      go_wp2_with fail
      obtain ⟨W1, hW1⟩ : ∃ W1, W1 = wo.alloc (.cells #[.int .i64 needs, .slice A' ln c'] 40) := ⟨_, rfl⟩
      rw [← hW1] at HF1 HFo ⊢
      clear hW1
      go_loopg [17] ln (fun d k' wq => PlRel' l W1 d k' wq)
      case atStart => exact ⟨0, by omega, by rw [HLN.out, Nat.sub_zero], rfl, rfl, Fr.refl _ _⟩
      case round =>
        obtain ⟨wq, rfl⟩ : ∃ wq, wq = wr := ⟨_, rfl⟩
        obtain ⟨k', hk', hd', rfl, he', hF'⟩ := hrel
        rw [HLN.out] at hk' hd'
        have HE' := hid he'
        have HD' := hid hd'
        have HF' := hid hF'
        have HFw' := hid (HFw.out.trans (HFo.out.trans hF'))
        have HF0' := hid (HF1.out.trans hF')
        clear he' hd'
        by_cases hlt' : k' < ln
        · obtain ⟨⟨op, a, b, ci, m⟩, hik⟩ : ∃ i, l[k']? = some i := ⟨_, List.getElem?_eq_getElem (by rw [HLN.out]; exact hlt')⟩
          obtain ⟨g2, o2, rfl, hg2, hcell2⟩ := (HCOD.out.same (HFo.out.trans hF') HFw.out.size) (by rw [HLN.out]; omega)
          obtain ⟨s0, s1, s2, s3, s4⟩ := hcell2 k' _ hik
          simp only at s0 s1 s2 s3 s4
          have hgl2 : g2 < wq.heap.size := Nat.lt_of_lt_of_le hg2 HFw'.out.size
          have HIK := hid hik
          clear hcell2 hF' hik
          by_cases h13 : op = 13
          · subst h13
            have HQ := hid (show plainP P = false from all_stop HFK.out (all_stop HIK.out rfl))
            go_wp2_with fail
            go_ret
            exact ⟨ret_bool HQ.out.symm, HFw'.out.trans (Fr.alloc _ _ _)⟩
          · have t13 : (op == 13) = false := beq_eq_false_iff_ne.2 h13
            by_cases h11 : op = 11
            · subst h11
              by_cases hm : m = 0
              · subst hm
                have HQ := hid (show plainI ⟨11, a, b, ci, 0⟩ = true from rfl)
                go_wp2_with fail
                go_roundg (ln - (k' + 1))
                case rel => exact ⟨k' + 1, by rw [HLN.out]; omega, by rw [HLN.out], by go_num, all_snoc HE'.out HIK.out HQ.out, HF'.out.trans (Fr.alloc _ _ _)⟩
                case measure => have := HD'.out; omega
              · have tm : (m != 0) = true := by simpa using hm
                have HQ := hid (show plainP P = false from all_stop HFK.out (all_stop HIK.out (by unfold plainI; simp [hm])))
                go_wp2_with fail
                go_ret
                exact ⟨ret_bool HQ.out.symm, HFw'.out.trans (Fr.alloc _ _ _)⟩
            · have t11 : (op == 11) = false := beq_eq_false_iff_ne.2 h11
              have HQ := hid (show plainI ⟨op, a, b, ci, m⟩ = true by unfold plainI; simp [h13, h11])
              go_wp2_with fail
              go_roundg (ln - (k' + 1))
              case rel => exact ⟨k' + 1, by rw [HLN.out]; omega, by rw [HLN.out], by go_num, all_snoc HE'.out HIK.out HQ.out, HF'.out.trans (Fr.alloc _ _ _)⟩
              case measure => have := HD'.out; omega
        · have HZ := hid (show l.all plainI = true by
            have h := HE'.out
            rw [List.take_of_length_le (by rw [HLN.out]; omega)] at h
            exact h)
          clear hF'
          go_wp2_with fail
          go_roundg (n - (k + 1))
          case rel => exact ⟨k + 1, by rw [HN.out]; omega, by rw [HN.out], by go_num, all_snoc HE.out HFK.out HZ.out, HF0'.out⟩
          case measure => have := HD.out; omega
    · have HQ := hid (show plainP P = true by
        have h := HE.out
        rw [List.take_of_length_le (by rw [HN.out]; omega)] at h
        exact h)
      clear hF hFw
      go_wp2_with fail
      go_ret
      exact ⟨ret_bool HQ.out.symm, HFw.out⟩

end Go.Proofs.YtpjcdjooiaefdaaDoor
