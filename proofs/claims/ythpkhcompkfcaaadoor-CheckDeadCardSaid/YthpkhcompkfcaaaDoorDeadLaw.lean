/-
  CheckDead.
-/
import Derived.Test.YthpkhcompkfcaaaDoorRefDepths
import Derived.Test.YthpkhcompkfcaaaDoorAwake
import Derived.Laws.AppendOwnNone
namespace Go.Proofs.YthpkhcompkfcaaaDoor
open Go.RowKit
set_option linter.unusedVariables false

theorem cod_flat {w : World} {B b o : Nat} {l : List Ins} (h : Cod w B (some ⟨b, o, none⟩) l) (j : Nat) (u : Value) (hu : (l.flatMap Ins.cells)[j]? = some u) : w.cell? ⟨b, o + j, none⟩ = some u := by
  have hj := (List.getElem?_eq_some_iff.1 hu).1
  rw [flat_len Ins.cells 5 Ins.cells_len] at hj
  obtain ⟨b', o', e, hb, hc⟩ := h (by omega)
  cases e
  obtain ⟨i, hi⟩ : ∃ i, l[j / 5]? = some i := ⟨_, List.getElem?_eq_getElem (by omega)⟩
  obtain ⟨c0, c1, c2, c3, c4⟩ := hc _ i hi
  have hf := flat_at Ins.cells 5 Ins.cells_len hi (j := j % 5) (by omega)
  rw [show j / 5 * 5 + j % 5 = j by omega, hu] at hf
  have hm : j % 5 = 0 ∨ j % 5 = 1 ∨ j % 5 = 2 ∨ j % 5 = 3 ∨ j % 5 = 4 := by omega
  rcases hm with hm | hm | hm | hm | hm
  · rw [hm] at hf; rw [show o + j = o + j / 5 * 5 by omega, c0, hf]; rfl
  · rw [hm] at hf; rw [show o + j = o + j / 5 * 5 + 1 by omega, c1, hf]; rfl
  · rw [hm] at hf; rw [show o + j = o + j / 5 * 5 + 2 by omega, c2, hf]; rfl
  · rw [hm] at hf; rw [show o + j = o + j / 5 * 5 + 3 by omega, c3, hf]; rfl
  · rw [hm] at hf; rw [show o + j = o + j / 5 * 5 + 4 by omega, c4, hf]; rfl

theorem Ins.ones (l : List Ins) : ∀ u ∈ l.flatMap Ins.cells, u.oneCell' = true := fun u hu => by
  obtain ⟨i, _, hi⟩ := List.mem_flatMap.1 hu
  exact i.one u hi

def DdRel (N : Nat) (w : World) (d : Nat) (k : Value) (wr : World) : Prop := ∃ j : Nat, 1 ≤ j ∧ j ≤ N ∧ d = N + 1 - j ∧ k = .int .i64 j ∧ Fr (fun _ => False) w wr

theorem own_first {w : World} {B : Nat} (hB : B ≤ w.heap.size) (i : Ins) : OwnR (w.alloc (.cells i.cells.toArray 44)) B 44 5 (some ⟨w.heap.size, 0, none⟩) 1 1 ([i].flatMap Ins.cells) :=
  ⟨by simp [Ins.cells], .inr ⟨w.heap.size, 1, i.cells.toArray, rfl, hB, TBlk.new _ _ _, Nat.le_refl _, by unfold maxLen; omega, by simp [Ins.cells], by simp [Ins.cells]⟩⟩

/-- The code of CheckDead. -/
def DdCome (W : World) (N : Nat) (L : List Ins) (u : Value) (wx : World) : Prop := ∃ A2 c2, u = .slice A2 N c2 ∧ Cod wx wx.heap.size A2 L ∧ Fr (fun _ => False) W wx

theorem dd_cod {W w1 w2 : World} {A2 : Option Addr} {N c2 : Nat} {L : List Ins} (h : OwnR w2 W.heap.size 44 5 A2 N c2 (L.flatMap Ins.cells)) (hN : L.length = N) : Cod w2 w2.heap.size A2 L := by
  subst hN
  exact OwnI.cod (B := W.heap.size) h

theorem dd_fr {W w1 w2 : World} {A : Option Addr} {n c : Nat} {xs : List Value} {t : TypeId} {k : Nat} (h1 : Fr (fun _ => False) W w1) (ho : OwnR w1 W.heap.size t k A n c xs) (hg : w1.grownBy w2 (Value.slice A n c).ownBlock) : Fr (fun _ => False) W w2 :=
  Fr.to_none ((h1.mono (fun _ h => h.elim)).trans ((Fr.of_grown hg).mono (fun q h => (OwnR.lt ho q h).1)))

set_option maxRecDepth 100000 in
set_option maxHeartbeats 1000000 in
theorem deadLaw (x : Int) (A : Option Addr) (n c : Nat) (l : List Ins) (W : World) (ht : Tabs W) (hl : l.length = n) (hp : Cod W W.heap.size A l ∧ (A = none → c = 0)) : Calls Tryd.prog 9 #[.int .i64 x, .slice A n c] W (LawPost W) := by
  have HL := hid hl
  have HP := hid hp.1
  have HNO := hid hp.2
  clear hl hp
  by_cases hn : 140 < n
  · go_enter Tryd.func9, Tryd.ntmps9
    go_wp2_with fail
    refine (awake_any W ht).mono ?_
    rintro e w' ⟨rfl, hF⟩
    have HF := hid hF
    clear hF
    go_wp2_with fail
    go_ret
    exact ⟨rfl, HF.out⟩
  · obtain ⟨i0, hi, hz⟩ := Option.map_eq_some_iff.1 Tryd.infoi
    simp only [Prod.mk.injEq] at hz
    obtain ⟨hz0, hz1, hz2⟩ := hz
    have HI := hid hi
    have HZ0 := hid hz0
    have HZ1 := hid hz1
    have HZ2 := hid hz2
    clear hi hz0 hz1 hz2
    have HOW := hid (own_first (w := W) (B := W.heap.size) (Nat.le_refl _) ⟨16, 0, 0, 0, 0⟩)
    have HF1 := hid (Fr.alloc (fun _ => False) W (.cells #[.int .i64 16, .int .i64 0, .int .i64 0, .int .i64 0, .int .i64 0] 44))
    obtain ⟨N, hN⟩ : ∃ N, N = 1 + n := ⟨_, rfl⟩
    have HNN := hid hN
    have hN1 : 1 ≤ N := by omega
    have hN2 : N ≤ 141 := by omega
    clear hN
    have e1 := and_all x
    rw [← low_cast] at e1
    have HLO := hid (heldN_zero ⟨x, ⟨16, 0, 0, 0, 0⟩ :: l⟩ (by simp))
    obtain ⟨q, hq⟩ : ∃ q, q = low x := ⟨_, rfl⟩
    rw [← hq] at e1
    have HQ := hid hq
    clear hq
    go_enter Tryd.func9, Tryd.ntmps9
    go_upto_region 4 with fail
    go_cut [5] from 14 to 16 (fun u wx => DdCome W N (⟨16, 0, 0, 0, 0⟩ :: l) u wx)
    case first =>
      rcases A with _ | ⟨g, o, sp⟩
      · obtain rfl := HNO.out rfl
        obtain rfl : n = 0 := by
          rcases Nat.eq_zero_or_pos n with h | h
          · exact h
          · obtain ⟨_, _, h, _⟩ := HP.out (by rw [HL.out]; exact h)
            cases h
        obtain rfl : l = [] := List.eq_nil_of_length_eq_zero HL.out
        obtain rfl : N = 1 := HNN.out
        go_wp2_with (at_builtin; refine wpList_append_own_none rfl _ _ 22 rfl W.heap.size 44 i0 5 Tryd.underlying22 HI.out (.slice (some ⟨W.heap.size, 0, none⟩) 1 1) 1 _ rfl HOW.out rfl ?_)
        go_meet
        exact ⟨_, _, rfl, dd_cod (W := W) (w1 := W) HOW.out rfl, HF1.out⟩
      · have HNW := hid (show ∀ (j : Nat) (u : Value), (l.flatMap Ins.cells)[j]? = some u → (W.alloc (.cells #[.int .i64 16, .int .i64 0, .int .i64 0, .int .i64 0, .int .i64 0] 44)).cell? ((⟨g, o, sp⟩ : Addr).add j) = some u from fun j u hu => by
          have hj := (List.getElem?_eq_some_iff.1 hu).1
          rw [flat_len Ins.cells 5 Ins.cells_len] at hj
          obtain ⟨g', o', e, hb, _⟩ := HP.out (by omega)
          cases e
          rw [add_none]
          exact (cell_keep HF1.out (p := ⟨g, o + j, none⟩) hb (fun h => h)).trans (cod_flat HP.out j u hu))
        go_wp2_with (at_builtin; (refine wpList_append_own _ rfl _ _ 22 rfl W.heap.size 44 i0 _ 5 40 Tryd.underlying22 HI.out HZ0.out HZ1.out HZ2.out rfl (by decide) (.slice (some ⟨W.heap.size, 0, none⟩) 1 1) 1 _ rfl HOW.out ⟨g, o, sp⟩ n c (l.flatMap Ins.cells) rfl (by rw [flat_len Ins.cells 5 Ins.cells_len, HL.out]) HNW.out (Ins.ones l) (by unfold maxLen; omega) (by omega) (by simp) ?_; intro v2 w2 hown2 hgrow2 hnil2; clear hnil2; obtain ⟨A2, c2, rfl, ho2⟩ := OwnR.form hown2; have HO2 := hid ho2; have HG2 := hid hgrow2; clear hown2 hgrow2 ho2))
        go_meet
        rw [← HNN.out]
        exact ⟨A2, c2, rfl, dd_cod (W := W) (w1 := W) (L := ⟨16, 0, 0, 0, 0⟩ :: l) HO2.out (by simp [HL.out]; omega), dd_fr HF1.out HOW.out HG2.out⟩
    case rest =>
      obtain ⟨A2, c2, rfl, hcod, hF2⟩ := hcut
      have hlen : (⟨16, 0, 0, 0, 0⟩ :: l : List Ins).length = N := by simp [HL.out, HNN.out]; omega
      have HLEN := hid hlen
      have HC := hid hcod
      have HF2 := hid hF2
      clear hcod hF2 hlen
      go_wp2_with fail
      refine (held_any ⟨x, ⟨16, 0, 0, 0, 0⟩ :: l⟩ A2 N c2 _ HLEN.out (by omega) HC.out).mono ?_
      rintro e w3 ⟨A3, n3, c3, rfl, h1, h2, hF3⟩
      obtain rfl : N = n3 := by rw [natsI_len, heldL_len] at h1; rw [← HLEN.out]; exact h1
      have HF3 := hid (HF2.out.trans hF3)
      obtain ⟨g3, o3, rfl, hg3, hc3⟩ := h2 (by rw [h1]; omega)
      have HC3 := hid (show ∀ (j : Nat), 1 ≤ j → j < N → w3.cell? ⟨g3, o3 + j, none⟩ = some (.int .i64 255) from fun j h1 h2 => by
        refine hc3 j (255 : Nat) ?_
        have := heldL_at ⟨x, ⟨16, 0, 0, 0, 0⟩ :: l⟩ (k := j) (by show j < (_ :: l).length; rw [HLEN.out]; exact h2)
        rw [dead_held rfl h1] at this
        exact natsI_at this)
      have c0 := hc3 0 (q : Nat) (by
        have := heldL_at ⟨x, ⟨16, 0, 0, 0, 0⟩ :: l⟩ (k := 0) (by show 0 < (_ :: l).length; simp)
        rw [HLO.out, show low (Fn.mk x (⟨16, 0, 0, 0, 0⟩ :: l)).needs = q from HQ.out.symm] at this
        exact natsI_at this)
      have t0 : ((q : Int) != (q : Int)) = false := by simp
      rw [Nat.add_zero] at c0
      clear h1 h2 hF3 hc3
      go_wp2_with fail
      go_loopg [7] N (fun d k wr => DdRel N w3 d k wr)
      case atStart => exact ⟨1, Nat.le_refl _, hN1, by omega, rfl, Fr.refl _ _⟩
      case round =>
        obtain ⟨wo, rfl⟩ : ∃ wo, wo = wr := ⟨_, rfl⟩
        obtain ⟨k, hk1, hk, hd, rfl, hF⟩ := hrel
        have HD := hid hd
        have HF := hid hF
        clear hd c0
        by_cases hlt : k < N
        · have c0 := (cell_keep hF (p := ⟨g3, o3 + k, none⟩) hg3 (fun h => h)).trans (HC3.out k hk1 hlt)
          have hgl : g3 < wo.heap.size := Nat.lt_of_lt_of_le hg3 hF.size
          clear hF
          go_wp2_with fail
          go_roundg (N + 1 - (k + 1))
          case rel => exact ⟨k + 1, by omega, by omega, rfl, by go_num, HF.out⟩
          case measure => have := HD.out; omega
        · clear hF
          go_wp2_with fail
          refine (awake_any wo (ht.same (HF3.out.trans HF.out))).mono ?_
          rintro e w4 ⟨rfl, hF4⟩
          have HF4 := hid ((HF3.out.trans HF.out).trans hF4)
          clear hF4
          go_wp2_with fail
          go_ret
          exact ⟨rfl, HF4.out⟩

end Go.Proofs.YthpkhcompkfcaaaDoor
