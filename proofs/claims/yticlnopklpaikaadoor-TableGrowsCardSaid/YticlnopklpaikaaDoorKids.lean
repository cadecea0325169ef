/-
  Stage 7: Kids, the document's.
-/
import Derived.Test.YticlnopklpaikaaDoorOwn
import Derived.Test.YticlnopklpaikaaDoorKin
import Derived.Deep.DeepMust
namespace Go.Proofs.YticlnopklpaikaaDoor
open Go.RowKit
set_option linter.unusedVariables false

def intsV (l : List Int) : List Value := l.map (fun k => Value.int .i64 k)
theorem newk (w : World) (e : TypeId) (x : Value) : ∀ j u, ([x] : List Value)[j]? = some u → (w.alloc (.cells #[x] e)).cell? ((⟨w.heap.size, 0, none⟩ : Addr).add j) = some u := fun j u hu => by
  rw [add_none, Nat.zero_add]
  exact (Blk.new w #[x] e).cell (by simpa using hu)

theorem infoint : (Tryd.prog.info? 3).map (fun i => (i.zero, i.size, i.bytes)) = some (some (.int .i64 0), 1, 8) := by kernel_rfl

/-- Where the loop stands. -/
def KdRel (l : List Tw) (t : Int) (n : Nat) (w : World) (d : Nat) (x k : Value) (wr : World) : Prop := ∃ (j m : Nat) (A : Option Addr) (cap : Nat), j ≤ n ∧ d = n + 1 - j ∧ x = .slice A m cap ∧ k = .int .i64 j ∧ m = (kidsN l t j).length ∧ OwnR wr w.heap.size 3 1 A m cap (intsV (kidsN l t j)) ∧ Fr (fun _ => False) w wr

set_option maxRecDepth 100000 in
set_option maxHeartbeats 1000000 in
theorem rkids_any (A : Option Addr) (n c : Nat) (l : List Tw) (t : Int) (w : World) (hA : RdT w A l) (hl : l.length = n) (hn : n ≤ 4000000) :
    Calls Tryd.prog 14 #[.slice A n c, .int .i64 t] w fun e w' => ∃ (m : Nat) (A' : Option Addr) (cap : Nat), e = .returned (.slice A' m cap) ∧ m = (kidsN l t n).length ∧ OwnR w' w.heap.size 3 1 A' m cap (intsV (kidsN l t n)) ∧ Fr (fun _ => False) w w' := by
  have HL := hid hl
  clear hl
  obtain ⟨i0, hi, hz⟩ := Option.map_eq_some_iff.1 infoint
  simp only [Prod.mk.injEq] at hz
  obtain ⟨hz0, hz1, hz2⟩ := hz
  have HII := hid hi
  have HZ0 := hid hz0
  have HZ1 := hid hz1
  have HZ2 := hid hz2
  clear hi hz0 hz1 hz2
  go_enter Tryd.func14, Tryd.ntmps14
  go_wp2_with fail
  go_loopg [5, 6] (n + 1) (fun d x k wr => KdRel l t n w d x k wr)
  case atStart => exact ⟨0, 0, none, 0, by omega, by omega, rfl, rfl, rfl, OwnR.nil _ _ _ _, Fr.refl _ _⟩
  case round =>
    obtain ⟨j, m, B, cap, hj, hd, rfl, rfl, hm, hO, hF⟩ := hrel
    have HO := hid hO
    have HF := hid hF
    have HD := hid hd
    have HM := hid hm
    have hmj : m ≤ j := by rw [hm]; exact kidsN_len l t j
    clear hO hF hd hm
    by_cases hlt : j < n
    · obtain ⟨r, hr⟩ : ∃ r, l[j]? = some r := ⟨_, List.getElem?_eq_getElem (by rw [HL.out]; omega)⟩
      obtain ⟨g, og, rfl, hg, hc⟩ := (hA.same HF.out).cell hr
      have q0 : wr.cell? ⟨g, og + j * 7, none⟩ = some (.int .i64 r.par) := hc 0 _ rfl
      have HP := hid (show parAt l j = r.par by unfold parAt; rw [if_pos (by omega)]; simp [hr])
      clear hr hc
      obtain ⟨p, hp⟩ : ∃ p, r.par = p := ⟨_, rfl⟩
      rw [hp] at q0 HP
      clear hp
      by_cases ht : p = t
      · have t1 : (p == t) = true := beq_iff_eq.2 ht
        have HT := hid ht
        clear ht
        have HA2 := hid (Fr.alloc (fun _ => False) wr (.cells #[.int .i64 j] 3))
        have HO2 := hid (OwnR.same HO.out HA2.out)
        have hBs : w.heap.size ≤ wr.heap.size := HF.out.size
        have HNW := hid (newk wr 3 (.int .i64 j))
        go_upto_region 6 with fail
        go_wp2_with (at_builtin; go_must (refine wpList_append_own _ rfl _ _ 28 rfl w.heap.size 3 i0 (.int .i64 0) 1 8 Tryd.underlying28 HII.out HZ0.out HZ1.out HZ2.out rfl (by decide) (.slice B m cap) m _ rfl HO2.out ⟨wr.heap.size, 0, none⟩ 1 1 [.int .i64 j] rfl rfl HNW.out (by simp [Value.oneCell']) (by unfold maxLen; omega) (by omega) (by simp; omega) ?_; intro v2 w2 hown2 hgrow2 hnil2; clear hnil2; obtain ⟨A2, c2, rfl, ho2⟩ := OwnR.form hown2; have HO3 := hid ho2; have HF3 := hid (HF.out.since ((HA2.out.mono (fun _ h => h.elim)).trans (Fr.of_grown hgrow2)) (fun i hi hlt => by have := OwnR.lt HO2.out _ hi; show False; omega)); clear hown2 hgrow2 ho2))
        go_roundg (n + 1 - (j + 1))
        case rel =>
          have hk : kidsN l t (j + 1) = kidsN l t j ++ [(j : Int)] := by
            simp only [kidsN]
            rw [if_pos (by rw [HP.out]; exact HT.out)]
          exact ⟨j + 1, m + 1, A2, c2, by omega, rfl, rfl, by go_num, by rw [hk, List.length_append, ← HM.out]; rfl, by rw [hk]; exact OwnR.eq HO3.out (by simp [intsV]), HF3.out⟩
        case measure => have := HD.out; omega
      · have t1 : (p == t) = false := beq_eq_false_iff_ne.2 ht
        have HT := hid ht
        clear ht
        go_wp2_with fail
        go_roundg (n + 1 - (j + 1))
        case rel =>
          have hk : kidsN l t (j + 1) = kidsN l t j := by
            simp only [kidsN]
            rw [if_neg (by rw [HP.out]; exact HT.out), List.append_nil]
          exact ⟨j + 1, m, B, cap, by omega, rfl, rfl, by go_num, by rw [hk]; exact HM.out, by rw [hk]; exact HO.out, HF.out⟩
        case measure => have := HD.out; omega
    · obtain rfl : j = n := by omega
      go_wp2_with fail
      go_ret
      exact ⟨m, B, cap, rfl, HM.out, HO.out, HF.out⟩

end Go.Proofs.YticlnopklpaikaaDoor
