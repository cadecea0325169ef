/-
  The document's depths; rows of numbers that are one.
-/
import Derived.Test.YthpkhcompkfcaaaDoorDepths
import Derived.BigQuiet
import Derived.Deep.QuietTactic
namespace Go.Proofs.YthpkhcompkfcaaaDoor
open Go.RowKit
set_option linter.unusedVariables false

/-- A law's end. -/
def LawPost (w : World) (e : Ending) (w' : World) : Prop := e = .returned (.bool true) ∧ Fr (fun _ => False) w w'

def ItRel (l : List Int) (w : World) (d : Nat) (k : Value) (wr : World) : Prop := ∃ j : Nat, j ≤ l.length ∧ d = l.length - j ∧ k = .int .i64 j ∧ Fr (fun _ => False) w wr

set_option maxHeartbeats 1000000 in
theorem ints_same (A A' : Option Addr) (n c c' : Nat) (l : List Int) (w : World) (hl : l.length = n) (hn : n ≤ 1000) (h1 : Nums w w.heap.size A l) (h2 : Nums w w.heap.size A' l) :
    Calls Tryd.prog 11 #[.slice A n c, .slice A' n c'] w (LawPost w) := by
  have HN := hid hl
  clear hl
  go_enter Tryd.func11, Tryd.ntmps11
  go_wp2_with fail
  go_loopg [5] n (fun d k wr => ItRel l w d k wr)
  case atStart => exact ⟨0, by omega, by rw [HN.out, Nat.sub_zero], rfl, Fr.refl _ _⟩
  case round =>
    obtain ⟨wo, rfl⟩ : ∃ wo, wo = wr := ⟨_, rfl⟩
    obtain ⟨k, hk, hd, rfl, hF⟩ := hrel
    rw [HN.out] at hk hd
    have HD := hid hd
    have HF := hid hF
    clear hd
    by_cases hlt : k < n
    · obtain ⟨x, hx⟩ : ∃ x, l[k]? = some x := ⟨_, List.getElem?_eq_getElem (by rw [HN.out]; exact hlt)⟩
      obtain ⟨b, o, rfl, hb, hc⟩ := (h1.same hF (Nat.le_refl _)) (by rw [HN.out]; omega)
      obtain ⟨b', o', rfl, hb', hc'⟩ := (h2.same hF (Nat.le_refl _)) (by rw [HN.out]; omega)
      have c0 := hc k x hx
      have c1 := hc' k x hx
      have hbl : b < wo.heap.size := Nat.lt_of_lt_of_le hb hF.size
      have hbl' : b' < wo.heap.size := Nat.lt_of_lt_of_le hb' hF.size
      have q1 : (k : Int) < (n : Int) := by omega
      clear hc hc' hx hF
      go_wp2_with fail
      go_quiet (fail)
      go_wp2_with fail
      go_roundg (n - (k + 1))
      case rel => exact ⟨k + 1, by rw [HN.out]; omega, by rw [HN.out], by go_num, HF.out.trans (Fr.drewN _ _ _)⟩
      case measure => have := HD.out; omega
    · clear hF
      go_wp2_with fail
      go_ret
      exact ⟨rfl, HF.out⟩

def RdRel (l : List Ins) (w : World) (B : Nat) (d : Nat) (out dv k : Value) (wr : World) : Prop :=
  ∃ (j : Nat) (A : Option Addr) (cap : Nat) (x : Int), j ≤ l.length ∧ d = l.length - j ∧ k = .int .i64 j ∧ out = .slice A j cap ∧ dv = .int .i64 x ∧ x = dend 0 (l.take j) ∧ OwnN wr B A j cap (dep 0 (l.take j)) ∧ Fr (fun k => B ≤ k) w wr

set_option maxRecDepth 100000 in
set_option maxHeartbeats 2000000 in
theorem rdepths_any (A : Option Addr) (n c : Nat) (l : List Ins) (w : World) (hl : l.length = n) (hn : n ≤ 1000) (hp : Cod w w.heap.size A l) :
    Calls Tryd.prog 13 #[.slice A n c] w (NumPost w (dep 0 l)) := by
  have HN := hid hl
  clear hl
  obtain ⟨B, hB⟩ : ∃ B, B = w.heap.size := ⟨_, rfl⟩
  rw [← hB] at hp
  have HB := hid hB
  have hBl : B ≤ w.heap.size := by omega
  obtain ⟨i0, hi, hz⟩ := Option.map_eq_some_iff.1 Tryd.infon
  simp only [Prod.mk.injEq] at hz
  obtain ⟨hz0, hz1, hz2⟩ := hz
  have HI := hid hi
  have HZ0 := hid hz0
  have HZ1 := hid hz1
  have HZ2 := hid hz2
  clear hi hz0 hz1 hz2 hB
  go_enter Tryd.func13, Tryd.ntmps13
  go_wp2_with fail
  go_loopg [3, 4, 5] n (fun d out dv k wr => RdRel l w B d out dv k wr)
  case atStart => exact ⟨0, _, 0, 0, by omega, by rw [HN.out, Nat.sub_zero], rfl, rfl, rfl, rfl, OwnR.nil _ _ _ _, Fr.refl _ _⟩
  case round =>
    obtain ⟨wo, rfl⟩ : ∃ wo, wo = wr := ⟨_, rfl⟩
    obtain ⟨k, Ab, cb, x, hk, hd, rfl, rfl, rfl, hx, hown, hF⟩ := hrel
    rw [HN.out] at hk hd
    have hxb := dend_bound 0 (l.take k)
    rw [← hx] at hxb
    have hxl : (l.take k).length ≤ k := by simp; omega
    have x1 : -1000 ≤ x := by omega
    have x2 : x ≤ 1000 := by omega
    clear hxb hxl
    have HX := hid hx
    have HD := hid hd
    have HOW := hid hown
    clear hx hd hown
    have HF := hid hF
    by_cases hlt : k < n
    · obtain ⟨⟨op, a, b, ci, m⟩, hik⟩ : ∃ i, l[k]? = some i := ⟨_, List.getElem?_eq_getElem (by rw [HN.out]; exact hlt)⟩
      have hBr : B ≤ wo.heap.size := Nat.le_trans hBl hF.size
      obtain ⟨g, o, rfl, hg, hcell⟩ := hp (by rw [HN.out]; omega)
      have HS := hid (show ∀ w', Fr (fun k => B ≤ k) wo w' → w'.cell? ⟨g, o + k * 5, none⟩ = some (.int .i64 op) from fun w' F => (cell_keep (hF.trans F) (p := ⟨g, o + k * 5, none⟩) (Nat.lt_of_lt_of_le hg hBl) (by show ¬ B ≤ g; omega)).trans (hcell k _ hik).1)
      have HIK := hid hik
      have hgl : g < wo.heap.size := Nat.lt_of_lt_of_le hg hBr
      have HNX := hid (show dend 0 (l.take (k + 1)) = dstep op x by rw [take_snoc' hik, dend_snoc, ← HX.out])
      have HDX := hid (show dep 0 (l.take (k + 1)) = dep 0 (l.take k) ++ [x] by rw [take_snoc' hik, dep_snoc, ← HX.out])
      clear hik hcell hF
      have HOW2 := hid (OwnR.same HOW.out (Fr.alloc _ wo (.cells #[.int .i64 x] 3)))
      have HNW := hid (news_int wo x rfl)
      have hm : op = 11 ∨ op = 12 ∨ (¬ op = 11 ∧ ¬ op = 12) := by omega
      rcases hm with rfl | rfl | ⟨h11, h12⟩
      · have HV := hid (HNX.out.trans (show dstep 11 x = x + 1 by simp [dstep]))
        go_wp2_with (at_builtin; (refine wpList_append_own _ rfl _ _ 25 rfl B 3 i0 (.int .i64 0) 1 8 Tryd.underlying25 HI.out HZ0.out HZ1.out HZ2.out rfl (by decide) (.slice Ab k cb) k _ rfl HOW2.out ⟨wo.heap.size, 0, none⟩ 1 1 (ints [x]) rfl rfl HNW.out (ints_one _) (by unfold maxLen; omega) (by omega) (by simp; omega) ?_; intro v2 w2 hown2 hgrow2 hnil2; clear hnil2; obtain ⟨A2, c2, rfl, ho2⟩ := OwnR.form hown2; have HO2 := hid ho2; have HF2 := hid (((Fr.alloc (fun _ => False) wo (.cells #[.int .i64 x] 3)).mono (fun _ h => h.elim)).trans ((Fr.of_grown hgrow2).mono (fun q h => (OwnR.lt HOW.out q h).1))); clear hown2 hgrow2 ho2; have s0 := HS.out _ HF2.out))
        go_roundg (n - (k + 1))
        case rel => exact ⟨k + 1, A2, c2, _, by rw [HN.out]; omega, by rw [HN.out], by go_num, rfl, rfl, HV.out.symm, OwnR.eq HO2.out (by rw [HDX.out, ints_snoc]), HF.out.trans HF2.out⟩
        case measure => have := HD.out; omega
      · have HV := hid (HNX.out.trans (show dstep 12 x = x - 1 by simp [dstep]))
        go_wp2_with (at_builtin; (refine wpList_append_own _ rfl _ _ 25 rfl B 3 i0 (.int .i64 0) 1 8 Tryd.underlying25 HI.out HZ0.out HZ1.out HZ2.out rfl (by decide) (.slice Ab k cb) k _ rfl HOW2.out ⟨wo.heap.size, 0, none⟩ 1 1 (ints [x]) rfl rfl HNW.out (ints_one _) (by unfold maxLen; omega) (by omega) (by simp; omega) ?_; intro v2 w2 hown2 hgrow2 hnil2; clear hnil2; obtain ⟨A2, c2, rfl, ho2⟩ := OwnR.form hown2; have HO2 := hid ho2; have HF2 := hid (((Fr.alloc (fun _ => False) wo (.cells #[.int .i64 x] 3)).mono (fun _ h => h.elim)).trans ((Fr.of_grown hgrow2).mono (fun q h => (OwnR.lt HOW.out q h).1))); clear hown2 hgrow2 ho2; have s0 := HS.out _ HF2.out))
        go_roundg (n - (k + 1))
        case rel => exact ⟨k + 1, A2, c2, _, by rw [HN.out]; omega, by rw [HN.out], by go_num, rfl, rfl, HV.out.symm, OwnR.eq HO2.out (by rw [HDX.out, ints_snoc]), HF.out.trans HF2.out⟩
        case measure => have := HD.out; omega
      · have HV := hid (HNX.out.trans (show dstep op x = x by simp [dstep, h11, h12]))
        have t1 : (op == 11) = false := beq_eq_false_iff_ne.2 h11
        have t2 : (op == 12) = false := beq_eq_false_iff_ne.2 h12
        go_wp2_with (at_builtin; (refine wpList_append_own _ rfl _ _ 25 rfl B 3 i0 (.int .i64 0) 1 8 Tryd.underlying25 HI.out HZ0.out HZ1.out HZ2.out rfl (by decide) (.slice Ab k cb) k _ rfl HOW2.out ⟨wo.heap.size, 0, none⟩ 1 1 (ints [x]) rfl rfl HNW.out (ints_one _) (by unfold maxLen; omega) (by omega) (by simp; omega) ?_; intro v2 w2 hown2 hgrow2 hnil2; clear hnil2; obtain ⟨A2, c2, rfl, ho2⟩ := OwnR.form hown2; have HO2 := hid ho2; have HF2 := hid (((Fr.alloc (fun _ => False) wo (.cells #[.int .i64 x] 3)).mono (fun _ h => h.elim)).trans ((Fr.of_grown hgrow2).mono (fun q h => (OwnR.lt HOW.out q h).1))); clear hown2 hgrow2 ho2; have s0 := HS.out _ HF2.out))
        go_roundg (n - (k + 1))
        case rel => exact ⟨k + 1, A2, c2, _, by rw [HN.out]; omega, by rw [HN.out], by go_num, rfl, rfl, HV.out.symm, OwnR.eq HO2.out (by rw [HDX.out, ints_snoc]), HF.out.trans HF2.out⟩
        case measure => have := HD.out; omega
    · clear hF
      go_wp2_with fail
      go_ret
      refine ⟨Ab, k, cb, rfl, ?_, ?_, ?_⟩
      · rw [dep_len, HN.out]; omega
      · have h := OwnN.nums HOW.out
        rw [List.take_of_length_le (by rw [HN.out]; omega)] at h
        exact h
      · exact Fr.to_none (by rw [← HB.out]; exact HF.out)

end Go.Proofs.YthpkhcompkfcaaaDoor
