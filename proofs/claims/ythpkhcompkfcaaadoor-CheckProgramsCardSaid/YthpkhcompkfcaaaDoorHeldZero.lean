/-
  check.Held, from the label on.
-/
import Derived.Test.YthpkhcompkfcaaaDoorHeld
import Derived.Deep.RegionHeld3
import Derived.Deep.DeepCutAuto
namespace Go.Proofs.YthpkhcompkfcaaaDoor
open Go.RowKit Go.Shelf
attribute [local go_sem] Oper.semAt_some
set_option linter.unusedVariables false

set_option maxRecDepth 100000 in
set_option maxHeartbeats 8000000 in
theorem held_zero (w : World) (f : Fn) (A : Option Addr) (n c g bh : Nat) (hn : f.code.length = n) (h1 : 1 ≤ n) (h2 : n ≤ 1000) (hg : w.heap.size < g) (hgb : g < bh) (hcod : Cod w w.heap.size A f.code) (d : Nat) (a : Act) (W : World) (hJ : HJ w f A n c g bh d a W) (hz : ∀ m A' c', W.cell? ⟨bh + 2, 0, none⟩ = some (.slice A' m c') → m = 0) :
    heldRest.wp Tryd.prog (Exit.jump 0 (fun a' w' => ∃ d', d' < d ∧ HJ w f A n c g bh d' a' w') (bodyPostM Fence.wide 8 Tryd.prog Tryd.f14 (HeldPost w f))) a W := by
  obtain ⟨H, T, AT, cap, ds, u5, u6, u7, u8, u9, u10, u11, u12, u13, u14, u15, u16, u17, u18, u19, u20, u21, u22, u23, u24, u25, u26, u27, u28, u29, u30, u31, u32, u33, u34, u35, u36, u37, u38, u39, u40, u41, u42, u43, u44, u45, u46, u47, u48, u49, u50, u51, u52, u53, u54, u55, u56, u57, u58, u59, u60, u61, u62, u63, u64, u65, u66, u67, u68, u69, u70, u71, u72, u73, rfl, hnd, hds, hm, hi, hlt, hd, hd6⟩ := hJ
  have HN := hid hn
  have HND := hid hnd
  have HDS := hid hds
  have HM_ := hid hm
  have HI := hid hi
  have HLT := hid hlt
  have HD := hid hd
  obtain ⟨tn, htn⟩ : ∃ tn, T.length = tn := ⟨_, rfl⟩
  have q1 : tn ≤ 600000 := by omega
  have ct := hm.tb.blk.cell (i := 0) rfl
  have ch := hm.hb.blk.cell (i := 0) rfl
  simp only [List.getElem_toArray, List.getElem_cons_zero] at ct ch
  rw [htn] at ct
  have HTN := hid htn
  clear hn hnd hds hm hi hlt hd htn
  generalize hQ : Exit.jump 0 (fun a' w' => ∃ d', d' < d ∧ HJ w f A n c g bh d' a' w') (bodyPostM Fence.wide 8 Tryd.prog Tryd.f14 (HeldPost w f)) = Q
  have HQ := hid hQ
  clear hQ
  unfold heldRest
  simp only [Tryd.f14, findLabel]
  obtain rfl : tn = 0 := hz _ _ _ ct
  obtain rfl : T = [] := List.eq_nil_of_length_eq_zero HTN.out
  clear hz
  go_wp2_with fail
  rw [← HQ.out]
  exact held_end w f A n c g bh H AT cap ds _ W HN.out HND.out HDS.out HM_.out HI.out (fun W' => by (simp [results, Tryd.results14, go_sem]; try rfl))

end Go.Proofs.YthpkhcompkfcaaaDoor
