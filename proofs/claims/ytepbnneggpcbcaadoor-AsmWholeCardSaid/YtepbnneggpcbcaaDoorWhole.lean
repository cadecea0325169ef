/-
  AsmWhole's walk.
-/
import Derived.Test.YtepbnneggpcbcaaDoorBlank
import Derived.Test.YtepbnneggpcbcaaDoorPrint
import Derived.Test.YtepbnneggpcbcaaDoorRefSame
namespace Go.Proofs.YtepbnneggpcbcaaDoor
open Go.RowKit

set_option maxRecDepth 100000 in
set_option maxHeartbeats 2000000 in
theorem whole_in (A : Option Addr) (c n : Nat) (P : List Fn) (w : World) (ht : Tabs w) (hp : Prg w w.heap.size A P) (hn : P.length = n) :
    Calls Tryd.prog 8 #[.agg #[.slice A n c]] w (LawPost w) := by
  have HA := hid awake_ok
  have hA := Fr.alloc (fun _ => False) w (.cells #[.slice A n c] 38)
  have hb0 := Blk.new w #[.slice A n c] 38
  have HPR := hid (fun W (hW : Fr (fun _ => False) w W) => (hp.same hW (Nat.le_refl _)).more hW.size)
  have HFW := hid (few_any A n c P _ (HPR.out _ hA) hn)
  have HPT := hid (fun W (hW : Fr (fun _ => False) w W) => print_any A c P W (ht.same hW) (HPR.out W hW))
  rw [hn] at HPT
  have HT := hid ht
  have HN := hid hn
  clear ht hp hn
  go_enter Tryd.func8, Tryd.ntmps8
  go_wp2_with fail
  refine HFW.out.mono ?_
  rintro e w1 ⟨b, rfl, hF1⟩
  have hF1' := hA.trans hF1
  cases b with
  | false =>
    go_wp2_with fail
    refine (HA.out _ (HT.out.same hF1')).mono ?_
    rintro e w2 ⟨rfl, hF2⟩
    go_wp2_with fail
    go_ret
    exact ⟨rfl, hF1'.trans hF2⟩
  | true =>
    have hb1 := hb0.keep hF1 (fun h => h)
    have c0 : w1.cell? ⟨w.heap.size, 0, none⟩ = some (.slice A n c) := hb1.cell rfl
    have l0 := hb1.lt
    have HB1 := hid hb1
    clear hb1 hb0
    go_wp2_with fail
    refine (HPT.out _ hF1').mono ?_
    rintro e w2 ⟨rfl, hF2⟩
    have hF2' := hF1'.trans hF2
    by_cases h : packErr P = 0
    · have hq : prV P = (prTxt P, 0) := by unfold prV; rw [if_pos h]
      have HPS := hid (parse_any (prTxt P) (Nat.le_trans (prTxt_len P h) (by decide)) w2 (HT.out.same hF2'))
      rw [prs_txt P h] at HPS
      have HPK := hid h
      rw [hq]
      clear hq h
      go_wp2_with fail
      refine HPS.out.mono ?_
      rintro e w3 ⟨A2, c2, L, rfl, hL, ho, hF3⟩
      have hL : L.map (·.f) = P := hL
      have hLn : L.length = n := by rw [← HN.out, ← hL, List.length_map]
      rw [hLn]
      have hF3' := hF2'.trans hF3
      have hF4 := Fr.alloc (fun _ => False) w3 (.cells #[.slice A2 n c2] 38)
      have hb2 := (HB1.out.keep (hF2.trans hF3) (fun h => h))
      have c1 : w3.cell? ⟨w.heap.size, 0, none⟩ = some (.slice A n c) := hb2.cell rfl
      have l1 := hb2.lt
      have hQ := ho.prg
      rw [hL] at hQ
      have HQ := hid ((hQ.same hF4 (Nat.le_refl _)).more hF4.size)
      have hSM := rsame_any A A2 c c2 P P _ (HPR.out _ (hF3'.trans hF4)) HQ.out (by have := (pack_zero HPK.out).2.1; omega) (fun f hf => by
        have := (fnErr_zero' (prg_at (pack_zero HPK.out).2.2 f hf)).2.2.2.1
        omega)
      rw [HN.out, show decide (P = P) = true from decide_eq_true rfl] at hSM
      have HSM := hid hSM
      clear hb2 hQ hSM ho hL hLn c0 l0
      go_wp2_with fail
      refine HSM.out.mono ?_
      rintro e w4 ⟨rfl, hF5⟩
      have hF6 := (hF3'.trans hF4).trans hF5
      go_wp2_with fail
      refine (HA.out _ (HT.out.same hF6)).mono ?_
      rintro e w5 ⟨rfl, hF7⟩
      go_wp2_with fail
      go_ret
      exact ⟨rfl, hF6.trans hF7⟩
    · have hq : prV P = ([], packErr P) := by unfold prV; rw [if_neg h]
      rw [hq]
      have t1 : (packErr P != 0) = true := by simpa using h
      have t2 : ((bs []).toList == []) = true := by rw [bs_toList]; rfl
      clear hq h c0 l0
      go_wp2_with fail
      refine (HA.out _ (HT.out.same hF2')).mono ?_
      rintro e w3 ⟨rfl, hF3⟩
      go_wp2_with fail
      go_ret
      exact ⟨rfl, hF2'.trans hF3⟩

theorem whole_any (A : Option Addr) (c : Nat) (P : List Fn) (w : World) (ht : Tabs w) (hp : Prg w w.heap.size A P) : Calls Tryd.prog 8 #[.agg #[.slice A P.length c]] w (LawPost w) :=
  whole_in A c P.length P w ht hp rfl

end Go.Proofs.YtepbnneggpcbcaaDoor
