/-
  AsmPrints' walk.
-/
import Derived.Test.YtepbnneggpcbcaaGreatDoorRefPrint
namespace Go.Proofs.YtepbnneggpcbcaaGreatDoor
open Go.RowKit

set_option maxRecDepth 100000 in
set_option maxHeartbeats 2000000 in
theorem prints_in (A : Option Addr) (c n : Nat) (P : List Fn) (w : World) (ht : Tabs w) (hp : Prg w w.heap.size A P) (hn : P.length = n) :
    Calls Tryz.prog 3 #[.agg #[.slice A n c]] w (LawPost w) := by
  have HA := hid awake_ok
  have hA := Fr.alloc (fun _ => False) w (.cells #[.slice A n c] 24)
  have hb0 := Blk.new w #[.slice A n c] 24
  have HPR := hid (fun W (hW : Fr (fun _ => False) w W) => (hp.same hW (Nat.le_refl _)).more hW.size)
  have HFW := hid (few_any A n c P _ (HPR.out _ hA) hn)
  have hPT := fun W (hW : Fr (fun _ => False) w W) => print_any A c P W (ht.same hW) (HPR.out W hW)
  have hRT := fun W (hW : Fr (fun _ => False) w W) => rprint_any A c P W (HPR.out W hW)
  rw [hn] at hPT hRT
  obtain ⟨⟨t, x⟩, hq⟩ : ∃ q, prV P = q := ⟨_, rfl⟩
  rw [hq] at hPT hRT
  unfold PrPost at hPT hRT
  simp only at hPT hRT
  obtain ⟨S, hS⟩ : ∃ S, bs t = S := ⟨_, rfl⟩
  rw [hS] at hPT hRT
  have HPT := hid hPT
  have HRT := hid hRT
  have HT := hid ht
  clear ht hp hn hPT hRT hq hS
  go_enter Tryz.func3, Tryz.ntmps3
  go_wp2_with fail
  refine HFW.out.mono ?_
  rintro e w1 ⟨b, rfl, hF1⟩
  have hF1' := hA.trans hF1
  cases b with
  | false =>
    go_wp2_with fail
    refine (HA.out _ (HT.out.same hF1')).mono ?_
    rintro e w2 ⟨rfl, hF2⟩
    go_wp2_with fail
    go_ret
    exact ⟨rfl, hF1'.trans hF2⟩
  | true =>
    have hb1 := hb0.keep hF1 (fun h => h)
    have c0 : w1.cell? ⟨w.heap.size, 0, none⟩ = some (.slice A n c) := hb1.cell rfl
    have l0 := hb1.lt
    have HB1 := hid hb1
    clear hb1 hb0
    go_wp2_with fail
    refine (HPT.out _ hF1').mono ?_
    rintro e w2 ⟨rfl, hF2⟩
    have hF2' := hF1'.trans hF2
    have hb2 := HB1.out.keep hF2 (fun h => h)
    clear c0 l0
    have c0 : w2.cell? ⟨w.heap.size, 0, none⟩ = some (.slice A n c) := hb2.cell rfl
    have l0 := hb2.lt
    go_wp2_with fail
    refine (HRT.out _ hF2').mono ?_
    rintro e w3 ⟨rfl, hF3⟩
    clear c0 l0
    go_wp2_with fail
    refine (HA.out _ (HT.out.same (hF2'.trans hF3))).mono ?_
    rintro e w4 ⟨rfl, hF4⟩
    go_wp2_with fail
    go_ret
    exact ⟨rfl, (hF2'.trans hF3).trans hF4⟩

theorem prints_any (A : Option Addr) (c : Nat) (P : List Fn) (w : World) (ht : Tabs w) (hp : Prg w w.heap.size A P) : Calls Tryz.prog 3 #[.agg #[.slice A P.length c]] w (LawPost w) :=
  prints_in A c P.length P w ht hp rfl

end Go.Proofs.YtepbnneggpcbcaaGreatDoor
