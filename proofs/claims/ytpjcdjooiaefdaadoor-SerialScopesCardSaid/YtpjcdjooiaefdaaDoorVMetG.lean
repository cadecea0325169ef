/-
  A Fork that would lie too deep.
-/
import Derived.Test.YtpjcdjooiaefdaaDoorVBegunD
import Derived.Test.YtpjcdjooiaefdaaDoorVMetF
namespace Go.Proofs.YtpjcdjooiaefdaaDoor
open Go.RowKit
set_option linter.unusedVariables false

section
variable {cel : Frm → Array Value} (tb rb a : Nat) (r : Rw) (F : Frm) (op : Int) (C K : Value) (w : World)

set_option maxRecDepth 100000 in
set_option maxHeartbeats 4000000 in
theorem fork_deep {A : Option Addr} (hC : Cel cel) (ht : Tabs w) (hlow : ∀ k, k < 2 → ¬ (k = tb ∨ k = rb ∨ ownB A k)) (x y z q : Nat) (hk : isOp ⟨8, x, y, z, q⟩ 8 = true) (P : List Fn) (fq : Fn) (ib k0 : Nat) (s0 : Bool) (rest : List (Nat × Bool)) (pa : Option Addr) (pn pc : Nat) (N0 st : Int) (n cap B : Nat) (xs : List Value)
    (hpn : P.length = pn) (hq : P[q]? = some fq) (B0 : Nat) (hp : Prg w B0 pa P) (hB0 : B0 ≤ w.heap.size)
    (hn : n < 2000000) (hBw : B ≤ w.heap.size) (hR : IsR w rb pa pn pc N0 st A n cap) (hO : OwnR w B 33 7 A n cap xs) (hch : Chn w ((k0, s0) :: rest) (some ⟨ib, 0, none⟩))
    (hd : rest.length = 32) (h : IsT w cel tb rb a r F (.pointer (some ⟨ib, 0, none⟩)) op C K) :
    Calls Tryd.prog 32 #[.pointer (some ⟨tb, 0, none⟩), Ins.val ⟨8, x, y, z, q⟩] w fun e w' => e = boom 23 ∧ Fr (fun _ => False) w w' := by
  have HCH1 := hid (fork_pre F w hC ht x y z q hk P fq pa pn hpn hq B0 hp hB0 pc)
  obtain ⟨KF, hKF⟩ : ∃ KF, F.kid q fq.needs 8 = KF := ⟨_, rfl⟩
  rw [hKF] at HCH1
  clear hKF hk hp hq hpn hB0
  unfold Ins.val at *
  simp only at HCH1 ⊢
  obtain ⟨N, hN, hN1, hN2⟩ := nineteen
  obtain ⟨M5, hM5, hM51⟩ := sizeIns
  have hM50 : ¬ M5 = 0 := by omega
  have hN0 : ¬ N = 0 := by omega
  have hsz : ∀ F, (cel F).size = N := fun F => by rw [hC.size, hN]
  obtain ⟨ic, hic⟩ : ∃ ic : Array Value, #[.int .i64 8, .int .i64 x, .int .i64 y, .int .i64 z, .int .i64 q] = ic := ⟨_, rfl⟩
  rw [hic] at HCH1 ⊢
  have his : ic.size = M5 := by rw [← hic, hM5]; rfl
  have hA := Fr.alloc (fun _ => False) w (.cells ic 43)
  have hB := Blk.new w ic 43
  obtain ⟨w1, hw1⟩ : ∃ w1, w1 = w.alloc (.cells ic 43) := ⟨_, rfl⟩
  rw [← hw1] at hA hB
  have HA := hid hA
  have HB := hid hB
  have HT := hid (h.keep hA (fun h => h))
  have HH := hid h
  have HR := hid hR
  have HO := hid hO
  have HCN := hid hch
  have HTB := hid ht
  have HLOW := hid hlow
  have HBW := hid hBw
  have HN := hid hN
  have HIS := hid his
  have HS := hid (show ∀ W, Fr (fun _ => False) w1 W → W.cell? ⟨tb, 0, none⟩ = some (.pointer (some ⟨rb, 0, none⟩)) ∧ W.cell? ⟨rb, 0, none⟩ = some (.slice pa pn pc) ∧ (loadCellsFrom ⟨tb, 9, none⟩ 0 N #[]).run Tryd.prog W = .ok (cel F) W ∧ (loadCellsFrom ⟨w.heap.size, 0, none⟩ 0 M5 #[]).run Tryd.prog W = .ok ic W from fun W hW => by
    have hT := h.keep (hA.trans hW) (fun h => h)
    exact ⟨hT.lo.1, (TBlk.blk (TBlk.keep hR (hA.trans hW) (fun h => h))).cell rfl, hT.load hC hN, load_eq (HB.out.keep hW (fun h => h)) his⟩)
  have HD := hid (Fr.refl (fun _ => False) w1)
  have htl : tb < w.heap.size := h.lt
  have hrl : rb < w.heap.size := (TBlk.blk hR).lt
  have hlt := HT.out.lt
  have HBL := hid hB.lt
  clear hA hB hN his h hR hO hch hBw hlow ht hM5
  go_enter Tryd.func32, Tryd.ntmps32
  go_upto_region 1 with fail
  rw [← hw1]
  clear hw1
  go_cut [4, 5] from 6 to 22 (fun u v wx => CameE cel KF w1 u v wx)
  case first =>
    have hstC : ∀ (V : World), (storeCells ⟨V.heap.size, 0, none⟩ (cel KF).toList 0).run Tryd.prog (V.alloc (.cells zeros 59)) = .ok () ((V.alloc (.cells zeros 59)).setRow V.heap.size (cel KF)) := fun V => store_eq (Blk.new V zeros _) (hC.size _) (hC.one _)
    have hstD : ∀ (V : World), (storeCells ⟨V.heap.size, 0, none⟩ (cel KF).toList 0).run Tryd.prog (V.alloc (.cells zeros 59)).drew = .ok () ((V.alloc (.cells zeros 59)).drew.setRow V.heap.size (cel KF)) := fun V => store_eq (Blk.new V zeros _).drew (hC.size _) (hC.one _)
    have HST := hid (show ∀ (V : World) (b : Nat), Blk V b zeros → (storeCells ⟨b, 0, none⟩ (cel KF).toList 0).run Tryd.prog V = .ok () (V.setRow b (cel KF)) from fun V b hb => store_eq hb (hC.size _) (hC.one _))
    unfold zeros at hstC hstD HST
    go_region_held3 (fun W => W.cell? ⟨tb, 0, none⟩ = some (.pointer (some ⟨rb, 0, none⟩)) ∧ W.cell? ⟨rb, 0, none⟩ = some (.slice pa pn pc) ∧ (loadCellsFrom ⟨tb, 9, none⟩ 0 N #[]).run Tryd.prog W = .ok (cel F) W ∧ (loadCellsFrom ⟨w.heap.size, 0, none⟩ 0 M5 #[]).run Tryd.prog W = .ok ic W)
      (first | exact HS.out _ HD.out | exact HS.out _ (HD.out.trans (Fr.drew _ _)) | exact HS.out _ (HD.out.trans (Fr.alloc _ _ _)) | exact HS.out _ (HD.out.trans ((Fr.alloc _ _ _).trans (Fr.drew _ _))) | exact HS.out _ (HD.out.over (setRow_fr _ _ _ rfl) (Nat.le_refl _)) | exact HS.out _ ((HD.out.trans (Fr.alloc _ _ _)).over (setRow_fr _ _ _ rfl) HD.out.size) | exact HS.out _ ((HD.out.trans ((Fr.alloc _ _ _).trans (Fr.drew _ _))).over (setRow_fr _ _ _ rfl) HD.out.size))
      (first
        | (go_at_call 50; (with_reducible refine (HCH1.out _ ((HA.out.trans HD.out).trans (by first | exact Fr.drew _ _ | exact Fr.refl _ _ | exact Fr.alloc _ _ _ | exact (Fr.alloc _ _ _).trans (Fr.drew _ _)))).mono ?_); rintro e w7 ⟨rfl, hF7⟩; (try (have HBB := hid (blk_of' hF7); have hst := HST.out _ _ HBB.out)); (try (have HBB := hid (blk_of hF7); have hst := HST.out _ _ HBB.out)); have HD := hid (HD.out.trans (Fr.trans (by first | exact Fr.refl _ _ | exact Fr.drew _ _ | exact Fr.alloc _ _ _ | exact (Fr.alloc _ _ _).trans (Fr.drew _ _)) hF7)); clear hF7))
    all_goals
      go_wp2_with fail
      go_meet
      case rel => first
        | exact ⟨_, rfl, rfl, setRow_blk HBB.out _, Nat.le_refl _, HD.out.over (setRow_fr _ _ _ rfl) (Nat.le_refl _)⟩
        | exact ⟨_, rfl, rfl, setRow_blk (Blk.new _ _ _) _, HD.out.size, (HD.out.trans (Fr.alloc _ _ _)).over (setRow_fr _ _ _ rfl) HD.out.size⟩
        | exact ⟨_, rfl, rfl, setRow_blk (Blk.new _ _ _).drew _, HD.out.size, (HD.out.trans ((Fr.alloc _ _ _).trans (Fr.drew _ _))).over (setRow_fr _ _ _ rfl) HD.out.size⟩
  case rest =>
  obtain ⟨g, rfl, rfl, hG, hg, hFc⟩ := hcut
  obtain ⟨w2, hw2⟩ : ∃ w2, w2 = wc := ⟨_, rfl⟩
  rw [← hw2] at hG hFc ⊢
  clear hw2
  have HF2 := hid (HA.out.trans hFc)
  have HG2 := hid hG
  have HB2 := hid (HB.out.keep hFc (fun h => h))
  have HT2 := hid (HT.out.keep hFc (fun h => h))
  have HR2 := hid (TBlk.keep HR.out HF2.out (fun h => h))
  have HO2 := hid (OwnR.same HO.out HF2.out)
  have HC2 := hid (HCN.out.same HF2.out)
  have HGL := hid hg
  clear hG hFc hg HS HD
  have HBG := hid (fun W (hW : Fr (fun _ => False) w2 W) => begun_deep W hC KF a rb ib k0 s0 rest pa pn pc N0 st n cap B A xs hn (Nat.le_trans HBW.out (HF2.out.trans hW).size) (TBlk.keep HR2.out hW (fun h => h)) (OwnR.same HO2.out hW) (HC2.out.same hW) hd)
  obtain ⟨c0, c1, _⟩ := HT2.out.lo
  obtain ⟨c28, _⟩ := HT2.out.hi hC
  have hl1 := HT2.out.load hC HN.out
  have hl2 := (HT2.out.keep (Fr.drew (fun _ => False) w2) (fun h => h)).load hC HN.out
  have hl3 := load_eq (P := Tryd.prog) HG2.out (hsz KF)
  have hl4 := load_eq (P := Tryd.prog) (w := w2.drew) HG2.out (hsz KF)
  have hgl := HG2.out.lt
  have htl2 := HT2.out.lt
  go_upto_region 2 with fail
  go_region_dies
  all_goals
    refine (HBG.out _ (by first | exact Fr.drew _ _ | exact Fr.refl _ _)).mono ?_
    unfold boom
    rintro e w7 ⟨rfl, hF7⟩
    have HF7 := hid (HF2.out.trans (Fr.trans (by first | exact Fr.drew _ _ | exact Fr.refl _ _) hF7))
    exact ⟨rfl, rfl, HF7.out⟩
end

end Go.Proofs.YtpjcdjooiaefdaaDoor
