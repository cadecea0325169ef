/-
  A task that is made: the walk.
-/
import Derived.Test.YtpjcdjooiaefdaaDoorVBegun
namespace Go.Proofs.YtpjcdjooiaefdaaDoor
open Go.RowKit
set_option linter.unusedVariables false

attribute [local go_sem ↓] build63_is
attribute [local go_sem] build63_run

attribute [local go_sem ↓] build33_is

section
variable {cel : Frm → Array Value} (w : World)

set_option maxRecDepth 100000 in
set_option maxHeartbeats 4000000 in
theorem begun_deep (hC : Cel cel) (F : Frm) (par : Int) (rb ib k0 : Nat) (s0 : Bool) (rest : List (Nat × Bool)) (pa : Option Addr) (pn pc : Nat) (N0 st : Int) (n cap B : Nat) (A : Option Addr) (xs : List Value)
    (hn : n < 2000000) (hBw : B ≤ w.heap.size) (hR : IsR w rb pa pn pc N0 st A n cap) (hO : OwnR w B 33 7 A n cap xs) (hch : Chn w ((k0, s0) :: rest) (some ⟨ib, 0, none⟩))
    (hd : rest.length = 32) :
    Calls Tryd.prog 22 #[.pointer (some ⟨rb, 0, none⟩), .agg (cel F), .int .i64 par, .pointer (some ⟨ib, 0, none⟩)] w fun e w' => e = boom 23 ∧ Fr (fun _ => False) w w' := by
  obtain ⟨N, hN, hN1, hN2⟩ := nineteen
  have hN3 : ¬ N = 0 := by omega
  have hsz : ∀ F, (cel F).size = N := fun F => by rw [hC.size, hN]
  have HN := hid hN
  obtain ⟨s, hs⟩ : ∃ s, askd ((k0, s0) :: rest) = s := ⟨_, rfl⟩
  have HCC := hid (fun W (hW : Chn W ((k0, s0) :: rest) (some ⟨ib, 0, none⟩)) => cancelled_any _ _ W hW)
  rw [hs] at HCC
  have HAK := hid hs
  have HCH := hid hch
  obtain ⟨_, A0, e0, hI, _⟩ := hch
  injection e0 with e0
  injection e0 with e0
  subst e0
  obtain ⟨d, hdl⟩ : ∃ d, rest.length = d := ⟨_, rfl⟩
  simp only at hI
  obtain rfl : d = 32 := by omega
  rw [hdl] at hI
  obtain ⟨ff, hff⟩ : ∃ ff, F.f = ff := ⟨_, rfl⟩
  have HFF := hid hff
  have hA := Fr.alloc (fun _ => False) w (.cells (cel F) 59)
  have hB := Blk.new w (cel F) 59
  obtain ⟨w1, hw1⟩ : ∃ w1, w1 = w.alloc (.cells (cel F) 59) := ⟨_, rfl⟩
  rw [← hw1] at hA hB
  have HA := hid hA
  have HB := hid hB
  have HI := hid hI
  have HR := hid hR
  have HO := hid hO
  have HDL := hid hdl
  have HS := hid (show ∀ W, Fr (fun _ => False) w1 W → W.cell? ⟨ib, 2, none⟩ = some (.int .i64 k0) ∧ W.cell? ⟨w.heap.size, 0, none⟩ = some (.int .i64 ff) from fun W hW =>
    ⟨(TBlk.blk (HI.out.keep (hA.trans hW) (fun h => h))).cell rfl, by rw [← hff]; exact (HB.out.keep hW (fun h => h)).cell (hC.f F)⟩)
  have HD := hid (Fr.refl (fun _ => False) w1)
  have HL1 := hid hB.lt
  have hil1 : ib < w1.heap.size := Nat.lt_of_lt_of_le (TBlk.blk hI).lt hA.size
  have hnl1 := hB.lt
  clear hA hB hI hR hO hs hdl hff hN
  go_enter Tryd.func22, Tryd.ntmps22
  go_upto_region 1 with fail
  rw [← hw1]
  clear hw1
  obtain ⟨M, hM, hM1⟩ := sizeRow
  have hM0 : ¬ M = 0 := by omega
  have HM := hid hM
  obtain ⟨rc, hrc⟩ : ∃ rc : Array Value, #[.int .i64 par, .int .i64 k0, .int .i64 ff, .int .i64 1, .int .i64 0, .int .i64 0, .string ⟨#[]⟩] = rc := ⟨_, rfl⟩
  have hb3 := fun W => build33_run par k0 ff 1 W
  rw [hrc] at hb3
  have HRC := hid hrc
  go_cut [9] from 11 to 19 (fun u wx => CameC rc w1 u wx)
  case first =>
    have his : rc.size = M := by rw [← hrc, hM]; rfl
    have hi1 : rc.all (·.oneCell') = true := by rw [← hrc]; simp [Value.oneCell']
    have hstC : ∀ (V : World), (storeCells ⟨V.heap.size, 0, none⟩ rc.toList 0).run Tryd.prog (V.alloc (.cells zero7 33)) = .ok () ((V.alloc (.cells zero7 33)).setRow V.heap.size rc) := fun V => store_at (n := 7) (Blk.new V zero7 _) rfl (his.trans hM) hi1
    have hstD : ∀ (V : World), (storeCells ⟨V.heap.size, 0, none⟩ rc.toList 0).run Tryd.prog (V.alloc (.cells zero7 33)).drew = .ok () ((V.alloc (.cells zero7 33)).drew.setRow V.heap.size rc) := fun V => store_at (n := 7) (Blk.new V zero7 _).drew rfl (his.trans hM) hi1
    unfold zero7 at hstC hstD
    clear hM hrc hi1
    go_region_held3 (fun W => W.cell? ⟨ib, 2, none⟩ = some (.int .i64 k0) ∧ W.cell? ⟨w.heap.size, 0, none⟩ = some (.int .i64 ff))
      (first | exact HS.out _ HD.out | exact HS.out _ (HD.out.trans (Fr.drew _ _)) | exact HS.out _ (HD.out.trans (Fr.alloc _ _ _)) | exact HS.out _ (HD.out.trans ((Fr.alloc _ _ _).trans (Fr.drew _ _))) | exact HS.out _ ((HD.out.trans (Fr.alloc _ _ _)).over (setRow_fr _ _ _ rfl) HD.out.size) | exact HS.out _ ((HD.out.trans ((Fr.alloc _ _ _).trans (Fr.drew _ _))).over (setRow_fr _ _ _ rfl) HD.out.size))
      (fail)
    all_goals
      go_wp2_with fail
      go_meet
      case rel => first
        | exact ⟨_, rfl, setRow_blk (Blk.new _ _ _) _, HD.out.size, (HD.out.trans (Fr.alloc _ _ _)).over (setRow_fr _ _ _ rfl) HD.out.size⟩
        | exact ⟨_, rfl, setRow_blk (Blk.new _ _ _).drew _, HD.out.size, (HD.out.trans ((Fr.alloc _ _ _).trans (Fr.drew _ _))).over (setRow_fr _ _ _ rfl) HD.out.size⟩
  case rest =>
  obtain ⟨g, rfl, hG, hg, hFc⟩ := hcut
  obtain ⟨w2, hw2⟩ : ∃ w2, w2 = wc := ⟨_, rfl⟩
  rw [← hw2] at hG hFc ⊢
  clear hw2
  have HF2 := hid (HA.out.trans hFc)
  have HG := hid hG
  have HB2 := hid (HB.out.keep hFc (fun h => h))
  have HGW := hid hg
  clear hG hFc hg hil1 hnl1 hM hrc hb3
  go_wp2_with fail
  refine (HCC.out w2 (HCH.out.same HF2.out)).mono ?_
  rintro e w3 ⟨rfl, rfl⟩
  cases s with
  | true =>
    have hz3 := HG.out.frozen 3
    have hc3 : w2.cell? ⟨g, 3, none⟩ = some (.int .i64 1) := HG.out.cell (by rw [← HRC.out]; rfl)
    have hgl2 := HG.out.lt
    have hG4 := HG.out.set 3 (.int .i64 4)
    have hF4 := Fr.setCell (S := fun j => j = g) w2 ⟨g, 3, none⟩ (.int .i64 4) rfl
    have HB4 := hid (HB2.out.keep hF4 (by have := HGW.out; have := HL1.out; omega))
    have HF4 := hid (HF2.out.over hF4 (by have := HGW.out; have := HA.out.size; omega))
    have HG4 := hid (show Blk (w2.setCell ⟨g, 3, none⟩ (.int .i64 4)) g #[.int .i64 par, .int .i64 k0, .int .i64 ff, .int .i64 4, .int .i64 0, .int .i64 0, .string ⟨#[]⟩] by rw [← HRC.out] at hG4; exact hG4)
    obtain ⟨w4, hw4⟩ : ∃ w4, w4 = w2.setCell ⟨g, 3, none⟩ (.int .i64 4) := ⟨_, rfl⟩
    rw [← hw4] at HB4 HF4 HG4
    clear hG4 hF4
    go_upto_region 4 with fail
    rw [← hw4]
    clear hw4 hz3 hc3 hgl2
    have HI4 := hid (HI.out.keep HF4.out (fun h => h))
    have HR4 := hid (TBlk.keep HR.out HF4.out (fun h => h))
    have HMD := hid (fun W (hW : Fr (fun _ => False) w4 W) => made_deep W ib k0 0 s0 A0 (HI4.out.keep hW (fun h => h)))
    have r3 : w4.cell? ⟨rb, 3, none⟩ = some (.slice A n cap) := (TBlk.blk HR4.out).cell rfl
    have hrl := (TBlk.blk HR4.out).lt
    have hgl := HG4.out.lt
    obtain ⟨rk, hrk⟩ : ∃ rk : Array Value, #[.int .i64 par, .int .i64 k0, .int .i64 ff, .int .i64 4, .int .i64 0, .int .i64 0, .string ⟨#[]⟩] = rk := ⟨_, rfl⟩
    have hlr := load_eq (P := Tryd.prog) HG4.out (n := M) (by rw [HM.out]; rfl)
    have hlr' := load_eq (P := Tryd.prog) (w := w4.drew) HG4.out (n := M) (by rw [HM.out]; rfl)
    rw [hrk] at hlr hlr'
    clear hrk
    have hld := load_eq (P := Tryd.prog) HB4.out (show (cel F).size = N by rw [hC.size, HN.out])
    have hld' := load_eq (P := Tryd.prog) (w := w4.drew) HB4.out (show (cel F).size = N by rw [hC.size, HN.out])
    go_region_dies
    all_goals
      refine (HMD.out _ (by first | exact Fr.drew _ _ | exact Fr.refl _ _)).mono ?_
      unfold boom
      rintro e w7 ⟨rfl, hF7⟩
      exact ⟨rfl, rfl, HF4.out.trans (Fr.trans (Fr.drew _ _) hF7)⟩
  | false =>
    obtain ⟨w4, hw4⟩ : ∃ w4, w4 = w2 := ⟨_, rfl⟩
    rw [← hw4] at HB2 HF2 HG ⊢
    have HB4 := HB2
    have HF4 := HF2
    have HG4 := hid (show Blk w4 g #[.int .i64 par, .int .i64 k0, .int .i64 ff, .int .i64 1, .int .i64 0, .int .i64 0, .string ⟨#[]⟩] by rw [HRC.out]; exact HG.out)
    clear hw4
    go_upto_region 4 with fail
    have HI4 := hid (HI.out.keep HF4.out (fun h => h))
    have HR4 := hid (TBlk.keep HR.out HF4.out (fun h => h))
    have HMD := hid (fun W (hW : Fr (fun _ => False) w4 W) => made_deep W ib k0 0 s0 A0 (HI4.out.keep hW (fun h => h)))
    have r3 : w4.cell? ⟨rb, 3, none⟩ = some (.slice A n cap) := (TBlk.blk HR4.out).cell rfl
    have hrl := (TBlk.blk HR4.out).lt
    have hgl := HG4.out.lt
    obtain ⟨rk, hrk⟩ : ∃ rk : Array Value, #[.int .i64 par, .int .i64 k0, .int .i64 ff, .int .i64 1, .int .i64 0, .int .i64 0, .string ⟨#[]⟩] = rk := ⟨_, rfl⟩
    have hlr := load_eq (P := Tryd.prog) HG4.out (n := M) (by rw [HM.out]; rfl)
    have hlr' := load_eq (P := Tryd.prog) (w := w4.drew) HG4.out (n := M) (by rw [HM.out]; rfl)
    rw [hrk] at hlr hlr'
    clear hrk
    have hld := load_eq (P := Tryd.prog) HB4.out (show (cel F).size = N by rw [hC.size, HN.out])
    have hld' := load_eq (P := Tryd.prog) (w := w4.drew) HB4.out (show (cel F).size = N by rw [hC.size, HN.out])
    go_region_dies
    all_goals
      refine (HMD.out _ (by first | exact Fr.drew _ _ | exact Fr.refl _ _)).mono ?_
      unfold boom
      rintro e w7 ⟨rfl, hF7⟩
      exact ⟨rfl, rfl, HF4.out.trans (Fr.trans (Fr.drew _ _) hF7)⟩

end

end Go.Proofs.YtpjcdjooiaefdaaDoor
