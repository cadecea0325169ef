/-
  A task that is made.
-/
import Derived.Test.YtpjcdjooiaefdaaDoorVMetD
import Derived.Test.YtpjcdjooiaefdaaDoorVMetN
import Derived.RegionDies
import Derived.Deep.AppendLies
import Derived.Deep.RegionLaw
import Derived.Deep.DeepCutAuto
namespace Go.Proofs.YtpjcdjooiaefdaaDoor
open Go.RowKit
set_option linter.unusedVariables false

theorem Fr.of_grown' {w w' : World} {A : Option Addr} {n c : Nat} (h : w.grownBy w' (Value.slice A n c).ownBlock) : Fr (ownB A) w w' := Fr.of_grown h

def build63 (parts : Array (Nat × Value)) : Sem Value := Instr.build 63 parts
theorem build63_is (parts : Array (Nat × Value)) : Instr.build 63 parts = build63 parts := rfl
theorem build63_run {cel : Frm → Array Value} (hC : Cel cel) (rb a sb : Nat) (par k kd : Int) (F : Frm) (w : World) :
    (build63 #[(0, .pointer (some ⟨rb, 0, none⟩)), (1, .int .i64 a), (2, .agg #[.int .i64 par, .int .i64 k, .int .i64 F.f, .int .i64 kd, .int .i64 0, .int .i64 0, .string ⟨#[]⟩]), (3, .agg (cel F)), (4, .pointer (some ⟨sb, 0, none⟩))]).run Tryd.prog w =
      .ok (.agg (tcel cel rb a ⟨par, k, F.f, kd, 0, 0, []⟩ F (.pointer (some ⟨sb, 0, none⟩)) 0 (.slice none 0 0) (.pointer none))) w := by
  rw [hC.eq]
  kernel_rfl

theorem infoWz : (Tryd.prog.info? 33).map (fun i => (i.zero, i.size, i.bytes)) = some (some (.agg #[.int .i64 0, .int .i64 0, .int .i64 0, .int .i64 0, .int .i64 0, .int .i64 0, .string ⟨#[]⟩]), 7, 64) := by kernel_rfl

end Go.Proofs.YtpjcdjooiaefdaaDoor

/-
  A task that is made: the walk.
-/
namespace Go.Proofs.YtpjcdjooiaefdaaDoor
open Go.RowKit
set_option linter.unusedVariables false

attribute [local go_sem ↓] build63_is
attribute [local go_sem] build63_run

def build33 (parts : Array (Nat × Value)) : Sem Value := Instr.build 33 parts
theorem build33_is (parts : Array (Nat × Value)) : Instr.build 33 parts = build33 parts := rfl
theorem build33_run (par k0 ff kd : Int) (w : World) : (build33 #[(0, .int .i64 par), (1, .int .i64 k0), (2, .int .i64 ff), (3, .int .i64 kd)]).run Tryd.prog w = .ok (.agg #[.int .i64 par, .int .i64 k0, .int .i64 ff, .int .i64 kd, .int .i64 0, .int .i64 0, .string ⟨#[]⟩]) w := by kernel_rfl
theorem sizeRow : ∃ M : Nat, M = 7 ∧ ∀ w, (sizeOf 33).run Tryd.prog w = .ok M w := ⟨7, rfl, fun _ => by kernel_rfl⟩
def zero7 : Array Value := #[.int .i64 0, .int .i64 0, .int .i64 0, .int .i64 0, .int .i64 0, .int .i64 0, .string ⟨#[]⟩]
attribute [local go_sem ↓] build33_is

theorem Fr.seven (W : World) (g : Nat) (v0 v1 v2 v3 v4 v5 v6 : Value) : Fr (fun j => j = g) W (((((((W.setCell ⟨g, 0, none⟩ v0).setCell ⟨g, 1, none⟩ v1).setCell ⟨g, 2, none⟩ v2).setCell ⟨g, 3, none⟩ v3).setCell ⟨g, 4, none⟩ v4).setCell ⟨g, 5, none⟩ v5).setCell ⟨g, 6, none⟩ v6) :=
  ((Fr.five W g v0 v1 v2 v3 v4).trans (Fr.setCell (S := fun j => j = g) _ _ _ rfl)).trans (Fr.setCell (S := fun j => j = g) _ _ _ rfl)

/-- What a task that is made comes to. -/
def BegunPost (cel : Frm → Array Value) (w : World) (F : Frm) (par : Int) (rb ib k0 : Nat) (s0 : Bool) (rest : List (Nat × Bool)) (pa : Option Addr) (pn pc : Nat) (N0 st : Int) (n B : Nat) (A : Option Addr) (xs : List Value) (e : Ending) (w' : World) : Prop :=
  ∃ tb sb A' cap', e = .returned (.pointer (some ⟨tb, 0, none⟩)) ∧ IsT w' cel tb rb n ⟨par, k0, F.f, (if askd ((k0, s0) :: rest) then 4 else 1), 0, 0, []⟩ F (.pointer (some ⟨sb, 0, none⟩)) 0 (.slice none 0 0) (.pointer none) ∧
      TBlk w' sb (scel (some ⟨ib, 0, none⟩) (rest.length + 1) 0 false) 69 ∧ IsR w' rb pa pn pc N0 st A' (n + 1) cap' ∧ OwnR w' B 33 7 A' (n + 1) cap' (xs ++ [.int .i64 par, .int .i64 k0, .int .i64 F.f, .int .i64 (if askd ((k0, s0) :: rest) then 4 else 1), .int .i64 0, .int .i64 0, .string ⟨#[]⟩]) ∧
      w.heap.size ≤ tb ∧ w.heap.size ≤ sb ∧ Fr (fun j => j = rb ∨ ownB A j) w w' ∧ (∀ j, ownB A' j → ownB A j ∨ w.heap.size ≤ j)

section
variable {cel : Frm → Array Value} (w : World)

set_option maxRecDepth 100000 in
set_option maxHeartbeats 4000000 in
theorem begun_ok (hC : Cel cel) (F : Frm) (par : Int) (rb ib k0 : Nat) (s0 : Bool) (rest : List (Nat × Bool)) (pa : Option Addr) (pn pc : Nat) (N0 st : Int) (n cap B : Nat) (A : Option Addr) (xs : List Value)
    (hn : n < 2000000) (hBw : B ≤ w.heap.size) (hR : IsR w rb pa pn pc N0 st A n cap) (hO : OwnR w B 33 7 A n cap xs) (hch : Chn w ((k0, s0) :: rest) (some ⟨ib, 0, none⟩))
    (hd : rest.length < 32) :
    Calls Tryd.prog 22 #[.pointer (some ⟨rb, 0, none⟩), .agg (cel F), .int .i64 par, .pointer (some ⟨ib, 0, none⟩)] w fun e w' => BegunPost cel w F par rb ib k0 s0 rest pa pn pc N0 st n B A xs e w' := by
  obtain ⟨N, hN, hN1, hN2⟩ := nineteen
  have hN3 : ¬ N = 0 := by omega
  have hsz : ∀ F, (cel F).size = N := fun F => by rw [hC.size, hN]
  have HN := hid hN
  obtain ⟨s, hs⟩ : ∃ s, askd ((k0, s0) :: rest) = s := ⟨_, rfl⟩
  have HCC := hid (fun W (hW : Chn W ((k0, s0) :: rest) (some ⟨ib, 0, none⟩)) => cancelled_any _ _ W hW)
  rw [hs] at HCC
  have HAK := hid hs
  have HCH := hid hch
  obtain ⟨_, A0, e0, hI, _⟩ := hch
  injection e0 with e0
  injection e0 with e0
  subst e0
  obtain ⟨d, hdl⟩ : ∃ d, rest.length = d := ⟨_, rfl⟩
  simp only at hI
  rw [hdl] at hI
  obtain ⟨ff, hff⟩ : ∃ ff, F.f = ff := ⟨_, rfl⟩
  have HFF := hid hff
  have hA := Fr.alloc (fun _ => False) w (.cells (cel F) 59)
  have hB := Blk.new w (cel F) 59
  obtain ⟨w1, hw1⟩ : ∃ w1, w1 = w.alloc (.cells (cel F) 59) := ⟨_, rfl⟩
  rw [← hw1] at hA hB
  have HA := hid hA
  have HB := hid hB
  have HI := hid hI
  have HR := hid hR
  have HO := hid hO
  have HDL := hid hdl
  have HDD := hid (show d < 32 by omega)
  have HBW := hid hBw
  have HS := hid (show ∀ W, Fr (fun _ => False) w1 W → W.cell? ⟨ib, 2, none⟩ = some (.int .i64 k0) ∧ W.cell? ⟨w.heap.size, 0, none⟩ = some (.int .i64 ff) from fun W hW =>
    ⟨(TBlk.blk (HI.out.keep (hA.trans hW) (fun h => h))).cell rfl, by rw [← hff]; exact (HB.out.keep hW (fun h => h)).cell (hC.f F)⟩)
  have HD := hid (Fr.refl (fun _ => False) w1)
  have HL1 := hid hB.lt
  have hil1 : ib < w1.heap.size := Nat.lt_of_lt_of_le (TBlk.blk hI).lt hA.size
  have hnl1 := hB.lt
  clear hA hB hI hR hO hs hdl hff hN
  go_enter Tryd.func22, Tryd.ntmps22
  go_upto_region 1 with fail
  rw [← hw1]
  clear hw1
  obtain ⟨M, hM, hM1⟩ := sizeRow
  have hM0 : ¬ M = 0 := by omega
  have HM := hid hM
  obtain ⟨rc, hrc⟩ : ∃ rc : Array Value, #[.int .i64 par, .int .i64 k0, .int .i64 ff, .int .i64 1, .int .i64 0, .int .i64 0, .string ⟨#[]⟩] = rc := ⟨_, rfl⟩
  have hb3 := fun W => build33_run par k0 ff 1 W
  rw [hrc] at hb3
  have HRC := hid hrc
  go_cut [9] from 11 to 19 (fun u wx => CameC rc w1 u wx)
  case first =>
    have his : rc.size = M := by rw [← hrc, hM]; rfl
    have hi1 : rc.all (·.oneCell') = true := by rw [← hrc]; simp [Value.oneCell']
    have hstC : ∀ (V : World), (storeCells ⟨V.heap.size, 0, none⟩ rc.toList 0).run Tryd.prog (V.alloc (.cells zero7 33)) = .ok () ((V.alloc (.cells zero7 33)).setRow V.heap.size rc) := fun V => store_at (n := 7) (Blk.new V zero7 _) rfl (his.trans hM) hi1
    have hstD : ∀ (V : World), (storeCells ⟨V.heap.size, 0, none⟩ rc.toList 0).run Tryd.prog (V.alloc (.cells zero7 33)).drew = .ok () ((V.alloc (.cells zero7 33)).drew.setRow V.heap.size rc) := fun V => store_at (n := 7) (Blk.new V zero7 _).drew rfl (his.trans hM) hi1
    unfold zero7 at hstC hstD
    clear hM hrc hi1
    go_region_held3 (fun W => W.cell? ⟨ib, 2, none⟩ = some (.int .i64 k0) ∧ W.cell? ⟨w.heap.size, 0, none⟩ = some (.int .i64 ff))
      (first | exact HS.out _ HD.out | exact HS.out _ (HD.out.trans (Fr.drew _ _)) | exact HS.out _ (HD.out.trans (Fr.alloc _ _ _)) | exact HS.out _ (HD.out.trans ((Fr.alloc _ _ _).trans (Fr.drew _ _))) | exact HS.out _ ((HD.out.trans (Fr.alloc _ _ _)).over (setRow_fr _ _ _ rfl) HD.out.size) | exact HS.out _ ((HD.out.trans ((Fr.alloc _ _ _).trans (Fr.drew _ _))).over (setRow_fr _ _ _ rfl) HD.out.size))
      (fail)
    all_goals
      go_wp2_with fail
      go_meet
      case rel => first
        | exact ⟨_, rfl, setRow_blk (Blk.new _ _ _) _, HD.out.size, (HD.out.trans (Fr.alloc _ _ _)).over (setRow_fr _ _ _ rfl) HD.out.size⟩
        | exact ⟨_, rfl, setRow_blk (Blk.new _ _ _).drew _, HD.out.size, (HD.out.trans ((Fr.alloc _ _ _).trans (Fr.drew _ _))).over (setRow_fr _ _ _ rfl) HD.out.size⟩
  case rest =>
  obtain ⟨g, rfl, hG, hg, hFc⟩ := hcut
  obtain ⟨w2, hw2⟩ : ∃ w2, w2 = wc := ⟨_, rfl⟩
  rw [← hw2] at hG hFc ⊢
  clear hw2
  have HF2 := hid (HA.out.trans hFc)
  have HG := hid hG
  have HB2 := hid (HB.out.keep hFc (fun h => h))
  have HGW := hid hg
  clear hG hFc hg hil1 hnl1 hM hrc hb3
  go_wp2_with fail
  refine (HCC.out w2 (HCH.out.same HF2.out)).mono ?_
  rintro e w3 ⟨rfl, rfl⟩
  cases s with
  | true =>
    have hz3 := HG.out.frozen 3
    have hc3 : w2.cell? ⟨g, 3, none⟩ = some (.int .i64 1) := HG.out.cell (by rw [← HRC.out]; rfl)
    have hgl2 := HG.out.lt
    have hG4 := HG.out.set 3 (.int .i64 4)
    have hF4 := Fr.setCell (S := fun j => j = g) w2 ⟨g, 3, none⟩ (.int .i64 4) rfl
    have HB4 := hid (HB2.out.keep hF4 (by have := HGW.out; have := HL1.out; omega))
    have HF4 := hid (HF2.out.over hF4 (by have := HGW.out; have := HA.out.size; omega))
    have HG4 := hid (show Blk (w2.setCell ⟨g, 3, none⟩ (.int .i64 4)) g #[.int .i64 par, .int .i64 k0, .int .i64 ff, .int .i64 4, .int .i64 0, .int .i64 0, .string ⟨#[]⟩] by rw [← HRC.out] at hG4; exact hG4)
    obtain ⟨w4, hw4⟩ : ∃ w4, w4 = w2.setCell ⟨g, 3, none⟩ (.int .i64 4) := ⟨_, rfl⟩
    rw [← hw4] at HB4 HF4 HG4
    clear hG4 hF4
    go_upto_region 4 with fail
    rw [← hw4]
    clear hw4 hz3 hc3 hgl2
    obtain ⟨rk, hrk⟩ : ∃ rk : Array Value, #[.int .i64 par, .int .i64 k0, .int .i64 ff, .int .i64 4, .int .i64 0, .int .i64 0, .string ⟨#[]⟩] = rk := ⟨_, rfl⟩
    have HRK := hid hrk
    have HI4 := hid (HI.out.keep HF4.out (fun h => h))
    have HR4 := hid (TBlk.keep HR.out HF4.out (fun h => h))
    have HMD := hid (fun W (hW : Fr (fun _ => False) w4 W) => made_ok W ib d k0 0 s0 A0 (HI4.out.keep hW (fun h => h)) HDD.out)
    rw [show ((0 : Nat) : Int) = 0 from rfl] at HMD
    have HS4 := hid (show ∀ W, Fr (fun _ => False) w4 W → W.cell? ⟨rb, 3, none⟩ = some (.slice A n cap) ∧ (loadCellsFrom ⟨g, 0, none⟩ 0 M #[]).run Tryd.prog W = .ok rk W ∧ (loadCellsFrom ⟨w.heap.size, 0, none⟩ 0 N #[]).run Tryd.prog W = .ok (cel F) W from fun W hW => by
      have hg4 := HG4.out.keep hW (fun h => h)
      rw [← HRK.out]
      refine ⟨(TBlk.blk (TBlk.keep HR4.out hW (fun h => h))).cell rfl, load_eq hg4 (by rw [HM.out]; rfl), load_eq (HB4.out.keep hW (fun h => h)) (by rw [hC.size, HN.out])⟩)
    have HD4 := hid (Fr.refl (fun _ => False) w4)
    have hBR := fun (W : World) (sb : Nat) => build63_run hC rb n sb par k0 4 F W
    rw [HFF.out, hrk] at hBR
    clear hrk
    go_region_held3 (fun W => W.cell? ⟨rb, 3, none⟩ = some (.slice A n cap) ∧ (loadCellsFrom ⟨g, 0, none⟩ 0 M #[]).run Tryd.prog W = .ok rk W ∧ (loadCellsFrom ⟨w.heap.size, 0, none⟩ 0 N #[]).run Tryd.prog W = .ok (cel F) W)
      (first | exact HS4.out _ HD4.out | exact HS4.out _ (HD4.out.trans (Fr.drew _ _)) | exact HS4.out _ (HD4.out.trans (Fr.alloc _ _ _)) | exact HS4.out _ (HD4.out.trans ((Fr.alloc _ _ _).trans (Fr.drew _ _))))
      (first
        | (go_at_call 39; (with_reducible refine (HMD.out _ (by first | exact Fr.drew _ _ | exact Fr.refl _ _)).mono ?_); rintro e w7 ⟨sb, rfl, hSB, hsb, hF7⟩; have HD4 := hid (HD4.out.trans (Fr.trans (by first | exact Fr.refl _ _ | exact Fr.drew _ _) hF7)); have HSB := hid hSB; have HSL := hid (Nat.le_trans HF4.out.size hsb); clear hSB hsb hF7))
    all_goals
      have hA8 := Fr.alloc (fun _ => False) w7 (.cells (tcel cel rb n ⟨par, k0, ff, 4, 0, 0, []⟩ F (.pointer (some ⟨sb, 0, none⟩)) 0 (.slice none 0 0) (.pointer none)) 63)
      have hT8 := TBlk.new w7 (tcel cel rb n ⟨par, k0, ff, 4, 0, 0, []⟩ F (.pointer (some ⟨sb, 0, none⟩)) 0 (.slice none 0 0) (.pointer none)) 63
      obtain ⟨tb, htb⟩ : ∃ tb, tb = w7.heap.size := ⟨_, rfl⟩
      obtain ⟨w8, hw8⟩ : ∃ w8, w8 = w7.alloc (.cells (tcel cel rb n ⟨par, k0, ff, 4, 0, 0, []⟩ F (.pointer (some ⟨sb, 0, none⟩)) 0 (.slice none 0 0) (.pointer none)) 63) := ⟨_, rfl⟩
      rw [← hw8, ← htb] at hT8
      rw [← hw8] at hA8
      rw [← hw8, ← htb]
      have HF48 := hid (HD4.out.trans hA8)
      have HF8 := hid (HF4.out.trans HF48.out)
      have HTL := hid (show w.heap.size ≤ tb by rw [htb]; exact Nat.le_trans HF4.out.size HD4.out.size)
      have HT8 := hid hT8
      have HS8 := hid (HSB.out.keep hA8 (fun h => h))
      have HR8 := hid (TBlk.keep HR4.out HF48.out (fun h => h))
      have HO8 := hid (OwnR.same HO.out HF8.out)
      have HG8 := hid (HG4.out.keep HF48.out (fun h => h))
      have hgt : g ≠ tb := by have := HG4.out.lt; have := HD4.out.size; omega
      have HX := hid (show ¬ ownB A rb ∧ ¬ ownB A tb ∧ ¬ ownB A sb from ⟨OwnR.ne HO8.out HR8.out (by decide), OwnR.ne HO8.out HT8.out (by decide), OwnR.ne HO8.out HS8.out (by decide)⟩)
      have hgA : ¬ ownB A g := fun hj => by have := (OwnR.lt HO.out _ hj).2; have := HGW.out; have := HA.out.size; omega
      have HGA := hid hgA
      have HRT := hid (TBlk.ne HR8.out HT8.out (by decide))
      have HRS := hid (TBlk.ne HR8.out HS8.out (by decide))
      clear hw8 htb hA8 hT8 hgt hgA hBR
      clear hM1 hM0
      have r3 : w8.cell? ⟨rb, 3, none⟩ = some (.slice A n cap) := (TBlk.blk HR8.out).cell rfl
      have hrl := (TBlk.blk HR8.out).lt
      have b0 := HG8.out.cell (i := 0) rfl
      have b1 := HG8.out.cell (i := 1) rfl
      have b2 := HG8.out.cell (i := 2) rfl
      have b3 := HG8.out.cell (i := 3) rfl
      have b4 := HG8.out.cell (i := 4) rfl
      have b5 := HG8.out.cell (i := 5) rfl
      have b6 := HG8.out.cell (i := 6) rfl
      simp only [List.getElem_toArray, List.getElem_cons_zero, List.getElem_cons_succ] at b0 b1 b2 b3 b4 b5 b6
      have hz3 := (TBlk.blk HR8.out).frozen 3
      obtain ⟨i0, hi, hz⟩ := Option.map_eq_some_iff.1 infoWz
      simp only [Prod.mk.injEq] at hz
      obtain ⟨hy0, hy1, hy2⟩ := hz
      have HII := hid hi
      have HZ0 := hid hy0
      have HZ1 := hid hy1
      have HZ2 := hid hy2
      have HOW := hid (show (w8.alloc (.cells #[.int .i64 par, .int .i64 k0, .int .i64 ff, .int .i64 4, .int .i64 0, .int .i64 0, .string ⟨#[]⟩] 33)).drew.ownsRow B 33 7 (.slice A n cap) n xs from OwnR.same HO8.out ((Fr.alloc _ _ _).trans (Fr.drew _ _)))
      have HNW := hid (show ∀ j u, ([.int .i64 par, .int .i64 k0, .int .i64 ff, .int .i64 4, .int .i64 0, .int .i64 0, .string ⟨#[]⟩] : List Value)[j]? = some u → (w8.alloc (.cells #[.int .i64 par, .int .i64 k0, .int .i64 ff, .int .i64 4, .int .i64 0, .int .i64 0, .string ⟨#[]⟩] 33)).drew.cell? ((⟨w8.heap.size, 0, none⟩ : Addr).add j) = some u from news_cells w8 33 [.int .i64 par, .int .i64 k0, .int .i64 ff, .int .i64 4, .int .i64 0, .int .i64 0, .string ⟨#[]⟩])
      have hB8 : B ≤ w8.heap.size := Nat.le_trans HBW.out HF8.out.size
      have HKP := hid (show ∀ W, Fr (ownB A) w8 W → W.cell? ⟨rb, 3, none⟩ = some (.slice A n cap) ∧ W.frozen? ⟨rb, 3, none⟩ = false from fun W hW => ⟨(TBlk.blk (TBlk.keep HR8.out hW HX.out.1)).cell rfl, (TBlk.blk (TBlk.keep HR8.out hW HX.out.1)).frozen 3⟩)
      clear hi hy0 hy1 hy2
      go_upto_region 5 with fail
      go_region_law ((refine step_append_lies _ (by rfl) _ _ _ (by rfl) B 33 i0 _ 7 64 Tryd.underlying27 HII.out HZ0.out HZ1.out HZ2.out rfl (by decide) (.slice A n cap) n _ (by rfl) HOW.out ⟨w8.heap.size, 0, none⟩ 1 1 [.int .i64 par, .int .i64 k0, .int .i64 ff, .int .i64 4, .int .i64 0, .int .i64 0, .string ⟨#[]⟩] (by rfl) (by rfl) HNW.out (by simp [Value.oneCell']) (by omega) (by unfold maxLen; omega) (by omega) (by simp; omega) (w8.heap.size + 1) (by simp) ?_; intro gg cp w9 hown9 hgrow9 hat9 hlt9; have HO9 := hid hown9; have HF9 := hid ((((Fr.alloc (fun _ => False) w8 _).trans (Fr.drew _ _)).mono (fun _ h => h.elim)).trans (Fr.of_grown' hgrow9)); have HAT := hid hat9; have HR9 := hid (TBlk.keep HR8.out HF9.out HX.out.1); have q1 := (HKP.out w9 HF9.out).1; have q2 := (HKP.out w9 HF9.out).2; clear hown9 hgrow9 hat9))
      all_goals
        go_wp2_with fail
        go_ret
        have hFs := Fr.setCell (S := fun j => j = rb) w9 ⟨rb, 3, none⟩ (.slice (some ⟨gg, 0, none⟩) (n + 1) cp) rfl
        have hR10 := TBlk.set HR9.out 3 (.slice (some ⟨gg, 0, none⟩) (n + 1) cp)
        have hO9 : OwnR w9 B 33 7 (some ⟨gg, 0, none⟩) (n + 1) cp (xs ++ [.int .i64 par, .int .i64 k0, .int .i64 ff, .int .i64 4, .int .i64 0, .int .i64 0, .string ⟨#[]⟩]) := HO9.out
        unfold BegunPost
        rw [HAK.out, HDL.out, HFF.out]
        refine ⟨tb, sb, some ⟨gg, 0, none⟩, cp, rfl, (HT8.out.keep HF9.out HX.out.2.1).keep hFs HRT.out.symm, (HS8.out.keep HF9.out HX.out.2.2).keep hFs HRS.out.symm, hR10, ?_, HTL.out, HSL.out, ?_, ?_⟩
        · exact OwnR.keep hO9 hFs (fun j hj e => by subst e; exact OwnR.ne hO9 HR9.out (by decide) hj)
        · exact ((HF8.out.mono (fun _ h => h.elim)).trans (HF9.out.mono (fun _ h => .inr h))).trans (hFs.mono (fun _ h => .inl h))
        · rintro j ⟨x, hx, hj⟩
          injection hx with hx
          subst hx
          simp only at hj
          subst hj
          rcases HAT.out with h | h
          · rcases A with _ | y
            · simp [Value.ownBlock] at h
            · simp only [Value.ownBlock, Option.some.injEq] at h
              exact .inl ⟨y, rfl, h⟩
          · exact .inr (by have := HF8.out.size; omega)
  | false =>
    obtain ⟨w4, hw4⟩ : ∃ w4, w4 = w2 := ⟨_, rfl⟩
    rw [← hw4] at HB2 HF2 HG ⊢
    have HB4 := HB2
    have HF4 := HF2
    have HG4 := hid (show Blk w4 g #[.int .i64 par, .int .i64 k0, .int .i64 ff, .int .i64 1, .int .i64 0, .int .i64 0, .string ⟨#[]⟩] by rw [HRC.out]; exact HG.out)
    clear hw4
    go_upto_region 4 with fail
    obtain ⟨rk, hrk⟩ : ∃ rk : Array Value, #[.int .i64 par, .int .i64 k0, .int .i64 ff, .int .i64 1, .int .i64 0, .int .i64 0, .string ⟨#[]⟩] = rk := ⟨_, rfl⟩
    have HRK := hid hrk
    have HI4 := hid (HI.out.keep HF4.out (fun h => h))
    have HR4 := hid (TBlk.keep HR.out HF4.out (fun h => h))
    have HMD := hid (fun W (hW : Fr (fun _ => False) w4 W) => made_ok W ib d k0 0 s0 A0 (HI4.out.keep hW (fun h => h)) HDD.out)
    rw [show ((0 : Nat) : Int) = 0 from rfl] at HMD
    have HS4 := hid (show ∀ W, Fr (fun _ => False) w4 W → W.cell? ⟨rb, 3, none⟩ = some (.slice A n cap) ∧ (loadCellsFrom ⟨g, 0, none⟩ 0 M #[]).run Tryd.prog W = .ok rk W ∧ (loadCellsFrom ⟨w.heap.size, 0, none⟩ 0 N #[]).run Tryd.prog W = .ok (cel F) W from fun W hW => by
      have hg4 := HG4.out.keep hW (fun h => h)
      rw [← HRK.out]
      refine ⟨(TBlk.blk (TBlk.keep HR4.out hW (fun h => h))).cell rfl, load_eq hg4 (by rw [HM.out]; rfl), load_eq (HB4.out.keep hW (fun h => h)) (by rw [hC.size, HN.out])⟩)
    have HD4 := hid (Fr.refl (fun _ => False) w4)
    have hBR := fun (W : World) (sb : Nat) => build63_run hC rb n sb par k0 1 F W
    rw [HFF.out, hrk] at hBR
    clear hrk
    go_region_held3 (fun W => W.cell? ⟨rb, 3, none⟩ = some (.slice A n cap) ∧ (loadCellsFrom ⟨g, 0, none⟩ 0 M #[]).run Tryd.prog W = .ok rk W ∧ (loadCellsFrom ⟨w.heap.size, 0, none⟩ 0 N #[]).run Tryd.prog W = .ok (cel F) W)
      (first | exact HS4.out _ HD4.out | exact HS4.out _ (HD4.out.trans (Fr.drew _ _)) | exact HS4.out _ (HD4.out.trans (Fr.alloc _ _ _)) | exact HS4.out _ (HD4.out.trans ((Fr.alloc _ _ _).trans (Fr.drew _ _))))
      (first
        | (go_at_call 39; (with_reducible refine (HMD.out _ (by first | exact Fr.drew _ _ | exact Fr.refl _ _)).mono ?_); rintro e w7 ⟨sb, rfl, hSB, hsb, hF7⟩; have HD4 := hid (HD4.out.trans (Fr.trans (by first | exact Fr.refl _ _ | exact Fr.drew _ _) hF7)); have HSB := hid hSB; have HSL := hid (Nat.le_trans HF4.out.size hsb); clear hSB hsb hF7))
    all_goals
      have hA8 := Fr.alloc (fun _ => False) w7 (.cells (tcel cel rb n ⟨par, k0, ff, 1, 0, 0, []⟩ F (.pointer (some ⟨sb, 0, none⟩)) 0 (.slice none 0 0) (.pointer none)) 63)
      have hT8 := TBlk.new w7 (tcel cel rb n ⟨par, k0, ff, 1, 0, 0, []⟩ F (.pointer (some ⟨sb, 0, none⟩)) 0 (.slice none 0 0) (.pointer none)) 63
      obtain ⟨tb, htb⟩ : ∃ tb, tb = w7.heap.size := ⟨_, rfl⟩
      obtain ⟨w8, hw8⟩ : ∃ w8, w8 = w7.alloc (.cells (tcel cel rb n ⟨par, k0, ff, 1, 0, 0, []⟩ F (.pointer (some ⟨sb, 0, none⟩)) 0 (.slice none 0 0) (.pointer none)) 63) := ⟨_, rfl⟩
      rw [← hw8, ← htb] at hT8
      rw [← hw8] at hA8
      rw [← hw8, ← htb]
      have HF48 := hid (HD4.out.trans hA8)
      have HF8 := hid (HF4.out.trans HF48.out)
      have HTL := hid (show w.heap.size ≤ tb by rw [htb]; exact Nat.le_trans HF4.out.size HD4.out.size)
      have HT8 := hid hT8
      have HS8 := hid (HSB.out.keep hA8 (fun h => h))
      have HR8 := hid (TBlk.keep HR4.out HF48.out (fun h => h))
      have HO8 := hid (OwnR.same HO.out HF8.out)
      have HG8 := hid (HG4.out.keep HF48.out (fun h => h))
      have hgt : g ≠ tb := by have := HG4.out.lt; have := HD4.out.size; omega
      have HX := hid (show ¬ ownB A rb ∧ ¬ ownB A tb ∧ ¬ ownB A sb from ⟨OwnR.ne HO8.out HR8.out (by decide), OwnR.ne HO8.out HT8.out (by decide), OwnR.ne HO8.out HS8.out (by decide)⟩)
      have hgA : ¬ ownB A g := fun hj => by have := (OwnR.lt HO.out _ hj).2; have := HGW.out; have := HA.out.size; omega
      have HGA := hid hgA
      have HRT := hid (TBlk.ne HR8.out HT8.out (by decide))
      have HRS := hid (TBlk.ne HR8.out HS8.out (by decide))
      clear hw8 htb hA8 hT8 hgt hgA hBR
      clear hM1 hM0
      have r3 : w8.cell? ⟨rb, 3, none⟩ = some (.slice A n cap) := (TBlk.blk HR8.out).cell rfl
      have hrl := (TBlk.blk HR8.out).lt
      have b0 := HG8.out.cell (i := 0) rfl
      have b1 := HG8.out.cell (i := 1) rfl
      have b2 := HG8.out.cell (i := 2) rfl
      have b3 := HG8.out.cell (i := 3) rfl
      have b4 := HG8.out.cell (i := 4) rfl
      have b5 := HG8.out.cell (i := 5) rfl
      have b6 := HG8.out.cell (i := 6) rfl
      simp only [List.getElem_toArray, List.getElem_cons_zero, List.getElem_cons_succ] at b0 b1 b2 b3 b4 b5 b6
      have hz3 := (TBlk.blk HR8.out).frozen 3
      obtain ⟨i0, hi, hz⟩ := Option.map_eq_some_iff.1 infoWz
      simp only [Prod.mk.injEq] at hz
      obtain ⟨hy0, hy1, hy2⟩ := hz
      have HII := hid hi
      have HZ0 := hid hy0
      have HZ1 := hid hy1
      have HZ2 := hid hy2
      have HOW := hid (show (w8.alloc (.cells #[.int .i64 par, .int .i64 k0, .int .i64 ff, .int .i64 1, .int .i64 0, .int .i64 0, .string ⟨#[]⟩] 33)).drew.ownsRow B 33 7 (.slice A n cap) n xs from OwnR.same HO8.out ((Fr.alloc _ _ _).trans (Fr.drew _ _)))
      have HNW := hid (show ∀ j u, ([.int .i64 par, .int .i64 k0, .int .i64 ff, .int .i64 1, .int .i64 0, .int .i64 0, .string ⟨#[]⟩] : List Value)[j]? = some u → (w8.alloc (.cells #[.int .i64 par, .int .i64 k0, .int .i64 ff, .int .i64 1, .int .i64 0, .int .i64 0, .string ⟨#[]⟩] 33)).drew.cell? ((⟨w8.heap.size, 0, none⟩ : Addr).add j) = some u from news_cells w8 33 [.int .i64 par, .int .i64 k0, .int .i64 ff, .int .i64 1, .int .i64 0, .int .i64 0, .string ⟨#[]⟩])
      have hB8 : B ≤ w8.heap.size := Nat.le_trans HBW.out HF8.out.size
      have HKP := hid (show ∀ W, Fr (ownB A) w8 W → W.cell? ⟨rb, 3, none⟩ = some (.slice A n cap) ∧ W.frozen? ⟨rb, 3, none⟩ = false from fun W hW => ⟨(TBlk.blk (TBlk.keep HR8.out hW HX.out.1)).cell rfl, (TBlk.blk (TBlk.keep HR8.out hW HX.out.1)).frozen 3⟩)
      clear hi hy0 hy1 hy2
      go_upto_region 5 with fail
      go_region_law ((refine step_append_lies _ (by rfl) _ _ _ (by rfl) B 33 i0 _ 7 64 Tryd.underlying27 HII.out HZ0.out HZ1.out HZ2.out rfl (by decide) (.slice A n cap) n _ (by rfl) HOW.out ⟨w8.heap.size, 0, none⟩ 1 1 [.int .i64 par, .int .i64 k0, .int .i64 ff, .int .i64 1, .int .i64 0, .int .i64 0, .string ⟨#[]⟩] (by rfl) (by rfl) HNW.out (by simp [Value.oneCell']) (by omega) (by unfold maxLen; omega) (by omega) (by simp; omega) (w8.heap.size + 1) (by simp) ?_; intro gg cp w9 hown9 hgrow9 hat9 hlt9; have HO9 := hid hown9; have HF9 := hid ((((Fr.alloc (fun _ => False) w8 _).trans (Fr.drew _ _)).mono (fun _ h => h.elim)).trans (Fr.of_grown' hgrow9)); have HAT := hid hat9; have HR9 := hid (TBlk.keep HR8.out HF9.out HX.out.1); have q1 := (HKP.out w9 HF9.out).1; have q2 := (HKP.out w9 HF9.out).2; clear hown9 hgrow9 hat9))
      all_goals
        go_wp2_with fail
        go_ret
        have hFs := Fr.setCell (S := fun j => j = rb) w9 ⟨rb, 3, none⟩ (.slice (some ⟨gg, 0, none⟩) (n + 1) cp) rfl
        have hR10 := TBlk.set HR9.out 3 (.slice (some ⟨gg, 0, none⟩) (n + 1) cp)
        have hO9 : OwnR w9 B 33 7 (some ⟨gg, 0, none⟩) (n + 1) cp (xs ++ [.int .i64 par, .int .i64 k0, .int .i64 ff, .int .i64 1, .int .i64 0, .int .i64 0, .string ⟨#[]⟩]) := HO9.out
        unfold BegunPost
        rw [HAK.out, HDL.out, HFF.out]
        refine ⟨tb, sb, some ⟨gg, 0, none⟩, cp, rfl, (HT8.out.keep HF9.out HX.out.2.1).keep hFs HRT.out.symm, (HS8.out.keep HF9.out HX.out.2.2).keep hFs HRS.out.symm, hR10, ?_, HTL.out, HSL.out, ?_, ?_⟩
        · exact OwnR.keep hO9 hFs (fun j hj e => by subst e; exact OwnR.ne hO9 HR9.out (by decide) hj)
        · exact ((HF8.out.mono (fun _ h => h.elim)).trans (HF9.out.mono (fun _ h => .inr h))).trans (hFs.mono (fun _ h => .inl h))
        · rintro j ⟨x, hx, hj⟩
          injection hx with hx
          subst hx
          simp only at hj
          subst hj
          rcases HAT.out with h | h
          · rcases A with _ | y
            · simp [Value.ownBlock] at h
            · simp only [Value.ownBlock, Option.some.injEq] at h
              exact .inl ⟨y, rfl, h⟩
          · exact .inr (by have := HF8.out.size; omega)

end

end Go.Proofs.YtpjcdjooiaefdaaDoor
