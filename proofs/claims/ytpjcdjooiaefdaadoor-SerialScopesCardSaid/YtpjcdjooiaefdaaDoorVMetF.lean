/-
  A Fork.
-/
import Derived.Test.YtpjcdjooiaefdaaDoorVBegun
import Derived.Test.YtpjcdjooiaefdaaDoorVMetD
namespace Go.Proofs.YtpjcdjooiaefdaaDoor
open Go.RowKit
set_option linter.unusedVariables false

/-- What a fork comes to: the task, and its kid. -/
def ForkAt (cel : Frm → Array Value) (tb rb a : Nat) (r : Rw) (G : Frm) (op : Int) (C : Value) (w : World) (KF : Frm) (ib k0 : Nat) (s0 : Bool) (rest : List (Nat × Bool)) (pa : Option Addr) (pn pc : Nat) (N0 st : Int) (n B : Nat) (A : Option Addr) (xs : List Value) (w' : World) : Prop :=
  ∃ kb sb A' cap', IsT w' cel kb rb n ⟨a, k0, KF.f, (if askd ((k0, s0) :: rest) then 4 else 1), 0, 0, []⟩ KF (.pointer (some ⟨sb, 0, none⟩)) 0 (.slice none 0 0) (.pointer none) ∧
      TBlk w' sb (scel (some ⟨ib, 0, none⟩) (rest.length + 1) 0 false) 69 ∧ IsR w' rb pa pn pc N0 st A' (n + 1) cap' ∧ OwnR w' B 33 7 A' (n + 1) cap' (xs ++ [.int .i64 a, .int .i64 k0, .int .i64 KF.f, .int .i64 (if askd ((k0, s0) :: rest) then 4 else 1), .int .i64 0, .int .i64 0, .string ⟨#[]⟩]) ∧
      IsT w' cel tb rb a r G (.pointer (some ⟨ib, 0, none⟩)) op C (.pointer (some ⟨kb, 0, none⟩)) ∧
      w.heap.size ≤ kb ∧ w.heap.size ≤ sb ∧ Fr (fun j => j = tb ∨ j = rb ∨ ownB A j) w w' ∧ (∀ j, ownB A' j → ownB A j ∨ w.heap.size ≤ j)

/-- A task in a new block, an error. -/
def CameE (cel : Frm → Array Value) (G : Frm) (w : World) (u v : Value) (wx : World) : Prop := ∃ g, u = .pointer (some ⟨g, 0, none⟩) ∧ v = .int .i64 0 ∧ Blk wx g (cel G) ∧ w.heap.size ≤ g ∧ Fr (fun _ => False) w wx

section
variable {cel : Frm → Array Value} (tb rb a : Nat) (r : Rw) (F : Frm) (op : Int) (C K : Value) (w : World)

/-- The first part: the kid's frame. -/
theorem fork_pre (hC : Cel cel) (ht : Tabs w) (x y z q : Nat) (hk : isOp ⟨8, x, y, z, q⟩ 8 = true) (P : List Fn) (fq : Fn) (pa : Option Addr) (pn : Nat)
    (hpn : P.length = pn) (hq : P[q]? = some fq) (B0 : Nat) (hp : Prg w B0 pa P) (hB0 : B0 ≤ w.heap.size) (pc : Nat) :
    ∀ W, Fr (fun _ => False) w W → Calls Tryd.prog 50 #[.agg (cel F), .agg #[.slice pa pn pc], Ins.val ⟨8, x, y, z, q⟩] W fun e w' => e = .returned (.tuple #[.agg (cel (F.kid q fq.needs 8)), .int .i64 0]) ∧ Fr (fun _ => False) W w' :=
  fun W hW => child_in hC F pa pn pc P x y z q fq W (ht.same hW) hpn ((hp.same hW hB0).more (Nat.le_trans hB0 hW.size)) hq hk

set_option maxRecDepth 100000 in
set_option maxHeartbeats 4000000 in
theorem fork_do {A : Option Addr} (hC : Cel cel) (ht : Tabs w) (hlow : ∀ k, k < 2 → ¬ (k = tb ∨ k = rb ∨ ownB A k)) (x y z q : Nat) (hk : isOp ⟨8, x, y, z, q⟩ 8 = true) (P : List Fn) (fq : Fn) (ib k0 : Nat) (s0 : Bool) (rest : List (Nat × Bool)) (pa : Option Addr) (pn pc : Nat) (N0 st : Int) (n cap B : Nat) (xs : List Value)
    (hpn : P.length = pn) (hq : P[q]? = some fq) (B0 : Nat) (hp : Prg w B0 pa P) (hB0 : B0 ≤ w.heap.size)
    (hn : n < 2000000) (hBw : B ≤ w.heap.size) (hR : IsR w rb pa pn pc N0 st A n cap) (hO : OwnR w B 33 7 A n cap xs) (hch : Chn w ((k0, s0) :: rest) (some ⟨ib, 0, none⟩))
    (hd : rest.length < 32) (h : IsT w cel tb rb a r F (.pointer (some ⟨ib, 0, none⟩)) op C K) :
    Calls Tryd.prog 32 #[.pointer (some ⟨tb, 0, none⟩), Ins.val ⟨8, x, y, z, q⟩] w fun e w' => e = .returned (.tuple #[]) ∧ ForkAt cel tb rb a r (F.forked ⟨8, x, y, z, q⟩ n) op C w (F.kid q fq.needs 8) ib k0 s0 rest pa pn pc N0 st n B A xs w' := by
  have HCH1 := hid (fork_pre F w hC ht x y z q hk P fq pa pn hpn hq B0 hp hB0 pc)
  have HFK := hid (fun W (hW : Tabs W) => fork_any hC F ⟨8, x, y, z, q⟩ n W hW)
  obtain ⟨G, hG⟩ : ∃ G, F.forked ⟨8, x, y, z, q⟩ n = G := ⟨_, rfl⟩
  obtain ⟨KF, hKF⟩ : ∃ KF, F.kid q fq.needs 8 = KF := ⟨_, rfl⟩
  rw [hKF] at HCH1
  rw [hG] at HFK
  rw [hG, hKF]
  clear hG hKF hk hp hq hpn hB0
  unfold Ins.val at *
  simp only at HCH1 HFK ⊢
  obtain ⟨N, hN, hN1, hN2⟩ := nineteen
  obtain ⟨M5, hM5, hM51⟩ := sizeIns
  have hM50 : ¬ M5 = 0 := by omega
  have hN0 : ¬ N = 0 := by omega
  have hsz : ∀ F, (cel F).size = N := fun F => by rw [hC.size, hN]
  obtain ⟨ic, hic⟩ : ∃ ic : Array Value, #[.int .i64 8, .int .i64 x, .int .i64 y, .int .i64 z, .int .i64 q] = ic := ⟨_, rfl⟩
  rw [hic] at HCH1 HFK ⊢
  have his : ic.size = M5 := by rw [← hic, hM5]; rfl
  have hA := Fr.alloc (fun _ => False) w (.cells ic 43)
  have hB := Blk.new w ic 43
  obtain ⟨w1, hw1⟩ : ∃ w1, w1 = w.alloc (.cells ic 43) := ⟨_, rfl⟩
  rw [← hw1] at hA hB
  have HA := hid hA
  have HB := hid hB
  have HT := hid (h.keep hA (fun h => h))
  have HH := hid h
  have HR := hid hR
  have HO := hid hO
  have HCN := hid hch
  have HTB := hid ht
  have HLOW := hid hlow
  have HBW := hid hBw
  have HN := hid hN
  have HIS := hid his
  have HS := hid (show ∀ W, Fr (fun _ => False) w1 W → W.cell? ⟨tb, 0, none⟩ = some (.pointer (some ⟨rb, 0, none⟩)) ∧ W.cell? ⟨rb, 0, none⟩ = some (.slice pa pn pc) ∧ (loadCellsFrom ⟨tb, 9, none⟩ 0 N #[]).run Tryd.prog W = .ok (cel F) W ∧ (loadCellsFrom ⟨w.heap.size, 0, none⟩ 0 M5 #[]).run Tryd.prog W = .ok ic W from fun W hW => by
    have hT := h.keep (hA.trans hW) (fun h => h)
    exact ⟨hT.lo.1, (TBlk.blk (TBlk.keep hR (hA.trans hW) (fun h => h))).cell rfl, hT.load hC hN, load_eq (HB.out.keep hW (fun h => h)) his⟩)
  have HD := hid (Fr.refl (fun _ => False) w1)
  have htl : tb < w.heap.size := h.lt
  have hrl : rb < w.heap.size := (TBlk.blk hR).lt
  have hlt := HT.out.lt
  have HBL := hid hB.lt
  clear hA hB hN his h hR hO hch hBw hlow ht hM5
  go_enter Tryd.func32, Tryd.ntmps32
  go_upto_region 1 with fail
  rw [← hw1]
  clear hw1
  go_cut [4, 5] from 6 to 22 (fun u v wx => CameE cel KF w1 u v wx)
  case first =>
    have hstC : ∀ (V : World), (storeCells ⟨V.heap.size, 0, none⟩ (cel KF).toList 0).run Tryd.prog (V.alloc (.cells zeros 59)) = .ok () ((V.alloc (.cells zeros 59)).setRow V.heap.size (cel KF)) := fun V => store_eq (Blk.new V zeros _) (hC.size _) (hC.one _)
    have hstD : ∀ (V : World), (storeCells ⟨V.heap.size, 0, none⟩ (cel KF).toList 0).run Tryd.prog (V.alloc (.cells zeros 59)).drew = .ok () ((V.alloc (.cells zeros 59)).drew.setRow V.heap.size (cel KF)) := fun V => store_eq (Blk.new V zeros _).drew (hC.size _) (hC.one _)
    have HST := hid (show ∀ (V : World) (b : Nat), Blk V b zeros → (storeCells ⟨b, 0, none⟩ (cel KF).toList 0).run Tryd.prog V = .ok () (V.setRow b (cel KF)) from fun V b hb => store_eq hb (hC.size _) (hC.one _))
    unfold zeros at hstC hstD HST
    go_region_held3 (fun W => W.cell? ⟨tb, 0, none⟩ = some (.pointer (some ⟨rb, 0, none⟩)) ∧ W.cell? ⟨rb, 0, none⟩ = some (.slice pa pn pc) ∧ (loadCellsFrom ⟨tb, 9, none⟩ 0 N #[]).run Tryd.prog W = .ok (cel F) W ∧ (loadCellsFrom ⟨w.heap.size, 0, none⟩ 0 M5 #[]).run Tryd.prog W = .ok ic W)
      (first | exact HS.out _ HD.out | exact HS.out _ (HD.out.trans (Fr.drew _ _)) | exact HS.out _ (HD.out.trans (Fr.alloc _ _ _)) | exact HS.out _ (HD.out.trans ((Fr.alloc _ _ _).trans (Fr.drew _ _))) | exact HS.out _ (HD.out.over (setRow_fr _ _ _ rfl) (Nat.le_refl _)) | exact HS.out _ ((HD.out.trans (Fr.alloc _ _ _)).over (setRow_fr _ _ _ rfl) HD.out.size) | exact HS.out _ ((HD.out.trans ((Fr.alloc _ _ _).trans (Fr.drew _ _))).over (setRow_fr _ _ _ rfl) HD.out.size))
      (first
        | (go_at_call 50; (with_reducible refine (HCH1.out _ ((HA.out.trans HD.out).trans (by first | exact Fr.drew _ _ | exact Fr.refl _ _ | exact Fr.alloc _ _ _ | exact (Fr.alloc _ _ _).trans (Fr.drew _ _)))).mono ?_); rintro e w7 ⟨rfl, hF7⟩; (try (have HBB := hid (blk_of' hF7); have hst := HST.out _ _ HBB.out)); (try (have HBB := hid (blk_of hF7); have hst := HST.out _ _ HBB.out)); have HD := hid (HD.out.trans (Fr.trans (by first | exact Fr.refl _ _ | exact Fr.drew _ _ | exact Fr.alloc _ _ _ | exact (Fr.alloc _ _ _).trans (Fr.drew _ _)) hF7)); clear hF7))
    all_goals
      go_wp2_with fail
      go_meet
      case rel => first
        | exact ⟨_, rfl, rfl, setRow_blk HBB.out _, Nat.le_refl _, HD.out.over (setRow_fr _ _ _ rfl) (Nat.le_refl _)⟩
        | exact ⟨_, rfl, rfl, setRow_blk (Blk.new _ _ _) _, HD.out.size, (HD.out.trans (Fr.alloc _ _ _)).over (setRow_fr _ _ _ rfl) HD.out.size⟩
        | exact ⟨_, rfl, rfl, setRow_blk (Blk.new _ _ _).drew _, HD.out.size, (HD.out.trans ((Fr.alloc _ _ _).trans (Fr.drew _ _))).over (setRow_fr _ _ _ rfl) HD.out.size⟩
  case rest =>
  obtain ⟨g, rfl, rfl, hG, hg, hFc⟩ := hcut
  obtain ⟨w2, hw2⟩ : ∃ w2, w2 = wc := ⟨_, rfl⟩
  rw [← hw2] at hG hFc ⊢
  clear hw2
  have HF2 := hid (HA.out.trans hFc)
  have HG2 := hid hG
  have HB2 := hid (HB.out.keep hFc (fun h => h))
  have HT2 := hid (HT.out.keep hFc (fun h => h))
  have HR2 := hid (TBlk.keep HR.out HF2.out (fun h => h))
  have HO2 := hid (OwnR.same HO.out HF2.out)
  have HC2 := hid (HCN.out.same HF2.out)
  have HGL := hid hg
  clear hG hFc hg HS HD
  have HTR := hid (TBlk.ne HT2.out HR2.out (by decide))
  have HBG := hid (fun W (hW : Fr (fun _ => False) w2 W) => begun_ok W hC KF a rb ib k0 s0 rest pa pn pc N0 st n cap B A xs hn (Nat.le_trans HBW.out (HF2.out.trans hW).size) (TBlk.keep HR2.out hW (fun h => h)) (OwnR.same HO2.out hW) (HC2.out.same hW) hd)
  go_upto_region 2 with fail
  go_cut [22] from 23 to 39 (fun u wx => u = .pointer (some ⟨tb, 0, none⟩) ∧ ForkAt cel tb rb a r F op C w KF ib k0 s0 rest pa pn pc N0 st n B A xs wx ∧ Blk wx w.heap.size ic)
  case first =>
    obtain ⟨c0, c1, _⟩ := HT2.out.lo
    obtain ⟨c28, _⟩ := HT2.out.hi hC
    have hl1 := HT2.out.load hC HN.out
    have hl2 := (HT2.out.keep (Fr.drew (fun _ => False) w2) (fun h => h)).load hC HN.out
    have hl3 := load_eq (P := Tryd.prog) HG2.out (hsz KF)
    have hl4 := load_eq (P := Tryd.prog) (w := w2.drew) HG2.out (hsz KF)
    have hgl := HG2.out.lt
    have htl2 := HT2.out.lt
    go_region_with ((refine (HBG.out _ (by first | exact Fr.drew _ _ | exact Fr.refl _ _)).mono ?_); rintro e w5 ⟨kb, sb, A', cap', rfl, hk5, hs5, hr5, ho5, hkl, hsl, hf5, hown5⟩; have HF5 := hid (Fr.trans (by first | exact Fr.drew (fun j => j = rb ∨ ownB A j) w2 | exact Fr.refl _ w2) hf5); have HT5 := hid (IsT.keep (w := w2) (w' := w5) HT2.out HF5.out (by rintro (e | e); exact HTR.out e; exact OwnR.ne HO2.out HT2.out (by decide) e)); have d31 := (HT5.out.hi hC).2.2.2; have z31 := HT5.out.frozen 31; have tl5 := HT5.out.lt; have HK5 := hid hk5; have HS5 := hid hs5; have HR5 := hid hr5; have HO5 := hid ho5; have HKL := hid (show w2.heap.size ≤ kb from hkl); have HSL := hid (show w2.heap.size ≤ sb from hsl); have HOW := hid hown5; clear hk5 hs5 hr5 ho5 hkl hsl hf5 hown5)
    all_goals
      go_wp2_with fail
      go_meet
      case rel =>
        have hFs := Fr.setCell (S := fun j => j = tb) w5 ⟨tb, 31, none⟩ (.pointer (some ⟨kb, 0, none⟩)) rfl
        have hkt : kb ≠ tb := by have := HKL.out; have := HT2.out.lt; omega
        have hst : sb ≠ tb := by have := HSL.out; have := HT2.out.lt; omega
        refine ⟨rfl, ⟨kb, sb, A', cap', HK5.out.keep hFs hkt, HS5.out.keep hFs hst, TBlk.keep HR5.out hFs HTR.out.symm, OwnR.keep HO5.out hFs (fun j hj e => by subst e; exact OwnR.ne HO5.out HT5.out (by decide) hj), HT5.out.set_hi (j := 3) hC rfl, ?_, ?_, ?_, ?_⟩, ?_⟩
        · have := HKL.out; have := HF2.out.size; omega
        · have := HSL.out; have := HF2.out.size; omega
        · exact ((HF2.out.mono (fun _ h => h.elim)).trans (HF5.out.mono (fun _ h => .inr h))).trans (hFs.mono (fun _ h => .inl h))
        · intro j hj
          rcases HOW.out j hj with h | h
          · exact .inl h
          · have h' : w2.heap.size ≤ j := h
            exact .inr (by have := HF2.out.size; omega)
        · refine (HB2.out.keep HF5.out ?_).keep hFs ?_
          · rintro (e | e)
            · omega
            · have := (OwnR.lt HO.out _ e).2; omega
          · omega
  case rest =>
  obtain ⟨rfl, hfk, hbi⟩ := hcut
  obtain ⟨w3, hw3⟩ : ∃ w3, w3 = wc := ⟨_, rfl⟩
  rw [← hw3] at hfk hbi ⊢
  clear hw3
  obtain ⟨kb, sb, A', cap', hk3, hs3, hr3, ho3, ht3, hkl, hsl, hf3, hown⟩ := hfk
  have HK3 := hid hk3
  have HS3 := hid hs3
  have HR3 := hid hr3
  have HO3 := hid ho3
  have HT3 := hid ht3
  have HKL := hid hkl
  have HSL := hid hsl
  have HF3 := hid hf3
  have HOW := hid hown
  have HBI := hid hbi
  have HTB3 := hid (HTB.out.keepS hf3 HLOW.out)
  have e1 := (hk3.lo).2.1
  have e31 := (ht3.hi hC).2.2.2
  have hl1 := ht3.load hC HN.out
  have hl2 := (ht3.keep (Fr.drew (fun _ => False) w3) (fun h => h)).load hC HN.out
  have hl3 := load_eq (P := Tryd.prog) hbi HIS.out
  have hl4 := load_eq (P := Tryd.prog) (w := w3.drew) hbi HIS.out
  have htl3 := ht3.lt
  have hkl3 := hk3.lt
  clear hk3 hs3 hr3 ho3 ht3 hkl hsl hf3 hown hbi HBG HTB
  go_upto_region 3 with fail
  go_region_with ((refine (HFK.out _ (HTB3.out.same (by first | exact Fr.drew _ _ | exact Fr.refl _ _))).mono ?_); rintro e w7 ⟨rfl, hF7⟩; have HF7 := hid (Fr.trans (by first | exact Fr.drew (fun _ => False) w3 | exact Fr.refl _ w3) hF7); have HT7 := hid (IsT.keep (w := w3) (w' := w7) HT3.out HF7.out (fun h => h)); have hst := HT7.out.store hC G; have tl7 := HT7.out.lt; clear hF7)
  all_goals
    go_wp2_with fail
    go_end0
    have hFs := setRow_fr (S := fun j => j = tb) w7 tb (tcel cel rb a r G (.pointer (some ⟨ib, 0, none⟩)) op C (.pointer (some ⟨kb, 0, none⟩))) rfl
    have hkt : kb ≠ tb := by have := HKL.out; omega
    have hst : sb ≠ tb := by have := HSL.out; omega
    refine ⟨rfl, kb, sb, A', cap', (HK3.out.keep HF7.out (fun h => h)).keep hFs hkt, (HS3.out.keep HF7.out (fun h => h)).keep hFs hst, TBlk.keep (TBlk.keep HR3.out HF7.out (fun h => h)) hFs HTR.out.symm, OwnR.keep (OwnR.same HO3.out HF7.out) hFs (fun j hj e => by subst e; exact OwnR.ne HO3.out HT3.out (by decide) hj), HT7.out.put hC G, HKL.out, HSL.out, ?_, HOW.out⟩
    exact (HF3.out.trans (HF7.out.mono (fun _ h => h.elim))).trans (hFs.mono (fun _ h => .inl h))
end

end Go.Proofs.YtpjcdjooiaefdaaDoor
