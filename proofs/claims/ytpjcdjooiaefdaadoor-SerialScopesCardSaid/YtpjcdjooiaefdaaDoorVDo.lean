/-
  A task is done, to its end: the walk.
-/
import Derived.Test.YtpjcdjooiaefdaaDoorVTask
import Derived.RegionDies
namespace Go.Proofs.YtpjcdjooiaefdaaDoor
open Go.RowKit
set_option linter.unusedVariables false

theorem call_op (o : Nat) (args : Array Value) (W : World) : (callFunc (opF o) args).run Tryd.prog W = .ok (.enter (opF o) args) W := by
  unfold opF
  repeat' split
  all_goals kernel_rfl

set_option maxRecDepth 100000 in
set_option maxHeartbeats 8000000 in
theorem do_all {E : Env} (ok : EnvOk E) (n : Nat) (IH : ∀ m, m < n → DoOk E m) : DoOk E n := by
  intro nest B1 tb a base A0 cap CA cc I K r T G w o hnl hna hS m
  have HOK := hid ok
  have HM := hid m
  have HS := hid hS
  have HIH := hid IH
  have HNL := hid hnl
  have HNA := hid hna
  have HD := hid (fun W => does_do tb W)
  have HB1 := hid m.b2
  clear m hS IH hnl hna ok
  go_enter Tryd.func18, Tryd.ntmps18
  go_upto_region 0 with fail
  go_cut [4] from 6 to 7 (fun u wx => CameD tb w u wx)
  case first =>
    go_wp2_with fail
    refine (HD.out w).mono ?_
    rintro e w1 ⟨rfl, hF1⟩
    have HF1 := hid hF1
    clear hF1
    unfold dcel mv
    go_wp2_with fail
    go_meet
    case rel => exact ⟨_, rfl, TBlk.new _ _ _, HF1.out.size, HF1.out.trans (Fr.alloc _ _ _)⟩
  case rest =>
  obtain ⟨ab, rfl, hAB, hab, hF1⟩ := hcut
  obtain ⟨w1, hw1⟩ : ∃ w1, w1 = wc := ⟨_, rfl⟩
  rw [← hw1] at hAB hF1 ⊢
  clear hw1
  have HAT := hid (show AtLoop E nest B1 tb a base A0 w o ab n w1 from by
    have m := HM.out
    refine ⟨r, T, G, HS.out, HNA.out, ⟨A0, cap, CA, cc, I, K, m.same HOK.out hF1, hF1.mono (fun _ h => h.elim), fun _ h => .inl h⟩, hAB⟩)
  clear HNA
  clear hAB hab hF1
  go_wp2_with fail
  go_loopg [] n (fun d wr => AtLoop E nest B1 tb a base A0 w o ab d wr ∧ d ≤ n)
  case atStart => exact ⟨HAT.out, Nat.le_refl _⟩
  case round =>
    obtain ⟨hat, hdn⟩ := hrel
    clear HM HS HAT
    obtain ⟨r, T, G, hS, hna, hMv, hAB⟩ := hat
    have HNA1 := hid hna
    clear hna
    obtain ⟨A, cap, CA, cc, I, K, m, hF, hOw⟩ := hMv
    have HM := hid m
    have HF := hid hF
    have HOw := hid hOw
    have HAB := hid hAB
    have HDN := hid hdn
    obtain ⟨_, _, _, _, _, c5, _⟩ := m.task.lo
    have htl := m.task.lt
    clear m hF hOw hAB hdn
    rcases hS with ⟨hr, hk, hi, hx⟩ | ⟨hk, ha, ho⟩
    · have HNA := hid (HNA1.out hk)
      clear HNA1
      rw [hk] at c5
      have HI := hid hi
      have HX := hid hx
      have HR := hid hr
      clear hi hx hr hk
      by_cases hst : G.st < E.N
      · have HLT := hid hst
        obtain ⟨q, k, v, f, hq, hf, hpc, hx, hck, hk8, _, _⟩ := HI.out.ins HOK.out.acc
        obtain ⟨x, hxe⟩ : ∃ x, insAt E.P T.F = x := ⟨_, rfl⟩
        have hnx := next_ok (cel := E.cel) tb E.rb a r T.F (.pointer I) T.op (.slice CA T.cl.length cc) K wr HOK.out.cel E.pa E.pn E.pc G.st E.N G.rows.length cap A hst HOK.out.few HM.out.run HM.out.task E.B0 q k E.P f _ HM.out.prg HOK.out.rb HOK.out.len hq hf hpc hx
        have hop := chk_op hck
        rw [hxe] at hnx hop
        obtain ⟨ic, hic, hic0⟩ : ∃ ic : Array Value, x.val = .agg ic ∧ ic = #[.int .i64 x.op, .int .i64 x.a, .int .i64 x.b, .int .i64 x.c, .int .i64 x.n] := ⟨_, rfl, rfl⟩
        rw [hic] at hnx
        obtain ⟨xo, hxo⟩ : ∃ xo : Nat, x.op = xo := ⟨x.op.toNat, by omega⟩
        have hxo16 : xo ≤ 16 := by omega
        obtain ⟨M5, hM5, hM51⟩ := sizeIns
        have hM50 : ¬ M5 = 0 := by omega
        have his : ic.size = M5 := by rw [hic0, hM5]; rfl
        have hi1 : ic.all (·.oneCell') = true := by rw [hic0]; simp [Value.oneCell']
        have hi0 : ic[0]? = some (.int .i64 xo) := by rw [hic0, ← hxo]; rfl
        have HNX := hid hnx
        have HIS := hid his
        have HI0 := hid hi0
        have HIC := hid hic
        have HXE := hid hxe
        have HXO := hid hxo
        have hstC : ∀ (V : World), (storeCells ⟨V.heap.size, 0, none⟩ ic.toList 0).run Tryd.prog (V.alloc (.cells zero5 43)) = .ok () ((V.alloc (.cells zero5 43)).setRow V.heap.size ic) := fun V => store_at (n := 5) (Blk.new V zero5 _) rfl (his.trans hM5) hi1
        unfold zero5 at hstC
        clear hst hnx hq hf hpc hx hck hxe hxo his hi0 hi1 hic hic0 hM5 hop
        go_wp2_with fail
        refine HNX.out.mono ?_
        rintro e w2 ⟨rfl, hR2, hF2⟩
        have HM2 := hid (HM.out.ticks HOK.out hF2 hR2)
        have HAB2 := hid (HAB.out.keep hF2 (fun e => by subst e; exact TBlk.ne HAB.out HM.out.run (by decide) rfl))
        have HF2 := hid (HF.out.trans (hF2.mono (fun j hj => Or.inl hj)))
        clear hR2 hF2 c5 htl
        go_upto_region 3 with fail
        have hF3 := (Fr.alloc (fun _ => False) w2 (.cells #[.int .i64 0, .int .i64 0, .int .i64 0, .int .i64 0, .int .i64 0] 43)).over (setRow_fr (S := fun j => j = w2.heap.size) _ w2.heap.size ic rfl) (Nat.le_refl _)
        have hI3 := setRow_tblk (TBlk.new w2 #[.int .i64 0, .int .i64 0, .int .i64 0, .int .i64 0, .int .i64 0] 43) ic
        obtain ⟨ib, hib⟩ : ∃ ib, w2.heap.size = ib := ⟨_, rfl⟩
        rw [hib] at hF3 hI3
        obtain ⟨w3, hw3⟩ : ∃ w3, w3 = (w2.alloc (.cells #[.int .i64 0, .int .i64 0, .int .i64 0, .int .i64 0, .int .i64 0] 43)).setRow ib ic := ⟨_, rfl⟩
        rw [← hw3] at hF3 hI3
        rw [hib, ← hw3]
        clear hw3 hib hstC
        have HM3 := hid (HM2.out.same HOK.out hF3)
        have HI3 := hid hI3
        have HAB3 := hid (HAB2.out.keep hF3 (fun h => h))
        have HF3 := hid (HF2.out.trans (hF3.mono (fun _ h => h.elim)))
        have HST := hid (fun W (hW : Fr (fun _ => False) w3 W) => step_ok (w := W) HOK.out HI.out HLT.out (by have := HM3.out.same HOK.out hW; rw [HR.out] at this; exact this) HNL.out HNA.out)
        rw [HXE.out, HXO.out, HIC.out] at HST
        clear hF3 hI3
        obtain ⟨y, hy⟩ : ∃ y, act E.P E.N base a T G x = y := ⟨_, rfl⟩
        rw [hy] at HST
        have HXA := hid (exec_act HXE.out HX.out)
        rw [hy] at HXA
        have HY := hid hy
        obtain ⟨g, hg⟩ : ∃ g, opF (xo : Int).toNat = g := ⟨_, rfl⟩
        have hcl := call_op (xo : Int).toNat
        rw [hg] at HST hcl
        have b0 := (TBlk.blk HI3.out).cell HI0.out
        have hla := (TBlk.blk HI3.out).lt
        have hlb := (TBlk.blk HAB3.out).lt
        have bd : w3.cell? ⟨ab, xo, none⟩ = some (.func (.func g) #[.pointer (some ⟨tb, 0, none⟩)] #[]) := (TBlk.blk HAB3.out).cell (by rw [dcel_at hxo16, ← hg, Int.toNat_natCast]; rfl)
        have hx0 : (0 : Int) ≤ xo ∧ (xo : Int) < 17 := by omega
        have hl5 := load_eq (P := Tryd.prog) (TBlk.blk HI3.out) HIS.out
        have hl6 := load_eq (P := Tryd.prog) (w := w3.drew) (TBlk.blk HI3.out) HIS.out
        clear hy hg hxo16
        go_cut [] from 16 to 21 (fun wx => After E nest B1 tb a A T G x y w3 wx)
        case first =>
          have HSTd := hid (HST.out w3 (Fr.refl _ _))
          have HSTe := hid (HST.out w3.drew (Fr.drew _ _))
          clear HST
          cases y with
          | stop c =>
            obtain ⟨m, hm, ho⟩ := HXA.out
            simp only at ho
            have HO := hid ho
            clear hm ho HXA
            go_region_dies
            all_goals
              refine (show Calls _ _ _ _ _ from by first | exact HSTd.out | exact HSTe.out).mono ?_
              unfold StepPost boom
              rintro e w5 ⟨rfl, hF5⟩
              rw [HO.out]
              exact ⟨rfl, rfl, HF3.out.trans (Fr.trans (by first | exact Fr.drew _ _ | exact Fr.refl _ _) (hF5.mono (fun _ h => h.elim)))⟩
          | fin T' kd v G' =>
            go_region_with ((refine (show Calls _ _ _ _ _ from by first | exact HSTd.out | exact HSTe.out).mono ?_); rintro e w5 ⟨rfl, hp⟩; have HP := hid hp; clear hp)
            all_goals
              go_wp2_with fail
              go_meet
              case rel => exact ⟨_, by first | exact Fr.drew _ _ | exact Fr.refl _ _, rfl, HP.out⟩
          | go T' G' =>
            go_region_with ((refine (show Calls _ _ _ _ _ from by first | exact HSTd.out | exact HSTe.out).mono ?_); rintro e w5 ⟨rfl, hp⟩; have HP := hid hp; clear hp)
            all_goals
              go_wp2_with fail
              go_meet
              case rel => exact ⟨_, by first | exact Fr.drew _ _ | exact Fr.refl _ _, rfl, HP.out⟩
          | sub K' T' G' =>
            go_region_with ((refine (show Calls _ _ _ _ _ from by first | exact HSTd.out | exact HSTe.out).mono ?_); rintro e w5 ⟨rfl, hp⟩; have HP := hid hp; clear hp)
            all_goals
              go_wp2_with fail
              go_meet
              case rel => exact ⟨_, by first | exact Fr.drew _ _ | exact Fr.refl _ _, rfl, HP.out⟩
        case rest =>
        clear HST hl5 hl6 b0 bd hla hlb hcl
        obtain ⟨W, hW, hP⟩ := hcut
        have HIW := hid (HI3.out.keep hW (fun h => h))
        have HABW := hid (HAB3.out.keep hW (fun h => h))
        have HFW := hid (HF3.out.trans (hW.mono (fun _ h => h.elim)))
        rw [← HY.out] at hP
        obtain ⟨m, hm, _⟩ := HXA.out
        have hac := after_cases HOK.out HI.out HLT.out HXE.out (by have := HX.out; rw [hm] at this; exact this) HNA.out hP
        have HMM := hid hm
        clear hm hP hW HXA
        obtain ⟨hst, hac⟩ := hac
        have HI4 := hid (hst _ _ _ (.inl rfl) HIW.out)
        have HAB4 := hid (hst _ _ _ (.inr rfl) HABW.out)
        clear hst
        obtain ⟨w4, hw4⟩ : ∃ w4, w4 = wc := ⟨_, rfl⟩
        rw [← hw4] at hac HI4 HAB4 ⊢
        clear hw4
        have b4 := (TBlk.blk HI4.out).cell HI0.out
        have hl4 := (TBlk.blk HI4.out).lt
        rcases hac with ⟨h8, r', T', G', hs, hmv⟩ | ⟨h8, rk, Kd, T', G', o1, hfk, hsk, hnk, hco⟩
        · have t8 : ((xo : Int) == 8) = false := beq_eq_false_iff_ne.2 (by rw [← HXO.out]; exact h8)
          have HAT := hid (show AtLoop E nest B1 tb a base A0 w o ab m w4 from ⟨r', T', G', hs, fun _ => HNA.out, Moved.after HB1.out HFW.out HOw.out hmv, HAB4.out⟩)
          clear h8 hs hmv
          go_wp2_with fail
          go_roundg m
          case measure => have := HMM.out; omega
          case rel => exact ⟨HAT.out, by have := HMM.out; have := HDN.out; omega⟩
        · have t8 : ((xo : Int) == 8) = true := beq_iff_eq.2 (by rw [← HXO.out]; exact h8)
          obtain ⟨A4, cap4, CA4, cc4, I4, kb, sb, m4, mk, hF4, hOw4, htl4, hdb4, hxb4, hCA4, hch4⟩ := hfk
          have HK := hid (fun V (hV : Fr (fun _ => False) w4 V) => HIH.out m (by have := HMM.out; have := HDN.out; omega) (T.os ++ nest) W.heap.size kb G.rows.length (base + T.os.length) A4 cap4 none 0 (some ⟨sb, 0, none⟩) (.pointer none) rk Kd G' V o1 (by rw [List.length_append, HNL.out]; omega) hnk hsk (mk.same HOK.out hV))
          have d31 := (m4.task.hi HOK.out.cel).2.2.2
          have ddb := (TBlk.blk m4.dob).cell (show (#[doV E] : Array Value)[0]? = some (doV E) from rfl)
          unfold doV at ddb
          have htl := m4.task.lt
          have hdl := (TBlk.blk m4.dob).lt
          have HM4 := hid m4
          have HMK := hid mk
          have HF4 := hid hF4
          have HOW4 := hid hOw4
          have HL4 := hid (And.intro htl4 (And.intro hdb4 hxb4))
          have HCA4 := hid hCA4
          have HCH4 := hid hch4
          have HCO := hid hco
          clear h8 m4 mk hF4 hOw4 htl4 hdb4 hxb4 hCA4 hch4 hco hsk hnk
          go_upto_region 5 with fail
          have HKd := hid (HK.out w4 (Fr.refl _ _))
          have HKe := hid (HK.out w4.drew (Fr.drew _ _))
          clear HK
          cases o1 with
          | err c =>
            have HO : Hid (o = .err c) := hid HCO.out
            clear HCO
            go_region_dies
            all_goals
              refine (show Calls _ _ _ _ _ from by first | exact HKd.out | exact HKe.out).mono ?_
              unfold DoPost boom
              rintro e w5 ⟨rfl, hF5⟩
              rw [HO.out]
              exact ⟨rfl, rfl, kid_err HB1.out HFW.out HOw.out HF4.out HOW4.out (by first | exact Fr.drew _ _ | exact Fr.refl _ _) hF5⟩
          | done G2 =>
            obtain ⟨hT, hi2, hx2⟩ := HCO.out
            have HKL := hid (fun V w5 (hV : Fr (fun _ => False) w4 V) (hk : Kid E W.heap.size A4 V (.done G2) w5) => kid_loop HOK.out HB1.out HFW.out HOw.out HNA.out HM4.out HMK.out HF4.out HOW4.out HL4.out.1 HL4.out.2.1 HL4.out.2.2 HCA4.out HCH4.out HAB4.out (TBlk.blk HABW.out).lt hV hk hT HI.out.kind hi2 hx2)
            clear hT hi2 hx2 HCO
            go_region_with ((refine (show Calls _ _ _ _ _ from by first | exact HKd.out | exact HKe.out).mono ?_); rintro e w5 ⟨rfl, hp1, hp2⟩; have HAT := hid (HKL.out _ w5 (by first | exact Fr.drew _ _ | exact Fr.refl _ _) ⟨rfl, hp1, hp2⟩); clear hp1 hp2)
            all_goals
              go_wp2_with fail
              go_roundg m
              case measure => have := HMM.out; omega
              case rel => exact ⟨HAT.out, by have := HMM.out; have := HDN.out; omega⟩
      · obtain hst : G.st = E.N := by have := HI.out.steps; omega
        have HNX := hid (next_fuel (cel := E.cel) tb E.rb a r T.F (.pointer I) T.op (.slice CA T.cl.length cc) K wr HOK.out.cel E.pa E.pn E.pc E.N G.rows.length cap A (by have := HM.out.run; rw [hst] at this; exact this) HM.out.task)
        have HO : Hid (o = .err 22) := hid (by
          have := HX.out
          unfold exec at this
          cases gk with
          | zero => cases this
          | succ m => simp only [act_dry (Nat.le_of_eq hst.symm)] at this; injection this with this; exact this.symm)
        clear hst
        go_wp2_with fail
        refine HNX.out.mono ?_
        unfold boom
        rintro e w2 ⟨rfl, hF2⟩
        rw [HO.out]
        exact ⟨rfl, rfl, HF.out.trans (hF2.mono (fun _ h => h.elim))⟩
    · have t1 : (r.kind == 1) = false := beq_eq_false_iff_ne.2 (by omega)
      have HO := hid ho
      obtain ⟨M, hM, hM1⟩ := sizeRow
      have hM0 : ¬ M = 0 := by omega
      obtain ⟨gr, hgr, hgB, hgl, hgc⟩ := Rws.cell HM.out.rows (List.getElem?_eq_getElem ha)
      clear hgc
      subst hgr
      have HT := hid HM.out.task
      have hbx := (TBlk.blk HM.out.rbx).cell (show (#[Value.pointer (some ⟨E.rb, 0, none⟩)] : Array Value)[0]? = _ from rfl)
      obtain ⟨rc, hrc⟩ : ∃ rc : Array Value, (Rw.cells { r with st := T.F.st, cl := T.cl }).toArray = rc := ⟨_, rfl⟩
      have HTO := hid (fun W (hW : Fr (fun _ => False) wr W) => told_do tb E.rb a r T.F (.pointer I) T.op K W HOK.out.cel B1 CA T.cl cc (OwnR.same HM.out.cls hW) (HM.out.task.keep hW (fun h => h)))
      rw [hrc] at HTO
      obtain ⟨ln, hln⟩ : ∃ ln, G.rows.length = ln := ⟨_, rfl⟩
      have hj0 : (0 : Int) ≤ a ∧ (a : Int) < ln := by omega
      have HGT : Hid (¬ tb = gr) := hid (fun e => by subst e; exact OwnR.ne HM.out.rows HM.out.task (by decide) ⟨_, rfl, rfl⟩)
      have HS := hid (show ∀ W r', Fr (fun j => j = tb ∨ j = gr) wr W → IsT W E.cel tb E.rb a r' T.F (.pointer I) T.op (.slice CA T.cl.length cc) K → W.cell? ⟨E.xb, 0, none⟩ = some (.pointer (some ⟨E.rb, 0, none⟩)) ∧ W.cell? ⟨E.rb, 3, none⟩ = some (.slice (some ⟨gr, 0, none⟩) ln cap) ∧ W.cell? ⟨tb, 1, none⟩ = some (.int .i64 a) from fun W r' hW hT => by
        refine ⟨(TBlk.blk (HM.out.rbx.keep hW ?_)).cell rfl, ?_, hT.lo.2.1⟩
        · rintro (e | e)
          · exact TBlk.ne HM.out.rbx HM.out.task (by decide) e
          · exact OwnR.ne HM.out.rows HM.out.rbx (by decide) ⟨_, rfl, e.symm⟩
        have := (TBlk.blk (TBlk.keep HM.out.run hW (by
          rintro (e | e)
          · exact TBlk.ne HM.out.run HM.out.task (by decide) e
          · exact OwnR.ne HM.out.rows HM.out.run (by decide) ⟨_, rfl, e.symm⟩))).cell (show (rcel E.pa E.pn E.pc E.N G.st (some ⟨gr, 0, none⟩) G.rows.length cap)[3]? = some (.slice (some ⟨gr, 0, none⟩) G.rows.length cap) from rfl)
        rw [hln] at this
        exact this)
      have his : rc.size = M := by rw [← hrc, hM]; rfl
      have e0 : (Rw.cells { r with st := T.F.st, cl := T.cl }) = rc.toList := by rw [← hrc]
      have HST := hid (show ∀ W, Fr (fun j => j = tb) wr W → ∃ c : Array Value, (storeCells ⟨gr, a * M, none⟩ rc.toList 0).run Tryd.prog W = .ok () (W.setRow gr c) ∧ Rws (W.setRow gr c) E.B (some ⟨gr, 0, none⟩) cap (G.rows.set a { r with st := T.F.st, cl := T.cl }) from fun W hW => by
        rw [← e0]
        exact Rws.store (M := M) (OwnR.keep HM.out.rows hW (fun j hj e => by subst e; exact OwnR.ne HM.out.rows HM.out.task (by decide) hj)) ha { r with st := T.F.st, cl := T.cl } (by simp only; omega) rfl hM)
      have HHA := hid ha
      have HLN := hid hln
      have HBT := hid HM.out.b1
      have HRC := hid hrc
      have hxl := (TBlk.blk HM.out.rbx).lt
      have hrl := (TBlk.blk HM.out.run).lt
      clear hk ha ho hM hgB hrc e0 hln HIH
      go_upto_region 6 with fail
      go_region_held3 (fun W => W.cell? ⟨E.xb, 0, none⟩ = some (.pointer (some ⟨E.rb, 0, none⟩)) ∧ W.cell? ⟨E.rb, 3, none⟩ = some (.slice (some ⟨gr, 0, none⟩) ln cap) ∧ W.cell? ⟨tb, 1, none⟩ = some (.int .i64 a))
        (first | exact HS.out _ _ (Fr.refl _ _) HT.out | exact HS.out _ _ (Fr.drew _ _) HT.out | exact HS.out _ _ (HF5.out.mono (fun _ h => .inl h)) HT5.out | exact HS.out _ _ ((HF5.out.mono (fun _ h => .inl h)).trans (setRow_fr _ _ _ (.inr rfl))) (HT5.out.keep (setRow_fr (S := fun j => j = gr) _ _ _ rfl) HGT.out))
        (first
          | (go_at_call 21; (with_reducible refine (HTO.out _ (by first | exact Fr.drew _ _ | exact Fr.refl _ _)).mono ?_); rintro e w5 ⟨rfl, hT5, hF5⟩; have HT5 := hid hT5; have HF5 := hid (show Fr (fun j => j = tb) wr w5 from Fr.trans (by first | exact Fr.refl _ _ | exact Fr.drew _ _) hF5); clear hT5 hF5; (obtain ⟨c5, hst5, hrw5⟩ := HST.out _ HF5.out); have HRW5 := hid hrw5; clear hrw5))
      all_goals
        go_wp2_with fail
        go_end0
        have hgt : gr ≠ tb := fun e => by subst e; exact OwnR.ne HM.out.rows HM.out.task (by decide) ⟨_, rfl, rfl⟩
        have hgr : gr ≠ E.rb := fun e => by have := HM.out.run; rw [← e] at this; exact OwnR.ne HM.out.rows this (by decide) ⟨_, rfl, rfl⟩
        have hrt : E.rb ≠ tb := fun e => TBlk.ne HM.out.run HM.out.task (by decide) e
        have hFs := setRow_fr (S := fun j => j = gr) w5 gr c5 rfl
        rw [HO.out]
        refine ⟨rfl, ⟨some ⟨gr, 0, none⟩, cap, ?_, HRW5.out, HOw.out⟩, ?_⟩
        · rw [List.length_set]
          exact TBlk.keep (TBlk.keep HM.out.run HF5.out hrt) hFs (fun e => hgr e.symm)
        · refine (HF.out.since HF5.out (fun j hj _ => ?_)).since hFs (fun j hj hl => ?_)
          · subst hj; exact .inr (.inr HBT.out)
          · subst hj
            rcases HOw.out j ⟨_, rfl, rfl⟩ with h | h
            · exact .inr (.inl h)
            · omega

end Go.Proofs.YtpjcdjooiaefdaaDoor
