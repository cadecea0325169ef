/-
  FrameForks.
-/
import Derived.Test.YtedpgfldkjimpaaDoorRChild
import Derived.Test.YtedpgfldkjimpaaDoorFew
namespace Go.Proofs.YtedpgfldkjimpaaDoor
open Go.RowKit
set_option linter.unusedVariables false

/-- What a fork's child comes to, and how. -/
inductive FWay (F : Frm) (l : Nat) (P : List Fn) (i : Ins) : Frm → Int → Prop
  | no (h : isOp i 8 = false) : FWay F l P i Frm.zero 1
  | none (h : isOp i 8 = true) (hn : (l : Int) ≤ i.n) : FWay F l P i Frm.zero 17
  | kid (h : isOp i 8 = true) (q : Nat) (hq : i.n = q) (f : Fn) (hf : P[q]? = some f) : FWay F l P i (F.kid q f.needs 8) 0

theorem fork_chk {i : Ins} {o : Int} (h : isOp i o = true) : chk i = 0 := by
  unfold isOp at h
  simp only [Bool.and_eq_true, beq_iff_eq] at h
  exact h.2

theorem fork_n {i : Ins} (h : isOp i 8 = true) : 0 ≤ i.n := by
  have hc := fork_chk h
  have ho : i.op = 8 := by
    unfold isOp at h
    simp only [Bool.and_eq_true, beq_iff_eq] at h
    exact h.1
  unfold chk at hc
  rw [if_neg (by omega)] at hc
  split at hc
  · omega
  · rename_i hw
    simp only [Ins.wrong, Bool.or_eq_true, not_or, Bool.not_eq_true] at hw
    obtain ⟨⟨_, _⟩, h3⟩ := hw
    rw [ho] at h3
    have hb := (not_bad h3).1
    have hl : lo (8 : Int).toNat 3 = 0 := by decide
    omega

theorem fork_way {cel : Frm → Array Value} (hC : Cel cel) (F : Frm) (A : Option Addr) (l cp : Nat) (P : List Fn) (i : Ins) (W : World) (ht : Tabs W) (hP : P.length = l) (hp : Prg W W.heap.size A P) :
    ∃ G e0, FWay F l P i G e0 ∧ ∀ w, Fr (fun _ => False) W w → Calls Tryd.prog 20 #[.agg (cel F), .agg #[.slice A l cp], i.val] w fun e w' => e = .returned (.tuple #[.agg (cel G), .int .i64 e0]) ∧ Fr (fun _ => False) w w' := by
  rcases Bool.eq_false_or_eq_true (isOp i 8) with h | h
  · by_cases hn : i.n < l
    · have h0 := fork_n h
      obtain ⟨a, b, c, n, ha, hb, hc, rfl⟩ := isOp_letters h
      simp only at hn h0
      obtain ⟨q, rfl⟩ : ∃ q : Nat, n = q := ⟨n.toNat, by omega⟩
      obtain ⟨f, hf⟩ : ∃ f, P[q]? = some f := ⟨_, List.getElem?_eq_getElem (by omega)⟩
      exact ⟨_, _, FWay.kid h q rfl f hf, fun w hF => child_in hC F A l cp P a b c q f w (ht.same hF) hP ((hp.same hF (Nat.le_refl _)).more hF.size) hf h⟩
    · exact ⟨_, _, FWay.none h (by omega), fun w hF => child_none hC F A l cp i w (ht.same hF) h (fun hh => hn hh.2)⟩
  · exact ⟨_, _, FWay.no h, fun w hF => child_no hC F A l cp i w (ht.same hF) h⟩

theorem threeB (w : World) (c0 c1 c2 : Array Value) (t0 t1 t2 : TypeId) : Fr (fun _ => False) w (((w.alloc (.cells c0 t0)).alloc (.cells c1 t1)).alloc (.cells c2 t2)) ∧
    Blk (((w.alloc (.cells c0 t0)).alloc (.cells c1 t1)).alloc (.cells c2 t2)) w.heap.size c0 ∧ Blk (((w.alloc (.cells c0 t0)).alloc (.cells c1 t1)).alloc (.cells c2 t2)) (w.heap.size + 1) c1 ∧ Blk (((w.alloc (.cells c0 t0)).alloc (.cells c1 t1)).alloc (.cells c2 t2)) (w.heap.size + 2) c2 := three w c0 c1 c2 t0 t1 t2

set_option maxRecDepth 100000 in
set_option maxHeartbeats 8000000 in
theorem forkLawC {cel : Frm → Array Value} (hC : Cel cel) (F : Frm) (A : Option Addr) (cp : Nat) (P : List Fn) (i : Ins) (id : Int) (W : World) (ht : Tabs W) (hp : Prg W W.heap.size A P) :
    Calls Tryd.prog 4 #[.agg (cel F), .agg #[.slice A P.length cp], .agg #[.int .i64 i.op, .int .i64 i.a, .int .i64 i.b, .int .i64 i.c, .int .i64 i.n, .int .i64 id]] W (LawPost W) := by
  have HT := hid (fun (w' : World) (F' : Fr (fun _ => False) W w') => ht.same F')
  obtain ⟨l, hl⟩ : ∃ l, P.length = l := ⟨_, rfl⟩
  obtain ⟨G, e0, hway, hch⟩ := fork_way hC F A l cp P i W ht hl hp
  have HCH := hid hch
  have HFW := hid (fun (w' : World) (F' : Fr (fun _ => False) W w') => few_any A l cp P w' ((hp.same F' (Nat.le_refl _)).more F'.size) hl)
  have HPP := hid hp
  rw [hl]
  have HL := hid hl
  have HWAY := hid hway
  clear hl hch hp ht hway
  obtain ⟨K, hK⟩ : ∃ K, K = F.forked i id := ⟨_, rfl⟩
  have HFK := hid (fun (w' : World) (F' : Fr (fun _ => False) W w') => fork_any hC F i id w' (HT.out w' F'))
  have HRK := hid (fun (w' : World) => rfork_any hC F i id w')
  rw [← hK] at HFK HRK
  clear hK
  have HCK := hid (rcheck_any i)
  have HAW := hid (fun (w' : World) (F' : Fr (fun _ => False) W w') => awake_any w' (HT.out w' F'))
  unfold Ins.val at HCH HFK HRK HCK
  obtain ⟨op, a, b, c, n⟩ := i
  simp only at *
  obtain ⟨w1, hw1⟩ : ∃ w1, w1 = ((W.alloc (.cells (cel F) 25)).alloc (.cells #[.slice A l cp] 42)).alloc (.cells #[.int .i64 op, .int .i64 a, .int .i64 b, .int .i64 c, .int .i64 n, .int .i64 id] 44) := ⟨_, rfl⟩
  obtain ⟨hA, hB, hQ, hK⟩ := threeB W (cel F) #[.slice A l cp] #[.int .i64 op, .int .i64 a, .int .i64 b, .int .i64 c, .int .i64 n, .int .i64 id] 25 42 44
  rw [← hw1] at hA hB hQ hK
  have HA := hid hA
  have HB := hid hB
  have HQ := hid hQ
  have HK := hid hK
  clear hA hB hQ hK
  go_enter Tryd.func4, Tryd.ntmps4
  go_upto_region 1 with fail
  rw [← hw1]
  clear hw1
  obtain ⟨N, hN, hN1, hN2⟩ := nineteen
  have hsz : ∀ F, (cel F).size = N := fun F => by rw [hC.size, hN]
  have HN := hid hN
  clear hN
  have HS := hid (show ∀ w', Fr (fun _ => False) w1 w' → (loadCellsFrom ⟨W.heap.size, 0, none⟩ 0 N #[]).run Tryd.prog w' = .ok (cel F) w' ∧ w'.cell? ⟨W.heap.size + 2, 0, none⟩ = some (.int .i64 op) ∧ w'.cell? ⟨W.heap.size + 2, 1, none⟩ = some (.int .i64 a) ∧ w'.cell? ⟨W.heap.size + 2, 2, none⟩ = some (.int .i64 b) ∧ w'.cell? ⟨W.heap.size + 2, 3, none⟩ = some (.int .i64 c) ∧ w'.cell? ⟨W.heap.size + 2, 4, none⟩ = some (.int .i64 n) ∧ w'.cell? ⟨W.heap.size + 2, 5, none⟩ = some (.int .i64 id) from fun w' F' => ⟨load_eq (HB.out.keep F' (fun h => h)) (hsz _), (HK.out.keep F' (fun h => h)).cell rfl, (HK.out.keep F' (fun h => h)).cell rfl, (HK.out.keep F' (fun h => h)).cell rfl, (HK.out.keep F' (fun h => h)).cell rfl, (HK.out.keep F' (fun h => h)).cell rfl, (HK.out.keep F' (fun h => h)).cell rfl⟩)
  obtain ⟨l1, i10, i11, i12, i13, i14, i15⟩ := HS.out w1 (Fr.refl _ _)
  go_wp2_with fail
  refine (usual_any hC F w1).mono ?_
  rintro e w2 ⟨⟨us, rfl⟩, hF2⟩
  clear l1 i10 i11 i12 i13 i14 i15
  cases us
  · go_wp2_with fail
    refine (awake_any w2 (HT.out _ (HA.out.trans hF2))).mono ?_
    rintro e w9 ⟨rfl, hF9⟩
    go_wp2_with fail
    go_ret
    exact ⟨rfl, HA.out.trans (hF2.trans hF9)⟩
  · have q2 : w2.cell? ⟨W.heap.size + 1, 0, none⟩ = some (.slice A l cp) := (HQ.out.keep hF2 (fun h => h)).cell rfl
    go_wp2_with fail
    refine (HFW.out _ (HA.out.trans hF2)).mono ?_
    rintro e w3 ⟨fw, rfl, hfew, hF3'⟩
    have hF3 := hF2.trans hF3'
    clear q2 hF2 hF3' hfew
    cases fw
    · go_wp2_with fail
      refine (awake_any w3 (HT.out _ (HA.out.trans hF3))).mono ?_
      rintro e w9 ⟨rfl, hF9⟩
      go_wp2_with fail
      go_ret
      exact ⟨rfl, HA.out.trans (hF3.trans hF9)⟩
    · obtain ⟨l1, i10, i11, i12, i13, i14, i15⟩ := HS.out w3 hF3
      have q2 : w3.cell? ⟨W.heap.size + 1, 0, none⟩ = some (.slice A l cp) := (HQ.out.keep hF3 (fun h => h)).cell rfl
      go_wp2_with fail
      refine (HCH.out _ (HA.out.trans hF3)).mono ?_
      rintro e w4 ⟨rfl, hF4⟩
      clear l1 i10 i11 i12 i13 i14 i15 q2
      go_wp2_with (refine row_store rfl 25 _ _ rfl _ _ rfl rfl (Blk.new w4 zeros 25) infoF rfl (hC.size _) (hC.one _) ?_)
      intro w5 hB5 hF5
      have HF5 := hid (show Fr (fun _ => False) w1 w5 from ((hF3.trans hF4).trans (Fr.alloc _ _ _)).over hF5 (Nat.le_trans hF3.size hF4.size))
      have HB5 := hid hB5
      clear hF5 hF4 hF3 hB5
      go_upto_region 4 with fail
      go_cut [40] from 26 to 40 (fun u wx => u = .bool false ∧ Fr (fun _ => False) w5 wx)
      case first =>
        have HFd := hid HF5.out
        have HFe := hid (Fr.refl (fun _ => False) w5)
        go_region_held3 (fun w' => (loadCellsFrom ⟨W.heap.size, 0, none⟩ 0 N #[]).run Tryd.prog w' = .ok (cel F) w' ∧ w'.cell? ⟨W.heap.size + 2, 0, none⟩ = some (.int .i64 op) ∧ w'.cell? ⟨W.heap.size + 2, 1, none⟩ = some (.int .i64 a) ∧ w'.cell? ⟨W.heap.size + 2, 2, none⟩ = some (.int .i64 b) ∧ w'.cell? ⟨W.heap.size + 2, 3, none⟩ = some (.int .i64 c) ∧ w'.cell? ⟨W.heap.size + 2, 4, none⟩ = some (.int .i64 n) ∧ w'.cell? ⟨W.heap.size + 2, 5, none⟩ = some (.int .i64 id))
          (first | exact HS.out _ HFd.out | exact HS.out _ (HFd.out.trans (Fr.drew _ _)))
          (first
            | (go_at_call 21; (with_reducible refine (HFK.out _ (HA.out.trans (by first | exact HFd.out | exact HFd.out.trans (Fr.drew _ _)))).mono ?_); rintro e w6 ⟨rfl, hF6⟩; have HFe := hid (HFe.out.trans (Fr.trans (by first | exact Fr.refl _ _ | exact Fr.drew _ _) hF6)); have HFd := hid (HFd.out.trans (Fr.trans (by first | exact Fr.refl _ _ | exact Fr.drew _ _) hF6)); clear hF6)
            | (go_at_call 14; (with_reducible refine (plain_any hC F _).mono ?_); rintro e w6 ⟨rfl, hF6⟩; have HFe := hid (HFe.out.trans (Fr.trans (by first | exact Fr.refl _ _ | exact Fr.drew _ _) hF6)); have HFd := hid (HFd.out.trans (Fr.trans (by first | exact Fr.refl _ _ | exact Fr.drew _ _) hF6)); clear hF6)
            | (go_at_call 22; (with_reducible refine (HRK.out _).mono ?_); rintro e w6 ⟨rfl, hF6⟩; have HFe := hid (HFe.out.trans (Fr.trans (by first | exact Fr.refl _ _ | exact Fr.drew _ _) hF6)); have HFd := hid (HFd.out.trans (Fr.trans (by first | exact Fr.refl _ _ | exact Fr.drew _ _) hF6)); clear hF6)
            | (go_at_call 16; (with_reducible refine (same_any hC _ _).mono ?_); rintro e w6 ⟨rfl, hF6⟩; have HFe := hid (HFe.out.trans (Fr.trans (by first | exact Fr.refl _ _ | exact Fr.drew _ _) hF6)); have HFd := hid (HFd.out.trans (Fr.trans (by first | exact Fr.refl _ _ | exact Fr.drew _ _) hF6)); clear hF6))
        all_goals
          go_wp2_with fail
          go_meet
          case rel => first | exact ⟨rfl, HFe.out⟩ | exact ⟨rfl, HFe.out.trans (Fr.drew _ _)⟩
      case rest =>
        obtain ⟨rfl, hF6⟩ := hcut
        have HF6 := hid (HF5.out.trans hF6)
        have HB6 := hid (HB5.out.keep hF6 (fun h => h))
        clear hF6 HF5 HB5
        obtain ⟨l1, i10, i11, i12, i13, i14, i15⟩ := HS.out wc HF6.out
        have hway := HWAY.out
        cases hway with
        | no h =>
          by_cases h8 : op = 8
          · subst h8
            have hx : chk ⟨8, a, b, c, n⟩ ≠ 0 := by
              intro hx
              unfold isOp at h
              rw [hx] at h
              simp at h
            obtain ⟨x, hx'⟩ : ∃ x, chk ⟨8, a, b, c, n⟩ = x := ⟨_, rfl⟩
            rw [hx'] at hx HCK
            have tx : (x != 0) = true := by simpa using hx
            clear hx hx'
            go_wp2_with fail
            refine (HCK.out wc).mono ?_
            rintro e w7 ⟨rfl, hF7⟩
            go_wp2_with fail
            refine (HAW.out w7 (HA.out.trans (HF6.out.trans hF7))).mono ?_
            rintro e w9 ⟨rfl, hF9⟩
            go_wp2_with fail
            go_ret
            exact ⟨rfl, HA.out.trans (HF6.out.trans (hF7.trans hF9))⟩
          · have t8 : (op != 8) = true := by simpa using h8
            go_wp2_with fail
            refine (HAW.out wc (HA.out.trans HF6.out)).mono ?_
            rintro e w9 ⟨rfl, hF9⟩
            go_wp2_with fail
            go_ret
            exact ⟨rfl, HA.out.trans (HF6.out.trans hF9)⟩
        | none h hn =>
          have hx := fork_chk h
          obtain ⟨_, _, _, _, _, _, _, e⟩ := isOp_letters h
          obtain rfl : op = 8 := congrArg Ins.op e
          clear e
          rw [hx] at HCK
          simp only at hn
          go_wp2_with fail
          refine (HCK.out wc).mono ?_
          rintro e w7 ⟨rfl, hF7⟩
          obtain ⟨l2, i20, i21, i22, i23, i24, i25⟩ := HS.out w7 (HF6.out.trans hF7)
          have q7 : w7.cell? ⟨W.heap.size + 1, 0, none⟩ = some (.slice A l cp) := (HQ.out.keep (HF6.out.trans hF7) (fun h => h)).cell rfl
          go_wp2_with fail
          refine (HAW.out w7 (HA.out.trans (HF6.out.trans hF7))).mono ?_
          rintro e w9 ⟨rfl, hF9⟩
          go_wp2_with fail
          go_ret
          exact ⟨rfl, HA.out.trans (HF6.out.trans (hF7.trans hF9))⟩
        | kid h q hq f hf =>
          have hx := fork_chk h
          obtain ⟨_, _, _, _, _, _, _, e⟩ := isOp_letters h
          obtain rfl : op = 8 := congrArg Ins.op e
          clear e
          simp only at hq
          subst hq
          have hql : q < l := by rw [← HL.out]; exact (List.getElem?_eq_some_iff.1 hf).1
          have hql0 : (0 : Int) ≤ q ∧ (q : Int) < l := by omega
          have hql1 : (q : Int) < l := by omega
          obtain ⟨pb, po, hAA, hpl, hpc⟩ := HPP.out (by rw [HL.out]; omega)
          obtain ⟨A', c', hnd, _, _⟩ := hpc q f hf
          obtain ⟨nd, hn⟩ : ∃ nd, f.needs = nd := ⟨_, rfl⟩
          obtain ⟨G, hG⟩ : ∃ G, F.kid q f.needs 8 = G := ⟨_, rfl⟩
          have HRC := hid (fun w' => rchild_any hC F q f.needs w')
          rw [hG] at HB6 HRC ⊢
          rw [hn] at hnd HRC
          clear hn hG hpc hf
          rw [hx] at HCK
          go_wp2_with fail
          refine (HCK.out wc).mono ?_
          rintro e w7 ⟨rfl, hF7⟩
          have HF7 := hid (HF6.out.trans hF7)
          have HB7 := hid (HB6.out.keep hF7 (fun h => h))
          clear hF7 HB6 l1 i10 i11 i12 i13 i14 i15
          have HS7 := hid (show ∀ w', Fr (fun _ => False) w7 w' → (loadCellsFrom ⟨W.heap.size, 0, none⟩ 0 N #[]).run Tryd.prog w' = .ok (cel F) w' ∧ (loadCellsFrom ⟨w4.heap.size, 0, none⟩ 0 N #[]).run Tryd.prog w' = .ok (cel G) w' ∧ w'.cell? ⟨W.heap.size + 2, 4, none⟩ = some (.int .i64 q) ∧ w'.cell? ⟨W.heap.size + 1, 0, none⟩ = some (.slice (some ⟨pb, po, none⟩) l cp) ∧ w'.cell? ⟨pb, po + q * 2, none⟩ = some (.int .i64 nd) from fun w' F' => ⟨(HS.out w' (HF7.out.trans F')).1, load_eq (HB7.out.keep F' (fun h => h)) (hsz _), (HS.out w' (HF7.out.trans F')).2.2.2.2.2.1, hAA ▸ (HQ.out.keep (HF7.out.trans F') (fun h => h)).cell rfl, (cell_keep (HA.out.trans (HF7.out.trans F')) (p := ⟨pb, po + q * 2, none⟩) hpl (fun h => h)).trans hnd⟩)
          obtain ⟨l2, i20, i21, i22, i23, i24, i25⟩ := HS.out w7 HF7.out
          have q7 : w7.cell? ⟨W.heap.size + 1, 0, none⟩ = some (.slice A l cp) := (HQ.out.keep HF7.out (fun h => h)).cell rfl
          go_upto_region 10 with fail
          clear l2 i20 i21 i22 i23 i24 i25 q7
          have HFd := hid (Fr.refl (fun _ => False) w7)
          go_region_held3 (fun w' => (loadCellsFrom ⟨W.heap.size, 0, none⟩ 0 N #[]).run Tryd.prog w' = .ok (cel F) w' ∧ (loadCellsFrom ⟨w4.heap.size, 0, none⟩ 0 N #[]).run Tryd.prog w' = .ok (cel G) w' ∧ w'.cell? ⟨W.heap.size + 2, 4, none⟩ = some (.int .i64 q) ∧ w'.cell? ⟨W.heap.size + 1, 0, none⟩ = some (.slice (some ⟨pb, po, none⟩) l cp) ∧ w'.cell? ⟨pb, po + q * 2, none⟩ = some (.int .i64 nd))
            (first | exact HS7.out _ HFd.out | exact HS7.out _ (HFd.out.trans (Fr.drew _ _)))
            (first
              | (go_at_call 14; (with_reducible refine (plain_any hC F _).mono ?_); rintro e w6 ⟨rfl, hF6⟩; have HFd := hid (HFd.out.trans (Fr.trans (by first | exact Fr.refl _ _ | exact Fr.drew _ _) hF6)); clear hF6)
              | (go_at_call 24; (with_reducible refine (HRC.out _).mono ?_); rintro e w6 ⟨rfl, hF6⟩; have HFd := hid (HFd.out.trans (Fr.trans (by first | exact Fr.refl _ _ | exact Fr.drew _ _) hF6)); clear hF6)
              | (go_at_call 16; (with_reducible refine (same_any hC _ _).mono ?_); rintro e w6 ⟨rfl, hF6⟩; have HFd := hid (HFd.out.trans (Fr.trans (by first | exact Fr.refl _ _ | exact Fr.drew _ _) hF6)); clear hF6)
              | (go_at_call 12; (with_reducible refine (HAW.out _ (HA.out.trans (HF7.out.trans (by first | exact HFd.out | exact HFd.out.trans (Fr.drew _ _))))).mono ?_); rintro e w6 ⟨rfl, hF6⟩; have HFd := hid (HFd.out.trans (Fr.trans (by first | exact Fr.refl _ _ | exact Fr.drew _ _) hF6)); clear hF6))
          all_goals
            go_wp2_with fail
            go_ret
            exact ⟨rfl, HA.out.trans (HF7.out.trans HFd.out)⟩

theorem forkLaw (F : Frm) (A : Option Addr) (cp : Nat) (P : List Fn) (i : Ins) (id : Int) (W : World) (ht : Tabs W) (hp : Prg W W.heap.size A P) :
    Calls Tryd.prog 4 #[F.val, .agg #[.slice A P.length cp], .agg #[.int .i64 i.op, .int .i64 i.a, .int .i64 i.b, .int .i64 i.c, .int .i64 i.n, .int .i64 id]] W (LawPost W) := forkLawC cel_is F A cp P i id W ht hp

end Go.Proofs.YtedpgfldkjimpaaDoor
