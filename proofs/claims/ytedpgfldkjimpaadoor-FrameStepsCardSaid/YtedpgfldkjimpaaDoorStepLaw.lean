/-
  FrameSteps.
-/
import Derived.Test.YtedpgfldkjimpaaDoorSteps
namespace Go.Proofs.YtedpgfldkjimpaaDoor
open Go.RowKit
set_option linter.unusedVariables false

attribute [local go_sem ↓] build67_is
attribute [local go_sem] build67_run

/-- A middle row of nineteen cells is loaded. -/
theorem part_load {P : Program} {ops : Array Oper} {rest : List Oper} {o : Oper} {a : Act} {w : World} {Q : Exit → Act → World → Prop} (hgd : o.guard = none) (ty : TypeId) (x : Operand) (ho : o.op = .load ty x)
    (g k : Nat) (hx : a.eval x = .pointer (some ⟨g, k, none⟩)) {c : Array Value} {d : TypeDesc} (hB : ∀ j v, c[j]? = some v → w.cell? ⟨g, k + j, none⟩ = some v)
    (hu : P.underlying ty = some d) (hd : d.isRow = true) (hi : (P.info? ty).map (·.size) = some c.size)
    (h : wpList P ops Q rest (a.put o.dst (.agg c)) w) : wpList P ops Q (o :: rest) a w := by
  refine wpList_load_mid hgd ty x ho g k hx c.toList d (fun j v hv => hB j v (by simpa using hv)) hu hd (by simpa using hi) ?_
  simpa using h

/-- Four tasks in one row. -/
def rowOf (cel : Frm → Array Value) (X : Nat → Frm) : Array Value := cel (X 0) ++ cel (X 1) ++ cel (X 2) ++ cel (X 3)

theorem rowOf_at {cel : Frm → Array Value} (hC : Cel cel) (X : Nat → Frm) (k j : Nat) (hk : k < 4) (v : Value) (hv : (cel (X k))[j]? = some v) : (rowOf cel X)[k * 19 + j]? = some v := by
  have hj : j < 19 := by
    have := (Array.getElem?_eq_some_iff.1 hv).1
    rwa [hC.size] at this
  unfold rowOf
  simp only [Array.getElem?_append, Array.size_append, hC.size]
  rcases k with _ | _ | _ | _ | k
  · rw [if_pos (by omega), if_pos (by omega), if_pos (by omega), show 0 * 19 + j = j by omega]
    exact hv
  · rw [if_pos (by omega), if_pos (by omega), if_neg (by omega), show (0 + 1) * 19 + j - 19 = j by omega]
    exact hv
  · rw [if_pos (by omega), if_neg (by omega), show (0 + 1 + 1) * 19 + j - (19 + 19) = j by omega]
    exact hv
  · rw [if_neg (by omega), show (0 + 1 + 1 + 1) * 19 + j - (19 + 19 + 19) = j by omega]
    exact hv
  · omega

def CameR (R : Array Value) (w : World) (u : Value) (wx : World) : Prop := ∃ g, u = .pointer (some ⟨g, 0, none⟩) ∧ Blk wx g R ∧ Fr (fun _ => False) w wx

/-- A round's beginning: how many were done. -/
def SpRel (op : Int) (w0 : World) (d : Nat) (x y : Value) (wr : World) : Prop := ∃ k m : Nat, k ≤ 4 ∧ d = 4 - k ∧ x = .int .i64 m ∧ y = .int .i64 k ∧ m ≤ 1 ∧ (m = 1 → cls op < k) ∧ Fr (fun _ => False) w0 wr

theorem eq_any {cel : Frm → Array Value} (hC : Cel cel) (X F : Frm) (w : World) : (binOp .eql 25 (.agg (cel X)) (.agg (cel F))).run Tryd.prog w = .ok (.bool (X.same F)) w := by
  rw [hC.eq]
  exact eqFrm X F w
theorem eq_any' {cel : Frm → Array Value} (hC : Cel cel) (X F : Frm) (w : World) : (Op.equalIn 10000 25 (.agg (cel X)) (.agg (cel F))).run Tryd.prog w = .ok (X.same F) w := by
  have h := eq_any hC X F w
  rw [run_eql_struct] at h
  cases hr : (Op.equalIn 10000 25 (.agg (cel X)) (.agg (cel F))).run Tryd.prog w with
  | ok b w' =>
    rw [hr] at h
    simp only [Result.andThen, Result.ok.injEq, Value.bool.injEq] at h
    rw [h.1, h.2]
  | halt x w' =>
    rw [hr] at h
    simp [Result.andThen] at h

set_option maxRecDepth 100000 in
set_option maxHeartbeats 8000000 in
theorem stepLawC {cel : Frm → Array Value} (hC : Cel cel) (F : Frm) (i : Ins) (kd v : Int) (W : World) (ht : Tabs W) :
    Calls Tryd.prog 7 #[.agg (cel F), .agg #[.int .i64 i.op, .int .i64 i.a, .int .i64 i.b, .int .i64 i.c, .int .i64 i.n, .int .i64 kd, .int .i64 v]] W (LawPost W) := by
  have HT := hid (fun (w' : World) (F' : Fr (fun _ => False) W w') => ht.same F')
  clear ht
  obtain ⟨b, hb⟩ : ∃ b, decide (0 < v) = b := ⟨_, rfl⟩
  have HW := hid (four_step F i kd v b)
  have HP0 := hid (fun (w' : World) (F' : Fr (fun _ => False) W w') => fplain_any hC F i w' (HT.out w' F'))
  have HP1 := hid (fun (w' : World) (F' : Fr (fun _ => False) W w') => join_any hC F i kd v w' (HT.out w' F'))
  have HP2 := hid (fun (w' : World) (F' : Fr (fun _ => False) W w') => close_any hC F i b w' (HT.out w' F'))
  have HP3 := hid (fun (w' : World) (F' : Fr (fun _ => False) W w') => fork_any hC F i kd w' (HT.out w' F'))
  have HRow := hid (rowOf_at hC (F.four i kd v b))
  obtain ⟨R, hR⟩ : ∃ R, rowOf cel (F.four i kd v b) = R := ⟨_, rfl⟩
  obtain ⟨X0, hX0⟩ : ∃ X, F.plain i = X := ⟨_, rfl⟩
  obtain ⟨X1, hX1⟩ : ∃ X, F.joined i kd v = X := ⟨_, rfl⟩
  obtain ⟨X2, hX2⟩ : ∃ X, F.closed i b = X := ⟨_, rfl⟩
  obtain ⟨X3, hX3⟩ : ∃ X, F.forked i kd = X := ⟨_, rfl⟩
  have hR4 : cel X0 ++ cel X1 ++ cel X2 ++ cel X3 = R := by rw [← hR, ← hX0, ← hX1, ← hX2, ← hX3]; rfl
  have HRS := hid (show R.size = 76 by rw [← hR4, Array.size_append, Array.size_append, Array.size_append, hC.size, hC.size, hC.size, hC.size])
  have HR1 := hid (show R.all (·.oneCell') = true by
    rw [← hR4]
    simp only [Array.all_append, hC.one, Bool.and_true])
  rw [hR] at HRow
  rw [hX0] at HP0
  rw [hX1] at HP1
  rw [hX2] at HP2
  rw [hX3] at HP3
  obtain ⟨Xs, hXs⟩ : ∃ Xs, F.four i kd v b = Xs := ⟨_, rfl⟩
  rw [hXs] at HW HRow
  unfold Ins.val at HP0 HP1 HP2 HP3
  have HR4 := hid hR4
  have HBV := hid hb
  clear hXs hX0 hX1 hX2 hX3 hR hR4 hb
  obtain ⟨pl, hpl⟩ : ∃ pl, plainB i = pl := ⟨_, rfl⟩
  rw [hpl] at HP0
  obtain ⟨pn, hpn⟩ : ∃ pn, panics i kd = pn := ⟨_, rfl⟩
  obtain ⟨cd, hcd⟩ : ∃ cd, codeOf i kd v = cd := ⟨_, rfl⟩
  rw [hpn, hcd] at HP1
  clear hpl hpn hcd
  obtain ⟨w1, hw1⟩ : ∃ w1, w1 = (W.alloc (.cells (cel F) 25)).alloc (.cells #[.int .i64 i.op, .int .i64 i.a, .int .i64 i.b, .int .i64 i.c, .int .i64 i.n, .int .i64 kd, .int .i64 v] 58) := ⟨_, rfl⟩
  obtain ⟨hA, hB, hI⟩ := two W (cel F) #[.int .i64 i.op, .int .i64 i.a, .int .i64 i.b, .int .i64 i.c, .int .i64 i.n, .int .i64 kd, .int .i64 v] 25 58
  rw [← hw1] at hA hB hI
  have HA := hid hA
  have HB := hid hB
  have HI := hid hI
  clear hA hB hI
  go_enter Tryd.func7, Tryd.ntmps7
  go_upto_region 1 with fail
  rw [← hw1]
  clear hw1
  obtain ⟨N, hN, hN1, hN2⟩ := nineteen
  have hsz : ∀ F, (cel F).size = N := fun F => by rw [hC.size, hN]
  have HN := hid hN
  clear hN
  have HS := hid (show ∀ w', Fr (fun _ => False) w1 w' → (loadCellsFrom ⟨W.heap.size, 0, none⟩ 0 N #[]).run Tryd.prog w' = .ok (cel F) w' ∧ w'.cell? ⟨W.heap.size + 1, 0, none⟩ = some (.int .i64 i.op) ∧ w'.cell? ⟨W.heap.size + 1, 1, none⟩ = some (.int .i64 i.a) ∧ w'.cell? ⟨W.heap.size + 1, 2, none⟩ = some (.int .i64 i.b) ∧ w'.cell? ⟨W.heap.size + 1, 3, none⟩ = some (.int .i64 i.c) ∧ w'.cell? ⟨W.heap.size + 1, 4, none⟩ = some (.int .i64 i.n) ∧ w'.cell? ⟨W.heap.size + 1, 5, none⟩ = some (.int .i64 kd) ∧ w'.cell? ⟨W.heap.size + 1, 6, none⟩ = some (.int .i64 v) from fun w' F' => ⟨load_eq (HB.out.keep F' (fun h => h)) (hsz _), (HI.out.keep F' (fun h => h)).cell rfl, (HI.out.keep F' (fun h => h)).cell rfl, (HI.out.keep F' (fun h => h)).cell rfl, (HI.out.keep F' (fun h => h)).cell rfl, (HI.out.keep F' (fun h => h)).cell rfl, (HI.out.keep F' (fun h => h)).cell rfl, (HI.out.keep F' (fun h => h)).cell rfl⟩)
  obtain ⟨l1, i10, i11, i12, i13, i14, i15, i16⟩ := HS.out w1 (Fr.refl _ _)
  go_wp2_with fail
  refine (usual_any hC F w1).mono ?_
  rintro e w2 ⟨⟨us, rfl⟩, hF2⟩
  clear l1 i10 i11 i12 i13 i14 i15 i16
  obtain ⟨l1, i10, i11, i12, i13, i14, i15, i16⟩ := HS.out w2 hF2
  cases us
  · go_wp2_with fail
    refine (awake_any w2 (HT.out _ (HA.out.trans hF2))).mono ?_
    rintro e w3 ⟨rfl, hF3⟩
    go_wp2_with fail
    go_ret
    exact ⟨rfl, HA.out.trans (hF2.trans hF3)⟩
  · go_wp2_with fail
    refine (HP0.out _ (HA.out.trans hF2)).mono ?_
    rintro e v3 ⟨rfl, hFa⟩
    clear l1 i10 i11 i12 i13 i14 i15 i16
    go_wp2_with (refine row_store rfl 25 _ _ rfl _ _ rfl rfl (Blk.new v3 zeros 25) infoF rfl (hC.size _) (hC.one _) ?_)
    intro w3 hB3 hFb
    have HF3 := hid (show Fr (fun _ => False) w1 w3 from ((hF2.trans hFa).trans (Fr.alloc _ _ _)).over hFb (Nat.le_trans hF2.size hFa.size))
    have HB3 := hid hB3
    clear hFa hFb hB3 hF2
    obtain ⟨l1, i10, i11, i12, i13, i14, i15, i16⟩ := HS.out w3 HF3.out
    go_wp2_with fail
    refine (HP1.out _ (HA.out.trans HF3.out)).mono ?_
    rintro e v4 ⟨rfl, hFa⟩
    clear l1 i10 i11 i12 i13 i14 i15 i16
    go_wp2_with (refine row_store rfl 25 _ _ rfl _ _ rfl rfl (Blk.new v4 zeros 25) infoF rfl (hC.size _) (hC.one _) ?_)
    intro w4 hB4 hFb
    have hF34 := (hFa.trans (Fr.alloc _ _ _)).over hFb hFa.size
    have HF4 := hid (HF3.out.trans hF34)
    have HB4 := hid hB4
    have HB3 := hid (HB3.out.keep hF34 (fun h => h))
    clear hFa hFb hB4 hF34
    obtain ⟨Z, hZ, hz67⟩ := zero67
    have HZS := hid hZ
    clear hZ
    go_upto_region 5 with fail
    go_cut [10] from 40 to 55 (fun u wx => CameR R w4 u wx)
    case first =>
      have HFd := hid (Fr.refl (fun _ => False) w4)
      have h19 : ∀ G, Row19 (cel G) := fun G => hC.size G
      have hrs : R.size = 76 := HRS.out
      have hR4 := HR4.out
      have hR5 : cel X0 ++ (cel X1 ++ (cel X2 ++ cel X3)) = R := by rw [← HR4.out, Array.append_assoc, Array.append_assoc]
      have hbv := HBV.out
      have hstC : ∀ (V : World), (storeCells ⟨V.heap.size, 0, none⟩ R.toList 0).run Tryd.prog (V.alloc (.cells Z 67)) = .ok () ((V.alloc (.cells Z 67)).setRow V.heap.size R) := fun V => store_at (Blk.new V Z _) HZS.out HRS.out HR1.out
      have hstD : ∀ (V : World), (storeCells ⟨V.heap.size, 0, none⟩ R.toList 0).run Tryd.prog (V.alloc (.cells Z 67)).drew = .ok () ((V.alloc (.cells Z 67)).drew.setRow V.heap.size R) := fun V => store_at (Blk.new V Z _).drew HZS.out HRS.out HR1.out
      have HS5 := hid (show ∀ w', Fr (fun _ => False) w4 w' → (loadCellsFrom ⟨v3.heap.size, 0, none⟩ 0 N #[]).run Tryd.prog w' = .ok (cel X0) w' ∧ (loadCellsFrom ⟨v4.heap.size, 0, none⟩ 0 N #[]).run Tryd.prog w' = .ok (cel X1) w' ∧ (loadCellsFrom ⟨W.heap.size, 0, none⟩ 0 N #[]).run Tryd.prog w' = .ok (cel F) w' ∧ w'.cell? ⟨W.heap.size + 1, 0, none⟩ = some (.int .i64 i.op) ∧ w'.cell? ⟨W.heap.size + 1, 1, none⟩ = some (.int .i64 i.a) ∧ w'.cell? ⟨W.heap.size + 1, 2, none⟩ = some (.int .i64 i.b) ∧ w'.cell? ⟨W.heap.size + 1, 3, none⟩ = some (.int .i64 i.c) ∧ w'.cell? ⟨W.heap.size + 1, 4, none⟩ = some (.int .i64 i.n) ∧ w'.cell? ⟨W.heap.size + 1, 5, none⟩ = some (.int .i64 kd) ∧ w'.cell? ⟨W.heap.size + 1, 6, none⟩ = some (.int .i64 v) from fun w' F' => ⟨load_eq (HB3.out.keep F' (fun h => h)) (hsz _), load_eq (HB4.out.keep F' (fun h => h)) (hsz _), HS.out w' (HF4.out.trans F')⟩)
      go_region_held3 (fun w' => (loadCellsFrom ⟨v3.heap.size, 0, none⟩ 0 N #[]).run Tryd.prog w' = .ok (cel X0) w' ∧ (loadCellsFrom ⟨v4.heap.size, 0, none⟩ 0 N #[]).run Tryd.prog w' = .ok (cel X1) w' ∧ (loadCellsFrom ⟨W.heap.size, 0, none⟩ 0 N #[]).run Tryd.prog w' = .ok (cel F) w' ∧ w'.cell? ⟨W.heap.size + 1, 0, none⟩ = some (.int .i64 i.op) ∧ w'.cell? ⟨W.heap.size + 1, 1, none⟩ = some (.int .i64 i.a) ∧ w'.cell? ⟨W.heap.size + 1, 2, none⟩ = some (.int .i64 i.b) ∧ w'.cell? ⟨W.heap.size + 1, 3, none⟩ = some (.int .i64 i.c) ∧ w'.cell? ⟨W.heap.size + 1, 4, none⟩ = some (.int .i64 i.n) ∧ w'.cell? ⟨W.heap.size + 1, 5, none⟩ = some (.int .i64 kd) ∧ w'.cell? ⟨W.heap.size + 1, 6, none⟩ = some (.int .i64 v))
        (first | exact HS5.out _ HFd.out | exact HS5.out _ (HFd.out.trans (Fr.drew _ _)) | exact HS5.out _ (HFd.out.trans (Fr.alloc _ _ _)) | exact HS5.out _ (HFd.out.trans ((Fr.alloc _ _ _).trans (Fr.drew _ _))) | exact HS5.out _ (HFd.out.over (setRow_fr _ _ _ rfl) (by first | exact Nat.le_refl _ | exact HSZ.out)) | exact HS5.out _ ((HFd.out.trans (Fr.alloc _ _ _)).over (setRow_fr _ _ _ rfl) HFd.out.size) | exact HS5.out _ ((HFd.out.trans ((Fr.alloc _ _ _).trans (Fr.drew _ _))).over (setRow_fr _ _ _ rfl) HFd.out.size))
        (first
          | (go_at_call 27; (with_reducible refine (HP2.out _ (HA.out.trans (HF4.out.trans (by first | exact HFd.out | exact HFd.out.trans (Fr.drew _ _) | exact HFd.out.trans (Fr.alloc _ _ _) | exact HFd.out.trans ((Fr.alloc _ _ _).trans (Fr.drew _ _)))))).mono ?_); rintro e w6 ⟨rfl, hF6⟩; (try (have HBA := hid (HBA.out.keep hF6 (fun h => h)))); (try (have HBA := hid (blk_of' hF6); have HSZ := hid HFd.out.size)); (try (have HBA := hid (blk_of hF6); have HSZ := hid HFd.out.size)); (try (have hst := store_at (P := Tryd.prog) HBA.out HZS.out HRS.out HR1.out)); have HFd := hid (HFd.out.trans (Fr.trans (by first | exact Fr.refl _ _ | exact Fr.drew _ _ | exact Fr.alloc _ _ _ | exact (Fr.alloc _ _ _).trans (Fr.drew _ _)) hF6)); clear hF6)
          | (go_at_call 21; (with_reducible refine (HP3.out _ (HA.out.trans (HF4.out.trans (by first | exact HFd.out | exact HFd.out.trans (Fr.drew _ _) | exact HFd.out.trans (Fr.alloc _ _ _) | exact HFd.out.trans ((Fr.alloc _ _ _).trans (Fr.drew _ _)))))).mono ?_); rintro e w7 ⟨rfl, hF6⟩; (try (have HBA := hid (HBA.out.keep hF6 (fun h => h)))); (try (have HBA := hid (blk_of' hF6); have HSZ := hid HFd.out.size)); (try (have HBA := hid (blk_of hF6); have HSZ := hid HFd.out.size)); (try (have hst := store_at (P := Tryd.prog) HBA.out HZS.out HRS.out HR1.out)); have HFd := hid (HFd.out.trans (Fr.trans (by first | exact Fr.refl _ _ | exact Fr.drew _ _ | exact Fr.alloc _ _ _ | exact (Fr.alloc _ _ _).trans (Fr.drew _ _)) hF6)); clear hF6))
      all_goals
        go_wp2_with fail
        go_meet
        case rel => first
          | exact ⟨_, rfl, setRow_blk HBA.out _, HFd.out.over (setRow_fr _ _ _ rfl) (by first | exact Nat.le_refl _ | exact HSZ.out)⟩
          | exact ⟨_, rfl, setRow_blk (Blk.new _ _ _) _, (HFd.out.trans (Fr.alloc _ _ _)).over (setRow_fr _ _ _ rfl) HFd.out.size⟩
          | exact ⟨_, rfl, setRow_blk (Blk.new _ _ _).drew _, (HFd.out.trans ((Fr.alloc _ _ _).trans (Fr.drew _ _))).over (setRow_fr _ _ _ rfl) HFd.out.size⟩
    case rest =>
      obtain ⟨g, rfl, hB5, hF5⟩ := hcut
      have HB5 := hid hB5
      have HF5 := hid (HF4.out.trans hF5)
      clear hB5 hF5 HB3 HB4 HF3 HF4 hsz
      go_wp2_with fail
      go_loopg [11, 12] 4 (fun d x y wr => SpRel i.op wc d x y wr)
      case atStart => exact ⟨0, 0, by omega, by omega, rfl, rfl, by omega, fun h => by omega, Fr.refl _ _⟩
      case round =>
        obtain ⟨k, m, hk, hd, rfl, rfl, hm, hmk, hF⟩ := hrel
        have HD := hid hd
        have HM := hid hm
        have HMK := hid hmk
        have HF := hid hF
        clear hd hm hmk hF
        by_cases hlt : k < 4
        · obtain ⟨wo, hwo⟩ : ∃ wo, wo = wr := ⟨_, rfl⟩
          subst hwo
          have hk0 : (0 : Int) ≤ k ∧ (k : Int) < 4 := by omega
          have HX := hid (HW.out k hlt)
          have hrow : ∀ j u, (cel (Xs k))[j]? = some u → wo.cell? ⟨g, k * N + j, none⟩ = some u := fun j u hu => by
            rw [HN.out]
            exact (HB5.out.keep HF.out (fun h => h)).cell (HRow.out k j hlt u hu)
          have HRW := hid hrow
          clear hrow
          obtain ⟨X, hX⟩ : ∃ X, Xs k = X := ⟨_, rfl⟩
          rw [hX] at HX HRW
          clear hX
          go_wp2_with (first
            | (refine part_load rfl 25 _ rfl g (k * N) rfl HRW.out Tryd.underlying25 rfl (infoF.trans (by rw [hC.size])) ?_)
            | (refine row_store rfl 25 _ _ rfl _ _ rfl rfl (Blk.new wo zeros 25) infoF rfl (hC.size _) (hC.one _) ?_))
          intro w7 hB7 hFb
          have HF7 := hid (HF.out.trans ((Fr.alloc _ _ _).over hFb (Nat.le_refl _)))
          have HA7 := hid (HA.out.trans (HF5.out.trans HF7.out))
          have HB7 := hid hB7
          have HBF := hid (HB.out.keep (HF5.out.trans HF7.out) (fun h => h))
          clear hFb hB7
          have he := eq_any hC X F
          have he' := eq_any' hC X F
          have hstep := HX.out
          cases hstep with
          | same h =>
            subst h
            rw [X.same_self] at he he'
            go_wp2_with (first
              | (refine row_load rfl 25 _ rfl _ rfl HB7.out Tryd.underlying25 rfl infoF (hC.size _) ?_)
              | (refine row_load rfl 25 _ rfl _ rfl HBF.out Tryd.underlying25 rfl infoF (hC.size _) ?_))
            go_roundg (4 - (k + 1))
            case rel => exact ⟨k + 1, m, by omega, by omega, rfl, by go_num, HM.out, fun h => by have := HMK.out h; omega, HF7.out⟩
            case measure => have := HD.out; omega
          | regs hf hs hh hr hk =>
            rw [Frm.same_ne (by rw [hs]; exact st_ne _)] at he he'
            obtain rfl : m = 0 := by
              have h1 := HM.out
              have h2 := HMK.out
              rcases (show m = 0 ∨ m = 1 by omega) with h | h
              · exact h
              · have := h2 h
                omega
            have HTn := hid (turned_any hC F X)
            obtain ⟨cr, hcr⟩ : ∃ cr, cnt F.r X.r 8 = cr := ⟨_, rfl⟩
            rw [hcr] at hr
            have htn := HTn.out
            rw [hcr, hh] at htn
            clear HTn hcr hh
            have HTn := hid htn
            clear htn
            go_wp2_with (first
              | (refine row_load rfl 25 _ rfl _ rfl HB7.out Tryd.underlying25 rfl infoF (hC.size _) ?_)
              | (refine row_load rfl 25 _ rfl _ rfl HBF.out Tryd.underlying25 rfl infoF (hC.size _) ?_))
            refine (HTn.out _).mono ?_
            rintro e w8 ⟨rfl, hF8⟩
            have HF8 := hid (HF7.out.trans hF8)
            have q0 : w8.cell? ⟨wo.heap.size, 0, none⟩ = some (.int .i64 F.f) := by rw [← hf]; exact (HB7.out.keep hF8 (fun h => h)).cell (hC.f X)
            have q18 : w8.cell? ⟨wo.heap.size, 18, none⟩ = some (.int .i64 (wrap64 (F.st + 1))) := by rw [← hs]; exact (HB7.out.keep hF8 (fun h => h)).cell (hC.st X)
            have p0 : w8.cell? ⟨W.heap.size, 0, none⟩ = some (.int .i64 F.f) := (HBF.out.keep hF8 (fun h => h)).cell (hC.f F)
            have p18 : w8.cell? ⟨W.heap.size, 18, none⟩ = some (.int .i64 F.st) := (HBF.out.keep hF8 (fun h => h)).cell (hC.st F)
            have i0 : w8.cell? ⟨W.heap.size + 1, 0, none⟩ = some (.int .i64 i.op) := (HI.out.keep (HF5.out.trans HF8.out) (fun h => h)).cell rfl
            have HK := hid hk
            clear hF8 hf hs hk he he'
            by_cases h10 : i.op = 10
            · rw [if_pos h10] at hr
              have t10 : (i.op == 10) = true := by rw [h10]; rfl
              have c2 : ¬ ((2 : Int) < cr) := by omega
              clear h10
              rcases Nat.eq_zero_or_pos cr with h0 | h0
              · subst h0
                clear c2 hr
                go_wp2_with fail
                go_roundg (4 - (k + 1))
                case rel => exact ⟨k + 1, 1, by omega, by omega, by go_num, by go_num, by omega, fun _ => by have := HK.out; omega, HF8.out⟩
                case measure => have := HD.out; omega
              · have c0 : (0 : Int) < cr := by omega
                clear hr h0
                go_wp2_with fail
                go_roundg (4 - (k + 1))
                case rel => exact ⟨k + 1, 1, by omega, by omega, by go_num, by go_num, by omega, fun _ => by have := HK.out; omega, HF8.out⟩
                case measure => have := HD.out; omega
            · rw [if_neg h10] at hr
              have t10 : (i.op == 10) = false := beq_eq_false_iff_ne.2 h10
              have c2 : ¬ ((1 : Int) < cr) := by omega
              clear h10
              rcases Nat.eq_zero_or_pos cr with h0 | h0
              · subst h0
                clear c2 hr
                go_wp2_with fail
                go_roundg (4 - (k + 1))
                case rel => exact ⟨k + 1, 1, by omega, by omega, by go_num, by go_num, by omega, fun _ => by have := HK.out; omega, HF8.out⟩
                case measure => have := HD.out; omega
              · have c0 : (0 : Int) < cr := by omega
                clear hr h0
                go_wp2_with fail
                go_roundg (4 - (k + 1))
                case rel => exact ⟨k + 1, 1, by omega, by omega, by go_num, by go_num, by omega, fun _ => by have := HK.out; omega, HF8.out⟩
                case measure => have := HD.out; omega
          | hand hf hs hh hr hk3 hk =>
            subst hk3
            rw [Frm.same_ne (by rw [hs]; exact st_ne _)] at he he'
            obtain rfl : m = 0 := by
              have h1 := HM.out
              have h2 := HMK.out
              rcases (show m = 0 ∨ m = 1 by omega) with h | h
              · exact h
              · have := h2 h
                omega
            have HTn := hid (turned_any hC F X)
            have htn := HTn.out
            rw [hr, hh] at htn
            clear HTn hr hh
            have HTn := hid htn
            clear htn
            go_wp2_with (first
              | (refine row_load rfl 25 _ rfl _ rfl HB7.out Tryd.underlying25 rfl infoF (hC.size _) ?_)
              | (refine row_load rfl 25 _ rfl _ rfl HBF.out Tryd.underlying25 rfl infoF (hC.size _) ?_))
            refine (HTn.out _).mono ?_
            rintro e w8 ⟨rfl, hF8⟩
            have HF8 := hid (HF7.out.trans hF8)
            have q0 : w8.cell? ⟨wo.heap.size, 0, none⟩ = some (.int .i64 F.f) := by rw [← hf]; exact (HB7.out.keep hF8 (fun h => h)).cell (hC.f X)
            have q18 : w8.cell? ⟨wo.heap.size, 18, none⟩ = some (.int .i64 (wrap64 (F.st + 1))) := by rw [← hs]; exact (HB7.out.keep hF8 (fun h => h)).cell (hC.st X)
            have p0 : w8.cell? ⟨W.heap.size, 0, none⟩ = some (.int .i64 F.f) := (HBF.out.keep hF8 (fun h => h)).cell (hC.f F)
            have p18 : w8.cell? ⟨W.heap.size, 18, none⟩ = some (.int .i64 F.st) := (HBF.out.keep hF8 (fun h => h)).cell (hC.st F)
            have i0 : w8.cell? ⟨W.heap.size + 1, 0, none⟩ = some (.int .i64 i.op) := (HI.out.keep (HF5.out.trans HF8.out) (fun h => h)).cell rfl
            have HK := hid hk
            clear hF8 hf hs hk he he'
            by_cases h10 : i.op = 10
            · have t10 : (i.op == 10) = true := by rw [h10]; rfl
              clear h10
              go_wp2_with fail
              go_roundg (4 - (3 + 1))
              case rel => exact ⟨3 + 1, 1, by omega, by omega, by go_num, by go_num, by omega, fun _ => by have := HK.out; omega, HF8.out⟩
              case measure => have := HD.out; omega
            · have t10 : (i.op == 10) = false := beq_eq_false_iff_ne.2 h10
              clear h10
              go_wp2_with fail
              go_roundg (4 - (3 + 1))
              case rel => exact ⟨3 + 1, 1, by omega, by omega, by go_num, by go_num, by omega, fun _ => by have := HK.out; omega, HF8.out⟩
              case measure => have := HD.out; omega
        · obtain rfl : k = 4 := by omega
          have hm1 : (m : Int) ≤ 1 := by have := HM.out; omega
          have HA9 := hid (HA.out.trans (HF5.out.trans HF.out))
          go_wp2_with fail
          refine (awake_any _ (HT.out _ HA9.out)).mono ?_
          rintro e w9 ⟨rfl, hF9⟩
          go_wp2_with fail
          go_ret
          exact ⟨rfl, HA9.out.trans hF9⟩

theorem stepLaw (F : Frm) (i : Ins) (kd v : Int) (W : World) (ht : Tabs W) :
    Calls Tryd.prog 7 #[F.val, .agg #[.int .i64 i.op, .int .i64 i.a, .int .i64 i.b, .int .i64 i.c, .int .i64 i.n, .int .i64 kd, .int .i64 v]] W (LawPost W) := stepLawC cel_is F i kd v W ht

end Go.Proofs.YtedpgfldkjimpaaDoor
