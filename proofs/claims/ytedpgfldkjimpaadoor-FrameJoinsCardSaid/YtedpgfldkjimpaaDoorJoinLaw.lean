/-
  FrameJoins.
-/
import Derived.Test.YtedpgfldkjimpaaDoorLawBits
import Derived.Test.YtedpgfldkjimpaaDoorJoins
namespace Go.Proofs.YtedpgfldkjimpaaDoor
open Go.RowKit
set_option linter.unusedVariables false

/-- A task in a new block, a code and a truth. -/
def CameJ (cel : Frm → Array Value) (G : Frm) (x : Int) (b : Bool) (w : World) (u v1 v2 : Value) (wx : World) : Prop := ∃ g, u = .pointer (some ⟨g, 0, none⟩) ∧ v1 = .int .i64 x ∧ v2 = .bool b ∧ Blk wx g (cel G) ∧ Fr (fun _ => False) w wx

set_option maxRecDepth 100000 in
set_option maxHeartbeats 4000000 in
theorem joinLawC {cel : Frm → Array Value} (hC : Cel cel) (F : Frm) (i : Ins) (kd v : Int) (W : World) (ht : Tabs W) : Calls Tryd.prog 5 #[.agg (cel F), .agg #[.int .i64 i.op, .int .i64 i.a, .int .i64 i.b, .int .i64 i.c, .int .i64 i.n, .int .i64 kd, .int .i64 v]] W (LawPost W) := by
  have HT := hid (fun (w' : World) (F' : Fr (fun _ => False) W w') => ht.same F')
  clear ht
  obtain ⟨G, hG⟩ : ∃ G, G = F.joined i kd v := ⟨_, rfl⟩
  obtain ⟨b, hb⟩ : ∃ b, b = panics i kd := ⟨_, rfl⟩
  obtain ⟨x, hx⟩ : ∃ x, x = codeOf i kd v := ⟨_, rfl⟩
  have HP := hid (fun (w' : World) (F' : Fr (fun _ => False) W w') => join_any hC F i kd v w' (HT.out w' F'))
  have HR := hid (fun (w' : World) => rjoin_any hC F i kd v w')
  rw [← hG, ← hb, ← hx] at HP HR
  unfold Ins.val at HP HR
  clear hG hb hx
  obtain ⟨w1, hw1⟩ : ∃ w1, w1 = (W.alloc (.cells (cel F) 25)).alloc (.cells #[.int .i64 i.op, .int .i64 i.a, .int .i64 i.b, .int .i64 i.c, .int .i64 i.n, .int .i64 kd, .int .i64 v] 58) := ⟨_, rfl⟩
  obtain ⟨hA, hB, hI⟩ := two W (cel F) #[.int .i64 i.op, .int .i64 i.a, .int .i64 i.b, .int .i64 i.c, .int .i64 i.n, .int .i64 kd, .int .i64 v] 25 58
  rw [← hw1] at hA hB hI
  have HA := hid hA
  have HB := hid hB
  have HI := hid hI
  clear hA hB hI
  go_enter Tryd.func5, Tryd.ntmps5
  go_upto_region 1 with fail
  rw [← hw1]
  clear hw1
  obtain ⟨N, hN, hN1, hN2⟩ := nineteen
  have hsz : ∀ F, (cel F).size = N := fun F => by rw [hC.size, hN]
  have HN := hid hN
  clear hN
  have HS := hid (show ∀ w', Fr (fun _ => False) w1 w' → (loadCellsFrom ⟨W.heap.size, 0, none⟩ 0 N #[]).run Tryd.prog w' = .ok (cel F) w' ∧ w'.cell? ⟨W.heap.size + 1, 0, none⟩ = some (.int .i64 i.op) ∧ w'.cell? ⟨W.heap.size + 1, 1, none⟩ = some (.int .i64 i.a) ∧ w'.cell? ⟨W.heap.size + 1, 2, none⟩ = some (.int .i64 i.b) ∧ w'.cell? ⟨W.heap.size + 1, 3, none⟩ = some (.int .i64 i.c) ∧ w'.cell? ⟨W.heap.size + 1, 4, none⟩ = some (.int .i64 i.n) ∧ w'.cell? ⟨W.heap.size + 1, 5, none⟩ = some (.int .i64 kd) ∧ w'.cell? ⟨W.heap.size + 1, 6, none⟩ = some (.int .i64 v) from fun w' F' => ⟨load_eq (HB.out.keep F' (fun h => h)) (hsz _), (HI.out.keep F' (fun h => h)).cell rfl, (HI.out.keep F' (fun h => h)).cell rfl, (HI.out.keep F' (fun h => h)).cell rfl, (HI.out.keep F' (fun h => h)).cell rfl, (HI.out.keep F' (fun h => h)).cell rfl, (HI.out.keep F' (fun h => h)).cell rfl, (HI.out.keep F' (fun h => h)).cell rfl⟩)
  obtain ⟨l1, i10, i11, i12, i13, i14, i15, i16⟩ := HS.out w1 (Fr.refl _ _)
  go_wp2_with fail
  refine (usual_any hC F w1).mono ?_
  rintro e w2 ⟨⟨us, rfl⟩, hF2⟩
  obtain ⟨l2, i20, i21, i22, i23, i24, i25, i26⟩ := HS.out w2 hF2
  clear l1 i10 i11 i12 i13 i14 i15 i16
  cases us
  · go_wp2_with fail
    refine (awake_any w2 (HT.out _ (HA.out.trans hF2))).mono ?_
    rintro e w3 ⟨rfl, hF3⟩
    go_wp2_with fail
    go_ret
    exact ⟨rfl, HA.out.trans (hF2.trans hF3)⟩
  · go_wp2_with fail
    refine (HP.out _ (HA.out.trans hF2)).mono ?_
    rintro e w3 ⟨rfl, hF3⟩
    go_wp2_with (refine row_store rfl 25 _ _ rfl _ _ rfl rfl (Blk.new w3 zeros 25) infoF rfl (hC.size _) (hC.one _) ?_)
    intro w4 hB4 hF4
    have HF4 := hid (show Fr (fun _ => False) w1 w4 from ((hF2.trans hF3).trans (Fr.alloc _ _ _)).over hF4 (Nat.le_trans hF2.size hF3.size))
    have HB4 := hid hB4
    clear hF4 l2 i20 i21 i22 i23 i24 i25 i26 hB4
    go_upto_region 4 with fail
    go_cut [8, 9, 10] from 27 to 39 (fun u v1 v2 wx => CameJ cel G x b w4 u v1 v2 wx)
    case first =>
      have HFd := hid (Fr.refl (fun _ => False) w4)
      have hstC : ∀ (V : World) (X : Frm), (storeCells ⟨V.heap.size, 0, none⟩ (cel X).toList 0).run Tryd.prog (V.alloc (.cells zeros 32)) = .ok () ((V.alloc (.cells zeros 32)).setRow V.heap.size (cel X)) := fun V X => store_at (Blk.new V zeros _) rfl (hC.size X) (hC.one X)
      have hstD : ∀ (V : World) (X : Frm), (storeCells ⟨V.heap.size, 0, none⟩ (cel X).toList 0).run Tryd.prog (V.alloc (.cells zeros 32)).drew = .ok () ((V.alloc (.cells zeros 32)).drew.setRow V.heap.size (cel X)) := fun V X => store_at (Blk.new V zeros _).drew rfl (hC.size X) (hC.one X)
      unfold zeros at hstC hstD
      go_region_held3 (fun w' => (loadCellsFrom ⟨W.heap.size, 0, none⟩ 0 N #[]).run Tryd.prog w' = .ok (cel F) w' ∧ w'.cell? ⟨W.heap.size + 1, 0, none⟩ = some (.int .i64 i.op) ∧ w'.cell? ⟨W.heap.size + 1, 1, none⟩ = some (.int .i64 i.a) ∧ w'.cell? ⟨W.heap.size + 1, 2, none⟩ = some (.int .i64 i.b) ∧ w'.cell? ⟨W.heap.size + 1, 3, none⟩ = some (.int .i64 i.c) ∧ w'.cell? ⟨W.heap.size + 1, 4, none⟩ = some (.int .i64 i.n) ∧ w'.cell? ⟨W.heap.size + 1, 5, none⟩ = some (.int .i64 kd) ∧ w'.cell? ⟨W.heap.size + 1, 6, none⟩ = some (.int .i64 v))
        (first | exact HS.out _ (HF4.out.trans HFd.out) | exact HS.out _ (HF4.out.trans (HFd.out.trans (Fr.drew _ _))) | exact HS.out _ (HF4.out.trans (HFd.out.trans (Fr.alloc _ _ _))) | exact HS.out _ (HF4.out.trans (HFd.out.trans ((Fr.alloc _ _ _).trans (Fr.drew _ _)))) | exact HS.out _ (HF4.out.trans (HFd.out.over (setRow_fr _ _ _ rfl) (by first | exact Nat.le_refl _ | exact HSZ.out))) | exact HS.out _ (HF4.out.trans ((HFd.out.trans (Fr.alloc _ _ _)).over (setRow_fr _ _ _ rfl) HFd.out.size)) | exact HS.out _ (HF4.out.trans ((HFd.out.trans ((Fr.alloc _ _ _).trans (Fr.drew _ _))).over (setRow_fr _ _ _ rfl) HFd.out.size)))
        (first
          | (go_at_call 14; (with_reducible refine (plain_any hC F _).mono ?_); rintro e w6 ⟨rfl, hF6⟩; (try (have HBA := hid (blk_of' hF6))); (try (have HBA := hid (blk_of hF6))); have HFd := hid (HFd.out.trans (Fr.trans (by first | exact Fr.refl _ _ | exact Fr.drew _ _ | exact Fr.alloc _ _ _ | exact (Fr.alloc _ _ _).trans (Fr.drew _ _)) hF6)); have HSZ := hid HFd.out.size; clear hF6)
          | (go_at_call 26; (with_reducible refine (HR.out _).mono ?_); rintro e w7 ⟨rfl, hF7⟩; (try (have HBB := hid (blk_of' hF7); have hst := fun X => store_at (P := Tryd.prog) HBB.out rfl (hC.size X) (hC.one X))); (try (have HBB := hid (blk_of hF7); have hst := fun X => store_at (P := Tryd.prog) HBB.out rfl (hC.size X) (hC.one X))); (try (have HBB := hid (HBA.out.keep hF7 (fun h => h)); have hst := fun X => store_at (P := Tryd.prog) HBB.out rfl (hC.size X) (hC.one X))); have HFd := hid (HFd.out.trans (Fr.trans (by first | exact Fr.refl _ _ | exact Fr.drew _ _ | exact Fr.alloc _ _ _ | exact (Fr.alloc _ _ _).trans (Fr.drew _ _)) hF7)); clear hF7))
      all_goals
        go_wp2_with fail
        go_meet
        case rel => first
          | exact ⟨_, rfl, rfl, rfl, setRow_blk HBB.out _, HFd.out.over (setRow_fr _ _ _ rfl) (by first | exact Nat.le_refl _ | exact HSZ.out)⟩
          | exact ⟨_, rfl, rfl, rfl, setRow_blk (Blk.new _ _ _) _, (HFd.out.trans (Fr.alloc _ _ _)).over (setRow_fr _ _ _ rfl) HFd.out.size⟩
          | exact ⟨_, rfl, rfl, rfl, setRow_blk (Blk.new _ _ _).drew _, (HFd.out.trans ((Fr.alloc _ _ _).trans (Fr.drew _ _))).over (setRow_fr _ _ _ rfl) HFd.out.size⟩
    case rest =>
      obtain ⟨g, rfl, rfl, rfl, hB5, hF5⟩ := hcut
      have l1 := load_eq (P := Tryd.prog) (HB4.out.keep hF5 (fun h => h)) (hsz _)
      have l2 := load_eq (P := Tryd.prog) hB5 (hsz _)
      have HF5 := hid (HA.out.trans (HF4.out.trans hF5))
      clear hB5 hF5
      go_wp2_with fail
      refine (same_any hC G _).mono ?_
      rintro e w6 ⟨rfl, hF6⟩
      clear l1 l2
      go_wp2_with fail
      have HF9 := hid (HF5.out.trans hF6)
      refine (awake_any w6 (HT.out _ HF9.out)).mono ?_
      rintro e w10 ⟨rfl, hF10⟩
      go_wp2_with fail
      go_ret
      exact ⟨rfl, HF9.out.trans hF10⟩

theorem joinLaw (F : Frm) (i : Ins) (kd v : Int) (W : World) (ht : Tabs W) : Calls Tryd.prog 5 #[F.val, .agg #[.int .i64 i.op, .int .i64 i.a, .int .i64 i.b, .int .i64 i.c, .int .i64 i.n, .int .i64 kd, .int .i64 v]] W (LawPost W) := joinLawC cel_is F i kd v W ht

end Go.Proofs.YtedpgfldkjimpaaDoor
