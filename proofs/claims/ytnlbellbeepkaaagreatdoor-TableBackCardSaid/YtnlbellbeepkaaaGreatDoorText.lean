/-
  Stage 7: a row as a text, the program's.
-/
import Derived.Test.YtnlbellbeepkaaaGreatDoorTabs
namespace Go.Proofs.YtnlbellbeepkaaaGreatDoor
open Go.RowKit
set_option linter.unusedVariables false

/-- The words lie in a row of their own. -/
def CameW (c : Array Value) (w : World) (u : Value) (wx : World) : Prop := ∃ g, u = .pointer (some ⟨g, 0, none⟩) ∧ Blk wx g c ∧ Fr (fun _ => False) w wx

theorem blk_of {W w' : World} {c : Array Value} {t : TypeId} (h : Fr (fun _ => False) (W.alloc (.cells c t)) w') : Blk w' W.heap.size c := (Blk.new W c t).keep h (fun h => h)
theorem blk_of' {W w' : World} {c : Array Value} {t : TypeId} (h : Fr (fun _ => False) (W.alloc (.cells c t)).drew w') : Blk w' W.heap.size c := (Blk.new W c t).drew.keep h (fun h => h)
theorem setRow_blk {w : World} {b : Nat} {c : Array Value} (h : Blk w b c) (c' : Array Value) : Blk (w.setRow b c') b c' := by
  obtain ⟨t, h⟩ := h
  refine ⟨t, ?_⟩
  simp [World.setRow, Array.getElem?_modify, h]
theorem setRow_fr {S : Nat → Prop} (w : World) (b : Nat) (c : Array Value) (h : S b) : Fr S w (w.setRow b c) :=
  ⟨rfl, rfl, rfl, by simp [World.setRow], fun k _ hn => by
    have hne : b ≠ k := fun e => hn (e ▸ h)
    simp [World.setRow, Array.getElem?_modify, hne]⟩
theorem Fr.over {w W W' : World} (h : Fr (fun _ => False) w W) {b : Nat} (hb : Fr (fun k => k = b) W W') (hl : w.heap.size ≤ b) : Fr (fun _ => False) w W' :=
  h.since hb (fun i hi hlt => absurd hlt (by omega))

/-- How many cells seven texts have, kept closed. -/
theorem seven7 : ∃ N : Nat, N = 7 ∧ ∀ w, (sizeOf 59).run Tryz.prog w = .ok N w := ⟨7, rfl, fun _ => by kernel_rfl⟩
def zer7 : Array Value := #[.string ⟨#[]⟩, .string ⟨#[]⟩, .string ⟨#[]⟩, .string ⟨#[]⟩, .string ⟨#[]⟩, .string ⟨#[]⟩, .string ⟨#[]⟩]

/-- A whole row stored, as a walk's simp leaves it. -/
theorem store7 {C : Array Value} (hs : C.size = 7) (h1 : C.all (·.oneCell') = true) : ∀ (w : World) (b : Nat) {old : Array Value}, Blk w b old → old.size = 7 →
    (storeCells ⟨b, 0, none⟩ C.toList 0).run Tryz.prog w = .ok () (w.setRow b C) := by
  intro w b old hB ho
  obtain ⟨t, hB⟩ := hB
  exact run_storeCells_from (P := Tryz.prog) b t C.toList 0 old w hB (by simp [hs, ho]) (fun v hv => (Array.all_eq_true_iff_forall_mem.1 h1) v (by simpa using hv))

set_option maxRecDepth 100000 in
set_option maxHeartbeats 8000000 in
theorem text_any (r : Tw) (w : World) (ht : Tabs w) (hb : Bnd r) (hk : 0 ≤ r.kind ∧ r.kind ≤ 4) (hc : r.cl.size ≤ 200000) :
    Calls Tryz.prog 12 #[.agg (rowC r)] w (TxPost r w) := by
  have HLN := hid (rowT_len hb)
  have HIT := hid (fun (x : Int) (h0 : -9223372036854775808 ≤ x) (h1 : x ≤ 9223372036854775807) (W : World) (hW : Fr (fun _ => False) w W) => itoa_ok x h0 h1 W (ht.same hW))
  have HFM := hid (fun (x : Int) (h0 : -9223372036854775808 ≤ x) (h1 : x ≤ 9223372036854775807) (W : World) (hW : Fr (fun _ => False) w W) => format_ok x h0 h1 W (ht.same hW))
  obtain ⟨kz, hkz⟩ : ∃ n : Nat, r.kind = n := ⟨r.kind.toNat, by omega⟩
  have hk5 : kz < 5 := by omega
  have HKD := hid (fun (W : World) (hW : Fr (fun _ => False) w W) => (show W.cell? ⟨0, kz, none⟩ = some (.string (bs (kindW r.kind))) by rw [(ht.same hW).kds kz hk5, hkz]; rfl))
  have HTW := hid ht.two
  obtain ⟨p0, p1, i0, i1, f0, f1, v0, v1, s0, s1⟩ := hb
  have HC := hid hc
  clear ht hk hc
  obtain ⟨W0, hW0⟩ : ∃ x : Bs, (if r.par = -1 then [45] else Lib.itoa r.par) = x := ⟨_, rfl⟩
  obtain ⟨W6, hW6⟩ : ∃ x : Bs, (if r.cl.size = 0 then [45] else r.cl.data.toList) = x := ⟨_, rfl⟩
  obtain ⟨KW, hKW⟩ : ∃ x : Bs, kindW r.kind = x := ⟨_, rfl⟩
  rw [hKW] at HKD
  have HRW := hid (show rowW r = [W0, Lib.itoa r.in_, Lib.itoa r.fn, KW, Lib.itoa r.v, Lib.itoa r.st, W6] by unfold rowW; rw [hW0, hW6, hKW])
  have HW0 := hid hW0
  have HW6 := hid hW6
  clear hW0 hW6 hKW
  have HEN := hid (fun (e : Ending) (w' : World) (he : e = .returned (.string (bs (glue 32 [W0, Lib.itoa r.in_, Lib.itoa r.fn, KW, Lib.itoa r.v, Lib.itoa r.st, W6] ++ [10])))) (hF : Fr (fun _ => False) w w') => (show TxPost r w e w' from ⟨by rw [he]; unfold rowT; rw [HRW.out], hF⟩))
  have HGL := hid (show (glue 32 [W0, Lib.itoa r.in_, Lib.itoa r.fn, KW, Lib.itoa r.v, Lib.itoa r.st, W6]).length ≤ 1000000 by
    have h1 := HLN.out
    have h2 := HC.out
    unfold rowT at h1
    rw [HRW.out, List.length_append] at h1
    simp only [List.length_cons, List.length_nil] at h1
    omega)
  obtain ⟨p, i, f, k, v, s, cl⟩ := r
  simp only at *
  subst hkz
  unfold rowC
  simp only
  obtain ⟨w1, hw1⟩ : ∃ w1, w1 = w.alloc (.cells #[.int .i64 p, .int .i64 i, .int .i64 f, .int .i64 kz, .int .i64 v, .int .i64 s, .string cl] 34) := ⟨_, rfl⟩
  have HF1 := hid (show Fr (fun _ => False) w w1 by rw [hw1]; exact Fr.alloc _ _ _)
  have HB1 := hid (show Blk w1 w.heap.size #[.int .i64 p, .int .i64 i, .int .i64 f, .int .i64 kz, .int .i64 v, .int .i64 s, .string cl] by rw [hw1]; exact Blk.new _ _ _)
  have HCL := hid (show ∀ W, Fr (fun _ => False) w1 W → W.cell? ⟨w.heap.size, 0, none⟩ = some (.int .i64 p) ∧ W.cell? ⟨w.heap.size, 1, none⟩ = some (.int .i64 i) ∧ W.cell? ⟨w.heap.size, 2, none⟩ = some (.int .i64 f) ∧ W.cell? ⟨w.heap.size, 3, none⟩ = some (.int .i64 kz) ∧ W.cell? ⟨w.heap.size, 4, none⟩ = some (.int .i64 v) ∧ W.cell? ⟨w.heap.size, 5, none⟩ = some (.int .i64 s) ∧ W.cell? ⟨w.heap.size, 6, none⟩ = some (.string cl) ∧ w.heap.size < W.heap.size from fun W hW => by
    have a := HB1.out.keep hW (fun h => h)
    exact ⟨a.cell rfl, a.cell rfl, a.cell rfl, a.cell rfl, a.cell rfl, a.cell rfl, a.cell rfl, a.lt⟩)
  clear HB1
  go_enter Tryz.func12, Tryz.ntmps12
  go_upto_region 2 with fail
  rw [← hw1]
  clear hw1
  obtain ⟨b0, b1, b2, b3, b4, b5, b6, l1⟩ := HCL.out _ (Fr.refl _ _)
  go_upto_if 8 with fail
  go_cut [3] from 8 to 11 (fun u wx => u = .string (bs W0) ∧ Fr (fun _ => False) w1 wx)
  case first =>
    by_cases hp : p = -1
    · have t0 : (p != -1) = false := by simp [hp]
      have HP := hid (show W0 = [45] by rw [← HW0.out, if_pos hp])
      clear hp
      go_wp2_with fail
      go_meet
      case rel => exact ⟨by rw [HP.out]; rfl, Fr.refl _ _⟩
    · have t0 : (p != -1) = true := by simpa using hp
      have HP := hid (show W0 = Lib.itoa p by rw [← HW0.out, if_neg hp])
      clear hp
      go_wp2_with fail
      refine (HIT.out p p0 p1 _ HF1.out).mono ?_
      rintro e w2 ⟨rfl, hF2⟩
      go_wp2_with fail
      go_meet
      case rel => exact ⟨by rw [HP.out], hF2⟩
  case rest =>
    obtain ⟨rfl, hF2⟩ := hcut
    have HF2 := hid hF2
    clear hF2 b0 b1 b2 b3 b4 b5 b6 l1
    obtain ⟨b0, b1, b2, b3, b4, b5, b6, l1⟩ := HCL.out _ HF2.out
    obtain ⟨z, hz⟩ : ∃ z, cl.toList.isEmpty = z := ⟨_, rfl⟩
    have HZ := hid hz
    go_upto_if 14 with fail
    clear hz
    go_cut [4] from 14 to 16 (fun u wx => u = .string (bs W6) ∧ wx = wc)
    case first =>
      cases z with
      | true =>
        have HP := hid (show W6 = [45] by
          rw [← HW6.out, if_pos]
          have h1 := HZ.out
          rw [List.isEmpty_iff, ByteArray.toList_eq] at h1
          have h2 := congrArg List.length h1
          simpa using h2)
        go_wp2_with fail
        go_meet
        case rel => exact ⟨by rw [HP.out]; rfl, rfl⟩
      | false =>
        have HP := hid (show bs W6 = cl by
          rw [← HW6.out, if_neg]
          · exact bs_of cl
          · intro hh
            have h1 := HZ.out
            rw [empty_of hh, ByteArray.toList_eq] at h1
            cases h1)
        go_wp2_with fail
        go_meet
        case rel => exact ⟨by rw [HP.out], rfl⟩
    case rest =>
      obtain ⟨rfl, hwc⟩ := hcut
      subst hwc
      have hFd0 := Fr.refl (fun _ : Nat => False) wc
      have HFd := hid hFd0
      have HF12 := hid (HF1.out.trans HF2.out)
      have HSS := hid (show ∀ W, Fr (fun _ => False) wc W → W.cell? ⟨w.heap.size, 1, none⟩ = some (.int .i64 i) ∧ W.cell? ⟨w.heap.size, 2, none⟩ = some (.int .i64 f) ∧ W.cell? ⟨w.heap.size, 3, none⟩ = some (.int .i64 kz) ∧ W.cell? ⟨w.heap.size, 4, none⟩ = some (.int .i64 v) ∧ W.cell? ⟨w.heap.size, 5, none⟩ = some (.int .i64 s) ∧ W.cell? ⟨0, kz, none⟩ = some (.string (bs KW)) from fun W hW => by
        obtain ⟨_, a1, a2, a3, a4, a5, _, _⟩ := HCL.out _ (HF2.out.trans hW)
        exact ⟨a1, a2, a3, a4, a5, HKD.out _ (HF12.out.trans hW)⟩)
      have HIT2 := hid (fun (x : Int) (h0 : -9223372036854775808 ≤ x) (h1 : x ≤ 9223372036854775807) (W : World) (hW : Fr (fun _ => False) wc W) => HIT.out x h0 h1 W (HF12.out.trans hW))
      have HFM2 := hid (fun (x : Int) (h0 : -9223372036854775808 ≤ x) (h1 : x ≤ 9223372036854775807) (W : World) (hW : Fr (fun _ => False) wc W) => HFM.out x h0 h1 W (HF12.out.trans hW))
      have hkz : (0 : Int) ≤ kz ∧ (kz : Int) < 5 := by omega
      have hgl : (0 : Nat) < wc.heap.size := by have := HTW.out; have := HF12.out.size; omega
      clear hFd0 b0 b1 b2 b3 b4 b5 b6 HIT HFM HCL HKD
      go_upto_region 6 with fail
      obtain ⟨C, hlit⟩ : ∃ C : Array Value, #[.string (bs W0), .string (bs (Lib.itoa i)), .string (bs (Lib.itoa f)), .string (bs KW), .string (bs (Lib.itoa v)), .string (bs (Lib.itoa s)), .string (bs W6)] = C := ⟨_, rfl⟩
      have HLIT := hid hlit
      go_cut [5] from 17 to 35 (fun u wx => CameW C wc u wx)
      case first =>
        obtain ⟨N, hN, hN1⟩ := seven7
        have HN := hid hN
        have hsz : C.size = N := by rw [← hlit, hN]; rfl
        have hst := store7 (C := C) (by rw [← hlit]; rfl) (by rw [← hlit]; simp [Value.oneCell'])
        have hstC := fun V => hst _ _ (Blk.new V zer7 59) rfl
        have hstD := fun V => hst _ _ (Blk.new V zer7 59).drew rfl
        have HST := hid hst
        unfold zer7 at hstC hstD
        clear hst hN
        go_region_held3 (fun W => W.cell? ⟨w.heap.size, 1, none⟩ = some (.int .i64 i) ∧ W.cell? ⟨w.heap.size, 2, none⟩ = some (.int .i64 f) ∧ W.cell? ⟨w.heap.size, 3, none⟩ = some (.int .i64 kz) ∧ W.cell? ⟨w.heap.size, 4, none⟩ = some (.int .i64 v) ∧ W.cell? ⟨w.heap.size, 5, none⟩ = some (.int .i64 s) ∧ W.cell? ⟨0, kz, none⟩ = some (.string (bs KW)))
          (first | exact HSS.out _ HFd.out | exact HSS.out _ (HFd.out.trans (Fr.drew _ _)) | exact HSS.out _ (HFd.out.trans (Fr.alloc _ _ _)) | exact HSS.out _ (HFd.out.trans ((Fr.alloc _ _ _).trans (Fr.drew _ _))) | exact HSS.out _ (HFd.out.over (setRow_fr _ _ _ rfl) HLE.out) | exact HSS.out _ ((HFd.out.trans (Fr.alloc _ _ _)).over (setRow_fr _ _ _ rfl) HFd.out.size) | exact HSS.out _ ((HFd.out.trans ((Fr.alloc _ _ _).trans (Fr.drew _ _))).over (setRow_fr _ _ _ rfl) HFd.out.size))
          (first
            | (go_at_call 21; (with_reducible refine (HIT2.out i i0 i1 _ (by first | exact HFd.out | exact HFd.out.trans (Fr.drew _ _) | exact HFd.out.trans (Fr.alloc _ _ _) | exact HFd.out.trans ((Fr.alloc _ _ _).trans (Fr.drew _ _)))).mono ?_); rintro e wb ⟨rfl, hF⟩; (try (have HBA := hid (blk_of hF); have HLE := hid HFd.out.size; have hst := HST.out _ _ HBA.out rfl)); (try (have HBA := hid (blk_of' hF); have HLE := hid HFd.out.size; have hst := HST.out _ _ HBA.out rfl)); (try (have HBA := hid (HBA.out.keep hF (fun h => h)); have hst := HST.out _ _ HBA.out rfl)); (try (have HBA := hid (HBA.out.drew.keep hF (fun h => h)); have hst := HST.out _ _ HBA.out rfl)); have HFd := hid (HFd.out.trans (Fr.trans (by first | exact Fr.refl _ _ | exact Fr.drew _ _ | exact Fr.alloc _ _ _ | exact (Fr.alloc _ _ _).trans (Fr.drew _ _)) hF)); clear hF)
            | (go_at_call 21; (with_reducible refine (HIT2.out f f0 f1 _ (by first | exact HFd.out | exact HFd.out.trans (Fr.drew _ _) | exact HFd.out.trans (Fr.alloc _ _ _) | exact HFd.out.trans ((Fr.alloc _ _ _).trans (Fr.drew _ _)))).mono ?_); rintro e wb ⟨rfl, hF⟩; (try (have HBA := hid (blk_of hF); have HLE := hid HFd.out.size; have hst := HST.out _ _ HBA.out rfl)); (try (have HBA := hid (blk_of' hF); have HLE := hid HFd.out.size; have hst := HST.out _ _ HBA.out rfl)); (try (have HBA := hid (HBA.out.keep hF (fun h => h)); have hst := HST.out _ _ HBA.out rfl)); (try (have HBA := hid (HBA.out.drew.keep hF (fun h => h)); have hst := HST.out _ _ HBA.out rfl)); have HFd := hid (HFd.out.trans (Fr.trans (by first | exact Fr.refl _ _ | exact Fr.drew _ _ | exact Fr.alloc _ _ _ | exact (Fr.alloc _ _ _).trans (Fr.drew _ _)) hF)); clear hF)
            | (go_at_call 22; (with_reducible refine (HFM2.out v v0 v1 _ (by first | exact HFd.out | exact HFd.out.trans (Fr.drew _ _) | exact HFd.out.trans (Fr.alloc _ _ _) | exact HFd.out.trans ((Fr.alloc _ _ _).trans (Fr.drew _ _)))).mono ?_); rintro e wb ⟨rfl, hF⟩; (try (have HBA := hid (blk_of hF); have HLE := hid HFd.out.size; have hst := HST.out _ _ HBA.out rfl)); (try (have HBA := hid (blk_of' hF); have HLE := hid HFd.out.size; have hst := HST.out _ _ HBA.out rfl)); (try (have HBA := hid (HBA.out.keep hF (fun h => h)); have hst := HST.out _ _ HBA.out rfl)); (try (have HBA := hid (HBA.out.drew.keep hF (fun h => h)); have hst := HST.out _ _ HBA.out rfl)); have HFd := hid (HFd.out.trans (Fr.trans (by first | exact Fr.refl _ _ | exact Fr.drew _ _ | exact Fr.alloc _ _ _ | exact (Fr.alloc _ _ _).trans (Fr.drew _ _)) hF)); clear hF)
            | (go_at_call 21; (with_reducible refine (HIT2.out s s0 s1 _ (by first | exact HFd.out | exact HFd.out.trans (Fr.drew _ _) | exact HFd.out.trans (Fr.alloc _ _ _) | exact HFd.out.trans ((Fr.alloc _ _ _).trans (Fr.drew _ _)))).mono ?_); rintro e wb ⟨rfl, hF⟩; (try (have HBA := hid (blk_of hF); have HLE := hid HFd.out.size; have hst := HST.out _ _ HBA.out rfl)); (try (have HBA := hid (blk_of' hF); have HLE := hid HFd.out.size; have hst := HST.out _ _ HBA.out rfl)); (try (have HBA := hid (HBA.out.keep hF (fun h => h)); have hst := HST.out _ _ HBA.out rfl)); (try (have HBA := hid (HBA.out.drew.keep hF (fun h => h)); have hst := HST.out _ _ HBA.out rfl)); have HFd := hid (HFd.out.trans (Fr.trans (by first | exact Fr.refl _ _ | exact Fr.drew _ _ | exact Fr.alloc _ _ _ | exact (Fr.alloc _ _ _).trans (Fr.drew _ _)) hF)); clear hF))
        all_goals
          go_wp2_with fail
          go_meet
          case rel => first
            | exact ⟨_, rfl, setRow_blk HBA.out _, HFd.out.over (setRow_fr _ _ _ rfl) HLE.out⟩
            | exact ⟨_, rfl, setRow_blk (Blk.new _ _ _) _, (HFd.out.trans (Fr.alloc _ _ _)).over (setRow_fr _ _ _ rfl) HFd.out.size⟩
            | exact ⟨_, rfl, setRow_blk (Blk.new _ _ _).drew _, (HFd.out.trans ((Fr.alloc _ _ _).trans (Fr.drew _ _))).over (setRow_fr _ _ _ rfl) HFd.out.size⟩
      case rest =>
        obtain ⟨g, rfl, hB5, hF5⟩ := hcut
        rw [← HLIT.out] at hB5
        clear hlit
        have HF5 := hid (HF12.out.trans hF5)
        have hJ := join7 wc g [W0, Lib.itoa i, Lib.itoa f, KW, Lib.itoa v, Lib.itoa s, W6] hB5 rfl HGL.out
        have HJ := hid hJ
        have l5 := hB5.lt
        clear hJ hB5 hF5 HSS HIT2 HFM2 HFd
        go_wp2_with fail
        refine HJ.out.mono ?_
        rintro e w6 ⟨rfl, hF6⟩
        have HF6 := hid (HF5.out.trans hF6)
        have hq := add_nl (glue 32 [W0, Lib.itoa i, Lib.itoa f, KW, Lib.itoa v, Lib.itoa s, W6]) HGL.out
        clear hF6
        go_wp2_with fail
        go_ret
        exact HEN.out _ _ rfl HF6.out

end Go.Proofs.YtnlbellbeepkaaaGreatDoor
