/-
  The chapter's example comes out true.
-/
import Derived.Test.YtlhpngoplmccjaaEval
import Derived.Test.YtlhpngoplmccjaaNew
namespace Go.Proofs.Ytlhpngoplmccjaa
open Go.RowKit
set_option linter.unusedVariables false

/-- What an operation turns lies in new blocks, but for the machine's own. -/
theorem fr_op_own {S : Nat → Prop} {b : MB} {q cp : Nat} {w wr w' : World} (F : Fr S w wr) (F' : Fr (OM b q cp) wr w') (hb : ∀ k, b.own k → k < w.heap.size → S k) (hq : w.heap.size ≤ q) (hc : w.heap.size ≤ cp) : Fr S w w' := by
  refine F.since F' ?_
  rintro i ((h | h) | h) hlt
  · exact hb i h hlt
  · omega
  · omega

theorem seen5 (op : DOp) (h : op.how = 2) (g : op.got = 5) : op.tell = 5 := by unfold DOp.tell; rw [if_pos (.inl h), g]
theorem done5 (op : DOp) (h : op.how = 1) (g : op.got = 5) : op.tell = 5 := by unfold DOp.tell; rw [if_pos (.inr h), g]

set_option maxRecDepth 100000 in
set_option maxHeartbeats 1000000 in
theorem steals_ok (b : MB) (s : List Int) (w : World) (hM : IsM w b (MO m3 s)) (h1 : 1 < s.length) :
    Calls Try.prog 50 #[.pointer (some ⟨b.m, 0, none⟩), .agg #[.int .i64 0, .int .i64 1]] w fun e w' => e = .returned (.bool true) ∧ Fr b.own w w' := by
  have HM := hid hM
  have HB := hid (fun (u : World) (F : Fr (fun _ => False) w u) => beg_steal (most := 1) 0 (hM.same F))
  have H1 := hid h1
  have HOW := hid hM.own_lt
  clear hM h1
  go_enter Try.func50, Try.ntmps50
  go_wp2_with fail
  refine (HB.out _ (Fr.alloc _ _ _)).mono ?_
  rintro e w1 ⟨o, q, cp, rfl, hI, hF1, ⟨ho, hq, hc⟩, hlt⟩
  have HFA := hid ((Fr.alloc (fun _ => False) w (.cells #[.int .i64 0, .int .i64 1] 34)).trans hF1)
  have HBd := hid ((Blk.new w #[.int .i64 0, .int .i64 1] 34).same hF1)
  have HQC := hid (show w.heap.size < o ∧ w.heap.size < q ∧ w.heap.size < cp from by simp at ho hq hc; omega)
  obtain ⟨tkh, th⟩ := t4
  have HTK := hid (takes_ok b o q cp 1 _ o4 m3 m4 s 4 w1 tkh (live_begin 2 0) (St.begin_ hI (HM.out.same HFA.out) ec.2.2.2 (by omega) (by rw [ecl.2.2.2]; omega)) H1.out (by omega))
  have HTH := hid th
  clear hI hF1 ho hq hc hlt tkh th
  have c0 := HBd.out.cell (i := 0) rfl
  have c1 := HBd.out.cell (i := 1) rfl
  go_wp2_with fail
  refine HTK.out.mono ?_
  rintro e w2 ⟨rfl, cp2, s2, hc2, hS2, hl2, hs2, hF2⟩
  rw [HTH.out]
  have HS2 := hid hS2
  have HSL := hid hs2
  have HL2 := hid (hl2 (.inr HTH.out))
  have HC2 := hid (show w.heap.size < cp2 from by
    have := HQC.out
    rcases hc2 with h | h
    · omega
    · have := HBd.out.lt; omega)
  have HG2 := hid (fr_op_own (S := b.own) (HFA.out.mono fun _ h => h.elim) hF2 (fun k h _ => h) (by have := HQC.out; omega) (by have := HQC.out; omega))
  have HBd2 := hid (HBd.out.keep hF2 (fun hh => by
    have := HQC.out
    rcases hh with (h | h) | h
    · have := HOW.out _ h; omega
    · omega
    · omega))
  have HGT := hid (op_got HS2.out.hI (fun _ h => by rw [HTH.out] at h; cases h))
  rw [seen5 _ HTH.out e5.2.2.2] at HGT
  clear hS2 hl2 hs2 hc2 hF2 HTK c0 c1
  go_wp2_with fail
  refine HGT.out.mono ?_
  rintro e w3 ⟨rfl, hF3⟩
  have HST := hid (show Calls Try.prog 18 #[.pointer (some ⟨o, 0, none⟩), .pointer (some ⟨b.m, 0, none⟩), .int .i64 1] w3 _ from st_step (j := 1) (HS2.out.same hF3) HL2.out (safeB_of e5.1) (by rw [HSL.out]; exact H1.out) (by omega) (by omega))
  have HF3 := hid hF3
  clear hF3
  go_wp2_with fail
  refine HST.out.mono ?_
  rintro e w4 ⟨cp4, hc4, rfl, hS4, hF4⟩
  rw [show (DOp.act 1 o4 m4).1.how = 1 from e5.2.1]
  have HS4 := hid hS4
  have HG4 := hid (fr_op_own (HG2.out.trans (HF3.out.mono fun _ h => h.elim)) hF4 (fun k h _ => h) (by have := HQC.out; omega) (by have := HC2.out; omega))
  have HBd4 := hid ((HBd2.out.same HF3.out).keep hF4 (fun hh => by
    have := HQC.out
    have := HC2.out
    rcases hh with (h | h) | h
    · have := HOW.out _ h; omega
    · omega
    · omega))
  have HGT4 := hid (op_got HS4.out.hI (fun _ h => by rw [e5.2.1] at h; cases h))
  rw [done5 _ e5.2.1 e5.2.2.1] at HGT4
  clear hS4 hc4 hF4 HST
  go_wp2_with fail
  refine HGT4.out.mono ?_
  rintro e w5 ⟨rfl, hF5⟩
  have HBd5 := hid (HBd4.out.same hF5)
  have HLI := hid (dlist_ok b m5 _ ⟨4, 1⟩ 1 w5 (HS4.out.hM.same hF5) e6.2 (by unfold Rg.Right; decide +kernel) (by decide +kernel) (by decide +kernel) (by decide +kernel) (HS4.out.cb.more (by omega)))
  rw [e6.1] at HLI
  have HG5 := hid (HG4.out.trans (hF5.mono fun _ h => h.elim))
  have c0 := HBd5.out.cell (i := 0) rfl
  have c1 := HBd5.out.cell (i := 1) rfl
  clear hF5
  go_wp2_with fail
  refine HLI.out.mono ?_
  rintro e w6 ⟨A, cap, rfl, hO, hF6⟩
  obtain ⟨g, rfl, _, _, _, hcell⟩ := OwnR.cell hO (by simp)
  have l0 : w6.cell? ⟨g, 0, none⟩ = some (.int .i64 6) := hcell 0 _ rfl
  have HG6 := hid (HG5.out.trans (hF6.mono fun _ h => h.elim))
  clear hO hF6 hcell
  go_wp2_with fail
  go_ret
  exact ⟨rfl, HG6.out⟩

set_option maxRecDepth 100000 in
set_option maxHeartbeats 1000000 in
theorem awake_ok (w : World) :
    Calls Try.prog 9 #[] w fun e w' => e = .returned (.bool true) ∧ Fr (fun _ => False) w w' := by
  go_enter Try.func9, Try.ntmps9
  go_wp2_with fail
  refine (new_ok 16 2 _ (by omega) (by omega) (by omega) (by omega)).mono ?_
  rintro e w1 ⟨b, rfl, hM, hF, hown⟩
  have HOWN := hid hown
  have HM := hid (show IsM w1 b (MO ⟨List.replicate 16 0, 0, []⟩ (List.replicate 3 0)) from hM)
  have HF := hid hF
  clear hM hF hown
  go_wp2_with fail
  refine (dnew_ok b _ _ 2 2 0 1 _ HM.out rfl rfl (by simp) (by omega) (by omega) (by omega) (by decide +kernel)).mono ?_
  rintro e w2 ⟨rfl, hM, hF2⟩
  have HM2 := hid (show IsM w2 b (MO x0 (stp (stp (List.replicate 3 0) 2) 2)) from hM)
  obtain ⟨s2, hs2⟩ : ∃ s2, stp (stp (List.replicate 3 0) 2) 2 = s2 := ⟨_, rfl⟩
  have HSL := hid (show s2.length = 3 from by rw [← hs2]; decide +kernel)
  rw [hs2] at HM2
  have HF2 := hid (HF.out.since hF2 (fun i hi hlt => by have := HOWN.out _ hi; omega))
  have HW := hid (Nat.le_trans HF.out.size hF2.size)
  clear hM hF2 hs2
  have HBe := hid (fun (u : World) (x : Int) (M : Mach) (s : List Int) (hu : IsM u b (MO M s)) => beg_push (most := 1) x hu)
  have HU := hid (show (MO x0 s2).used = 4 from by show x0.used = 4; decide +kernel)
  have HUS := hid (used_ok b (MO x0 s2) _ (HM2.out.same (Fr.alloc _ w2 (.cells #[.int .i64 0, .int .i64 1] 34))))
  rw [HU.out] at HUS
  have HBd := hid (Blk.new w2 #[.int .i64 0, .int .i64 1] 34)
  have HFA := hid (HF2.out.trans (Fr.alloc (fun _ => False) w2 (.cells #[.int .i64 0, .int .i64 1] 34)))
  have HOL := hid (show ∀ k, b.own k → k < w2.heap.size from HM2.out.own_lt)
  have HMA := hid (HM2.out.same (Fr.alloc (fun _ => False) w2 (.cells #[.int .i64 0, .int .i64 1] 34)))
  obtain ⟨wa, hwa⟩ : ∃ wa, w2.alloc (.cells #[.int .i64 0, .int .i64 1] 34) = wa := ⟨_, rfl⟩
  have HSZ := hid (show w2.heap.size < wa.heap.size from by rw [← hwa]; simp)
  have HWA := hid hwa
  rw [hwa] at HUS HBd HFA HMA
  have a0 := HBd.out.cell (i := 0) rfl
  have a1 := HBd.out.cell (i := 1) rfl
  go_wp2_with fail
  refine HUS.out.mono ?_
  rintro e w' ⟨rfl, rfl⟩
  clear HUS hwa
  have a0 := HBd.out.cell (i := 0) rfl
  have a1 := HBd.out.cell (i := 1) rfl
  go_wp2_with fail
  refine (HBe.out _ _ _ _ HMA.out).mono ?_
  rintro e v0 ⟨o, q, cp, rfl, hI, hF1, ⟨ho, hq, hc⟩, hlt⟩
  have HMB0 := hid (HMA.out.same hF1)
  have HQC0 := hid (show w2.heap.size < q ∧ w2.heap.size < cp ∧ w.heap.size ≤ w2.heap.size from by have := HSZ.out; have := HW.out; have := HBd.out.lt; omega)
  have HTK0 := hid (takes_ok b o q cp 1 _ o1' x0 m1 s2 5 v0 t1.1 (live_begin 0 5) (St.begin_ hI HMB0.out ec.1 (by omega) (by rw [ecl.1]; omega)) (by rw [HSL.out]; omega) (by omega))
  have HVS0 := hid (show wa.heap.size ≤ v0.heap.size from Nat.le_trans (Nat.le_refl _) hF1.size)
  have HFB0 := hid (HFA.out.trans hF1)
  have HBdB0 := hid (HBd.out.same hF1)
  clear hI hF1 ho hq hc hlt a0 a1
  go_wp2_with fail
  refine HTK0.out.mono ?_
  rintro e u0 ⟨rfl, cpb, t0, hcb, hSb, hlb, hsb, hFb⟩
  rw [show o1'.how = 1 from t1.2]
  have HM_0 := hid hSb.hM
  have HSL0 := hid (show t0.length = 3 from by rw [hsb]; exact HSL.out)
  have HG0 := hid (fr_op_own (S := fun _ => False) HFB0.out hFb (fun k h hlt => by have := HOWN.out _ h; omega) (by have := HQC0.out; omega) (by have := HQC0.out; omega))
  have HBdN0 := hid (HBdB0.out.keep hFb (fun hh => by
    have := HQC0.out
    rcases hh with (h | h) | h
    · have := HOL.out _ h; omega
    · omega
    · omega))
  have HGS0 := hid (show wa.heap.size ≤ u0.heap.size from Nat.le_trans HVS0.out hFb.size)
  clear hcb hSb hlb hsb hFb HTK0
  have a0 := HBdN0.out.cell (i := 0) rfl
  have a1 := HBdN0.out.cell (i := 1) rfl
  go_wp2_with fail
  refine (HBe.out _ _ _ _ HM_0.out).mono ?_
  rintro e v1 ⟨o, q, cp, rfl, hI, hF1, ⟨ho, hq, hc⟩, hlt⟩
  have HMB1 := hid (HM_0.out.same hF1)
  have HQC1 := hid (show w2.heap.size < q ∧ w2.heap.size < cp ∧ w.heap.size ≤ w2.heap.size from by have := HSZ.out; have := HW.out; have := HG0.out.size; have := HGS0.out; omega)
  have HTK1 := hid (takes_ok b o q cp 1 _ o2' m1 m2 t0 9 v1 t2.1 (live_begin 0 6) (St.begin_ hI HMB1.out ec.2.1 (by omega) (by rw [ecl.2.1]; omega)) (by rw [HSL0.out]; omega) (by omega))
  have HVS1 := hid (show wa.heap.size ≤ v1.heap.size from Nat.le_trans (HGS0.out) hF1.size)
  have HFB1 := hid (HG0.out.trans hF1)
  have HBdB1 := hid (HBdN0.out.same hF1)
  clear hI hF1 ho hq hc hlt a0 a1
  go_wp2_with fail
  refine HTK1.out.mono ?_
  rintro e u1 ⟨rfl, cpb, t1, hcb, hSb, hlb, hsb, hFb⟩
  rw [show o2'.how = 1 from t2.2]
  have HM_1 := hid hSb.hM
  have HSL1 := hid (show t1.length = 3 from by rw [hsb]; exact HSL0.out)
  have HG1 := hid (fr_op_own (S := fun _ => False) HFB1.out hFb (fun k h hlt => by have := HOWN.out _ h; omega) (by have := HQC1.out; omega) (by have := HQC1.out; omega))
  have HBdN1 := hid (HBdB1.out.keep hFb (fun hh => by
    have := HQC1.out
    rcases hh with (h | h) | h
    · have := HOL.out _ h; omega
    · omega
    · omega))
  have HGS1 := hid (show wa.heap.size ≤ u1.heap.size from Nat.le_trans HVS1.out hFb.size)
  clear hcb hSb hlb hsb hFb HTK1
  have a0 := HBdN1.out.cell (i := 0) rfl
  have a1 := HBdN1.out.cell (i := 1) rfl
  go_wp2_with fail
  refine (HBe.out _ _ _ _ HM_1.out).mono ?_
  rintro e v2 ⟨o, q, cp, rfl, hI, hF1, ⟨ho, hq, hc⟩, hlt⟩
  have HMB2 := hid (HM_1.out.same hF1)
  have HQC2 := hid (show w2.heap.size < q ∧ w2.heap.size < cp ∧ w.heap.size ≤ w2.heap.size from by have := HSZ.out; have := HW.out; have := HG1.out.size; have := HGS1.out; omega)
  have HTK2 := hid (takes_ok b o q cp 1 _ o3' m2 m3 t1 3 v2 t3.1 (live_begin 0 7) (St.begin_ hI HMB2.out ec.2.2.1 (by omega) (by rw [ecl.2.2.1]; omega)) (by rw [HSL1.out]; omega) (by omega))
  have HVS2 := hid (show wa.heap.size ≤ v2.heap.size from Nat.le_trans (HGS1.out) hF1.size)
  have HFB2 := hid (HG1.out.trans hF1)
  have HBdB2 := hid (HBdN1.out.same hF1)
  clear hI hF1 ho hq hc hlt a0 a1
  go_wp2_with fail
  refine HTK2.out.mono ?_
  rintro e u2 ⟨rfl, cpb, t2, hcb, hSb, hlb, hsb, hFb⟩
  rw [show o3'.how = 4 from t3.2]
  have HM_2 := hid hSb.hM
  have HSL2 := hid (show t2.length = 3 from by rw [hsb]; exact HSL1.out)
  have HG2 := hid (fr_op_own (S := fun _ => False) HFB2.out hFb (fun k h hlt => by have := HOWN.out _ h; omega) (by have := HQC2.out; omega) (by have := HQC2.out; omega))
  have HBdN2 := hid (HBdB2.out.keep hFb (fun hh => by
    have := HQC2.out
    rcases hh with (h | h) | h
    · have := HOL.out _ h; omega
    · omega
    · omega))
  have HGS2 := hid (show wa.heap.size ≤ u2.heap.size from Nat.le_trans HVS2.out hFb.size)
  clear hcb hSb hlb hsb hFb HTK2
  have a0 := HBdN2.out.cell (i := 0) rfl
  have a1 := HBdN2.out.cell (i := 1) rfl
  go_wp2_with fail
  refine (steals_ok b _ _ HM_2.out (by rw [HSL2.out]; omega)).mono ?_
  rintro e w9 ⟨rfl, hF9⟩
  go_wp2_with fail
  go_ret
  exact ⟨rfl, HG2.out.since hF9 (fun i hi hlt => by have := HOWN.out _ hi; omega)⟩
end Go.Proofs.Ytlhpngoplmccjaa
