/-
  The document's operations of a deque: copying, and growing.
-/
import Derived.Test.YtiofdfgcghiibaaRefOp2
namespace Go.Proofs.Ytiofdfgcghiibaa
open Go.RowKit
set_option linter.unusedVariables false

set_option maxRecDepth 100000 in
set_option maxHeartbeats 1000000 in
theorem ru5_load (B c g r cp n cap : Nat) (most size did : Int) (L : List Int) (x bo t ra rl ta tl pl cx got err : Int) (won : Bool) (w : World) (hO : RO w r cp most ⟨0, 5, x, bo, t, ⟨ra, rl⟩, ⟨ta, tl⟩, pl, cx, false, won, 0, got, err⟩) (hC : RC w B c g L n cap size did) (hS : RSep c g r cp) (h3 : 3 ≤ n) (p : Nat) (hp : Rg.place ⟨ra, rl⟩ pl = p) (hpn : p < n) (vp : Int) (hvp : L.getD p 0 = vp) (hne : pl ≠ bo) :
    Calls Try.prog 57 #[.pointer (some ⟨r, 0, none⟩), .pointer (some ⟨c, 0, none⟩)] w (RPost B c g r cp most ⟨0, 5, x, bo, t, ⟨ra, rl⟩, ⟨ta, tl⟩, pl, vp, true, won, 0, got, err⟩ (L) n cap size did w) := by
  obtain ⟨cv, hO, hV⟩ := hO
  unfold rc16 at hO
  have HO := hid hO
  have HC := hid hC
  have HS := hid hS
  have HV := hid hV
  have kd0 := hO.cell (i := 0) rfl
  have kd1 := hO.cell (i := 4) rfl
  have cs := hC.hc.cell (i := 0) rfl
  have n1 : r ≠ g := hS.rg
  have n2 : r ≠ c := hS.rc
  have n3 : c ≠ g := hC.ne
  have n4 : g ≠ r := hS.rg.symm
  have n5 : c ≠ r := hS.rc.symm
  have n6 : g ≠ c := hC.ne.symm
  obtain ⟨hcv, hDD⟩ := hV rfl rfl
  have hDD : IsD w cp ⟨ra, rl, ta, tl, pl, bo, cx, false⟩ := hDD
  subst hcv
  obtain ⟨ex, hg, hgs⟩ := hC.hg
  have hg : TBlk w g (ints L ++ ex) 2 := hg
  have hln := hC.ln
  have HST := hid (show ∀ v, Fr (fun _ => False) w v → Calls Try.prog 84 #[.pointer (some ⟨cp, 0, none⟩), .slice (some ⟨g, 0, none⟩) n cap, .int .i64 0, .int .i64 0] v (fun e w' => e = .returned (.tuple #[.bool false, .bool true, .int .i64 0]) ∧ IsD w' cp ⟨ra, rl, ta, tl, pl, bo, vp, true⟩ ∧ TBlk w' g (ints L ++ ex) 2 ∧ Fr (fun i => i = cp) v w') from fun v F => by
      have h := rstep0_load cp g cap ⟨ra, rl, ta, tl, pl, bo, cx, false⟩ L ex 0 v (hDD.keep F id) hne rfl p ⟨by omega, by omega⟩ hp (by rw [hln]; exact hpn) (TBlk.keep hg F id) hS.pg
      rw [hln, hvp] at h
      exact h)
  have HLN := hid hln
  have HGS := hid hgs
  clear hDD hg hln hgs
  have HSa := hid (show ∀ v, Fr (fun i => i = cp ∨ i = g) w v → v.cell? ⟨c, 0, none⟩ = some (.slice (some ⟨g, 0, none⟩) n cap) ∧ v.cell? ⟨r, 11, none⟩ = some (.pointer (some ⟨cp, 0, none⟩)) from fun v F => ⟨(HC.out.hc.keep F (fun hh => by rcases hh with hh | hh; exact HS.out.pc hh.symm; exact HC.out.ne hh)).cell (i := 0) rfl, (HO.out.keep F (fun hh => by rcases hh with hh | hh; exact HS.out.pr hh.symm; exact HS.out.rg hh)).cell (i := 11) rfl⟩)
  have HFd := hid (Fr.refl (fun _ => False) w)
  have HFe := hid (Fr.refl (fun i => i = cp ∨ i = g) w)
  clear hO hC hS hV
  go_enter Try.func57, Try.ntmps57
  go_upto_region 28 with fail
  go_region_held3 (fun v => v.cell? ⟨c, 0, none⟩ = some (.slice (some ⟨g, 0, none⟩) n cap) ∧ v.cell? ⟨r, 11, none⟩ = some (.pointer (some ⟨cp, 0, none⟩)))
    (first | exact HSa.out _ HFe.out | exact HSa.out _ (HFe.out.trans (Fr.drew _ _)))
    (first
      | (go_at_call 84; ((with_reducible refine (HST.out _ (by first | exact HFd.out | exact HFd.out.trans (Fr.drew _ _))).mono ?_); rintro e w6 ⟨rfl, hD6, hG6, hF6⟩; have HFe := hid (Fr.trans (HFd.out.mono fun _ h => h.elim) (Fr.trans (by first | exact Fr.refl _ _ | exact Fr.drew _ _) (hF6.mono (T := fun i => i = cp ∨ i = g) fun _ h => Or.inl h))); have HD6 := hid hD6; have HG6 := hid hG6; clear hF6 hD6 hG6)))
  all_goals
    have HO1 := hid (HO.out.keep HFe.out (fun hh => by rcases hh with hh | hh; exact HS.out.pr hh.symm; exact HS.out.rg hh))
    have HC1 := hid (show RC _ B c g (L) n cap size did from ⟨HC.out.hc.keep HFe.out (fun hh => by rcases hh with hh | hh; exact HS.out.pc hh.symm; exact HC.out.ne hh), ⟨ex, HG6.out, by have := HGS.out; simpa [ints] using this⟩, by first | exact HLN.out | (rw [List.length_set]; exact HLN.out), HC.out.nc, HC.out.cm, HC.out.hB, HC.out.ne⟩)
    have HF1 := hid (HFe.out.mono (T := RS r g cp) fun _ h => h.elim (fun h => .inr (.inr h)) (fun h => .inr (.inl h)))
    have kf4 := HO1.out.frozen 4
    have ks4 := HO1.out.cell (i := 4) rfl
    go_wp2_with fail
    refine bodyPost_end (v := .tuple #[]) (by simp [results, Try.results57, go_sem]) rfl ?_
    have HB9 := HO1.out
    exact ⟨rfl, ⟨_, by simpa [rc16] using HB9, fun _ _ => ⟨rfl, HD6.out⟩⟩, HC1.out, HF1.out⟩
set_option maxRecDepth 100000 in
set_option maxHeartbeats 1000000 in
theorem ru5_last (B c g r cp n cap : Nat) (most size did : Int) (L : List Int) (x bo t ra rl ta tl pl cx got err : Int) (won : Bool) (w : World) (hO : RO w r cp most ⟨0, 5, x, bo, t, ⟨ra, rl⟩, ⟨ta, tl⟩, pl, cx, true, won, 0, got, err⟩) (hC : RC w B c g L n cap size did) (hS : RSep c g r cp) (h3 : 3 ≤ n) (p : Nat) (hp : Rg.place ⟨ta, tl⟩ pl = p) (hpn : p < n) (hne : pl ≠ bo) (hl1 : -100000 ≤ pl) (hl2 : pl ≤ 100000) (hc : (pl + 1 == bo) = true) :
    Calls Try.prog 57 #[.pointer (some ⟨r, 0, none⟩), .pointer (some ⟨c, 0, none⟩)] w (RPost B c g r cp most ⟨0, 6, x, bo, t, ⟨ra, rl⟩, ⟨ta, tl⟩, pl + 1, cx, false, won, 0, got, err⟩ (L.set p cx) n cap size did w) := by
  obtain ⟨cv, hO, hV⟩ := hO
  unfold rc16 at hO
  have HO := hid hO
  have HC := hid hC
  have HS := hid hS
  have HV := hid hV
  have kd0 := hO.cell (i := 0) rfl
  have kd1 := hO.cell (i := 4) rfl
  have cs := hC.hc.cell (i := 0) rfl
  have n1 : r ≠ g := hS.rg
  have n2 : r ≠ c := hS.rc
  have n3 : c ≠ g := hC.ne
  have n4 : g ≠ r := hS.rg.symm
  have n5 : c ≠ r := hS.rc.symm
  have n6 : g ≠ c := hC.ne.symm
  obtain ⟨hcv, hDD⟩ := hV rfl rfl
  have hDD : IsD w cp ⟨ra, rl, ta, tl, pl, bo, cx, true⟩ := hDD
  subst hcv
  obtain ⟨ex, hg, hgs⟩ := hC.hg
  have hg : TBlk w g (ints L ++ ex) 2 := hg
  have hln := hC.ln
  have HST := hid (show ∀ v, Fr (fun _ => False) w v → Calls Try.prog 84 #[.pointer (some ⟨cp, 0, none⟩), .slice (some ⟨g, 0, none⟩) n cap, .int .i64 0, .int .i64 0] v (fun e w' => e = .returned (.tuple #[.bool true, .bool true, .int .i64 0]) ∧ IsD w' cp ⟨ra, rl, ta, tl, pl + 1, bo, cx, false⟩ ∧ TBlk w' g (ints (L.set p cx) ++ ex) 2 ∧ Fr (fun i => i = cp ∨ i = g) v w') from fun v F => by
      have h := rstep0_store cp g cap ⟨ra, rl, ta, tl, pl, bo, cx, true⟩ L ex 0 v (hDD.keep F id) hne rfl p ⟨by omega, by omega⟩ hp (by rw [hln]; exact hpn) (TBlk.keep hg F id) hS.pg (by show (-9223372036854775808 : Int) ≤ pl; omega) (by show pl < (9223372036854775807 : Int); omega)
      rw [hln] at h
      simp only [hc] at h
      exact h)
  have HLN := hid hln
  have HGS := hid hgs
  clear hDD hg hln hgs
  have HSa := hid (show ∀ v, Fr (fun i => i = cp ∨ i = g) w v → v.cell? ⟨c, 0, none⟩ = some (.slice (some ⟨g, 0, none⟩) n cap) ∧ v.cell? ⟨r, 11, none⟩ = some (.pointer (some ⟨cp, 0, none⟩)) from fun v F => ⟨(HC.out.hc.keep F (fun hh => by rcases hh with hh | hh; exact HS.out.pc hh.symm; exact HC.out.ne hh)).cell (i := 0) rfl, (HO.out.keep F (fun hh => by rcases hh with hh | hh; exact HS.out.pr hh.symm; exact HS.out.rg hh)).cell (i := 11) rfl⟩)
  have HFd := hid (Fr.refl (fun _ => False) w)
  have HFe := hid (Fr.refl (fun i => i = cp ∨ i = g) w)
  clear hO hC hS hV
  go_enter Try.func57, Try.ntmps57
  go_upto_region 28 with fail
  go_region_held3 (fun v => v.cell? ⟨c, 0, none⟩ = some (.slice (some ⟨g, 0, none⟩) n cap) ∧ v.cell? ⟨r, 11, none⟩ = some (.pointer (some ⟨cp, 0, none⟩)))
    (first | exact HSa.out _ HFe.out | exact HSa.out _ (HFe.out.trans (Fr.drew _ _)))
    (first
      | (go_at_call 84; ((with_reducible refine (HST.out _ (by first | exact HFd.out | exact HFd.out.trans (Fr.drew _ _))).mono ?_); rintro e w6 ⟨rfl, hD6, hG6, hF6⟩; have HFe := hid (Fr.trans (HFd.out.mono fun _ h => h.elim) (Fr.trans (by first | exact Fr.refl _ _ | exact Fr.drew _ _) hF6)); have HD6 := hid hD6; have HG6 := hid hG6; clear hF6 hD6 hG6)))
  all_goals
    have HO1 := hid (HO.out.keep HFe.out (fun hh => by rcases hh with hh | hh; exact HS.out.pr hh.symm; exact HS.out.rg hh))
    have HC1 := hid (show RC _ B c g (L.set p cx) n cap size did from ⟨HC.out.hc.keep HFe.out (fun hh => by rcases hh with hh | hh; exact HS.out.pc hh.symm; exact HC.out.ne hh), ⟨ex, HG6.out, by have := HGS.out; simpa [ints] using this⟩, by first | exact HLN.out | (rw [List.length_set]; exact HLN.out), HC.out.nc, HC.out.cm, HC.out.hB, HC.out.ne⟩)
    have HF1 := hid (HFe.out.mono (T := RS r g cp) fun _ h => h.elim (fun h => .inr (.inr h)) (fun h => .inr (.inl h)))
    have kf4 := HO1.out.frozen 4
    have ks4 := HO1.out.cell (i := 4) rfl
    go_wp2_with fail
    refine bodyPost_end (v := .tuple #[]) (by simp [results, Try.results57, go_sem]) rfl ?_
    have HB9 := ((HO1.out).set 4 (.int .i64 6))
    exact ⟨rfl, ⟨_, by simpa [rc16] using HB9, fun _ h => by cases h⟩, ((HC1.out).rset n2 n1 4 (.int .i64 6)), ((HF1.out).trans (frs_r _ r g cp 4 (.int .i64 6)))⟩
set_option maxRecDepth 100000 in
set_option maxHeartbeats 1000000 in
theorem ru5_store (B c g r cp n cap : Nat) (most size did : Int) (L : List Int) (x bo t ra rl ta tl pl cx got err : Int) (won : Bool) (w : World) (hO : RO w r cp most ⟨0, 5, x, bo, t, ⟨ra, rl⟩, ⟨ta, tl⟩, pl, cx, true, won, 0, got, err⟩) (hC : RC w B c g L n cap size did) (hS : RSep c g r cp) (h3 : 3 ≤ n) (p : Nat) (hp : Rg.place ⟨ta, tl⟩ pl = p) (hpn : p < n) (hne : pl ≠ bo) (hl1 : -100000 ≤ pl) (hl2 : pl ≤ 100000) (hc : (pl + 1 == bo) = false) :
    Calls Try.prog 57 #[.pointer (some ⟨r, 0, none⟩), .pointer (some ⟨c, 0, none⟩)] w (RPost B c g r cp most ⟨0, 5, x, bo, t, ⟨ra, rl⟩, ⟨ta, tl⟩, pl + 1, cx, false, won, 0, got, err⟩ (L.set p cx) n cap size did w) := by
  obtain ⟨cv, hO, hV⟩ := hO
  unfold rc16 at hO
  have HO := hid hO
  have HC := hid hC
  have HS := hid hS
  have HV := hid hV
  have kd0 := hO.cell (i := 0) rfl
  have kd1 := hO.cell (i := 4) rfl
  have cs := hC.hc.cell (i := 0) rfl
  have n1 : r ≠ g := hS.rg
  have n2 : r ≠ c := hS.rc
  have n3 : c ≠ g := hC.ne
  have n4 : g ≠ r := hS.rg.symm
  have n5 : c ≠ r := hS.rc.symm
  have n6 : g ≠ c := hC.ne.symm
  obtain ⟨hcv, hDD⟩ := hV rfl rfl
  have hDD : IsD w cp ⟨ra, rl, ta, tl, pl, bo, cx, true⟩ := hDD
  subst hcv
  obtain ⟨ex, hg, hgs⟩ := hC.hg
  have hg : TBlk w g (ints L ++ ex) 2 := hg
  have hln := hC.ln
  have HST := hid (show ∀ v, Fr (fun _ => False) w v → Calls Try.prog 84 #[.pointer (some ⟨cp, 0, none⟩), .slice (some ⟨g, 0, none⟩) n cap, .int .i64 0, .int .i64 0] v (fun e w' => e = .returned (.tuple #[.bool false, .bool true, .int .i64 0]) ∧ IsD w' cp ⟨ra, rl, ta, tl, pl + 1, bo, cx, false⟩ ∧ TBlk w' g (ints (L.set p cx) ++ ex) 2 ∧ Fr (fun i => i = cp ∨ i = g) v w') from fun v F => by
      have h := rstep0_store cp g cap ⟨ra, rl, ta, tl, pl, bo, cx, true⟩ L ex 0 v (hDD.keep F id) hne rfl p ⟨by omega, by omega⟩ hp (by rw [hln]; exact hpn) (TBlk.keep hg F id) hS.pg (by show (-9223372036854775808 : Int) ≤ pl; omega) (by show pl < (9223372036854775807 : Int); omega)
      rw [hln] at h
      simp only [hc] at h
      exact h)
  have HLN := hid hln
  have HGS := hid hgs
  clear hDD hg hln hgs
  have HSa := hid (show ∀ v, Fr (fun i => i = cp ∨ i = g) w v → v.cell? ⟨c, 0, none⟩ = some (.slice (some ⟨g, 0, none⟩) n cap) ∧ v.cell? ⟨r, 11, none⟩ = some (.pointer (some ⟨cp, 0, none⟩)) from fun v F => ⟨(HC.out.hc.keep F (fun hh => by rcases hh with hh | hh; exact HS.out.pc hh.symm; exact HC.out.ne hh)).cell (i := 0) rfl, (HO.out.keep F (fun hh => by rcases hh with hh | hh; exact HS.out.pr hh.symm; exact HS.out.rg hh)).cell (i := 11) rfl⟩)
  have HFd := hid (Fr.refl (fun _ => False) w)
  have HFe := hid (Fr.refl (fun i => i = cp ∨ i = g) w)
  clear hO hC hS hV
  go_enter Try.func57, Try.ntmps57
  go_upto_region 28 with fail
  go_region_held3 (fun v => v.cell? ⟨c, 0, none⟩ = some (.slice (some ⟨g, 0, none⟩) n cap) ∧ v.cell? ⟨r, 11, none⟩ = some (.pointer (some ⟨cp, 0, none⟩)))
    (first | exact HSa.out _ HFe.out | exact HSa.out _ (HFe.out.trans (Fr.drew _ _)))
    (first
      | (go_at_call 84; ((with_reducible refine (HST.out _ (by first | exact HFd.out | exact HFd.out.trans (Fr.drew _ _))).mono ?_); rintro e w6 ⟨rfl, hD6, hG6, hF6⟩; have HFe := hid (Fr.trans (HFd.out.mono fun _ h => h.elim) (Fr.trans (by first | exact Fr.refl _ _ | exact Fr.drew _ _) hF6)); have HD6 := hid hD6; have HG6 := hid hG6; clear hF6 hD6 hG6)))
  all_goals
    have HO1 := hid (HO.out.keep HFe.out (fun hh => by rcases hh with hh | hh; exact HS.out.pr hh.symm; exact HS.out.rg hh))
    have HC1 := hid (show RC _ B c g (L.set p cx) n cap size did from ⟨HC.out.hc.keep HFe.out (fun hh => by rcases hh with hh | hh; exact HS.out.pc hh.symm; exact HC.out.ne hh), ⟨ex, HG6.out, by have := HGS.out; simpa [ints] using this⟩, by first | exact HLN.out | (rw [List.length_set]; exact HLN.out), HC.out.nc, HC.out.cm, HC.out.hB, HC.out.ne⟩)
    have HF1 := hid (HFe.out.mono (T := RS r g cp) fun _ h => h.elim (fun h => .inr (.inr h)) (fun h => .inr (.inl h)))
    have kf4 := HO1.out.frozen 4
    have ks4 := HO1.out.cell (i := 4) rfl
    go_wp2_with fail
    refine bodyPost_end (v := .tuple #[]) (by simp [results, Try.results57, go_sem]) rfl ?_
    have HB9 := HO1.out
    exact ⟨rfl, ⟨_, by simpa [rc16] using HB9, fun _ _ => ⟨rfl, HD6.out⟩⟩, HC1.out, HF1.out⟩
end Go.Proofs.Ytiofdfgcghiibaa
