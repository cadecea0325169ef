/-
  The document's operations of a deque: a ring of double size.
-/
import Derived.Test.YtiofdfgcghiibaaRefOp3
import Derived.Deep.DeepMust
import Derived.Deep.AppendLies
namespace Go.Proofs.Ytiofdfgcghiibaa
open Go.RowKit
set_option linter.unusedVariables false

theorem RC.own {w : World} {B c g : Nat} {L : List Int} {n cap : Nat} {size did : Int} (h : RC w B c g L n cap size did) : OwnR w B 2 1 (some ⟨g, 0, none⟩) n cap (intsV L) := by
  obtain ⟨ex, h1, h2⟩ := h.hg
  refine ⟨by simp [intsV, h.ln], .inr ⟨g, cap, _, rfl, h.hB, h1, h.nc, h.cm, by omega, ?_⟩⟩
  have hl := h.ln
  rw [Nat.mul_one, Array.toList_append, List.take_append_of_le_length (by simp [ints]; omega), List.take_of_length_le (by simp [ints]; omega)]
  simp [ints, intsV]

theorem ints_toList (cur : Array Value) (L : List Int) (n : Nat) (h : cur.toList.take n = intsV L) : ∃ ex, cur = ints L ++ ex := by
  refine ⟨(cur.toList.drop n).toArray, ?_⟩
  apply Array.ext'
  rw [Array.toList_append]
  simp only [ints]
  rw [show (List.map (Value.int .i64) L) = intsV L from rfl, ← h]
  simp

theorem RC.of_own {w : World} {B c g : Nat} {L : List Int} {n cap : Nat} {size did : Int} (h : OwnR w B 2 1 (some ⟨g, 0, none⟩) n cap (intsV L)) (hc : TBlk w c #[.slice (some ⟨g, 0, none⟩) n cap, .int .i64 size, .int .i64 did] 32) (hne : c ≠ g) : RC w B c g L n cap size did := by
  obtain ⟨h1, ⟨h2, _⟩ | ⟨g2, cap2, cur, hv, hB, hh, h3, h4, h5, h6⟩⟩ := h
  · cases h2
  · injection hv with e1 e2 e3
    injection e1 with e1
    injection e1 with e1
    subst e1 e3
    rw [Nat.mul_one] at h6
    obtain ⟨ex, hex⟩ := ints_toList cur L n h6
    subst hex
    refine ⟨hc, ⟨ex, hh, by omega⟩, ?_, h3, h4, hB, hne⟩
    simpa [intsV] using h1

theorem ownR_stays {w : World} {B : Nat} {e : TypeId} {v : Value} {n : Nat} {xs : List Value} (h : w.ownsRow B e 1 v n xs) (hv : v ≠ .slice none 0 0) : ∃ g cap, v = .slice (some ⟨g, 0, none⟩) n cap ∧ OwnR w B e 1 (some ⟨g, 0, none⟩) n cap xs := by
  have h' := h
  obtain ⟨h1, ⟨h2, _⟩ | ⟨g, c, cur, hv2, _⟩⟩ := h
  · exact absurd h2 hv
  · exact ⟨g, c, hv2, by rw [hv2] at h'; exact h'⟩

set_option maxRecDepth 100000 in
set_option maxHeartbeats 1000000 in
theorem ru4_full (B c g r cp n cap : Nat) (most size did : Int) (L : List Int) (x bo t ra rl ta tl pl cx got err : Int) (ld won : Bool) (w : World) (hO : RO w r cp most ⟨0, 4, x, bo, t, ⟨ra, rl⟩, ⟨ta, tl⟩, pl, cx, ld, won, 0, got, err⟩) (hC : RC w B c g L n cap size did) (hS : RSep c g r cp) (h3 : 3 ≤ n) (sz : Int) (hsz : Rg.size ⟨ra, rl⟩ = sz) (hs1 : 0 ≤ sz) (hs2 : sz ≤ 256) (hz1 : 0 ≤ size) (hz2 : size ≤ 600) (hn6 : n ≤ 600) (hd1 : 1 ≤ did) (hd2 : did ≤ 100000) (hc : size - (n : Int) < 2 * sz) :
    Calls Try.prog 57 #[.pointer (some ⟨r, 0, none⟩), .pointer (some ⟨c, 0, none⟩)] w (fun e w' => e = .returned (.tuple #[]) ∧ RO w' r cp most ⟨0, 4, x, bo, t, ⟨ra, rl⟩, ⟨ta, tl⟩, pl, cx, ld, won, 6, 0, 21⟩ ∧ RC w' B c g L n cap size (did - 1) ∧ Fr (fun k => RS r g cp k ∨ k = c) w w') := by
  obtain ⟨cv, hO, hV⟩ := hO
  unfold rc16 at hO
  have HO := hid hO
  have HC := hid hC
  have HS := hid hS
  have HV := hid hV
  have kd0 := hO.cell (i := 0) rfl
  have kd1 := hO.cell (i := 4) rfl
  have cs := hC.hc.cell (i := 0) rfl
  have n1 : r ≠ g := hS.rg
  have n2 : r ≠ c := hS.rc
  have n3 : c ≠ g := hC.ne
  have n4 : g ≠ r := hS.rg.symm
  have n5 : c ≠ r := hS.rc.symm
  have n6 : g ≠ c := hC.ne.symm
  have HSZ := hid (fun (v : World) => hsz ▸ rsize_any ra rl v)
  clear hsz
  have c1 := hC.hc.cell (i := 1) rfl
  have c2 := hC.hc.cell (i := 2) rfl
  have g2 := hC.hc.frozen 2
  have k7 := hO.cell (i := 7) rfl
  have k8 := hO.cell (i := 8) rfl
  have HN := hid hn6
  have tc : decide (size - (n : Int) < 2 * sz) = true := by simp; omega
  have HCP := hid hS.pr
  clear hc hn6
  clear hO hC hS hV
  go_enter Try.func57, Try.ntmps57
  go_wp2_with fail
  refine (HSZ.out _).mono ?_
  rintro e w1 ⟨rfl, hF⟩
  have HO1 := hid (HO.out.keep hF id)
  have HC1 := hid (HC.out.same hF)
  have HF1 := hid (hF.mono (T := fun k => RS r g cp k ∨ k = c) fun _ h => h.elim)
  have HV1 := hid (hF)
  clear hF c1 c2 g2 k7 k8 cs kd0 kd1
  have cs := HC1.out.hc.cell (i := 0) rfl
  have c1 := HC1.out.hc.cell (i := 1) rfl
  have c2 := HC1.out.hc.cell (i := 2) rfl
  have g2 := HC1.out.hc.frozen 2
  have hn6 := HN.out
  go_wp2_with fail
  go_region
  have HO2 := hid HO1.out.drew
  have HC2 := hid (HC1.out.same (Fr.drew _ _))
  have HF2 := hid (HF1.out.trans (Fr.drew _ _))
  obtain ⟨w2, hw2⟩ : ∃ w2, w1.drew = w2 := ⟨_, rfl⟩
  rw [hw2] at HO2 HC2 HF2 ⊢
  clear hw2 cs c1 c2 g2
  have c2 := HC2.out.hc.cell (i := 2) rfl
  have g2 := HC2.out.hc.frozen 2
  go_upto_region 19 with fail
  have HC3 := hid (HC2.out.didUp (did - 1))
  have HO3 := hid (HO2.out.far 2 (.int .i64 (did - 1)) n2)
  have HF3 := hid (HF2.out.trans (Fr.setCell (S := fun k => RS r g cp k ∨ k = c) w2 ⟨c, 2, none⟩ (.int .i64 (did - 1)) (.inr rfl)))
  obtain ⟨w3, hw3⟩ : ∃ w3, w2.setCell ⟨c, 2, none⟩ (.int .i64 (did - 1)) = w3 := ⟨_, rfl⟩
  rw [hw3] at HC3 HO3 HF3 ⊢
  clear hw3 c2 g2
  have HRO := hid (show RO w3 r cp most ⟨0, 4, x, bo, t, ⟨ra, rl⟩, ⟨ta, tl⟩, pl, cx, ld, won, 0, got, err⟩ from ⟨cv, HO3.out, fun _ h => by cases h⟩)
  go_wp2_with fail
  refine (rbroke_ok r cp most 21 _ _ HRO.out HCP.out).mono ?_
  rintro e w4 ⟨rfl, hR4, hF4⟩
  have HR4 := hid hR4
  have HF4 := hid hF4
  clear hR4 hF4
  go_wp2_with fail
  refine bodyPost_ret (v := .tuple #[]) (by simp [results, Try.results57, go_sem]) rfl ?_
  exact ⟨rfl, HR4.out, HC3.out.keep HF4.out (fun hh => n5 hh) (fun hh => n4 hh), HF3.out.trans (HF4.out.mono fun _ h => .inl (.inl h))⟩

/-- Cells are given away one by one. -/
def GrRel (B c g r n : Nat) (L : List Int) (size did : Int) (C16 : Array Value) (N : Nat) (w : World) (d : Nat) (z : Value) (wr : World) : Prop :=
  ∃ (j g2 cap2 : Nat), j ≤ N ∧ d = N + 1 - j ∧ z = .int .i64 j ∧ RC wr B c g2 (L ++ List.replicate j 0) (n + j) cap2 size did ∧ TBlk wr r C16 50 ∧ Fr (fun k => k = g ∨ k = c) w wr ∧ (g2 = g ∨ w.heap.size ≤ g2) ∧ r ≠ g2

def GrPost (B c g r cp : Nat) (most : Int) (o : DOp) (L : List Int) (n N : Nat) (size did : Int) (w : World) (e : Ending) (w' : World) : Prop :=
  ∃ (cp2 g2 cap2 : Nat), e = .returned (.tuple #[]) ∧ RO w' r cp2 most o ∧ RC w' B c g2 (L ++ List.replicate N 0) (n + N) cap2 size did ∧ RSep c g2 r cp2 ∧ (g2 = g ∨ w.heap.size ≤ g2) ∧ w.heap.size ≤ cp2 ∧ cp2 < w'.heap.size ∧ Fr (fun k => k = r ∨ k = g ∨ k = c) w w'

set_option maxRecDepth 100000 in
set_option maxHeartbeats 1000000 in
theorem ru4_ok (B c g r cp n cap : Nat) (most size did : Int) (L : List Int) (x bo t ra rl ta tl pl cx got err : Int) (ld won : Bool) (w : World) (hO : RO w r cp most ⟨0, 4, x, bo, t, ⟨ra, rl⟩, ⟨ta, tl⟩, pl, cx, ld, won, 0, got, err⟩) (hC : RC w B c g L n cap size did) (hS : RSep c g r cp) (h3 : 3 ≤ n) (sz : Int) (hsz : Rg.size ⟨ra, rl⟩ = sz) (N : Nat) (hN : 2 * sz = N) (hz1 : 0 ≤ size) (hz2 : size ≤ 600) (hn6 : n + N ≤ 600) (hc : ¬ size - (n : Int) < 2 * sz) (hR1 : Rg.Right ⟨ra, rl⟩) (hR2 : Rg.Right ⟨n, rl + 1⟩) (hb0 : -100000 ≤ bo ∧ bo ≤ 100000 ∧ -100000 ≤ t ∧ t ≤ 100000) (htb : t ≤ bo) (hp1 : bo - t ≤ pow rl) (hp2 : bo - t ≤ pow (rl + 1)) :
    Calls Try.prog 57 #[.pointer (some ⟨r, 0, none⟩), .pointer (some ⟨c, 0, none⟩)] w (GrPost B c g r cp most ⟨0, 5, x, bo, t, ⟨ra, rl⟩, ⟨n, rl + 1⟩, t, 0, false, won, 0, got, err⟩ L n N size did w) := by
  obtain ⟨cv, hO, hV⟩ := hO
  unfold rc16 at hO
  have HO := hid hO
  have HC := hid hC
  have HS := hid hS
  have HV := hid hV
  have kd0 := hO.cell (i := 0) rfl
  have kd1 := hO.cell (i := 4) rfl
  have cs := hC.hc.cell (i := 0) rfl
  have n1 : r ≠ g := hS.rg
  have n2 : r ≠ c := hS.rc
  have n3 : c ≠ g := hC.ne
  have n4 : g ≠ r := hS.rg.symm
  have n5 : c ≠ r := hS.rc.symm
  have n6 : g ≠ c := hC.ne.symm
  have HSZ := hid (fun (v : World) => hsz ▸ rsize_any ra rl v)
  clear hsz
  have c1 := hC.hc.cell (i := 1) rfl
  have k7 := hO.cell (i := 7) rfl
  have k8 := hO.cell (i := 8) rfl
  have HN := hid hn6
  have HNZ := hid hN
  have HZ := hid (And.intro hz1 hz2)
  have tc : decide (size - (n : Int) < 2 * sz) = false := by simp; omega
  have hs1 : 0 ≤ sz := by omega
  have hs2 : sz ≤ 300 := by omega
  have HL := hid hC.ln
  have HLT := hid (And.intro hO.lt (And.intro hC.hc.lt hC.own.lt))
  have HBG := hid (fun (v : World) => begin_ok' ra rl n (rl + 1) t bo v hR1 hR2 (by unfold Fits; omega) (by unfold Fits; omega) ⟨htb, hp1, hp2⟩)
  have hr0 := hR1.1
  have hr8 := hR1.2.1
  simp only at hr0 hr8
  obtain ⟨i0, hi, hz⟩ := Option.map_eq_some_iff.1 infoint64
  simp only [Prod.mk.injEq] at hz
  obtain ⟨hzz0, hzz1, hzz2⟩ := hz
  have HII := hid hi
  have HZ0 := hid hzz0
  have HZ1 := hid hzz1
  have HZ2 := hid hzz2
  have HBND := hid hb0
  clear hc hn6 hN hz1 hz2 hi hzz0 hzz1 hzz2 hR1 hR2 hp1 hp2 htb hb0
  clear hO hC hS hV
  go_enter Try.func57, Try.ntmps57
  go_wp2_with fail
  refine (HSZ.out _).mono ?_
  rintro e w1 ⟨rfl, hF⟩
  have HO1 := hid (HO.out.keep hF id)
  have HC1 := hid (HC.out.same hF)
  have HF1 := hid hF
  clear hF c1 k7 k8 cs kd0 kd1
  have cs := HC1.out.hc.cell (i := 0) rfl
  have c1 := HC1.out.hc.cell (i := 1) rfl
  have k8 := HO1.out.cell (i := 8) rfl
  have k9 := HO1.out.cell (i := 9) rfl
  have f9 := HO1.out.frozen 9
  have k10 := HO1.out.cell (i := 10) rfl
  have f10 := HO1.out.frozen 10
  have hn6 : n ≤ 600 := by have := HN.out; omega
  have hz1 := HZ.out.1
  have hz2 := HZ.out.2
  go_wp2_with fail
  go_region
  go_wp2_with fail
  go_region
  go_wp2_with fail
  have HO2 := hid (show TBlk _ r (rc16 most ⟨0, 4, x, bo, t, ⟨ra, rl⟩, ⟨n, rl + 1⟩, pl, cx, ld, won, 0, got, err⟩ cv) 50 from by simpa [rc16] using (((HO1.out.set 9 (.int .i64 n)).set 10 (.int .i64 (rl + 1))).drew).drew)
  have HC2 := hid (((HC1.out.rset n2 n1 9 (.int .i64 n)).rset n2 n1 10 (.int .i64 (rl + 1))).same ((Fr.drew _ _).trans (Fr.drew _ _)))
  have HF2 := hid ((((HF1.out.mono (T := fun k => k = r) fun _ h => h.elim).trans (fr_r _ r 9 (.int .i64 n))).trans (fr_r _ r 10 (.int .i64 (rl + 1)))).trans ((Fr.drew _ _).trans (Fr.drew _ _)))
  obtain ⟨w2, hw2⟩ : ∃ w2, (((w1.setCell ⟨r, 9, none⟩ (.int .i64 n)).setCell ⟨r, 10, none⟩ (.int .i64 (rl + 1))).drew).drew = w2 := ⟨_, rfl⟩
  rw [hw2] at HO2 HC2 HF2 ⊢
  rw [HNZ.out]
  have hn7 := HN.out
  clear hw2 cs c1 k8 k9 f9 k10 f10 tc hs1 hs2
  go_loopg [6] (N + 1) (fun d z wr => GrRel B c g r n L size did (rc16 most ⟨0, 4, x, bo, t, ⟨ra, rl⟩, ⟨n, rl + 1⟩, pl, cx, ld, won, 0, got, err⟩ cv) N w2 d z wr)
  case atStart => exact ⟨0, g, cap, Nat.zero_le _, by omega, rfl, by simpa using HC2.out, HO2.out, Fr.refl _ _, .inl rfl, n1⟩
  case round =>
    clear HC2 HO2
    obtain ⟨j, g2, cap2, hj, rfl, rfl, hCj, hOj, hFj, hgj, hrg⟩ := hrel
    have HCj := hid hCj
    have HOj := hid hOj
    have HFj := hid hFj
    have HGj := hid hgj
    have HRG := hid hrg
    have HJ := hid hj
    clear hCj hOj hFj hgj hrg hj
    by_cases hlt : j < N
    · have hlt2 : (j : Int) < N := by omega
      have cs := HCj.out.hc.cell (i := 0) rfl
      have HA := hid (HCj.out.own.same (Fr.alloc (fun _ => False) wr (.cells #[.int .i64 0] 2)))
      have HCa := hid (HCj.out.hc.alloc (.cells #[.int .i64 0] 2))
      have HOa := hid (HOj.out.alloc (.cells #[.int .i64 0] 2))
      have HNW := hid (newk wr 2 (.int .i64 0))
      have HGL := hid (show g2 < wr.heap.size from (HCj.out.own.lt g2 ⟨_, rfl, rfl⟩).2)
      have HBS := hid (show B ≤ (wr.alloc (.cells #[.int .i64 0] 2)).heap.size from by have := HCj.out.hB; have := HGL.out; simp; omega)
      have HCL := hid HCj.out.hc.lt
      have HOL := hid HOj.out.lt
      have HNC := hid (show c ≠ g2 from HCj.out.ne)
      go_wp2_with (at_builtin; go_must (refine wpList_append_lies _ rfl _ _ 30 rfl B 2 i0 (.int .i64 0) 1 8 Try.underlying30 HII.out HZ0.out HZ1.out HZ2.out rfl (by decide) (.slice (some ⟨g2, 0, none⟩) (n + j) cap2) (n + j) _ rfl HA.out ⟨wr.heap.size, 0, none⟩ 1 1 [.int .i64 0] rfl rfl HNW.out (by simp [Value.oneCell']) (by omega) (by unfold maxLen; omega) (by omega) HBS.out (wr.heap.size + 1) (by simp) ?_; intro g5 c5 w5 hown5 hgrow5 hat5 hlt5; have HO5 := hid (show OwnR w5 B 2 1 (some ⟨g5, 0, none⟩) (n + j + 1) c5 _ from hown5); have HFG := hid (Fr.of_grown hgrow5); have HAT := hid (show g5 = g2 ∨ g5 = wr.heap.size + 1 from hat5.imp (fun h => by injection h with h; exact h.symm) id); clear hown5 hgrow5 hat5 hlt5; have HC5 := hid (HCa.out.keep HFG.out (fun hh => by obtain ⟨a, ha, hk⟩ := hh; injection ha with ha; subst ha; exact HNC.out hk.symm)); have HQ5 := hid (HOa.out.keep HFG.out (fun hh => by obtain ⟨a, ha, hk⟩ := hh; injection ha with ha; subst ha; exact HRG.out hk.symm)); have cc := HC5.out.cell (i := 0) rfl; have gg := HC5.out.frozen 0))
      have HCG := hid (show c ≠ g5 from by have := HCL.out; have := HNC.out; rcases HAT.out with h | h <;> omega)
      have HRG5 := hid (show r ≠ g5 from by have := HOL.out; have := HRG.out; rcases HAT.out with h | h <;> omega)
      have HSC := hid (show Fr (fun k => k = c) w5 (w5.setCell ⟨c, 0, none⟩ (.slice (some ⟨g5, 0, none⟩) (n + j + 1) c5)) from Fr.setCell _ _ _ rfl)
      have HFX := hid (show Fr (fun k => k = g ∨ k = c) w2 (w5.setCell ⟨c, 0, none⟩ (.slice (some ⟨g5, 0, none⟩) (n + j + 1) c5)) from by
        refine ((HFj.out.trans (Fr.alloc _ wr (.cells #[.int .i64 0] 2))).since HFG.out (fun i hi hl => ?_)).trans (HSC.out.mono fun _ h => .inr h)
        obtain ⟨a, ha, hk⟩ := hi
        injection ha with ha
        subst ha
        have hk2 : g2 = i := hk
        rcases HGj.out with h | h
        · exact .inl (by omega)
        · omega)
      have HG5 := hid (show g5 = g ∨ w2.heap.size ≤ g5 from by
        have := HFj.out.size
        rcases HAT.out with h | h
        · rw [h]; exact HGj.out
        · exact .inr (by omega))
      go_roundg (N + 1 - (j + 1))
      case rel =>
        refine ⟨j + 1, g5, c5, by omega, rfl, by go_num, RC.of_own (OwnR.eq (HO5.out.keep HSC.out (fun i hi hh => ?_)) (by simp [intsV, List.replicate_succ'])) (show TBlk _ c #[.slice (some ⟨g5, 0, none⟩) (n + j + 1) c5, .int .i64 size, .int .i64 did] _ from by simpa using HC5.out.set 0 (.slice (some ⟨g5, 0, none⟩) (n + j + 1) c5)) HCG.out, HQ5.out.keep HSC.out n2, HFX.out, HG5.out, HRG5.out⟩
        obtain ⟨a, ha, hk⟩ := hi
        injection ha with ha
        subst ha
        have h1 : g5 = i := hk
        have h2 : i = c := hh
        exact HCG.out (by omega)
      case measure => omega
    · obtain rfl : j = N := by have := HJ.out; omega
      have HSa := hid (show ∀ v, Fr (fun _ => False) wr v → v.cell? ⟨r, 5, none⟩ = some (.int .i64 bo) ∧ v.cell? ⟨r, 6, none⟩ = some (.int .i64 t) ∧ v.cell? ⟨r, 7, none⟩ = some (.int .i64 ra) ∧ v.cell? ⟨r, 8, none⟩ = some (.int .i64 rl) ∧ v.cell? ⟨r, 9, none⟩ = some (.int .i64 (n : Int)) ∧ v.cell? ⟨r, 10, none⟩ = some (.int .i64 (rl + 1)) from fun v F => ⟨(HOj.out.same F).cell (i := 5) rfl, (HOj.out.same F).cell (i := 6) rfl, (HOj.out.same F).cell (i := 7) rfl, (HOj.out.same F).cell (i := 8) rfl, (HOj.out.same F).cell (i := 9) rfl, (HOj.out.same F).cell (i := 10) rfl⟩)
      have HSb := hid (show ∀ v (k : Nat), Fr (fun _ => False) wr v → (v.setCell ⟨r, 11, none⟩ (.pointer (some ⟨k, 0, none⟩))).cell? ⟨r, 5, none⟩ = some (.int .i64 bo) ∧ (v.setCell ⟨r, 11, none⟩ (.pointer (some ⟨k, 0, none⟩))).cell? ⟨r, 6, none⟩ = some (.int .i64 t) ∧ (v.setCell ⟨r, 11, none⟩ (.pointer (some ⟨k, 0, none⟩))).cell? ⟨r, 7, none⟩ = some (.int .i64 ra) ∧ (v.setCell ⟨r, 11, none⟩ (.pointer (some ⟨k, 0, none⟩))).cell? ⟨r, 8, none⟩ = some (.int .i64 rl) ∧ (v.setCell ⟨r, 11, none⟩ (.pointer (some ⟨k, 0, none⟩))).cell? ⟨r, 9, none⟩ = some (.int .i64 (n : Int)) ∧ (v.setCell ⟨r, 11, none⟩ (.pointer (some ⟨k, 0, none⟩))).cell? ⟨r, 10, none⟩ = some (.int .i64 (rl + 1)) from fun v k F => ⟨((HOj.out.same F).set 11 (.pointer (some ⟨k, 0, none⟩))).cell (i := 5) rfl, ((HOj.out.same F).set 11 (.pointer (some ⟨k, 0, none⟩))).cell (i := 6) rfl, ((HOj.out.same F).set 11 (.pointer (some ⟨k, 0, none⟩))).cell (i := 7) rfl, ((HOj.out.same F).set 11 (.pointer (some ⟨k, 0, none⟩))).cell (i := 8) rfl, ((HOj.out.same F).set 11 (.pointer (some ⟨k, 0, none⟩))).cell (i := 9) rfl, ((HOj.out.same F).set 11 (.pointer (some ⟨k, 0, none⟩))).cell (i := 10) rfl⟩)
      have HFd := hid (Fr.refl (fun _ => False) wr)
      have HGL := hid (show g2 < wr.heap.size from (HCj.out.own.lt g2 ⟨_, rfl, rfl⟩).2)
      clear hlt
      go_upto_region 25 with fail
      go_region_held3 (fun v => v.cell? ⟨r, 5, none⟩ = some (.int .i64 bo) ∧ v.cell? ⟨r, 6, none⟩ = some (.int .i64 t) ∧ v.cell? ⟨r, 7, none⟩ = some (.int .i64 ra) ∧ v.cell? ⟨r, 8, none⟩ = some (.int .i64 rl) ∧ v.cell? ⟨r, 9, none⟩ = some (.int .i64 (n : Int)) ∧ v.cell? ⟨r, 10, none⟩ = some (.int .i64 (rl + 1)))
        (first | exact HSb.out _ _ HFd.out | exact HSb.out _ _ (HFd.out.trans (Fr.drew _ _)) | exact HSa.out _ HFd.out | exact HSa.out _ (HFd.out.trans (Fr.drew _ _)))
        (first
          | (go_at_call 83; ((with_reducible refine (HBG.out _).mono ?_); rintro e w6 ⟨k6, rfl, hD6, hF6, hl6⟩; have HL6 := hid (Nat.le_trans HFd.out.size (Nat.le_trans (by first | exact Nat.le_refl _ | exact (Fr.drew (fun _ => False) _).size) hl6)); have HFd := hid (HFd.out.trans (Fr.trans (by first | exact Fr.refl _ _ | exact Fr.drew _ _) hF6)); have HD6 := hid hD6; clear hF6 hD6 hl6; have kf11 := (HOj.out.same HFd.out).frozen 11; have ks11 := (HOj.out.same HFd.out).cell (i := 11) rfl)))
      all_goals
        have HO6 := hid (HOj.out.same HFd.out)
        have kf4 := (HO6.out.set 11 (.pointer (some ⟨k6, 0, none⟩))).frozen 4
        have ks4 := (HO6.out.set 11 (.pointer (some ⟨k6, 0, none⟩))).cell (i := 4) rfl
        go_wp2_with fail
        refine bodyPost_end (v := .tuple #[]) (by simp [results, Try.results57, go_sem]) rfl ?_
        have HB9 := (HO6.out.set 11 (.pointer (some ⟨k6, 0, none⟩))).set 4 (.int .i64 5)
        have HF9 := ((fr_r _ r 11 (.pointer (some ⟨k6, 0, none⟩))).trans (fr_r _ r 4 (.int .i64 5)) : Fr (fun k => k = r) w6 _)
        have hkr : k6 ≠ r := by have := HOj.out.lt; have := HL6.out; omega
        have hkc : k6 ≠ c := by have := HCj.out.hc.lt; have := HL6.out; omega
        have hkg : k6 ≠ g2 := by have := HGL.out; have := HL6.out; omega
        refine ⟨k6, g2, cap2, rfl, ⟨_, by simpa [rc16] using HB9, fun _ _ => ⟨rfl, IsD.keep HD6.out HF9 hkr⟩⟩, (HCj.out.same HFd.out).keep HF9 n5 (fun hh => HRG.out (Eq.symm hh)), ⟨HRG.out, n2, hkr, hkg, hkc⟩, HGj.out.imp id (fun h => Nat.le_trans HF2.out.size h), ?_, Nat.lt_of_lt_of_le (Blk.lt HD6.out) HF9.size, ?_⟩
        · have := HF2.out.size; have := HFj.out.size; have := HL6.out; omega
        · exact ((HF2.out.mono fun _ h => .inl h).trans (HFj.out.mono fun _ h => h.elim (fun h => .inr (.inl h)) (fun h => .inr (.inr h)))).trans ((HFd.out.mono fun _ h => h.elim).trans (HF9.mono fun _ h => .inl h))
end Go.Proofs.Ytiofdfgcghiibaa
