/-
  grow of the laws: the walk.
-/
import Derived.Test.YtoajdknhllaoeaaGrw
namespace Go.Proofs.Ytoajdknhllaoeaa
open Go.RowKit
set_option linter.unusedVariables false

def GrRel (w0 : World) (b : MB) (tb c n : Nat) (d : Nat) (x y z : Value) (w : World) : Prop :=
  ∃ (i : Nat) (T : Sc) (A1 A2 : Option Addr) (c1 c2 : Nat), i ≤ n ∧ T.n ≤ i + 1 ∧ d = n + 1 - i ∧ x = .slice A1 T.n c1 ∧ y = .slice A2 T.n c2 ∧ z = .int .i64 i ∧ GrM w0 b tb c T A1 A2 c1 c2 w

def GrPost (w0 : World) (b : MB) (c n : Nat) (e : Ending) (w : World) : Prop :=
  ∃ (tb : Nat) (T : Sc) (A1 : Option Addr) (c1 : Nat), e = .returned (.tuple #[.pointer (some ⟨tb, 0, none⟩), .slice A1 T.n c1, .bool true]) ∧ GrD w0 b tb c T A1 c1 w ∧ T.n ≤ n + 1

theorem one_own (w : World) (B : Nat) (x : Int) (hB : B ≤ w.heap.size) : OwnR (w.alloc (.cells #[.int .i64 x] 3)) B 3 1 (some ⟨w.heap.size, 0, none⟩) 1 1 [.int .i64 x] :=
  ⟨rfl, .inr ⟨w.heap.size, 1, #[.int .i64 x], rfl, hB, TBlk.new w _ _, Nat.le_refl _, by unfold maxLen; omega, rfl, rfl⟩⟩

set_option maxRecDepth 100000 in
set_option maxHeartbeats 4000000 in
theorem grow_law (A : Option Addr) (n cp c : Nat) (f : Nat → Nat → Int) (b : MB) (w0 w : World) (hc : 0 < c) (hn : n ≤ 80) (hr : Row w0 A n 1 f) (hm : IsM w b ⟨List.replicate 200 0, 0, List.replicate c 0⟩) (hF : Fr (fun _ => False) w0 w) (hlo : ∀ i, b.own i → w0.heap.size ≤ i) :
    Calls Try.prog 25 #[.pointer (some ⟨b.m, 0, none⟩), .slice A n cp] w (GrPost w0 b c n) := by
  have HRW := hid hr
  have HN := hid hn
  have HC := hid hc
  have HNEW := hid (ow_new w0 b 200 c 0 0 w rfl hc (by omega) hm hF hlo)
  obtain ⟨i0, hi0, hz⟩ := Option.map_eq_some_iff.1 infon
  simp only [Prod.mk.injEq] at hz
  obtain ⟨hz0, hz1, hz2⟩ := hz
  have HI0 := hid hi0
  have HZ0 := hid hz0
  have HZ1 := hid hz1
  have HZ2 := hid hz2
  clear hi0 hz0 hz1 hz2 hr hn hc hm hF hlo
  go_enter Try.func25, Try.ntmps25
  go_wp2_with fail
  refine HNEW.out.mono ?_
  rintro e w1 ⟨tb, rfl, O, h1, h2, h3⟩
  have HREL := hid (show GrRel w0 b tb c n (n + 1) (.slice (some ⟨w1.heap.size, 0, none⟩) 1 1) (.slice (some ⟨w1.heap.size + 1, 0, none⟩) 1 1) (.int .i64 0) ((w1.alloc (.cells #[.int .i64 (-1)] 3)).alloc (.cells #[.int .i64 0] 3)) from by
    have hF := (Fr.alloc (fun _ => False) w1 (.cells #[.int .i64 (-1)] 3)).trans (Fr.alloc (fun _ => False) _ (.cells #[.int .i64 0] 3))
    have hs := h3.size
    have r1 := OwnR.same (one_own w1 w0.heap.size (-1) hs) (Fr.alloc _ _ (.cells #[.int .i64 0] 3))
    have r2 := one_own (w1.alloc (.cells #[.int .i64 (-1)] 3)) w0.heap.size 0 (by simp; omega)
    have ez : (w1.alloc (.cells #[.int .i64 (-1)] 3)).heap.size = w1.heap.size + 1 := by simp
    rw [ez] at r2
    refine ⟨0, _, _, _, 1, 1, by omega, Nat.le_refl _, by omega, rfl, rfl, rfl, ⟨O, h1.same hF, h2, ?_, ?_⟩, h3.trans hF, r1, r2, ?_, rfl, (Did.start c).stp HC.out (by omega), fun k hk => ?_, fun k => rfl⟩
    · rintro k ⟨a, ha, rfl⟩ hk
      cases ha
      have hk2 : w1.heap.size < w1.heap.size := h1.lt _ hk
      omega
    · rintro k ⟨a, ha, rfl⟩ hk
      cases ha
      have hk2 : w1.heap.size + 1 < w1.heap.size := h1.lt _ hk
      omega
    · rintro k ⟨a, ha, rfl⟩ ⟨a', ha', hk⟩
      cases ha
      cases ha'
      have hk2 : w1.heap.size + 1 = w1.heap.size := hk
      omega
    · show 0 ≤ 32
      omega)
  clear h1 h2 h3
  go_wp2_with fail
  obtain ⟨W2, hW2⟩ : ∃ W2, (w1.alloc (.cells #[.int .i64 (-1)] 3)).alloc (.cells #[.int .i64 0] 3) = W2 := ⟨_, rfl⟩
  rw [hW2] at HREL ⊢
  clear hW2
  go_loopg [9, 10, 11] (n + 1) (fun d x y z wr => GrRel w0 b tb c n d x y z wr)
  case atStart => exact HREL.out
  case round =>
    clear HREL
    obtain ⟨i, T, A1, A2, cA, cB, hi, hTi, rfl, rfl, rfl, rfl, hG⟩ := hrel
    have HI := hid hi
    have HTI := hid hTi
    have HG := hid hG
    clear hi hTi hG
    by_cases hlt : i < n
    · have hlt2 : (i : Int) < n := by omega
      have h0 : 0 < T.n := HG.out.ex.choose_spec.1.pos
      have hT90 : T.n ≤ 90 := by have := HTI.out; have := HN.out; omega
      obtain ⟨gk, ok, rfl, hck⟩ := row1_at HRW.out hlt
      have ck := hck _ HG.out.fr
      clear hck
      obtain ⟨y, hy⟩ : ∃ y, f i 0 = y := ⟨_, rfl⟩
      rw [hy] at ck
      clear hy
      obtain ⟨u, hu, hue⟩ := wrapped_n y T.n h0 (by omega)
      have hin80 : i ≤ 80 := by have := HI.out; have := HN.out; omega
      have tz : ((T.n : Int) == 0) = false := by simp; omega
      have HU := hid hu
      have HT9 := hid hT90
      have HH0 := hid h0
      have HI8 := hid hin80
      obtain ⟨ga, rfl, hcap, hgl, -⟩ := HG.out.r2.at_ hu
      have HGO := hid (fun (hd : T.nst u ≠ 32) => gr_open wr u hu hd hT90 HC.out HG.out)
      have HGD := hid (fun (hd : T.nst u = 32) => gr_deep wr u hu hd HG.out)
      have HDL := hid (HG.out.d u hu)
      have hu2 : (u : Int) < T.n := by omega
      clear hgl
      by_cases hd : T.nst u = 32
      · have HD := hid hd
        clear hd
        go_wp2_with fail
        refine (HGD.out HD.out).mono ?_
        rintro e w2 ⟨rfl, h2⟩
        have H2 := hid h2
        have c2 : w2.cell? ⟨ga, u, none⟩ = some (.int .i64 32) := by
          obtain ⟨g', hA, _, _, hcl⟩ := h2.r2.at_ hu
          injection hA with hA
          injection hA with hA
          subst hA
          rw [hcl]
          unfold nsI
          rw [HD.out]
          rfl
        clear h2
        go_wp2_with fail
        go_roundg (n + 1 - (i + 1))
        case rel => exact ⟨i + 1, T, A1, _, _, _, by omega, by have := HTI.out; omega, by omega, rfl, rfl, by go_num, H2.out⟩
        case measure => omega
      · have HD := hid hd
        clear hd
        go_wp2_with fail
        refine (HGO.out HD.out).mono ?_
        rintro e w2 ⟨rfl, h2⟩
        have H2 := hid h2
        obtain ⟨q, hq⟩ : ∃ q, T.nst u = q := ⟨_, rfl⟩
        have hq32 : q < 32 := by have := HDL.out; have := HD.out; omega
        have HQ := hid hq
        have hc2 : ∀ W, Fr (ownB A1) w2 W → W.cell? ⟨ga, u, none⟩ = some (.int .i64 (q : Nat)) := by
          intro W F
          obtain ⟨g', hA, _, _, hcl⟩ := (OwnR.keep h2.r2 F (fun k hk hk2 => h2.ap k hk2 hk)).at_ hu
          injection hA with hA
          injection hA with hA
          subst hA
          rw [hcl]
          unfold nsI
          rw [hq]
        have HC2 := hid hc2
        have c2 := hc2 w2 (Fr.refl _ _)
        have hq1 : ¬ (32 : Int) ≤ (q : Int) := by omega
        have HOW := hid (OwnR.same h2.r1 (Fr.alloc _ _ (.cells #[.int .i64 (u : Int)] 3)))
        have HNW := hid (news_at w2 3 [.int .i64 (u : Int)])
        have HSZ := hid h2.fr.size
        clear h2 hc2 hq
        go_upto_region 18 with (at_builtin; go_must (refine wpList_append_lies _ rfl _ _ 39 rfl w0.heap.size 3 i0 (.int .i64 0) 1 8 Try.underlying39 HI0.out HZ0.out HZ1.out HZ2.out rfl (by decide) (.slice A1 T.n cA) T.n _ rfl HOW.out ⟨w2.heap.size, 0, none⟩ 1 1 [.int .i64 (u : Int)] rfl rfl HNW.out (by simp [Value.oneCell']) (by omega) (by unfold maxLen; omega) (by omega) (by have := HSZ.out; simp; omega) (w2.heap.size + 1) (by simp) ?_; intro g3 c3 w3 hown3 hgrow3 hat3 hlt3; have HO3 := hid (show OwnR w3 w0.heap.size 3 1 (some ⟨g3, 0, none⟩) (T.n + 1) c3 _ from hown3); have HF3 := hid (Fr.of_grown hgrow3); have HAT3 := hid hat3; have cc3 := HC2.out w3 ((Fr.alloc (ownB A1) w2 (.cells #[.int .i64 (u : Int)] 3)).trans HF3.out); clear hown3 hgrow3 hat3 hlt3))
        have HOX := hid (OwnR.same (OwnR.keep H2.out.r2 ((Fr.alloc (ownB A1) w2 (.cells #[.int .i64 (u : Int)] 3)).trans HF3.out) (fun k hk hk2 => H2.out.ap k hk2 hk)) (Fr.alloc _ _ (.cells #[.int .i64 ((q : Int) + 1)] 3)))
        have HNX := hid (news_at w3 3 [.int .i64 ((q : Int) + 1)])
        have HS3 := hid (show w0.heap.size ≤ w3.heap.size from by have := HSZ.out; have := HF3.out.size; simp at this; omega)
        go_wp2_with (at_builtin; go_must (refine wpList_append_lies _ rfl _ _ 39 rfl w0.heap.size 3 i0 (.int .i64 0) 1 8 Try.underlying39 HI0.out HZ0.out HZ1.out HZ2.out rfl (by decide) (.slice (some ⟨ga, 0, none⟩) T.n cB) T.n _ rfl HOX.out ⟨w3.heap.size, 0, none⟩ 1 1 [.int .i64 ((q : Int) + 1)] rfl rfl HNX.out (by simp [Value.oneCell']) (by omega) (by unfold maxLen; omega) (by omega) (by have := HS3.out; simp; omega) (w3.heap.size + 1) (by simp) ?_; intro g4 c4 w4 hown4 hgrow4 hat4 hlt4; have HO4 := hid (show OwnR w4 w0.heap.size 3 1 (some ⟨g4, 0, none⟩) (T.n + 1) c4 _ from hown4); have HF4 := hid (Fr.of_grown hgrow4); have HAT4 := hid hat4; clear hown4 hgrow4 hat4 hlt4))
        have HGG := hid (GrN.grown HG.out H2.out HU.out HD.out HT9.out HC.out HO3.out HF3.out (HAT3.out.imp_left own_of) (by rw [HQ.out]; exact HO4.out) HF4.out (HAT4.out.imp_left own_of))
        go_roundg (n + 1 - (i + 1))
        case rel => exact ⟨i + 1, (T.step 0).opn u, _, _, _, _, by omega, by have := HTI.out; show T.n + 1 ≤ i + 1 + 1; omega, by omega, rfl, rfl, by go_num, HGG.out⟩
        case measure => omega
    · obtain rfl : i = n := by have := HI.out; omega
      go_wp2_with fail
      refine bodyPost_ret (results_tmp3 rfl _ _ _) rfl ?_
      exact ⟨tb, T, A1, _, rfl, HG.out.told, HTI.out⟩
end Go.Proofs.Ytoajdknhllaoeaa
