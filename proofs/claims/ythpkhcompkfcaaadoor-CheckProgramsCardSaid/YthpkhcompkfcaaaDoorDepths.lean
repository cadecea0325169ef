/-
  Depths.
-/
import Derived.Test.YthpkhcompkfcaaaDoorSmall
import Derived.Deep.LoopGhost
namespace Go.Proofs.YthpkhcompkfcaaaDoor
open Go.RowKit

/-- Numbers are handed back. -/
def NumPost (w : World) (L : List Int) (e : Ending) (w' : World) : Prop :=
  ∃ A n c, e = .returned (.slice A n c) ∧ L.length = n ∧ Nums w' w'.heap.size A L ∧ Fr (fun _ => False) w w'

theorem Fr.to_none {w w' : World} (h : Fr (fun k => w.heap.size ≤ k) w w') : Fr (fun _ => False) w w' :=
  ⟨h.os, h.tape, h.output, h.size, fun k hk _ => h.block k hk (by omega)⟩

theorem ints_snoc (l : List Int) (x : Int) : ints (l ++ [x]) = ints l ++ ints [x] := by simp [ints]

def DpRel (l : List Ins) (w : World) (B : Nat) (d : Nat) (out dv k : Value) (wr : World) : Prop :=
  ∃ (j : Nat) (A : Option Addr) (cap : Nat) (x : Int), j ≤ l.length ∧ d = l.length - j ∧ k = .int .i64 j ∧ out = .slice A j cap ∧ dv = .int .i64 x ∧ x = dend 0 (l.take j) ∧ OwnN wr B A j cap (dep 0 (l.take j)) ∧ Fr (fun k => B ≤ k) w wr

set_option maxRecDepth 100000 in
set_option maxHeartbeats 2000000 in
theorem depths_any (A : Option Addr) (n c : Nat) (l : List Ins) (w : World) (hl : l.length = n) (hn : n ≤ 1000) (hp : Cod w w.heap.size A l) :
    Calls Tryd.prog 12 #[.slice A n c] w (NumPost w (dep 0 l)) := by
  have HN := hid hl
  clear hl
  obtain ⟨B, hB⟩ : ∃ B, B = w.heap.size := ⟨_, rfl⟩
  rw [← hB] at hp
  have HB := hid hB
  have hBl : B ≤ w.heap.size := by omega
  obtain ⟨i0, hi, hz⟩ := Option.map_eq_some_iff.1 Tryd.infon
  simp only [Prod.mk.injEq] at hz
  obtain ⟨hz0, hz1, hz2⟩ := hz
  obtain ⟨w1, hmk, hown, hgrow⟩ := run_make_own (P := Tryd.prog) w B 25 3 i0 (.int .i64 0) 1 Tryd.underlying25 hi hz0 hz1 .i64 .i64 n (by rw [hz2]; omega) (by unfold maxLen; omega) hBl
  have HI := hid hi
  have HZ0 := hid hz0
  have HZ1 := hid hz1
  have HZ2 := hid hz2
  clear hi hz0 hz1 hz2 hB
  have hF1 : Fr (fun _ => False) w w1 := ⟨hgrow.os, hgrow.tape, hgrow.output, hgrow.size, fun k hk _ => hgrow.block k hk (by simp)⟩
  have HF1 := hid hF1
  have hs1 : w.heap.size ≤ w1.heap.size := hF1.size
  have HO := hid (show OwnN w1 B (some ⟨w.heap.size, 0, none⟩) 0 n (dep 0 (l.take 0)) from hown)
  clear hown hgrow hF1
  go_enter Tryd.func12, Tryd.ntmps12
  go_wp2_with fail
  go_loopg [3, 4, 12] n (fun d out dv k wr => DpRel l w B d out dv k wr)
  case atStart => exact ⟨0, _, n, 0, by omega, by rw [HN.out, Nat.sub_zero], rfl, rfl, rfl, rfl, HO.out, HF1.out.mono (fun _ h => h.elim)⟩
  case round =>
    obtain ⟨wo, rfl⟩ : ∃ wo, wo = wr := ⟨_, rfl⟩
    obtain ⟨k, Ab, cb, x, hk, hd, rfl, rfl, rfl, hx, hown, hF⟩ := hrel
    rw [HN.out] at hk hd
    have hxb := dend_bound 0 (l.take k)
    rw [← hx] at hxb
    have hxl : (l.take k).length ≤ k := by simp; omega
    have x1 : -1000 ≤ x := by omega
    have x2 : x ≤ 1000 := by omega
    clear hxb hxl
    have HX := hid hx
    have HD := hid hd
    have HOW := hid hown
    clear hx hd hown hmk hs1
    have HF := hid hF
    by_cases hlt : k < n
    · obtain ⟨⟨op, a, b, ci, m⟩, hik⟩ : ∃ i, l[k]? = some i := ⟨_, List.getElem?_eq_getElem (by rw [HN.out]; exact hlt)⟩
      obtain ⟨g, o, rfl, hg, hcell⟩ := (hp.keep hF hBl (fun _ h1 h2 => by omega)) (by rw [HN.out]; omega)
      obtain ⟨s0, s1, s2, s3, s4⟩ := hcell k _ hik
      simp only at s0 s1 s2 s3 s4
      have HIK := hid hik
      have hBr : B ≤ wo.heap.size := Nat.le_trans hBl hF.size
      have hgl : g < wo.heap.size := Nat.lt_of_lt_of_le hg hBr
      have HNX := hid (show dend 0 (l.take (k + 1)) = dstep op x by rw [take_snoc' hik, dend_snoc, ← HX.out])
      have HDX := hid (show dep 0 (l.take (k + 1)) = dep 0 (l.take k) ++ [x] by rw [take_snoc' hik, dep_snoc, ← HX.out])
      clear hik hcell hF
      obtain ⟨wa, hwa⟩ : ∃ wa, wa = wo.alloc (.cells #[.int .i64 op, .int .i64 a, .int .i64 b, .int .i64 ci, .int .i64 m] 44) := ⟨_, rfl⟩
      have hFa : Fr (fun _ => False) wo wa := by rw [hwa]; exact Fr.alloc _ _ _
      have HBI := hid (show Blk wa wo.heap.size #[.int .i64 op, .int .i64 a, .int .i64 b, .int .i64 ci, .int .i64 m] by rw [hwa]; exact Blk.new _ _ _)
      have HIT := hid (show TBlk wa wo.heap.size #[.int .i64 op, .int .i64 a, .int .i64 b, .int .i64 ci, .int .i64 m] 44 by rw [hwa]; exact TBlk.new _ _ _)
      have HFA := hid hFa
      have HOW2 := hid ((OwnR.same HOW.out hFa).same (Fr.alloc _ wa (.cells #[.int .i64 x] 3)))
      have HNW := hid (news_int wa x (b := wo.heap.size + 1) (by rw [hwa]; simp))
      have hBa : B ≤ wa.heap.size := Nat.le_trans hBr hFa.size
      rw [hwa] at HOW2 HNW hBa
      have HWA := hid hwa
      clear hFa hwa
      have hm : op = 11 ∨ op = 12 ∨ (¬ op = 11 ∧ ¬ op = 12) := by omega
      rcases hm with rfl | rfl | ⟨h11, h12⟩
      · have HV := hid (HNX.out.trans (show dstep 11 x = x + 1 by simp [dstep]))
        go_wp2_with (at_builtin; (refine wpList_append_own _ rfl _ _ 25 rfl B 3 i0 (.int .i64 0) 1 8 Tryd.underlying25 HI.out HZ0.out HZ1.out HZ2.out rfl (by decide) (.slice Ab k cb) k _ rfl HOW2.out ⟨wo.heap.size + 1, 0, none⟩ 1 1 (ints [x]) rfl rfl HNW.out (ints_one _) (by unfold maxLen; omega) (by omega) (by simp; omega) ?_; intro v2 w2 hown2 hgrow2 hnil2; clear hnil2; obtain ⟨A2, c2, rfl, ho2⟩ := OwnR.form hown2; have HO2 := hid ho2; have HG2 := hid hgrow2; clear hown2 hgrow2 ho2; have hbi := HBI.out.keep (((Fr.alloc (fun _ => False) _ _).mono (fun _ h => h.elim)).trans (Fr.of_grown (by have := HG2.out; rw [← HWA.out] at this; exact this))) (fun h => OwnR.ne (OwnR.same HOW.out HFA.out) HIT.out (by decide) h); have s0 := hbi.cell (i := 0) rfl; have HBI2 := hid hbi; clear hbi))
        go_roundg (n - (k + 1))
        case rel => exact ⟨k + 1, A2, c2, _, by rw [HN.out]; omega, by rw [HN.out], by go_num, rfl, rfl, HV.out.symm, OwnR.eq HO2.out (by rw [HDX.out, ints_snoc]), HF.out.trans ((((Fr.alloc (fun _ => False) _ _).trans (Fr.alloc _ _ _)).mono (fun _ h => h.elim)).trans ((Fr.of_grown HG2.out).mono (fun q h => (OwnR.lt HOW.out q h).1)))⟩
        case measure => have := HD.out; omega
      · have HV := hid (HNX.out.trans (show dstep 12 x = x - 1 by simp [dstep]))
        go_wp2_with (at_builtin; (refine wpList_append_own _ rfl _ _ 25 rfl B 3 i0 (.int .i64 0) 1 8 Tryd.underlying25 HI.out HZ0.out HZ1.out HZ2.out rfl (by decide) (.slice Ab k cb) k _ rfl HOW2.out ⟨wo.heap.size + 1, 0, none⟩ 1 1 (ints [x]) rfl rfl HNW.out (ints_one _) (by unfold maxLen; omega) (by omega) (by simp; omega) ?_; intro v2 w2 hown2 hgrow2 hnil2; clear hnil2; obtain ⟨A2, c2, rfl, ho2⟩ := OwnR.form hown2; have HO2 := hid ho2; have HG2 := hid hgrow2; clear hown2 hgrow2 ho2; have hbi := HBI.out.keep (((Fr.alloc (fun _ => False) _ _).mono (fun _ h => h.elim)).trans (Fr.of_grown (by have := HG2.out; rw [← HWA.out] at this; exact this))) (fun h => OwnR.ne (OwnR.same HOW.out HFA.out) HIT.out (by decide) h); have s0 := hbi.cell (i := 0) rfl; have HBI2 := hid hbi; clear hbi))
        go_roundg (n - (k + 1))
        case rel => exact ⟨k + 1, A2, c2, _, by rw [HN.out]; omega, by rw [HN.out], by go_num, rfl, rfl, HV.out.symm, OwnR.eq HO2.out (by rw [HDX.out, ints_snoc]), HF.out.trans ((((Fr.alloc (fun _ => False) _ _).trans (Fr.alloc _ _ _)).mono (fun _ h => h.elim)).trans ((Fr.of_grown HG2.out).mono (fun q h => (OwnR.lt HOW.out q h).1)))⟩
        case measure => have := HD.out; omega
      · have HV := hid (HNX.out.trans (show dstep op x = x by simp [dstep, h11, h12]))
        have t1 : (op == 11) = false := beq_eq_false_iff_ne.2 h11
        have t2 : (op == 12) = false := beq_eq_false_iff_ne.2 h12
        go_wp2_with (at_builtin; (refine wpList_append_own _ rfl _ _ 25 rfl B 3 i0 (.int .i64 0) 1 8 Tryd.underlying25 HI.out HZ0.out HZ1.out HZ2.out rfl (by decide) (.slice Ab k cb) k _ rfl HOW2.out ⟨wo.heap.size + 1, 0, none⟩ 1 1 (ints [x]) rfl rfl HNW.out (ints_one _) (by unfold maxLen; omega) (by omega) (by simp; omega) ?_; intro v2 w2 hown2 hgrow2 hnil2; clear hnil2; obtain ⟨A2, c2, rfl, ho2⟩ := OwnR.form hown2; have HO2 := hid ho2; have HG2 := hid hgrow2; clear hown2 hgrow2 ho2; have hbi := HBI.out.keep (((Fr.alloc (fun _ => False) _ _).mono (fun _ h => h.elim)).trans (Fr.of_grown (by have := HG2.out; rw [← HWA.out] at this; exact this))) (fun h => OwnR.ne (OwnR.same HOW.out HFA.out) HIT.out (by decide) h); have s0 := hbi.cell (i := 0) rfl; have HBI2 := hid hbi; clear hbi))
        go_roundg (n - (k + 1))
        case rel => exact ⟨k + 1, A2, c2, _, by rw [HN.out]; omega, by rw [HN.out], by go_num, rfl, rfl, HV.out.symm, OwnR.eq HO2.out (by rw [HDX.out, ints_snoc]), HF.out.trans ((((Fr.alloc (fun _ => False) _ _).trans (Fr.alloc _ _ _)).mono (fun _ h => h.elim)).trans ((Fr.of_grown HG2.out).mono (fun q h => (OwnR.lt HOW.out q h).1)))⟩
        case measure => have := HD.out; omega
    · go_wp2_with fail
      go_ret
      refine ⟨Ab, k, cb, rfl, ?_, ?_, ?_⟩
      · rw [dep_len, HN.out]; omega
      · have h := OwnN.nums HOW.out
        rw [List.take_of_length_le (by rw [HN.out]; omega)] at h
        exact h
      · exact Fr.to_none (by rw [← HB.out]; exact HF.out)

end Go.Proofs.YthpkhcompkfcaaaDoor
