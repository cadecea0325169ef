/-
  A look's Step (walk).
-/
import Derived.Test.YtoajdknhllaoeaaPar
import Derived.Deep.RegionLaw
import Derived.Deep.AppendLies
namespace Go.Proofs.Ytoajdknhllaoeaa
open Go.RowKit
set_option linter.unusedVariables false

/-- A look in memory: at a tree, which scope is next (-1: none), how it ended. -/
def LkM (w : World) (lb tb : Nat) (x : Int) (v : Bool) : Prop := Blk w lb #[.pointer (some ⟨tb, 0, none⟩), .int .i64 x, .bool v]

section
variable {O : Nat → Prop} {b : MB} {tb : Nat} {T : Sc} (w : World)

set_option maxRecDepth 100000 in
set_option maxHeartbeats 1000000 in
/-- One that is done tells the same again. -/
theorem lstep_done (lb : Nat) (v : Bool) (x : Int) (hl : LkM w lb tb (-1) v) : Calls Try.prog 34 #[.pointer (some ⟨lb, 0, none⟩), .pointer (some ⟨b.m, 0, none⟩), .int .i64 x] w fun e w' => e = .returned (.tuple #[.bool true, .bool v, .int .i64 0]) ∧ Fr (fun _ => False) w w' := by
  have HD := hid (ldone_ok w lb _ _ (-1) true (by decide) hl)
  have c2 : w.cell? ⟨lb, 2, none⟩ = some (.bool v) := hl.cell rfl
  have hlt := hl.lt
  clear hl
  go_enter Try.func34, Try.ntmps34
  go_wp2_with fail
  refine HD.out.mono ?_
  rintro e w1 ⟨rfl, hw⟩
  subst hw
  go_upto_region 4 with fail
  go_quiet (fail)
  go_wp2_with fail
  refine bodyPost_ret (results_tmp3 rfl _ _ _) rfl ?_
  exact ⟨rfl, Fr.drewN _ _ _⟩

set_option maxRecDepth 100000 in
set_option maxHeartbeats 2000000 in
/-- Nobody who may ask. -/
theorem lstep_who (lb k : Nat) (v : Bool) (x : Int) (hk : k < T.n) (hx : x < 0 ∨ (T.s.length : Int) ≤ x) (hl : LkM w lb tb k v) (h : Trm w O b tb T) (hn : ¬ O lb) : Calls Try.prog 34 #[.pointer (some ⟨lb, 0, none⟩), .pointer (some ⟨b.m, 0, none⟩), .int .i64 x] w fun e w' => e = .returned (.tuple #[.bool false, .bool false, .int .i64 10]) ∧ Trm w' O b tb T ∧ Fr O w w' := by
  have HD := hid (ldone_ok w lb _ _ (k : Int) false (by simp) hl)
  have HAS := hid (fun (W : World) (F : Fr (fun _ => False) w W) => asked_who W k x hx hk (h.same F))
  have HSS := hid (show ∀ W, Fr O w W → W.cell? ⟨lb, 0, none⟩ = some (.pointer (some ⟨tb, 0, none⟩)) ∧ W.cell? ⟨lb, 1, none⟩ = some (.int .i64 (k : Nat)) ∧ lb < W.heap.size from fun W F => ⟨(hl.keep F hn).cell rfl, (hl.keep F hn).cell rfl, (hl.keep F hn).lt⟩)
  have HFd := hid (Fr.refl O w)
  obtain ⟨c0, c1, hlt⟩ := HSS.out w (Fr.refl _ _)
  clear hl h hk hx
  go_enter Try.func34, Try.ntmps34
  go_wp2_with fail
  refine HD.out.mono ?_
  rintro e w1 ⟨rfl, hw⟩
  subst hw
  go_upto_region 5 with fail
  go_region_held3 (fun W => W.cell? ⟨lb, 0, none⟩ = some (.pointer (some ⟨tb, 0, none⟩)) ∧ W.cell? ⟨lb, 1, none⟩ = some (.int .i64 (k : Nat)) ∧ lb < W.heap.size)
    (first | exact HSS.out _ HFd.out | exact HSS.out _ (HFd.out.trans (Fr.drew _ _)))
    (first
      | (go_at_call 20; (with_reducible refine (HAS.out _ (by first | exact Fr.refl _ _ | exact Fr.drew _ _)).mono ?_); rintro e w6 ⟨rfl, h6, hF6⟩; have HT6 := hid h6; have HFd := hid (Fr.trans (show Fr O w _ from by first | exact Fr.refl _ _ | exact Fr.drew _ _) hF6); clear hF6 h6))
  all_goals
    go_wp2_with fail
    refine bodyPost_ret (results_tmp3 rfl _ _ _) rfl ?_
    exact ⟨rfl, HT6.out.same (by first | exact Fr.refl _ _ | exact Fr.drew _ _), HFd.out.trans (by first | exact Fr.refl _ _ | exact Fr.drew _ _)⟩

/-- What a step leaves. -/
def LsPost (O : Nat → Prop) (b : MB) (tb : Nat) (T : Sc) (lb j : Nat) (x : Int) (v : Bool) (w w' : World) : Prop := Trm w' O b tb (T.step j) ∧ LkM w' lb tb x v ∧ Fr (fun i => O i ∨ i = lb) w w'

set_option maxRecDepth 100000 in
set_option maxHeartbeats 4000000 in
/-- It is asked. -/
theorem lstep_yes (lb k j : Nat) (v : Bool) (x : Int) (hk : k < T.n) (hx : x = j) (hj : j < T.s.length) (ha : T.asked k = true) (hl : LkM w lb tb k v) (h : Trm w O b tb T) (hn : ¬ O lb) : Calls Try.prog 34 #[.pointer (some ⟨lb, 0, none⟩), .pointer (some ⟨b.m, 0, none⟩), .int .i64 x] w fun e w' => e = .returned (.tuple #[.bool true, .bool true, .int .i64 0]) ∧ LsPost O b tb T lb j (-1) true w w' := by
  have HD := hid (ldone_ok w lb _ _ (k : Int) false (by simp) hl)
  have HAS := hid (fun (W : World) (F : Fr (fun _ => False) w W) => asked_ok W j k x hx hj hk true ha (h.same F))
  have HPA := hid (fun (W : World) (hT : Trm W O b tb (T.step j)) => parent_ok (T := T.step j) W k hk hT)
  have HSS := hid (show ∀ W, Fr O w W → W.cell? ⟨lb, 0, none⟩ = some (.pointer (some ⟨tb, 0, none⟩)) ∧ W.cell? ⟨lb, 1, none⟩ = some (.int .i64 (k : Nat)) ∧ lb < W.heap.size from fun W F => ⟨(hl.keep F hn).cell rfl, (hl.keep F hn).cell rfl, (hl.keep F hn).lt⟩)
  have HKP := hid (show ∀ W, Fr O w W → LkM W lb tb k v from fun W F => hl.keep F hn)
  have HFd := hid (Fr.refl O w)
  have HNO := hid hn
  obtain ⟨c0, c1, hlt⟩ := HSS.out w (Fr.refl _ _)
  have hpi : (T.step j).par = T.par := rfl
  rw [hpi] at HPA
  obtain ⟨p, hp⟩ : ∃ p, pI T.par k = p := ⟨_, rfl⟩
  rw [hp] at HPA
  clear hl h hk hx hj ha hp hn hpi
  go_enter Try.func34, Try.ntmps34
  go_wp2_with fail
  refine HD.out.mono ?_
  rintro e w1 ⟨rfl, hw⟩
  subst hw
  go_upto_region 5 with fail
  go_region_held3 (fun W => W.cell? ⟨lb, 0, none⟩ = some (.pointer (some ⟨tb, 0, none⟩)) ∧ W.cell? ⟨lb, 1, none⟩ = some (.int .i64 (k : Nat)) ∧ lb < W.heap.size)
    (first | exact HSS.out _ HFd.out | exact HSS.out _ (HFd.out.trans (Fr.drew _ _)))
    (first
      | (go_at_call 20; (with_reducible refine (HAS.out _ (by first | exact Fr.refl _ _ | exact Fr.drew _ _)).mono ?_); rintro e w6 ⟨rfl, h6, hF6⟩; have HT6 := hid h6; have HFd := hid (Fr.trans (show Fr O w _ from by first | exact Fr.refl _ _ | exact Fr.drew _ _) hF6); clear hF6 h6))
  all_goals
    go_upto_region 8 with fail
    have HT7 := hid HT6.out
    have HF7 := hid HFd.out
    clear HFd HT6
    have HK7 := hid (HKP.out w6 HF7.out)
    obtain ⟨q0, q1, ql⟩ := HSS.out w6 HF7.out
    go_region_law (go_simp; go_at_call 26; refine (HPA.out w6.drew (HT7.out.same (Fr.drew _ _))).mono ?_; rintro e w8 ⟨rfl, hF8'⟩; have hF8 := (Fr.drew (fun _ => False) w6).trans hF8'; clear hF8'; have HF8 := hid hF8; have HK8 := hid (show LkM w8 lb tb k v from HK7.out.keep hF8 id); have p0 : w8.cell? ⟨lb, 0, none⟩ = some (.pointer (some ⟨tb, 0, none⟩)) := HK8.out.cell rfl; have p1 : w8.cell? ⟨lb, 1, none⟩ = some (.int .i64 (k : Nat)) := HK8.out.cell rfl; have p2 : w8.cell? ⟨lb, 2, none⟩ = some (.bool v) := HK8.out.cell rfl; have pl := HK8.out.lt; have z1 := HK8.out.frozen 1; have z2 := HK8.out.frozen 2; clear hF8)
    all_goals
      have HK9 := hid (show LkM ((w8.setCell ⟨lb, 1, none⟩ (.int .i64 p)).setCell ⟨lb, 2, none⟩ (.bool true)) lb tb p true from (HK8.out.set 1 (.int .i64 p)).set 2 (.bool true))
      have HF9 := hid (show Fr (fun i => i = lb) w8 ((w8.setCell ⟨lb, 1, none⟩ (.int .i64 p)).setCell ⟨lb, 2, none⟩ (.bool true)) from (Fr.setCell (S := fun i => i = lb) _ _ _ rfl).trans (Fr.setCell _ _ _ rfl))
      obtain ⟨w9, hw9⟩ : ∃ w9, (w8.setCell ⟨lb, 1, none⟩ (.int .i64 p)).setCell ⟨lb, 2, none⟩ (.bool true) = w9 := ⟨_, rfl⟩
      rw [hw9] at HK9 HF9 ⊢
      clear hw9 p0 p1 p2 z1 z2 pl q0 q1 ql
      have HTA := hid (show Trm w9 O b tb (T.step j) from (HT7.out.same HF8.out).keep HF9.out (fun i hi e => HNO.out (e ▸ hi)))
      have HFA := hid (show Fr (fun i => O i ∨ i = lb) w w9 from ((HF7.out.mono (fun i hi => .inl hi)).trans (HF8.out.mono (fun _ h => h.elim))).trans (HF9.out.mono (fun i hi => .inr hi)))
      have k0 : w9.cell? ⟨lb, 1, none⟩ = some (.int .i64 p) := HK9.out.cell rfl
      have z1 := HK9.out.frozen 1
      have pl := HK9.out.lt
      go_upto_region 11 with fail
      have HKB := hid (show LkM (w9.setCell ⟨lb, 1, none⟩ (.int .i64 (-1))) lb tb (-1) true from HK9.out.set 1 (.int .i64 (-1)))
      have hFB : Fr (fun i => i = lb) w9 (w9.setCell ⟨lb, 1, none⟩ (.int .i64 (-1))) := Fr.setCell _ _ _ rfl
      obtain ⟨wb, hwb⟩ : ∃ wb, w9.setCell ⟨lb, 1, none⟩ (.int .i64 (-1)) = wb := ⟨_, rfl⟩
      rw [hwb] at HKB hFB ⊢
      have HFB := hid hFB
      clear hwb k0 z1 pl hFB
      have HTB := hid (HTA.out.keep HFB.out (fun i hi e => HNO.out (e ▸ hi)))
      have HFC := hid (HFA.out.trans (HFB.out.mono (fun i hi => .inr hi)))
      have c2 : wb.cell? ⟨lb, 2, none⟩ = some (.bool true) := HKB.out.cell rfl
      have pl := HKB.out.lt
      have HDD := hid (fun n => ldone_ok (wb.drewN n) lb _ _ (-1) true (by decide) (HKB.out.drewN n))
      go_quiet ((go_at_call 49; exact ((HDD.out _).mono fun _ _ ⟨he, hm⟩ => ⟨he, _, hm.symm⟩)))
      go_wp2_with fail
      refine bodyPost_ret (results_tmp3 rfl _ _ _) rfl ?_
      exact ⟨rfl, HTB.out.same (Fr.drewN _ _ _), HKB.out.drewN _, HFC.out.trans (Fr.drewN _ _ _)⟩


set_option maxRecDepth 100000 in
set_option maxHeartbeats 4000000 in
/-- It is not asked. -/
theorem lstep_not (lb k j : Nat) (v : Bool) (x : Int) (r : Bool) (hr : (pI T.par k == -1) = r) (hk : k < T.n) (hx : x = j) (hj : j < T.s.length) (ha : T.asked k = false) (hl : LkM w lb tb k v) (h : Trm w O b tb T) (hn : ¬ O lb) : Calls Try.prog 34 #[.pointer (some ⟨lb, 0, none⟩), .pointer (some ⟨b.m, 0, none⟩), .int .i64 x] w fun e w' => e = .returned (.tuple #[.bool r, .bool false, .int .i64 0]) ∧ LsPost O b tb T lb j (pI T.par k) false w w' := by
  have HD := hid (ldone_ok w lb _ _ (k : Int) false (by simp) hl)
  have HAS := hid (fun (W : World) (F : Fr (fun _ => False) w W) => asked_ok W j k x hx hj hk false ha (h.same F))
  have HPA := hid (fun (W : World) (hT : Trm W O b tb (T.step j)) => parent_ok (T := T.step j) W k hk hT)
  have HSS := hid (show ∀ W, Fr O w W → W.cell? ⟨lb, 0, none⟩ = some (.pointer (some ⟨tb, 0, none⟩)) ∧ W.cell? ⟨lb, 1, none⟩ = some (.int .i64 (k : Nat)) ∧ lb < W.heap.size from fun W F => ⟨(hl.keep F hn).cell rfl, (hl.keep F hn).cell rfl, (hl.keep F hn).lt⟩)
  have HKP := hid (show ∀ W, Fr O w W → LkM W lb tb k v from fun W F => hl.keep F hn)
  have HFd := hid (Fr.refl O w)
  have HNO := hid hn
  obtain ⟨c0, c1, hlt⟩ := HSS.out w (Fr.refl _ _)
  have hpi : (T.step j).par = T.par := rfl
  rw [hpi] at HPA
  obtain ⟨p, hp⟩ : ∃ p, pI T.par k = p := ⟨_, rfl⟩
  rw [hp] at HPA hr ⊢
  have HR := hid hr
  clear hl h hk hx hj ha hp hn hpi hr
  go_enter Try.func34, Try.ntmps34
  go_wp2_with fail
  refine HD.out.mono ?_
  rintro e w1 ⟨rfl, hw⟩
  subst hw
  go_upto_region 5 with fail
  go_region_held3 (fun W => W.cell? ⟨lb, 0, none⟩ = some (.pointer (some ⟨tb, 0, none⟩)) ∧ W.cell? ⟨lb, 1, none⟩ = some (.int .i64 (k : Nat)) ∧ lb < W.heap.size)
    (first | exact HSS.out _ HFd.out | exact HSS.out _ (HFd.out.trans (Fr.drew _ _)))
    (first
      | (go_at_call 20; (with_reducible refine (HAS.out _ (by first | exact Fr.refl _ _ | exact Fr.drew _ _)).mono ?_); rintro e w6 ⟨rfl, h6, hF6⟩; have HT6 := hid h6; have HFd := hid (Fr.trans (show Fr O w _ from by first | exact Fr.refl _ _ | exact Fr.drew _ _) hF6); clear hF6 h6))
  all_goals
    go_upto_region 8 with fail
    have HT7 := hid HT6.out
    have HF7 := hid HFd.out
    clear HFd HT6
    have HK7 := hid (HKP.out w6 HF7.out)
    obtain ⟨q0, q1, ql⟩ := HSS.out w6 HF7.out
    go_region_law (go_simp; go_at_call 26; refine (HPA.out w6.drew (HT7.out.same (Fr.drew _ _))).mono ?_; rintro e w8 ⟨rfl, hF8'⟩; have hF8 := (Fr.drew (fun _ => False) w6).trans hF8'; clear hF8'; have HF8 := hid hF8; have HK8 := hid (show LkM w8 lb tb k v from HK7.out.keep hF8 id); have p0 : w8.cell? ⟨lb, 0, none⟩ = some (.pointer (some ⟨tb, 0, none⟩)) := HK8.out.cell rfl; have p1 : w8.cell? ⟨lb, 1, none⟩ = some (.int .i64 (k : Nat)) := HK8.out.cell rfl; have p2 : w8.cell? ⟨lb, 2, none⟩ = some (.bool v) := HK8.out.cell rfl; have pl := HK8.out.lt; have z1 := HK8.out.frozen 1; have z2 := HK8.out.frozen 2; clear hF8)
    all_goals
      have HK9 := hid (show LkM ((w8.setCell ⟨lb, 1, none⟩ (.int .i64 p)).setCell ⟨lb, 2, none⟩ (.bool false)) lb tb p false from (HK8.out.set 1 (.int .i64 p)).set 2 (.bool false))
      have HF9 := hid (show Fr (fun i => i = lb) w8 ((w8.setCell ⟨lb, 1, none⟩ (.int .i64 p)).setCell ⟨lb, 2, none⟩ (.bool false)) from (Fr.setCell (S := fun i => i = lb) _ _ _ rfl).trans (Fr.setCell _ _ _ rfl))
      obtain ⟨w9, hw9⟩ : ∃ w9, (w8.setCell ⟨lb, 1, none⟩ (.int .i64 p)).setCell ⟨lb, 2, none⟩ (.bool false) = w9 := ⟨_, rfl⟩
      rw [hw9] at HK9 HF9 ⊢
      clear hw9 p0 p1 p2 z1 z2 pl q0 q1 ql
      have HTA := hid (show Trm w9 O b tb (T.step j) from (HT7.out.same HF8.out).keep HF9.out (fun i hi e => HNO.out (e ▸ hi)))
      have HFA := hid (show Fr (fun i => O i ∨ i = lb) w w9 from ((HF7.out.mono (fun i hi => .inl hi)).trans (HF8.out.mono (fun _ h => h.elim))).trans (HF9.out.mono (fun i hi => .inr hi)))
      have HKB := HK9
      have c2 : w9.cell? ⟨lb, 2, none⟩ = some (.bool false) := HKB.out.cell rfl
      have pl := HKB.out.lt
      have HDD := hid (fun n => ldone_ok (w9.drewN n) lb _ _ p r HR.out (HKB.out.drewN n))
      go_upto_region 11 with fail
      go_quiet ((go_at_call 49; exact ((HDD.out _).mono fun _ _ ⟨he, hm⟩ => ⟨he, _, hm.symm⟩)))
      go_wp2_with fail
      refine bodyPost_ret (results_tmp3 rfl _ _ _) rfl ?_
      exact ⟨rfl, HTA.out.same (Fr.drewN _ _ _), HKB.out.drewN _, HFA.out.trans (Fr.drewN _ _ _)⟩

end
end Go.Proofs.Ytoajdknhllaoeaa
