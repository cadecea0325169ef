/-
  Copyings of the program: their steps.
-/
import Derived.Test.YtiofdfgcghiibaaCopy
import Derived.Test.YtiofdfgcghiibaaCalls
namespace Go.Proofs.Ytiofdfgcghiibaa
open Go.RowKit
set_option linter.unusedVariables false
attribute [local go_sem] run_store_func

/-- What holds of any copying. -/
structure Cp.Ok (C : Cp) : Prop where
  r1 : Rg.Right ⟨C.a, C.l⟩
  r2 : Rg.Right ⟨C.b, C.k⟩
  le : C.pl ≤ C.til
  lo : -9223372036854775808 ≤ C.pl
  hi : C.til ≤ 9223372036854775807

def CM (b : MB) (c : Nat) (k : Nat) : Prop := b.own k ∨ k = c

theorem IsC.keep {S : Nat → Prop} {w w' : World} {c : Nat} {C : Cp} (h : IsC w c C) (f : Fr S w w') (hb : ¬ S c) : IsC w' c C := Blk.keep h f hb
theorem IsC.same {w w' : World} {c : Nat} {C : Cp} (h : IsC w c C) (f : Fr (fun _ => False) w w') : IsC w' c C := Blk.keep h f id

theorem nextV_f (c : Nat) : nextV c false = .func (.func 106) #[.pointer (some ⟨c, 0, none⟩)] #[] := rfl
theorem nextV_t (c : Nat) : nextV c true = .func (.func 109) #[.pointer (some ⟨c, 0, none⟩)] #[] := rfl

set_option maxHeartbeats 400000 in
theorem done_any (c : Nat) (C : Cp) (w : World) (h : IsC w c C) :
    Calls Try.prog 110 #[.pointer (some ⟨c, 0, none⟩)] w fun e w' => e = .returned (.bool (C.pl == C.til)) ∧ Fr (fun _ => False) w w' := by
  obtain ⟨a, l, b, k, p, u, x, t⟩ := C
  have c4 := h.cell (i := 4) rfl
  have c5 := h.cell (i := 5) rfl
  go_enter Try.func110, Try.ntmps110
  go_wp2
  go_quiet (fail)
  go_wp2
  go_ret
  exact ⟨rfl, Fr.drewN _ _ _⟩

set_option maxRecDepth 100000 in
set_option maxHeartbeats 800000 in
theorem cload_ok (b : MB) (M : Mach) (c : Nat) (C : Cp) (j n : Nat) (w : World) (hM : IsM w b M) (hC : IsC w c C) (hl : C.loaded = false) (hcb : ¬ b.own c) (hj : j < M.steps.length) (hn : Rg.place ⟨C.a, C.l⟩ C.pl = n) (hk : n < M.used) :
    Calls Try.prog 106 #[.pointer (some ⟨c, 0, none⟩), .pointer (some ⟨b.m, 0, none⟩), .int .i64 j] w fun e w' => e = .returned (.int .i64 0) ∧ IsC w' c { C with x := M.all.getD n 0, loaded := true } ∧ IsM w' b (M.step j) ∧ Fr (CM b c) w w' := by
  obtain ⟨a, l, g, k, p, u, x, t⟩ := C
  simp only at hl hn
  subst hl
  have HP := hid (fun (v : World) => place_any a l p v)
  rw [hn] at HP
  have HL := hid (fun (v : World) (F : Fr (fun _ => False) w v) => load_ok b M j n v (hM.same F) hj hk)
  obtain ⟨z, hz⟩ : ∃ z, M.all.getD n 0 = z := ⟨_, rfl⟩
  rw [hz] at HL ⊢
  have HC := hid hC
  have HCB := hid hcb
  have HS := hid (show ∀ w', Fr b.own w w' → w'.cell? ⟨c, 0, none⟩ = some (.int .i64 a) ∧ w'.cell? ⟨c, 1, none⟩ = some (.int .i64 l) ∧ w'.cell? ⟨c, 4, none⟩ = some (.int .i64 p) from
    fun w' F => ⟨(hC.keep F hcb).cell rfl, (hC.keep F hcb).cell rfl, (hC.keep F hcb).cell rfl⟩)
  have HFd := hid (Fr.refl (fun _ => False) w)
  have HBL := hid hC.lt
  clear hM hC hcb hn hk hj hz
  go_enter Try.func106, Try.ntmps106
  go_upto_region 1 with fail
  go_region_held3 (fun w' => w'.cell? ⟨c, 0, none⟩ = some (.int .i64 a) ∧ w'.cell? ⟨c, 1, none⟩ = some (.int .i64 l) ∧ w'.cell? ⟨c, 4, none⟩ = some (.int .i64 p))
    (first | exact HS.out _ HG.out | exact HS.out _ (HFd.out.mono (fun _ h => h.elim)) | exact HS.out _ ((HFd.out.trans (Fr.drew _ _)).mono (fun _ h => h.elim)))
    (first
      | (go_at_call 65; (with_reducible refine (HP.out _).mono ?_); rintro e w6 ⟨rfl, hF6⟩; have HFd := hid (HFd.out.trans (Fr.trans (by first | exact Fr.refl _ _ | exact Fr.drew _ _) hF6)); clear hF6)
      | (go_at_call 72; (with_reducible refine (HL.out _ (by first | exact HFd.out | exact HFd.out.trans (Fr.drew _ _))).mono ?_); rintro e w7 ⟨rfl, hM7, hF7⟩; have HM7 := hid hM7; have HG := hid ((HFd.out.mono (fun _ h => h.elim)).trans (Fr.trans (by first | exact Fr.refl _ _ | exact Fr.drew _ _) hF7)); clear hF7 hM7))
  all_goals
    have hC7 := HC.out.keep HG.out HCB.out
    have f6 := Blk.frozen hC7 6
    have c6 := Blk.cell hC7 (i := 6) rfl
    have f7 := Blk.frozen hC7 7
    have c7 := Blk.cell hC7 (i := 7) rfl
    go_wp2_with fail
    go_ret
    have hF9 : Fr (fun i => i = c) w7 ((w7.setCell ⟨c, 6, none⟩ (.int .i64 z)).setCell ⟨c, 7, none⟩ (nextV c true)) := (Fr.setCell (S := fun i => i = c) _ _ _ rfl).trans (Fr.setCell _ _ _ rfl)
    refine ⟨rfl, ?_, HM7.out.keep hF9 (fun i hi hh => HCB.out (by rw [← hh]; exact hi)), (HG.out.mono (fun _ h => .inl h)).trans (hF9.mono (fun _ h => .inr h))⟩
    simpa [IsC, nextV] using Blk.set (Blk.set hC7 6 (.int .i64 z)) 7 (nextV c true)

set_option maxRecDepth 100000 in
set_option maxHeartbeats 800000 in
theorem cload_no (b : MB) (M : Mach) (c : Nat) (C : Cp) (e0 : Int) (w : World) (hM : IsM w b M) (hC : IsC w c C) (hl : C.loaded = false) (hcb : ¬ b.own c) (hno : ¬ (0 ≤ e0 ∧ e0 < M.steps.length ∧ 0 ≤ Rg.place ⟨C.a, C.l⟩ C.pl ∧ Rg.place ⟨C.a, C.l⟩ C.pl < M.used)) :
    Calls Try.prog 106 #[.pointer (some ⟨c, 0, none⟩), .pointer (some ⟨b.m, 0, none⟩), .int .i64 e0] w fun e w' => e = .returned (.int .i64 10) ∧ Fr (fun _ => False) w w' := by
  obtain ⟨a, l, g, k, p, u, x, t⟩ := C
  simp only at hl hno
  subst hl
  have HP := hid (fun (v : World) => place_any a l p v)
  obtain ⟨y, hy⟩ : ∃ y, Rg.place ⟨a, l⟩ p = y := ⟨_, rfl⟩
  rw [hy] at HP hno
  have HL := hid (fun (v : World) (F : Fr (fun _ => False) w v) => load_no b M e0 y v (hM.same F) hno)
  have HC := hid hC
  have HCB := hid hcb
  have HS := hid (show ∀ w', Fr b.own w w' → w'.cell? ⟨c, 0, none⟩ = some (.int .i64 a) ∧ w'.cell? ⟨c, 1, none⟩ = some (.int .i64 l) ∧ w'.cell? ⟨c, 4, none⟩ = some (.int .i64 p) from
    fun w' F => ⟨(hC.keep F hcb).cell rfl, (hC.keep F hcb).cell rfl, (hC.keep F hcb).cell rfl⟩)
  have HFd := hid (Fr.refl (fun _ => False) w)
  have HBL := hid hC.lt
  clear hM hC hcb hno hy
  go_enter Try.func106, Try.ntmps106
  go_upto_region 1 with fail
  go_region_held3 (fun w' => w'.cell? ⟨c, 0, none⟩ = some (.int .i64 a) ∧ w'.cell? ⟨c, 1, none⟩ = some (.int .i64 l) ∧ w'.cell? ⟨c, 4, none⟩ = some (.int .i64 p))
    (first | exact HS.out _ HG.out | exact HS.out _ (HG.out.mono (fun _ h => h.elim)) | exact HS.out _ (HFd.out.mono (fun _ h => h.elim)) | exact HS.out _ ((HFd.out.trans (Fr.drew _ _)).mono (fun _ h => h.elim)))
    (first
      | (go_at_call 65; (with_reducible refine (HP.out _).mono ?_); rintro e w6 ⟨rfl, hF6⟩; have HFd := hid (HFd.out.trans (Fr.trans (by first | exact Fr.refl _ _ | exact Fr.drew _ _) hF6)); clear hF6)
      | (go_at_call 72; (with_reducible refine (HL.out _ (by first | exact HFd.out | exact HFd.out.trans (Fr.drew _ _))).mono ?_); rintro e w7 ⟨rfl, rfl⟩; have HG := hid (HFd.out.trans (by first | exact Fr.refl _ _ | exact Fr.drew _ _))))
  all_goals
    go_wp2_with fail
    go_ret
    exact ⟨rfl, HG.out⟩

set_option maxRecDepth 100000 in
set_option maxHeartbeats 800000 in
theorem cstore_ok (b : MB) (M : Mach) (c : Nat) (C : Cp) (j n : Nat) (w : World) (hM : IsM w b M) (hC : IsC w c C) (hl : C.loaded = true) (hcb : ¬ b.own c) (hj : j < M.steps.length) (hn : Rg.place ⟨C.b, C.k⟩ C.pl = n) (hk : n < M.used) (hlo : -9223372036854775808 ≤ C.pl) (hhi : C.pl < 9223372036854775807) :
    Calls Try.prog 109 #[.pointer (some ⟨c, 0, none⟩), .pointer (some ⟨b.m, 0, none⟩), .int .i64 j] w fun e w' => e = .returned (.int .i64 0) ∧ IsC w' c { C with pl := C.pl + 1, loaded := false } ∧ IsM w' b ((M.step j).put n C.x) ∧ Fr (CM b c) w w' := by
  obtain ⟨a, l, g, k, p, u, x, t⟩ := C
  simp only at hl hn hlo hhi
  subst hl
  have HP := hid (fun (v : World) => place_any g k p v)
  rw [hn] at HP
  have HL := hid (fun (v : World) (F : Fr (fun _ => False) w v) => store_ok b M j n x v (hM.same F) hj hk)
  have HC := hid hC
  have HCB := hid hcb
  have HS := hid (show ∀ w', Fr b.own w w' → w'.cell? ⟨c, 2, none⟩ = some (.int .i64 g) ∧ w'.cell? ⟨c, 3, none⟩ = some (.int .i64 k) ∧ w'.cell? ⟨c, 4, none⟩ = some (.int .i64 p) ∧ w'.cell? ⟨c, 6, none⟩ = some (.int .i64 x) from
    fun w' F => ⟨(hC.keep F hcb).cell rfl, (hC.keep F hcb).cell rfl, (hC.keep F hcb).cell rfl, (hC.keep F hcb).cell rfl⟩)
  have HFd := hid (Fr.refl (fun _ => False) w)
  have HBL := hid hC.lt
  clear hM hC hcb hn hk hj
  have q1 : p + 1 ≤ 9223372036854775807 := by omega
  have q2 : -9223372036854775808 ≤ p + 1 := by omega
  go_enter Try.func109, Try.ntmps109
  go_upto_region 1 with fail
  go_region_held3 (fun w' => w'.cell? ⟨c, 2, none⟩ = some (.int .i64 g) ∧ w'.cell? ⟨c, 3, none⟩ = some (.int .i64 k) ∧ w'.cell? ⟨c, 4, none⟩ = some (.int .i64 p) ∧ w'.cell? ⟨c, 6, none⟩ = some (.int .i64 x))
    (first | exact HS.out _ HG.out | exact HS.out _ (HFd.out.mono (fun _ h => h.elim)) | exact HS.out _ ((HFd.out.trans (Fr.drew _ _)).mono (fun _ h => h.elim)))
    (first
      | (go_at_call 65; (with_reducible refine (HP.out _).mono ?_); rintro e w6 ⟨rfl, hF6⟩; have HFd := hid (HFd.out.trans (Fr.trans (by first | exact Fr.refl _ _ | exact Fr.drew _ _) hF6)); clear hF6)
      | (go_at_call 47; (with_reducible refine (HL.out _ (by first | exact HFd.out | exact HFd.out.trans (Fr.drew _ _))).mono ?_); rintro e w7 ⟨rfl, hM7, hF7⟩; have HM7 := hid hM7; have HG := hid ((HFd.out.mono (fun _ h => h.elim)).trans (Fr.trans (by first | exact Fr.refl _ _ | exact Fr.drew _ _) hF7)); clear hF7 hM7))
  all_goals
    have hC7 := HC.out.keep HG.out HCB.out
    have f4 := Blk.frozen hC7 4
    have c4 := Blk.cell hC7 (i := 4) rfl
    have f7 := Blk.frozen hC7 7
    have c7 := Blk.cell hC7 (i := 7) rfl
    go_wp2_with fail
    go_ret
    have hF9 : Fr (fun i => i = c) w7 ((w7.setCell ⟨c, 4, none⟩ (.int .i64 (p + 1))).setCell ⟨c, 7, none⟩ (nextV c false)) := (Fr.setCell (S := fun i => i = c) _ _ _ rfl).trans (Fr.setCell _ _ _ rfl)
    refine ⟨rfl, ?_, HM7.out.keep hF9 (fun i hi hh => HCB.out (by rw [← hh]; exact hi)), (HG.out.mono (fun _ h => .inl h)).trans (hF9.mono (fun _ h => .inr h))⟩
    simpa [IsC, nextV] using Blk.set (Blk.set hC7 4 (.int .i64 (p + 1))) 7 (nextV c false)

set_option maxRecDepth 100000 in
set_option maxHeartbeats 800000 in
theorem cstore_no (b : MB) (M : Mach) (c : Nat) (C : Cp) (e0 : Int) (w : World) (hM : IsM w b M) (hC : IsC w c C) (hl : C.loaded = true) (hcb : ¬ b.own c) (hno : ¬ (0 ≤ e0 ∧ e0 < M.steps.length ∧ 0 ≤ Rg.place ⟨C.b, C.k⟩ C.pl ∧ Rg.place ⟨C.b, C.k⟩ C.pl < M.used)) :
    Calls Try.prog 109 #[.pointer (some ⟨c, 0, none⟩), .pointer (some ⟨b.m, 0, none⟩), .int .i64 e0] w fun e w' => e = .returned (.int .i64 10) ∧ Fr (fun _ => False) w w' := by
  obtain ⟨a, l, g, k, p, u, x, t⟩ := C
  simp only at hl hno
  subst hl
  have HP := hid (fun (v : World) => place_any g k p v)
  obtain ⟨y, hy⟩ : ∃ y, Rg.place ⟨g, k⟩ p = y := ⟨_, rfl⟩
  rw [hy] at HP hno
  have HL := hid (fun (v : World) (F : Fr (fun _ => False) w v) => store_no b M e0 y x v (hM.same F) hno)
  have HC := hid hC
  have HCB := hid hcb
  have HS := hid (show ∀ w', Fr b.own w w' → w'.cell? ⟨c, 2, none⟩ = some (.int .i64 g) ∧ w'.cell? ⟨c, 3, none⟩ = some (.int .i64 k) ∧ w'.cell? ⟨c, 4, none⟩ = some (.int .i64 p) ∧ w'.cell? ⟨c, 6, none⟩ = some (.int .i64 x) from
    fun w' F => ⟨(hC.keep F hcb).cell rfl, (hC.keep F hcb).cell rfl, (hC.keep F hcb).cell rfl, (hC.keep F hcb).cell rfl⟩)
  have HFd := hid (Fr.refl (fun _ => False) w)
  have HBL := hid hC.lt
  clear hM hC hcb hno hy
  go_enter Try.func109, Try.ntmps109
  go_upto_region 1 with fail
  go_region_held3 (fun w' => w'.cell? ⟨c, 2, none⟩ = some (.int .i64 g) ∧ w'.cell? ⟨c, 3, none⟩ = some (.int .i64 k) ∧ w'.cell? ⟨c, 4, none⟩ = some (.int .i64 p) ∧ w'.cell? ⟨c, 6, none⟩ = some (.int .i64 x))
    (first | exact HS.out _ HG.out | exact HS.out _ (HG.out.mono (fun _ h => h.elim)) | exact HS.out _ (HFd.out.mono (fun _ h => h.elim)) | exact HS.out _ ((HFd.out.trans (Fr.drew _ _)).mono (fun _ h => h.elim)))
    (first
      | (go_at_call 65; (with_reducible refine (HP.out _).mono ?_); rintro e w6 ⟨rfl, hF6⟩; have HFd := hid (HFd.out.trans (Fr.trans (by first | exact Fr.refl _ _ | exact Fr.drew _ _) hF6)); clear hF6)
      | (go_at_call 47; (with_reducible refine (HL.out _ (by first | exact HFd.out | exact HFd.out.trans (Fr.drew _ _))).mono ?_); rintro e w7 ⟨rfl, rfl⟩; have HG := hid (HFd.out.trans (by first | exact Fr.refl _ _ | exact Fr.drew _ _))))
  all_goals
    go_wp2_with fail
    go_ret
    exact ⟨rfl, HG.out⟩

set_option maxHeartbeats 400000 in
theorem step_nil (m : Value) (hm : m = .pointer none ∨ ∃ a, m = .pointer (some a)) (x : Int) (w : World) :
    Calls Try.prog 107 #[.pointer none, m, .int .i64 x] w fun e w' => e = .returned (.tuple #[.bool false, .int .i64 2]) ∧ w = w' := by
  rcases hm with rfl | ⟨a, rfl⟩ <;>
  · go_enter Try.func107, Try.ntmps107
    go_wp2
    go_ret2
    exact ⟨rfl, rfl⟩

set_option maxHeartbeats 400000 in
theorem step_none (c : Nat) (x : Int) (w : World) :
    Calls Try.prog 107 #[.pointer (some ⟨c, 0, none⟩), .pointer none, .int .i64 x] w fun e w' => e = .returned (.tuple #[.bool false, .int .i64 2]) ∧ w = w' := by
  go_enter Try.func107, Try.ntmps107
  go_wp2
  go_ret2
  exact ⟨rfl, rfl⟩

set_option maxHeartbeats 400000 in
theorem step_done (c m : Nat) (C : Cp) (x : Int) (w : World) (hC : IsC w c C) (hd : C.pl = C.til) :
    Calls Try.prog 107 #[.pointer (some ⟨c, 0, none⟩), .pointer (some ⟨m, 0, none⟩), .int .i64 x] w fun e w' => e = .returned (.tuple #[.bool true, .int .i64 0]) ∧ Fr (fun _ => False) w w' := by
  have HC := hid hC
  have HD := hid (show (C.pl == C.til) = true by simp [hd])
  clear hC hd
  go_enter Try.func107, Try.ntmps107
  go_wp2_with fail
  refine (done_any c C _ HC.out).mono ?_
  rintro e w1 ⟨rfl, hF⟩
  rw [HD.out]
  go_wp2_with fail
  go_ret2
  exact ⟨rfl, hF⟩

set_option maxHeartbeats 800000 in
theorem step_load (b : MB) (M : Mach) (c : Nat) (C : Cp) (j n : Nat) (w : World) (hM : IsM w b M) (hC : IsC w c C) (hO : C.Ok) (hd : C.pl ≠ C.til) (hl : C.loaded = false) (hcb : ¬ b.own c) (hj : j < M.steps.length) (hn : Rg.place ⟨C.a, C.l⟩ C.pl = n) (hk : n < M.used) :
    Calls Try.prog 107 #[.pointer (some ⟨c, 0, none⟩), .pointer (some ⟨b.m, 0, none⟩), .int .i64 j] w fun e w' => e = .returned (.tuple #[.bool false, .int .i64 0]) ∧ IsC w' c { C with x := M.all.getD n 0, loaded := true } ∧ IsM w' b (M.step j) ∧ Fr (CM b c) w w' := by
  have HC := hid hC
  have HD := hid (show (C.pl == C.til) = false by simpa using hd)
  have HF := hid (fun (v : World) (F : Fr (fun _ => False) w v) => cload_ok b M c C j n v (hM.same F) (hC.same F) hl hcb hj hn hk)
  have HD2 := hid (fun (v : World) (h : IsC v c { C with x := M.all.getD n 0, loaded := true }) => done_any c { C with x := M.all.getD n 0, loaded := true } v h)
  replace HD2 := hid (show ∀ (v : World), IsC v c { C with x := M.all.getD n 0, loaded := true } → Calls Try.prog 110 #[.pointer (some ⟨c, 0, none⟩)] v fun e w' => e = .returned (.bool false) ∧ Fr (fun _ => False) v w' from fun v h => by rw [← HD.out]; exact HD2.out v h)
  obtain ⟨CN, hCN⟩ : ∃ CN, CN = { C with x := M.all.getD n 0, loaded := true } := ⟨_, rfl⟩
  rw [← hCN] at HF HD2 ⊢
  obtain ⟨MN, hMN⟩ : ∃ MN, MN = (M.step j) := ⟨_, rfl⟩
  rw [← hMN] at HF ⊢
  have HL := hid hl
  clear hM hC hd hl hcb hO hn hk hj hCN hMN
  go_enter Try.func107, Try.ntmps107
  go_wp2_with fail
  refine (done_any c C _ HC.out).mono ?_
  rintro e w1 ⟨rfl, hF⟩
  rw [HD.out]
  have c7 : w1.cell? ⟨c, 7, none⟩ = some (.func (.func 106) #[.pointer (some ⟨c, 0, none⟩)] #[]) := (Blk.cell (HC.out.same hF) (i := 7) rfl).trans (by rw [HL.out]; rfl)
  go_wp2_with fail
  refine (HF.out _ hF).mono ?_
  rintro e w2 ⟨rfl, hC2, hM2, hF2⟩
  have HC2 := hid hC2
  clear hC2 c7
  go_wp2_with fail
  refine (HD2.out _ HC2.out).mono ?_
  rintro e w3 ⟨rfl, hF3⟩
  go_wp2_with fail
  go_ret2
  exact ⟨rfl, HC2.out.same hF3, hM2.same hF3, ((hF.mono (fun _ h => h.elim)).trans hF2).trans (hF3.mono (fun _ h => h.elim))⟩

set_option maxHeartbeats 800000 in
theorem step_loadno (b : MB) (M : Mach) (c : Nat) (C : Cp) (j : Int) (w : World) (hM : IsM w b M) (hC : IsC w c C) (hd : C.pl ≠ C.til) (hl : C.loaded = false) (hcb : ¬ b.own c) (hno : ¬ (0 ≤ j ∧ j < M.steps.length ∧ 0 ≤ Rg.place ⟨C.a, C.l⟩ C.pl ∧ Rg.place ⟨C.a, C.l⟩ C.pl < M.used)) :
    Calls Try.prog 107 #[.pointer (some ⟨c, 0, none⟩), .pointer (some ⟨b.m, 0, none⟩), .int .i64 j] w fun e w' => e = .returned (.tuple #[.bool false, .int .i64 10]) ∧ Fr (fun _ => False) w w' := by
  have HC := hid hC
  have HD := hid (show (C.pl == C.til) = false by simpa using hd)
  have HF := hid (fun (v : World) (F : Fr (fun _ => False) w v) => cload_no b M c C j v (hM.same F) (hC.same F) hl hcb hno)
  have HL := hid hl
  clear hM hC hd hl hcb hno
  go_enter Try.func107, Try.ntmps107
  go_wp2_with fail
  refine (done_any c C _ HC.out).mono ?_
  rintro e w1 ⟨rfl, hF⟩
  rw [HD.out]
  have c7 : w1.cell? ⟨c, 7, none⟩ = some (.func (.func 106) #[.pointer (some ⟨c, 0, none⟩)] #[]) := (Blk.cell (HC.out.same hF) (i := 7) rfl).trans (by rw [HL.out]; rfl)
  go_wp2_with fail
  refine (HF.out _ hF).mono ?_
  rintro e w2 ⟨rfl, hF2⟩
  go_wp2_with fail
  go_ret2
  exact ⟨rfl, hF.trans hF2⟩

set_option maxHeartbeats 800000 in
theorem step_store (b : MB) (M : Mach) (c : Nat) (C : Cp) (j n : Nat) (w : World) (hM : IsM w b M) (hC : IsC w c C) (hO : C.Ok) (hd : C.pl ≠ C.til) (hl : C.loaded = true) (hcb : ¬ b.own c) (hj : j < M.steps.length) (hn : Rg.place ⟨C.b, C.k⟩ C.pl = n) (hk : n < M.used) :
    Calls Try.prog 107 #[.pointer (some ⟨c, 0, none⟩), .pointer (some ⟨b.m, 0, none⟩), .int .i64 j] w fun e w' => e = .returned (.tuple #[.bool (C.pl + 1 == C.til), .int .i64 0]) ∧ IsC w' c { C with pl := C.pl + 1, loaded := false } ∧ IsM w' b ((M.step j).put n C.x) ∧ Fr (CM b c) w w' := by
  have HC := hid hC
  have HD := hid (show (C.pl == C.til) = false by simpa using hd)
  have hlo := hO.lo
  have hhi : C.pl < 9223372036854775807 := by have := hO.le; have := hO.hi; omega
  have HF := hid (fun (v : World) (F : Fr (fun _ => False) w v) => cstore_ok b M c C j n v (hM.same F) (hC.same F) hl hcb hj hn hk hlo hhi)
  have HD2 := hid (fun (v : World) (h : IsC v c { C with pl := C.pl + 1, loaded := false }) => done_any c { C with pl := C.pl + 1, loaded := false } v h)
  obtain ⟨dn, hdn⟩ : ∃ dn, (C.pl + 1 == C.til) = dn := ⟨_, rfl⟩
  replace HD2 := hid (show ∀ (v : World), IsC v c { C with pl := C.pl + 1, loaded := false } → Calls Try.prog 110 #[.pointer (some ⟨c, 0, none⟩)] v fun e w' => e = .returned (.bool dn) ∧ Fr (fun _ => False) v w' from fun v h => by rw [← hdn]; exact HD2.out v h)
  rw [hdn]
  obtain ⟨CN, hCN⟩ : ∃ CN, CN = { C with pl := C.pl + 1, loaded := false } := ⟨_, rfl⟩
  rw [← hCN] at HF HD2 ⊢
  obtain ⟨MN, hMN⟩ : ∃ MN, MN = ((M.step j).put n C.x) := ⟨_, rfl⟩
  rw [← hMN] at HF ⊢
  have HL := hid hl
  clear hM hC hd hl hcb hO hn hk hj hCN hMN hlo hhi hdn
  go_enter Try.func107, Try.ntmps107
  go_wp2_with fail
  refine (done_any c C _ HC.out).mono ?_
  rintro e w1 ⟨rfl, hF⟩
  rw [HD.out]
  have c7 : w1.cell? ⟨c, 7, none⟩ = some (.func (.func 109) #[.pointer (some ⟨c, 0, none⟩)] #[]) := (Blk.cell (HC.out.same hF) (i := 7) rfl).trans (by rw [HL.out]; rfl)
  go_wp2_with fail
  refine (HF.out _ hF).mono ?_
  rintro e w2 ⟨rfl, hC2, hM2, hF2⟩
  have HC2 := hid hC2
  clear hC2 c7
  go_wp2_with fail
  refine (HD2.out _ HC2.out).mono ?_
  rintro e w3 ⟨rfl, hF3⟩
  go_wp2_with fail
  go_ret2
  exact ⟨rfl, HC2.out.same hF3, hM2.same hF3, ((hF.mono (fun _ h => h.elim)).trans hF2).trans (hF3.mono (fun _ h => h.elim))⟩

set_option maxHeartbeats 800000 in
theorem step_storeno (b : MB) (M : Mach) (c : Nat) (C : Cp) (j : Int) (w : World) (hM : IsM w b M) (hC : IsC w c C) (hd : C.pl ≠ C.til) (hl : C.loaded = true) (hcb : ¬ b.own c) (hno : ¬ (0 ≤ j ∧ j < M.steps.length ∧ 0 ≤ Rg.place ⟨C.b, C.k⟩ C.pl ∧ Rg.place ⟨C.b, C.k⟩ C.pl < M.used)) :
    Calls Try.prog 107 #[.pointer (some ⟨c, 0, none⟩), .pointer (some ⟨b.m, 0, none⟩), .int .i64 j] w fun e w' => e = .returned (.tuple #[.bool false, .int .i64 10]) ∧ Fr (fun _ => False) w w' := by
  have HC := hid hC
  have HD := hid (show (C.pl == C.til) = false by simpa using hd)
  have HF := hid (fun (v : World) (F : Fr (fun _ => False) w v) => cstore_no b M c C j v (hM.same F) (hC.same F) hl hcb hno)
  have HL := hid hl
  clear hM hC hd hl hcb hno
  go_enter Try.func107, Try.ntmps107
  go_wp2_with fail
  refine (done_any c C _ HC.out).mono ?_
  rintro e w1 ⟨rfl, hF⟩
  rw [HD.out]
  have c7 : w1.cell? ⟨c, 7, none⟩ = some (.func (.func 109) #[.pointer (some ⟨c, 0, none⟩)] #[]) := (Blk.cell (HC.out.same hF) (i := 7) rfl).trans (by rw [HL.out]; rfl)
  go_wp2_with fail
  refine (HF.out _ hF).mono ?_
  rintro e w2 ⟨rfl, hF2⟩
  go_wp2_with fail
  go_ret2
  exact ⟨rfl, hF.trans hF2⟩

end Go.Proofs.Ytiofdfgcghiibaa
