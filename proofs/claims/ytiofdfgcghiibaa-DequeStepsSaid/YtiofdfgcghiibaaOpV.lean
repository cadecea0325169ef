/-
  Deques of the program: the steps of a push that look at the ring, make one, and copy.
-/
import Derived.Test.YtiofdfgcghiibaaOpA
namespace Go.Proofs.Ytiofdfgcghiibaa
open Go.RowKit
set_option linter.unusedVariables false
attribute [local go_sem] run_store_func

section
variable (mp : Value) (x v er m : Int) (S : Nat → Prop) (Q : World → Prop) (q : Nat) (c : Array Value) (w : World)

set_option maxHeartbeats 800000 in
theorem pu_seeRing_no (her : (er == 0) = false) (hmp : mp = .pointer none ∨ ∃ a, mp = .pointer (some a)) (hB : Blk w q c) (h0 : c[0]? = some (.int .i64 0)) (h1 : c[1]? = some (.int .i64 m)) (hS : ¬ S q)
    (hL : Does 72 #[mp, .int .i64 x, .int .i64 2] w q S (.tuple #[.int .i64 v, .int .i64 er]) Q) :
    Calls Try.prog 88 #[.pointer (some ⟨q, 0, none⟩), mp, .int .i64 x] w fun e w' => e = .returned (.int .i64 er) ∧ Blk w' q c ∧ Q w' ∧ Fr (And_ S q) w w' := by
  have HC := hid (loadRing_no mp x v er m S Q q _ _ her hmp hB h0 h1 hS hL)
  have HE := hid (show (er != 0) = true by rw [bne, her]; rfl)
  have her2 := HE.out
  clear hB h0 h1 hS hL
  rcases hmp with rfl | ⟨a, rfl⟩ <;>
  · go_enter Try.func88, Try.ntmps88
    go_wp2_with fail
    refine HC.out.mono ?_
    rintro e w2 ⟨rfl, hB2, hQ2, hF2⟩
    go_wp2_with fail
    go_ret
    exact ⟨rfl, hB2, hQ2, hF2⟩

set_option maxRecDepth 100000 in
set_option maxHeartbeats 1000000 in
theorem pu_seeRing_room (R : Rg) (hR : R.Right) (t b d n : Int) (hmp : mp = .pointer none ∨ ∃ a, mp = .pointer (some a)) (hB : Blk w q c) (h0 : c[0]? = some (.int .i64 0)) (h1 : c[1]? = some (.int .i64 m)) (h2 : c[2]? = some (.int .i64 t)) (h3 : c[3]? = some (.int .i64 b)) (e4 : ∃ y, c[4]? = some y) (e5 : ∃ y, c[5]? = some y) (ek : ∃ y, c[13]? = some y) (hS : ¬ S q) (hQ : Stays q Q) (hw : IntKind.i64.wrap (b - t) = d) (hn : pow R.l = n) (hg : decide (d < n) = true)
    (hL : Does 72 #[mp, .int .i64 x, .int .i64 2] w q S (.tuple #[.int .i64 R.word, .int .i64 0]) Q) :
    Calls Try.prog 88 #[.pointer (some ⟨q, 0, none⟩), mp, .int .i64 x] w fun e w' => e = .returned (.int .i64 0) ∧ Blk w' q (((c.setIfInBounds 4 (.int .i64 R.a)).setIfInBounds 5 (.int .i64 R.l)).setIfInBounds 13 (fnv 93)) ∧ Q w' ∧ Fr (And_ S q) w w' := by
  have HC := hid (loadRing_ok mp x m S Q q _ _ R hR hmp hB h0 h1 e4 e5 hS hQ hL)
  obtain ⟨ra, rl⟩ := R
  simp only at HC hn  ⊢
  have HZ := hid (fun (u : World) => size_yes ra rl u hR)
  rw [hn] at HZ
  have HA := hid (show (((c.setIfInBounds 4 (.int .i64 ra)).setIfInBounds 5 (.int .i64 rl))[1]? = some (.int .i64 m) ∧ ((c.setIfInBounds 4 (.int .i64 ra)).setIfInBounds 5 (.int .i64 rl))[2]? = some (.int .i64 t) ∧ ((c.setIfInBounds 4 (.int .i64 ra)).setIfInBounds 5 (.int .i64 rl))[3]? = some (.int .i64 b) ∧ ((c.setIfInBounds 4 (.int .i64 ra)).setIfInBounds 5 (.int .i64 rl))[4]? = some (.int .i64 ra) ∧ ((c.setIfInBounds 4 (.int .i64 ra)).setIfInBounds 5 (.int .i64 rl))[5]? = some (.int .i64 rl)) from by
    obtain ⟨_, e4⟩ := e4
    obtain ⟨_, e5⟩ := e5
    exact ⟨get_set (get_set h1 (by decide)) (by decide), get_set (get_set h2 (by decide)) (by decide), get_set (get_set h3 (by decide)) (by decide), get_set (by simp [lt_of_get e4]) (by decide), by simp [lt_of_get e5]⟩)
  have HK := hid (show ∃ y, ((c.setIfInBounds 4 (.int .i64 ra)).setIfInBounds 5 (.int .i64 rl))[13]? = some y from has_set (has_set ek))
  have HQ := hid hQ
  clear hB h0 h1 h2 h3 e4 e5 ek hS hQ hL hn hR
  rcases hmp with rfl | ⟨a, rfl⟩ <;>
  · go_enter Try.func88, Try.ntmps88
    go_wp2_with fail
    refine HC.out.mono ?_
    rintro e w2 ⟨rfl, hB2, hQ2, hF2⟩
    have HB2 := hid hB2
    have HQ2 := hid hQ2
    have HF2 := hid hF2
    have HT := hid (show ∀ w', Fr (fun _ => False) w2 w' → w'.cell? ⟨q, 1, none⟩ = some (.int .i64 m) ∧ w'.cell? ⟨q, 2, none⟩ = some (.int .i64 t) ∧ w'.cell? ⟨q, 3, none⟩ = some (.int .i64 b) ∧ w'.cell? ⟨q, 4, none⟩ = some (.int .i64 ra) ∧ w'.cell? ⟨q, 5, none⟩ = some (.int .i64 rl) from
      fun w' F => ⟨(hB2.keep F id).cell HA.out.1, (hB2.keep F id).cell HA.out.2.1, (hB2.keep F id).cell HA.out.2.2.1, (hB2.keep F id).cell HA.out.2.2.2.1, (hB2.keep F id).cell HA.out.2.2.2.2⟩)
    have HFd := hid (Fr.refl (fun _ => False) w2)
    have HBL := hid hB2.lt
    clear hB2 hQ2 hF2
    go_upto_region 5 with fail
    go_region_held3 (fun w' => w'.cell? ⟨q, 1, none⟩ = some (.int .i64 m) ∧ w'.cell? ⟨q, 2, none⟩ = some (.int .i64 t) ∧ w'.cell? ⟨q, 3, none⟩ = some (.int .i64 b) ∧ w'.cell? ⟨q, 4, none⟩ = some (.int .i64 ra) ∧ w'.cell? ⟨q, 5, none⟩ = some (.int .i64 rl))
      (first | exact HT.out _ HFd.out | exact HT.out _ (HFd.out.trans (Fr.drew _ _)))
      (first
        | (go_at_call 64; (with_reducible refine (HZ.out _).mono ?_); rintro e w6 ⟨rfl, hF6⟩; have HFd := hid (HFd.out.trans (Fr.trans (by first | exact Fr.refl _ _ | exact Fr.drew _ _) hF6)); clear hF6))
    all_goals
      have hB7 := HB2.out.keep HFd.out id
      obtain ⟨z, hz⟩ := HK.out
      have d1 := hB7.cell hz
      have g1 := hB7.frozen 13
      have HB7 := hid hB7
      clear hB7 hz
      go_wp2_with fail
      go_ret
      exact ⟨rfl, (HB7.out).set 13 _, HQ.out _ _ HQ2.out ((fr_no1 q HFd.out).trans (fr_cell _ _ 13 (fnv 93))), HF2.out.trans (fr_to S q ((fr_no1 q HFd.out).trans (fr_cell _ _ 13 (fnv 93))))⟩

set_option maxRecDepth 100000 in
set_option maxHeartbeats 1000000 in
theorem pu_seeRing_full (R : Rg) (hR : R.Right) (t b d n : Int) (hmp : mp = .pointer none ∨ ∃ a, mp = .pointer (some a)) (hB : Blk w q c) (h0 : c[0]? = some (.int .i64 0)) (h1 : c[1]? = some (.int .i64 m)) (h2 : c[2]? = some (.int .i64 t)) (h3 : c[3]? = some (.int .i64 b)) (e4 : ∃ y, c[4]? = some y) (e5 : ∃ y, c[5]? = some y) (ek : ∃ y, c[6]? = some y) (hS : ¬ S q) (hQ : Stays q Q) (hw : IntKind.i64.wrap (b - t) = d) (hn : pow R.l = n) (hg : decide (d < n) = false) (hg2 : decide (m ≤ R.l) = true)
    (hL : Does 72 #[mp, .int .i64 x, .int .i64 2] w q S (.tuple #[.int .i64 R.word, .int .i64 0]) Q) :
    Calls Try.prog 88 #[.pointer (some ⟨q, 0, none⟩), mp, .int .i64 x] w fun e w' => e = .returned (.int .i64 0) ∧ Blk w' q (((c.setIfInBounds 4 (.int .i64 R.a)).setIfInBounds 5 (.int .i64 R.l)).setIfInBounds 6 (.int .i64 4)) ∧ Q w' ∧ Fr (And_ S q) w w' := by
  have HC := hid (loadRing_ok mp x m S Q q _ _ R hR hmp hB h0 h1 e4 e5 hS hQ hL)
  obtain ⟨ra, rl⟩ := R
  simp only at HC hn hg2 ⊢
  have HZ := hid (fun (u : World) => size_yes ra rl u hR)
  rw [hn] at HZ
  have HA := hid (show (((c.setIfInBounds 4 (.int .i64 ra)).setIfInBounds 5 (.int .i64 rl))[1]? = some (.int .i64 m) ∧ ((c.setIfInBounds 4 (.int .i64 ra)).setIfInBounds 5 (.int .i64 rl))[2]? = some (.int .i64 t) ∧ ((c.setIfInBounds 4 (.int .i64 ra)).setIfInBounds 5 (.int .i64 rl))[3]? = some (.int .i64 b) ∧ ((c.setIfInBounds 4 (.int .i64 ra)).setIfInBounds 5 (.int .i64 rl))[4]? = some (.int .i64 ra) ∧ ((c.setIfInBounds 4 (.int .i64 ra)).setIfInBounds 5 (.int .i64 rl))[5]? = some (.int .i64 rl)) from by
    obtain ⟨_, e4⟩ := e4
    obtain ⟨_, e5⟩ := e5
    exact ⟨get_set (get_set h1 (by decide)) (by decide), get_set (get_set h2 (by decide)) (by decide), get_set (get_set h3 (by decide)) (by decide), get_set (by simp [lt_of_get e4]) (by decide), by simp [lt_of_get e5]⟩)
  have HK := hid (show ∃ y, ((c.setIfInBounds 4 (.int .i64 ra)).setIfInBounds 5 (.int .i64 rl))[6]? = some y from has_set (has_set ek))
  have HQ := hid hQ
  clear hB h0 h1 h2 h3 e4 e5 ek hS hQ hL hn hR
  rcases hmp with rfl | ⟨a, rfl⟩ <;>
  · go_enter Try.func88, Try.ntmps88
    go_wp2_with fail
    refine HC.out.mono ?_
    rintro e w2 ⟨rfl, hB2, hQ2, hF2⟩
    have HB2 := hid hB2
    have HQ2 := hid hQ2
    have HF2 := hid hF2
    have HT := hid (show ∀ w', Fr (fun _ => False) w2 w' → w'.cell? ⟨q, 1, none⟩ = some (.int .i64 m) ∧ w'.cell? ⟨q, 2, none⟩ = some (.int .i64 t) ∧ w'.cell? ⟨q, 3, none⟩ = some (.int .i64 b) ∧ w'.cell? ⟨q, 4, none⟩ = some (.int .i64 ra) ∧ w'.cell? ⟨q, 5, none⟩ = some (.int .i64 rl) from
      fun w' F => ⟨(hB2.keep F id).cell HA.out.1, (hB2.keep F id).cell HA.out.2.1, (hB2.keep F id).cell HA.out.2.2.1, (hB2.keep F id).cell HA.out.2.2.2.1, (hB2.keep F id).cell HA.out.2.2.2.2⟩)
    have HFd := hid (Fr.refl (fun _ => False) w2)
    have HBL := hid hB2.lt
    clear hB2 hQ2 hF2
    go_upto_region 5 with fail
    go_region_held3 (fun w' => w'.cell? ⟨q, 1, none⟩ = some (.int .i64 m) ∧ w'.cell? ⟨q, 2, none⟩ = some (.int .i64 t) ∧ w'.cell? ⟨q, 3, none⟩ = some (.int .i64 b) ∧ w'.cell? ⟨q, 4, none⟩ = some (.int .i64 ra) ∧ w'.cell? ⟨q, 5, none⟩ = some (.int .i64 rl))
      (first | exact HT.out _ HFd.out | exact HT.out _ (HFd.out.trans (Fr.drew _ _)))
      (first
        | (go_at_call 64; (with_reducible refine (HZ.out _).mono ?_); rintro e w6 ⟨rfl, hF6⟩; have HFd := hid (HFd.out.trans (Fr.trans (by first | exact Fr.refl _ _ | exact Fr.drew _ _) hF6)); clear hF6))
    all_goals
      have hB7 := HB2.out.keep HFd.out id
      obtain ⟨z, hz⟩ := HK.out
      have d1 := hB7.cell hz
      have g1 := hB7.frozen 6
      have c1 := hB7.cell HA.out.1
      have c5 := hB7.cell HA.out.2.2.2.2
      have HB7 := hid hB7
      clear hB7 hz
      go_wp2_with fail
      go_quiet (fail)
      go_wp2_with fail
      go_ret
      exact ⟨rfl, (HB7.out.drewN _).set 6 _, HQ.out _ _ HQ2.out ((fr_no1 q HFd.out).trans ((Fr.drewN _ _ _).trans (fr_cell _ _ 6 (.int .i64 4)))), HF2.out.trans (fr_to S q ((fr_no1 q HFd.out).trans ((Fr.drewN _ _ _).trans (fr_cell _ _ 6 (.int .i64 4)))))⟩

set_option maxRecDepth 100000 in
set_option maxHeartbeats 1000000 in
theorem pu_seeRing_more (R : Rg) (hR : R.Right) (t b d n : Int) (hmp : mp = .pointer none ∨ ∃ a, mp = .pointer (some a)) (hB : Blk w q c) (h0 : c[0]? = some (.int .i64 0)) (h1 : c[1]? = some (.int .i64 m)) (h2 : c[2]? = some (.int .i64 t)) (h3 : c[3]? = some (.int .i64 b)) (e4 : ∃ y, c[4]? = some y) (e5 : ∃ y, c[5]? = some y) (ek : ∃ y, c[13]? = some y) (hS : ¬ S q) (hQ : Stays q Q) (hw : IntKind.i64.wrap (b - t) = d) (hn : pow R.l = n) (hg : decide (d < n) = false) (hg2 : decide (m ≤ R.l) = false)
    (hL : Does 72 #[mp, .int .i64 x, .int .i64 2] w q S (.tuple #[.int .i64 R.word, .int .i64 0]) Q) :
    Calls Try.prog 88 #[.pointer (some ⟨q, 0, none⟩), mp, .int .i64 x] w fun e w' => e = .returned (.int .i64 0) ∧ Blk w' q (((c.setIfInBounds 4 (.int .i64 R.a)).setIfInBounds 5 (.int .i64 R.l)).setIfInBounds 13 (fnv 94)) ∧ Q w' ∧ Fr (And_ S q) w w' := by
  have HC := hid (loadRing_ok mp x m S Q q _ _ R hR hmp hB h0 h1 e4 e5 hS hQ hL)
  obtain ⟨ra, rl⟩ := R
  simp only at HC hn hg2 ⊢
  have HZ := hid (fun (u : World) => size_yes ra rl u hR)
  rw [hn] at HZ
  have HA := hid (show (((c.setIfInBounds 4 (.int .i64 ra)).setIfInBounds 5 (.int .i64 rl))[1]? = some (.int .i64 m) ∧ ((c.setIfInBounds 4 (.int .i64 ra)).setIfInBounds 5 (.int .i64 rl))[2]? = some (.int .i64 t) ∧ ((c.setIfInBounds 4 (.int .i64 ra)).setIfInBounds 5 (.int .i64 rl))[3]? = some (.int .i64 b) ∧ ((c.setIfInBounds 4 (.int .i64 ra)).setIfInBounds 5 (.int .i64 rl))[4]? = some (.int .i64 ra) ∧ ((c.setIfInBounds 4 (.int .i64 ra)).setIfInBounds 5 (.int .i64 rl))[5]? = some (.int .i64 rl)) from by
    obtain ⟨_, e4⟩ := e4
    obtain ⟨_, e5⟩ := e5
    exact ⟨get_set (get_set h1 (by decide)) (by decide), get_set (get_set h2 (by decide)) (by decide), get_set (get_set h3 (by decide)) (by decide), get_set (by simp [lt_of_get e4]) (by decide), by simp [lt_of_get e5]⟩)
  have HK := hid (show ∃ y, ((c.setIfInBounds 4 (.int .i64 ra)).setIfInBounds 5 (.int .i64 rl))[13]? = some y from has_set (has_set ek))
  have HQ := hid hQ
  clear hB h0 h1 h2 h3 e4 e5 ek hS hQ hL hn hR
  rcases hmp with rfl | ⟨a, rfl⟩ <;>
  · go_enter Try.func88, Try.ntmps88
    go_wp2_with fail
    refine HC.out.mono ?_
    rintro e w2 ⟨rfl, hB2, hQ2, hF2⟩
    have HB2 := hid hB2
    have HQ2 := hid hQ2
    have HF2 := hid hF2
    have HT := hid (show ∀ w', Fr (fun _ => False) w2 w' → w'.cell? ⟨q, 1, none⟩ = some (.int .i64 m) ∧ w'.cell? ⟨q, 2, none⟩ = some (.int .i64 t) ∧ w'.cell? ⟨q, 3, none⟩ = some (.int .i64 b) ∧ w'.cell? ⟨q, 4, none⟩ = some (.int .i64 ra) ∧ w'.cell? ⟨q, 5, none⟩ = some (.int .i64 rl) from
      fun w' F => ⟨(hB2.keep F id).cell HA.out.1, (hB2.keep F id).cell HA.out.2.1, (hB2.keep F id).cell HA.out.2.2.1, (hB2.keep F id).cell HA.out.2.2.2.1, (hB2.keep F id).cell HA.out.2.2.2.2⟩)
    have HFd := hid (Fr.refl (fun _ => False) w2)
    have HBL := hid hB2.lt
    clear hB2 hQ2 hF2
    go_upto_region 5 with fail
    go_region_held3 (fun w' => w'.cell? ⟨q, 1, none⟩ = some (.int .i64 m) ∧ w'.cell? ⟨q, 2, none⟩ = some (.int .i64 t) ∧ w'.cell? ⟨q, 3, none⟩ = some (.int .i64 b) ∧ w'.cell? ⟨q, 4, none⟩ = some (.int .i64 ra) ∧ w'.cell? ⟨q, 5, none⟩ = some (.int .i64 rl))
      (first | exact HT.out _ HFd.out | exact HT.out _ (HFd.out.trans (Fr.drew _ _)))
      (first
        | (go_at_call 64; (with_reducible refine (HZ.out _).mono ?_); rintro e w6 ⟨rfl, hF6⟩; have HFd := hid (HFd.out.trans (Fr.trans (by first | exact Fr.refl _ _ | exact Fr.drew _ _) hF6)); clear hF6))
    all_goals
      have hB7 := HB2.out.keep HFd.out id
      obtain ⟨z, hz⟩ := HK.out
      have d1 := hB7.cell hz
      have g1 := hB7.frozen 13
      have c1 := hB7.cell HA.out.1
      have c5 := hB7.cell HA.out.2.2.2.2
      have HB7 := hid hB7
      clear hB7 hz
      go_wp2_with fail
      go_quiet (fail)
      go_wp2_with fail
      go_ret
      exact ⟨rfl, (HB7.out.drewN _).set 13 _, HQ.out _ _ HQ2.out ((fr_no1 q HFd.out).trans ((Fr.drewN _ _ _).trans (fr_cell _ _ 13 (fnv 94)))), HF2.out.trans (fr_to S q ((fr_no1 q HFd.out).trans ((Fr.drewN _ _ _).trans (fr_cell _ _ 13 (fnv 94)))))⟩

set_option maxHeartbeats 800000 in
theorem pu_grow (rl wa wl : Int) (hmp : mp = .pointer none ∨ ∃ a, mp = .pointer (some a)) (hB : Blk w q c) (h5 : c[5]? = some (.int .i64 rl)) (hn : ∃ y, c[13]? = some y) (ha : ∃ y, c[10]? = some y) (hl : ∃ y, c[11]? = some y) (hS : ¬ S q) (hQ : Stays q Q) (hlo : 0 ≤ rl) (hhi : rl ≤ 8)
    (hL : Does 99 #[mp, .int .i64 x, .int .i64 (rl + 1)] w q S (.tuple #[.agg #[.int .i64 wa, .int .i64 wl], .int .i64 er]) Q) :
    Calls Try.prog 94 #[.pointer (some ⟨q, 0, none⟩), mp, .int .i64 x] w fun e w' => e = .returned (.int .i64 er) ∧ Blk w' q (((c.setIfInBounds 13 (fnv 98)).setIfInBounds 10 (.int .i64 wa)).setIfInBounds 11 (.int .i64 wl)) ∧ Q w' ∧ Fr (And_ S q) w w' := by
  obtain ⟨n, hn⟩ := hn
  obtain ⟨ya, ha⟩ := ha
  obtain ⟨yl, hl⟩ := hl
  have cn := hB.cell hn
  have fn := hB.frozen 13
  have c5 := hB.cell h5
  have hF1 : Fr (fun k => k = q) w (w.setCell ⟨q, 13, none⟩ (fnv 98)) := fr_cell _ _ _ _
  have hB1 := hB.set 13 (fnv 98)
  have HL := hid (hL _ hF1)
  have HB1 := hid hB1
  have HA := hid (get_set (i := 13) (v := fnv 98) ha (by decide))
  have HLL := hid (get_set (i := 13) (v := fnv 98) hl (by decide))
  have HF1 := hid hF1
  have HS := hid hS
  have HQ := hid hQ
  clear hB h5 hn ha hl hS hQ hL hF1 hB1
  rcases hmp with rfl | ⟨a, rfl⟩ <;>
  · go_enter Try.func94, Try.ntmps94
    go_wp2_with fail
    refine HL.out.mono ?_
    rintro e w2 ⟨rfl, hQ2, hF2⟩
    have hB2 := HB1.out.keep hF2 HS.out
    have d0 := hB2.cell HA.out
    have d1 := hB2.cell HLL.out
    have f0 := hB2.frozen 10
    have f1 := hB2.frozen 11
    have HB2 := hid hB2
    have HQ2 := hid hQ2
    have HF2 := hid hF2
    clear hB2 hQ2 hF2
    go_wp2_with fail
    go_ret
    exact ⟨rfl, (HB2.out.set 10 _).set 11 _, HQ.out _ _ HQ2.out ((fr_cell _ _ _ _).trans (fr_cell _ _ _ _)), ((fr_to S q HF1.out).trans (fr_of S q HF2.out)).trans (fr_to S q ((fr_cell _ _ _ _).trans (fr_cell _ _ _ _)))⟩

set_option maxHeartbeats 800000 in
theorem pu_move_more (cc : Nat) (hmp : mp = .pointer none ∨ ∃ a, mp = .pointer (some a)) (hB : Blk w q c) (h12 : c[12]? = some (.pointer (some ⟨cc, 0, none⟩))) (hS : ¬ S q)
    (hL : Does 107 #[.pointer (some ⟨cc, 0, none⟩), mp, .int .i64 x] w q S (.tuple #[.bool false, .int .i64 er]) Q) :
    Calls Try.prog 104 #[.pointer (some ⟨q, 0, none⟩), mp, .int .i64 x] w fun e w' => e = .returned (.int .i64 er) ∧ Blk w' q c ∧ Q w' ∧ Fr (And_ S q) w w' := by
  have c12 := hB.cell h12
  have HB := hid hB
  have HS := hid hS
  have HL := hid (hL _ (Fr.refl _ _))
  clear hB h12 hS hL
  rcases hmp with rfl | ⟨a, rfl⟩ <;>
  · go_enter Try.func104, Try.ntmps104
    go_wp2_with fail
    refine HL.out.mono ?_
    rintro e w2 ⟨rfl, hQ2, hF2⟩
    go_wp2_with fail
    go_ret
    exact ⟨rfl, HB.out.keep hF2 HS.out, hQ2, fr_of S q hF2⟩

set_option maxHeartbeats 800000 in
theorem pu_move_all (cc : Nat) (hmp : mp = .pointer none ∨ ∃ a, mp = .pointer (some a)) (hB : Blk w q c) (h12 : c[12]? = some (.pointer (some ⟨cc, 0, none⟩))) (hn : ∃ y, c[13]? = some y) (hS : ¬ S q) (hQ : Stays q Q)
    (hL : Does 107 #[.pointer (some ⟨cc, 0, none⟩), mp, .int .i64 x] w q S (.tuple #[.bool true, .int .i64 er]) Q) :
    Calls Try.prog 104 #[.pointer (some ⟨q, 0, none⟩), mp, .int .i64 x] w fun e w' => e = .returned (.int .i64 er) ∧ Blk w' q (c.setIfInBounds 13 (fnv 108)) ∧ Q w' ∧ Fr (And_ S q) w w' := by
  obtain ⟨n, hn⟩ := hn
  have c12 := hB.cell h12
  have HB := hid hB
  have HS := hid hS
  have HN := hid hn
  have HQ := hid hQ
  have HL := hid (hL _ (Fr.refl _ _))
  clear hB h12 hS hL hn hQ
  rcases hmp with rfl | ⟨a, rfl⟩ <;>
  · go_enter Try.func104, Try.ntmps104
    go_wp2_with fail
    refine HL.out.mono ?_
    rintro e w2 ⟨rfl, hQ2, hF2⟩
    have hB2 := HB.out.keep hF2 HS.out
    have cn := hB2.cell HN.out
    have fn := hB2.frozen 13
    have HB2 := hid hB2
    have HQ2 := hid hQ2
    have HF2 := hid hF2
    clear hB2 hQ2 hF2
    go_wp2_with fail
    go_ret
    exact ⟨rfl, HB2.out.set 13 _, HQ.out _ _ HQ2.out (fr_cell _ _ _ _), (fr_of S q HF2.out).trans (fr_to S q (fr_cell _ _ _ _))⟩

def BeginP (er : Int) (S : Nat → Prop) (Q : Nat → World → Prop) (q : Nat) (c : Array Value) (w : World) (e : Ending) (w' : World) : Prop :=
  ∃ cc : Nat, e = .returned (.int .i64 er) ∧ w.heap.size ≤ cc ∧ Blk w' q ((c.setIfInBounds 12 (.pointer (some ⟨cc, 0, none⟩))).setIfInBounds 13 (fnv 104)) ∧ Q cc w' ∧ Fr (And_ S q) w w'

set_option maxRecDepth 100000 in
set_option maxHeartbeats 1000000 in
theorem pu_begin (Q : Nat → World → Prop) (ra rl wa wl t b : Int) (hmp : mp = .pointer none ∨ ∃ a, mp = .pointer (some a)) (hB : Blk w q c) (h2 : c[2]? = some (.int .i64 t)) (h3 : c[3]? = some (.int .i64 b)) (h4 : c[4]? = some (.int .i64 ra)) (h5 : c[5]? = some (.int .i64 rl))
    (h10 : c[10]? = some (.int .i64 wa)) (h11 : c[11]? = some (.int .i64 wl)) (h12 : ∃ y, c[12]? = some y) (h13 : ∃ y, c[13]? = some y) (hS : ¬ S q)
    (hr1 : Rg.Right ⟨ra, rl⟩) (hr2 : Rg.Right ⟨wa, wl⟩) (ht : Fits t) (hb : Fits b) (hle : t ≤ b ∧ b - t ≤ pow rl ∧ b - t ≤ pow wl)
    (hL : ∀ cc w', w.heap.size ≤ cc → IsC w' cc ⟨ra, rl, wa, wl, t, b, 0, false⟩ → Fr (fun k => k = q) w w' → Calls Try.prog 107 #[.pointer (some ⟨cc, 0, none⟩), mp, .int .i64 x] w' fun e w'' => e = .returned (.tuple #[.bool false, .int .i64 er]) ∧ Q cc w'' ∧ Fr (fun k => S k ∨ k = cc) w' w'') :
    Calls Try.prog 98 #[.pointer (some ⟨q, 0, none⟩), mp, .int .i64 x] w fun e w' => BeginP er S Q q c w e w' := by
  obtain ⟨y12, h12⟩ := h12
  obtain ⟨y13, h13⟩ := h13
  have HL := hid hL
  have HBL := hid hB.lt
  have HB := hid hB
  have HS := hid hS
  have H12 := hid h12
  have H13 := hid h13
  have HCP := hid (fun (u : World) => copy_ok ra rl wa wl t b u hr1 hr2 ht hb ⟨hle.1, hle.2⟩)
  have HT := hid (show ∀ w', Fr (fun _ => False) w w' → w'.cell? ⟨q, 2, none⟩ = some (.int .i64 t) ∧ w'.cell? ⟨q, 3, none⟩ = some (.int .i64 b) ∧ w'.cell? ⟨q, 4, none⟩ = some (.int .i64 ra) ∧ w'.cell? ⟨q, 5, none⟩ = some (.int .i64 rl) ∧ w'.cell? ⟨q, 10, none⟩ = some (.int .i64 wa) ∧ w'.cell? ⟨q, 11, none⟩ = some (.int .i64 wl) from
    fun w' F => ⟨(hB.keep F id).cell h2, (hB.keep F id).cell h3, (hB.keep F id).cell h4, (hB.keep F id).cell h5, (hB.keep F id).cell h10, (hB.keep F id).cell h11⟩)
  have HTA := hid (show ∀ w' u, Fr (fun _ => False) w w' → (w'.setCell ⟨q, 12, none⟩ u).cell? ⟨q, 2, none⟩ = some (.int .i64 t) ∧ (w'.setCell ⟨q, 12, none⟩ u).cell? ⟨q, 3, none⟩ = some (.int .i64 b) ∧ (w'.setCell ⟨q, 12, none⟩ u).cell? ⟨q, 4, none⟩ = some (.int .i64 ra) ∧ (w'.setCell ⟨q, 12, none⟩ u).cell? ⟨q, 5, none⟩ = some (.int .i64 rl) ∧ (w'.setCell ⟨q, 12, none⟩ u).cell? ⟨q, 10, none⟩ = some (.int .i64 wa) ∧ (w'.setCell ⟨q, 12, none⟩ u).cell? ⟨q, 11, none⟩ = some (.int .i64 wl) from
    fun w' u F => ⟨((hB.keep F id).set 12 u).cell (get_set h2 (by decide)), ((hB.keep F id).set 12 u).cell (get_set h3 (by decide)), ((hB.keep F id).set 12 u).cell (get_set h4 (by decide)), ((hB.keep F id).set 12 u).cell (get_set h5 (by decide)), ((hB.keep F id).set 12 u).cell (get_set h10 (by decide)), ((hB.keep F id).set 12 u).cell (get_set h11 (by decide))⟩)
  have HFd := hid (Fr.refl (fun _ => False) w)
  clear hB h2 h3 h4 h5 h10 h11 h12 h13 hS hL hr1 hr2 ht hb hle
  rcases hmp with rfl | ⟨a, rfl⟩ <;>
  · go_enter Try.func98, Try.ntmps98
    go_upto_region 1 with fail
    go_region_held3 (fun w' => w'.cell? ⟨q, 2, none⟩ = some (.int .i64 t) ∧ w'.cell? ⟨q, 3, none⟩ = some (.int .i64 b) ∧ w'.cell? ⟨q, 4, none⟩ = some (.int .i64 ra) ∧ w'.cell? ⟨q, 5, none⟩ = some (.int .i64 rl) ∧ w'.cell? ⟨q, 10, none⟩ = some (.int .i64 wa) ∧ w'.cell? ⟨q, 11, none⟩ = some (.int .i64 wl))
      (first | exact HTA.out _ _ HFd.out | exact HT.out _ HFd.out | exact HT.out _ (HFd.out.trans (Fr.drew _ _)))
      (first
        | (go_at_call 103; (with_reducible refine (HCP.out _).mono ?_); rintro e w6 ⟨cc, rfl, hC6, hF6, hcc⟩; have HC6 := hid hC6; have HCC := hid (Nat.le_trans HFd.out.size hcc); have HFd := hid (HFd.out.trans (Fr.trans (by first | exact Fr.refl _ _ | exact Fr.drew _ _) hF6)); clear hF6 hC6 hcc; have hB6 := HB.out.keep HFd.out id; have c12 := hB6.cell H12.out; have f12 := hB6.frozen 12; clear hB6))
    all_goals
      have hcq : cc ≠ q := fun hh => by have := HBL.out; have := HCC.out; omega
      have hB7 := (HB.out.keep HFd.out id).set 12 (.pointer (some ⟨cc, 0, none⟩))
      have c13 := hB7.cell (get_set H13.out (show 12 ≠ 13 by decide))
      have f13 := hB7.frozen 13
      have hB8 := hB7.set 13 (fnv 104)
      have hFq := ((fr_no1 q HFd.out).trans (fr_cell _ q 12 (.pointer (some ⟨cc, 0, none⟩)))).trans (fr_cell _ q 13 (fnv 104))
      have hC8 := HC6.out.keep ((fr_cell _ q 12 (.pointer (some ⟨cc, 0, none⟩))).trans (fr_cell _ q 13 (fnv 104))) hcq
      have HM := hid (pu_move_more _ x er (fun k => S k ∨ k = cc) (Q cc) q _ _ cc (by first | exact Or.inl rfl | exact Or.inr ⟨_, rfl⟩) hB8 (get_set (by simp [lt_of_get H12.out]) (by decide)) (fun hh => hh.elim HS.out (fun h => hcq h.symm)) (fun w' F' => HL.out cc w' HCC.out (hC8.keep F' hcq) (hFq.trans F')))
      have HFq := hid hFq
      clear hB7 hB8 hFq hC8 hcq
      go_wp2_with fail
      refine HM.out.mono ?_
      rintro e w9 ⟨rfl, hB9, hQ9, hF9⟩
      go_wp2_with fail
      go_ret
      refine ⟨cc, rfl, HCC.out, hB9, hQ9, (fr_to S q HFq.out).since hF9 ?_⟩
      rintro i ((hi | hi) | hi) hlt
      · exact .inl hi
      · have := HCC.out
        omega
      · exact .inr hi
end
end Go.Proofs.Ytiofdfgcghiibaa
