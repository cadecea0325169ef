/-
  Deques of the program: the steps of a steal.
-/
import Derived.Test.YtiofdfgcghiibaaOpA
namespace Go.Proofs.Ytiofdfgcghiibaa
open Go.RowKit
set_option linter.unusedVariables false
attribute [local go_sem] run_store_func

section
variable (mp : Value) (x v er m : Int) (S : Nat → Prop) (Q : World → Prop) (q : Nat) (c : Array Value) (w : World)

set_option maxHeartbeats 800000 in
theorem st_seeTop (hmp : mp = .pointer none ∨ ∃ a, mp = .pointer (some a)) (hB : Blk w q c) (h0 : c[0]? = some (.int .i64 0)) (h1 : c[1]? = some (.int .i64 m)) (hy : ∃ y, c[2]? = some y) (hn : ∃ y, c[9]? = some y) (hS : ¬ S q) (hQ : Stays q Q)
    (hL : Does 72 #[mp, .int .i64 x, .int .i64 0] w q S (.tuple #[.int .i64 v, .int .i64 er]) Q) :
    Calls Try.prog 51 #[.pointer (some ⟨q, 0, none⟩), mp, .int .i64 x] w fun e w' => e = .returned (.int .i64 er) ∧ Blk w' q ((c.setIfInBounds 9 (fnv 78)).setIfInBounds 2 (.int .i64 v)) ∧ Q w' ∧ Fr (And_ S q) w w' := by
  obtain ⟨n, hn⟩ := hn
  have cn := hB.cell hn
  have fn := hB.frozen 9
  have hF1 : Fr (fun k => k = q) w (w.setCell ⟨q, 9, none⟩ (fnv 78)) := fr_cell _ _ _ _
  have HC := hid (loadTop_any mp x v er m S Q q _ _ hmp (hB.set 9 (fnv 78)) (get_set h0 (by decide)) (get_set h1 (by decide)) (has_set hy) hS hQ (hL.later hF1))
  have HF1 := hid hF1
  clear hB h0 h1 hy hn hS hQ hL hF1
  rcases hmp with rfl | ⟨a, rfl⟩ <;>
  · go_enter Try.func51, Try.ntmps51
    go_wp2_with fail
    refine HC.out.mono ?_
    rintro e w2 ⟨rfl, hB2, hQ2, hF2⟩
    go_wp2_with fail
    go_ret
    exact ⟨rfl, hB2, hQ2, (fr_to S q HF1.out).trans hF2⟩

set_option maxHeartbeats 800000 in
theorem st_seeRing (R : Rg) (hR : R.Right) (hmp : mp = .pointer none ∨ ∃ a, mp = .pointer (some a)) (hB : Blk w q c) (h0 : c[0]? = some (.int .i64 0)) (h1 : c[1]? = some (.int .i64 m)) (hy : ∃ y, c[4]? = some y) (hz : ∃ y, c[5]? = some y) (hn : ∃ y, c[9]? = some y) (hS : ¬ S q) (hQ : Stays q Q)
    (hL : Does 72 #[mp, .int .i64 x, .int .i64 2] w q S (.tuple #[.int .i64 R.word, .int .i64 0]) Q) :
    Calls Try.prog 87 #[.pointer (some ⟨q, 0, none⟩), mp, .int .i64 x] w fun e w' => e = .returned (.int .i64 0) ∧ Blk w' q (((c.setIfInBounds 9 (fnv 92)).setIfInBounds 4 (.int .i64 R.a)).setIfInBounds 5 (.int .i64 R.l)) ∧ Q w' ∧ Fr (And_ S q) w w' := by
  obtain ⟨n, hn⟩ := hn
  have cn := hB.cell hn
  have fn := hB.frozen 9
  have hF1 : Fr (fun k => k = q) w (w.setCell ⟨q, 9, none⟩ (fnv 92)) := fr_cell _ _ _ _
  have HC := hid (loadRing_ok mp x m S Q q _ _ R hR hmp (hB.set 9 (fnv 92)) (get_set h0 (by decide)) (get_set h1 (by decide)) (has_set hy) (has_set hz) hS hQ (hL.later hF1))
  have HF1 := hid hF1
  clear hB h0 h1 hy hz hn hS hQ hL hF1
  rcases hmp with rfl | ⟨a, rfl⟩ <;>
  · go_enter Try.func87, Try.ntmps87
    go_wp2_with fail
    refine HC.out.mono ?_
    rintro e w2 ⟨rfl, hB2, hQ2, hF2⟩
    go_wp2_with fail
    go_ret
    exact ⟨rfl, hB2, hQ2, (fr_to S q HF1.out).trans hF2⟩

set_option maxHeartbeats 800000 in
theorem st_seeRing_no (her : (er == 0) = false) (hmp : mp = .pointer none ∨ ∃ a, mp = .pointer (some a)) (hB : Blk w q c) (h0 : c[0]? = some (.int .i64 0)) (h1 : c[1]? = some (.int .i64 m)) (hn : ∃ y, c[9]? = some y) (hS : ¬ S q)
    (hL : Does 72 #[mp, .int .i64 x, .int .i64 2] w q S (.tuple #[.int .i64 v, .int .i64 er]) Q) :
    Calls Try.prog 87 #[.pointer (some ⟨q, 0, none⟩), mp, .int .i64 x] w fun e w' => e = .returned (.int .i64 er) ∧ Blk w' q (c.setIfInBounds 9 (fnv 92)) ∧ Q w' ∧ Fr (And_ S q) w w' := by
  obtain ⟨n, hn⟩ := hn
  have cn := hB.cell hn
  have fn := hB.frozen 9
  have hF1 : Fr (fun k => k = q) w (w.setCell ⟨q, 9, none⟩ (fnv 92)) := fr_cell _ _ _ _
  have HC := hid (loadRing_no mp x v er m S Q q _ _ her hmp (hB.set 9 (fnv 92)) (get_set h0 (by decide)) (get_set h1 (by decide)) hS (hL.later hF1))
  have HF1 := hid hF1
  clear hB h0 h1 hn hS hL hF1 her
  rcases hmp with rfl | ⟨a, rfl⟩ <;>
  · go_enter Try.func87, Try.ntmps87
    go_wp2_with fail
    refine HC.out.mono ?_
    rintro e w2 ⟨rfl, hB2, hQ2, hF2⟩
    go_wp2_with fail
    go_ret
    exact ⟨rfl, hB2, hQ2, (fr_to S q HF1.out).trans hF2⟩

set_option maxRecDepth 100000 in
set_option maxHeartbeats 1000000 in
theorem st_see (t ra rl y : Int) (hmp : mp = .pointer none ∨ ∃ a, mp = .pointer (some a)) (hB : Blk w q c) (h2 : c[2]? = some (.int .i64 t)) (h4 : c[4]? = some (.int .i64 ra)) (h5 : c[5]? = some (.int .i64 rl)) (e6 : ∃ y, c[6]? = some y) (e7 : ∃ y, c[7]? = some y) (e9 : ∃ y, c[9]? = some y) (hS : ¬ S q) (hQ : Stays q Q) (hp : Rg.place ⟨ra, rl⟩ t = y)
    (hL : Does 72 #[mp, .int .i64 x, .int .i64 y] w q S (.tuple #[.int .i64 v, .int .i64 er]) Q) :
    Calls Try.prog 92 #[.pointer (some ⟨q, 0, none⟩), mp, .int .i64 x] w fun e w' => e = .returned (.int .i64 er) ∧ Blk w' q (((c.setIfInBounds 6 (.int .i64 2)).setIfInBounds 9 (fnv 96)).setIfInBounds 7 (.int .i64 v)) ∧ Q w' ∧ Fr (And_ S q) w w' := by
  obtain ⟨y6, e6⟩ := e6
  obtain ⟨y7, e7⟩ := e7
  obtain ⟨y9, e9⟩ := e9
  have c6 := hB.cell e6
  have f6 := hB.frozen 6
  have c9 := hB.cell e9
  have f9 := hB.frozen 9
  have hF1 : Fr (fun k => k = q) w ((w.setCell ⟨q, 6, none⟩ (.int .i64 2)).setCell ⟨q, 9, none⟩ (fnv 96)) := ((fr_cell _ _ _ _)).trans (fr_cell _ _ _ _)
  have hB1 : Blk ((w.setCell ⟨q, 6, none⟩ (.int .i64 2)).setCell ⟨q, 9, none⟩ (fnv 96)) q ((c.setIfInBounds 6 (.int .i64 2)).setIfInBounds 9 (fnv 96)) := ((hB).set 6 (.int .i64 2)).set 9 (fnv 96)
  have HB1 := hid hB1
  have HT := hid (show ∀ w', Fr (fun _ => False) ((w.setCell ⟨q, 6, none⟩ (.int .i64 2)).setCell ⟨q, 9, none⟩ (fnv 96)) w' → w'.cell? ⟨q, 2, none⟩ = some (.int .i64 t) ∧ w'.cell? ⟨q, 4, none⟩ = some (.int .i64 ra) ∧ w'.cell? ⟨q, 5, none⟩ = some (.int .i64 rl) from
    fun w' F => ⟨(hB1.keep F id).cell (get_set (get_set h2 (by decide)) (by decide)), (hB1.keep F id).cell (get_set (get_set h4 (by decide)) (by decide)), (hB1.keep F id).cell (get_set (get_set h5 (by decide)) (by decide))⟩)
  have HTS := hid (show ∀ w', Fr S ((w.setCell ⟨q, 6, none⟩ (.int .i64 2)).setCell ⟨q, 9, none⟩ (fnv 96)) w' → w'.cell? ⟨q, 2, none⟩ = some (.int .i64 t) ∧ w'.cell? ⟨q, 4, none⟩ = some (.int .i64 ra) ∧ w'.cell? ⟨q, 5, none⟩ = some (.int .i64 rl) from
    fun w' F => ⟨(hB1.keep F hS).cell (get_set (get_set h2 (by decide)) (by decide)), (hB1.keep F hS).cell (get_set (get_set h4 (by decide)) (by decide)), (hB1.keep F hS).cell (get_set (get_set h5 (by decide)) (by decide))⟩)
  have HTA := hid (show ∀ w', Fr S ((w.setCell ⟨q, 6, none⟩ (.int .i64 2)).setCell ⟨q, 9, none⟩ (fnv 96)) w' → (w'.setCell ⟨q, 7, none⟩ (.int .i64 v)).cell? ⟨q, 2, none⟩ = some (.int .i64 t) ∧ (w'.setCell ⟨q, 7, none⟩ (.int .i64 v)).cell? ⟨q, 4, none⟩ = some (.int .i64 ra) ∧ (w'.setCell ⟨q, 7, none⟩ (.int .i64 v)).cell? ⟨q, 5, none⟩ = some (.int .i64 rl) from
    fun w' F => ⟨((hB1.keep F hS).set 7 (.int .i64 v)).cell (get_set (get_set (get_set h2 (by decide)) (by decide)) (by decide)), ((hB1.keep F hS).set 7 (.int .i64 v)).cell (get_set (get_set (get_set h4 (by decide)) (by decide)) (by decide)), ((hB1.keep F hS).set 7 (.int .i64 v)).cell (get_set (get_set (get_set h5 (by decide)) (by decide)) (by decide))⟩)
  have HP := hid (fun (v : World) => place_any ra rl t v)
  rw [hp] at HP
  have HL := hid (fun v (F : Fr (fun _ => False) ((w.setCell ⟨q, 6, none⟩ (.int .i64 2)).setCell ⟨q, 9, none⟩ (fnv 96)) v) => hL v (hF1.trans (fr_no1 q F)))
  have HF1 := hid hF1
  have HFd := hid (Fr.refl (fun _ => False) ((w.setCell ⟨q, 6, none⟩ (.int .i64 2)).setCell ⟨q, 9, none⟩ (fnv 96)))
  have HSq := hid hS
  have HQs := hid hQ
  have HBL := hid hB.lt
  have HX7 := hid (show ∃ y, ((c.setIfInBounds 6 (.int .i64 2)).setIfInBounds 9 (fnv 96))[7]? = some y from ⟨_, (get_set (get_set e7 (by decide)) (by decide))⟩)
  clear hB h2 h4 h5 e6 e7 e9 hS hQ hL hF1 hB1 hp
  rcases hmp with rfl | ⟨a, rfl⟩ <;>
  · go_enter Try.func92, Try.ntmps92
    go_upto_region 2 with fail
    go_region_held3 (fun w' => w'.cell? ⟨q, 2, none⟩ = some (.int .i64 t) ∧ w'.cell? ⟨q, 4, none⟩ = some (.int .i64 ra) ∧ w'.cell? ⟨q, 5, none⟩ = some (.int .i64 rl))
      (first | exact HTA.out _ HG.out | exact HTS.out _ HG.out | exact HT.out _ HFd.out | exact HT.out _ (HFd.out.trans (Fr.drew _ _)))
      (first
        | (go_at_call 65; (with_reducible refine (HP.out _).mono ?_); rintro e w6 ⟨rfl, hF6⟩; have HFd := hid (HFd.out.trans (Fr.trans (by first | exact Fr.refl _ _ | exact Fr.drew _ _) hF6)); clear hF6)
        | (go_at_call 72; (with_reducible refine (HL.out _ (by first | exact HFd.out | exact HFd.out.trans (Fr.drew _ _))).mono ?_); rintro e w7 ⟨rfl, hQ7, hF7⟩; have HQ7 := hid hQ7; have HG := hid ((HFd.out.mono (fun _ h => h.elim)).trans (Fr.trans (by first | exact Fr.refl _ _ | exact Fr.drew _ _) hF7)); clear hF7 hQ7; have hB7 := HB1.out.keep HG.out HSq.out; obtain ⟨z7, hz7⟩ := HX7.out; have c7 := hB7.cell hz7; have f7 := hB7.frozen 7; clear hz7; clear hB7))
    all_goals
      have hB7 := HB1.out.keep HG.out HSq.out
      go_wp2_with fail
      go_ret
      exact ⟨rfl, (hB7).set 7 _, HQs.out _ _ HQ7.out ((fr_cell _ _ _ _)), ((fr_to S q HF1.out).trans (fr_of S q HG.out)).trans (fr_to S q ((fr_cell _ _ _ _)))⟩

set_option maxRecDepth 100000 in
set_option maxHeartbeats 1000000 in
theorem st_take_won (t t1 : Int) (hmp : mp = .pointer none ∨ ∃ a, mp = .pointer (some a)) (hB : Blk w q c) (h0 : c[0]? = some (.int .i64 0)) (h1 : c[1]? = some (.int .i64 m)) (h2 : c[2]? = some (.int .i64 t)) (e6 : ∃ y, c[6]? = some y) (hS : ¬ S q) (hQ : Stays q Q) (hw : IntKind.i64.wrap (t + 1) = t1)
    (hL : Does 102 #[mp, .int .i64 x, .int .i64 0, .int .i64 t, .int .i64 t1] w q S (.tuple #[.bool true, .int .i64 er]) Q) :
    Calls Try.prog 96 #[.pointer (some ⟨q, 0, none⟩), mp, .int .i64 x] w fun e w' => e = .returned (.int .i64 er) ∧ Blk w' q ((c.setIfInBounds 6 (.int .i64 5)).setIfInBounds 6 (.int .i64 1)) ∧ Q w' ∧ Fr (And_ S q) w w' := by
  obtain ⟨y6, e6⟩ := e6
  have hF1 : Fr (fun k => k = q) w (w) := Fr.refl _ _
  have hB1 : Blk (w) q (c) := hB
  have HB1 := hid hB1
  have HT := hid (show ∀ w', Fr (fun _ => False) (w) w' → w'.cell? ⟨q, 0, none⟩ = some (.int .i64 0) ∧ w'.cell? ⟨q, 1, none⟩ = some (.int .i64 m) ∧ w'.cell? ⟨q, 2, none⟩ = some (.int .i64 t) from
    fun w' F => ⟨(hB1.keep F id).cell h0, (hB1.keep F id).cell h1, (hB1.keep F id).cell h2⟩)
  have HTS := hid (show ∀ w', Fr S (w) w' → w'.cell? ⟨q, 0, none⟩ = some (.int .i64 0) ∧ w'.cell? ⟨q, 1, none⟩ = some (.int .i64 m) ∧ w'.cell? ⟨q, 2, none⟩ = some (.int .i64 t) from
    fun w' F => ⟨(hB1.keep F hS).cell h0, (hB1.keep F hS).cell h1, (hB1.keep F hS).cell h2⟩)
  have HD := hid (fun (v : World) => top_is m v)
  have HL := hid (fun v (F : Fr (fun _ => False) (w) v) => hL v (hF1.trans (fr_no1 q F)))
  have HF1 := hid hF1
  have HFd := hid (Fr.refl (fun _ => False) (w))
  have HSq := hid hS
  have HQs := hid hQ
  have HBL := hid hB.lt
  have HX6 := hid (show ∃ y, (c)[6]? = some y from ⟨_, e6⟩)
  clear hB h0 h1 h2 e6 hS hQ hL hF1 hB1 
  rcases hmp with rfl | ⟨a, rfl⟩ <;>
  · go_enter Try.func96, Try.ntmps96
    go_upto_region 1 with fail
    go_region_held3 (fun w' => w'.cell? ⟨q, 0, none⟩ = some (.int .i64 0) ∧ w'.cell? ⟨q, 1, none⟩ = some (.int .i64 m) ∧ w'.cell? ⟨q, 2, none⟩ = some (.int .i64 t))
      (first | exact HTS.out _ HG.out | exact HT.out _ HFd.out | exact HT.out _ (HFd.out.trans (Fr.drew _ _)))
      (first
        | (go_at_call 62; (with_reducible refine (HD.out _).mono ?_); rintro e w6 ⟨rfl, hF6⟩; have HFd := hid (HFd.out.trans (Fr.trans (by first | exact Fr.refl _ _ | exact Fr.drew _ _) hF6)); clear hF6)
        | (go_at_call 102; (with_reducible refine (HL.out _ (by first | exact HFd.out | exact HFd.out.trans (Fr.drew _ _))).mono ?_); rintro e w7 ⟨rfl, hQ7, hF7⟩; have HQ7 := hid hQ7; have HG := hid ((HFd.out.mono (fun _ h => h.elim)).trans (Fr.trans (by first | exact Fr.refl _ _ | exact Fr.drew _ _) hF7)); clear hF7 hQ7))
    all_goals
      have hB7 := HB1.out.keep HG.out HSq.out
      obtain ⟨z6, hz6⟩ := HX6.out
      have c6 := hB7.cell hz6
      have f6 := hB7.frozen 6
      clear hz6
      go_wp2_with fail
      go_ret
      exact ⟨rfl, ((hB7).set 6 _).set 6 _, HQs.out _ _ HQ7.out (((fr_cell _ _ _ _)).trans (fr_cell _ _ _ _)), ((fr_to S q HF1.out).trans (fr_of S q HG.out)).trans (fr_to S q (((fr_cell _ _ _ _)).trans (fr_cell _ _ _ _)))⟩

set_option maxRecDepth 100000 in
set_option maxHeartbeats 1000000 in
theorem st_take_not (t t1 : Int) (hmp : mp = .pointer none ∨ ∃ a, mp = .pointer (some a)) (hB : Blk w q c) (h0 : c[0]? = some (.int .i64 0)) (h1 : c[1]? = some (.int .i64 m)) (h2 : c[2]? = some (.int .i64 t)) (e6 : ∃ y, c[6]? = some y) (hS : ¬ S q) (hQ : Stays q Q) (hw : IntKind.i64.wrap (t + 1) = t1)
    (hL : Does 102 #[mp, .int .i64 x, .int .i64 0, .int .i64 t, .int .i64 t1] w q S (.tuple #[.bool false, .int .i64 er]) Q) :
    Calls Try.prog 96 #[.pointer (some ⟨q, 0, none⟩), mp, .int .i64 x] w fun e w' => e = .returned (.int .i64 er) ∧ Blk w' q (c.setIfInBounds 6 (.int .i64 5)) ∧ Q w' ∧ Fr (And_ S q) w w' := by
  obtain ⟨y6, e6⟩ := e6
  have hF1 : Fr (fun k => k = q) w (w) := Fr.refl _ _
  have hB1 : Blk (w) q (c) := hB
  have HB1 := hid hB1
  have HT := hid (show ∀ w', Fr (fun _ => False) (w) w' → w'.cell? ⟨q, 0, none⟩ = some (.int .i64 0) ∧ w'.cell? ⟨q, 1, none⟩ = some (.int .i64 m) ∧ w'.cell? ⟨q, 2, none⟩ = some (.int .i64 t) from
    fun w' F => ⟨(hB1.keep F id).cell h0, (hB1.keep F id).cell h1, (hB1.keep F id).cell h2⟩)
  have HTS := hid (show ∀ w', Fr S (w) w' → w'.cell? ⟨q, 0, none⟩ = some (.int .i64 0) ∧ w'.cell? ⟨q, 1, none⟩ = some (.int .i64 m) ∧ w'.cell? ⟨q, 2, none⟩ = some (.int .i64 t) from
    fun w' F => ⟨(hB1.keep F hS).cell h0, (hB1.keep F hS).cell h1, (hB1.keep F hS).cell h2⟩)
  have HD := hid (fun (v : World) => top_is m v)
  have HL := hid (fun v (F : Fr (fun _ => False) (w) v) => hL v (hF1.trans (fr_no1 q F)))
  have HF1 := hid hF1
  have HFd := hid (Fr.refl (fun _ => False) (w))
  have HSq := hid hS
  have HQs := hid hQ
  have HBL := hid hB.lt
  have HX6 := hid (show ∃ y, (c)[6]? = some y from ⟨_, e6⟩)
  clear hB h0 h1 h2 e6 hS hQ hL hF1 hB1 
  rcases hmp with rfl | ⟨a, rfl⟩ <;>
  · go_enter Try.func96, Try.ntmps96
    go_upto_region 1 with fail
    go_region_held3 (fun w' => w'.cell? ⟨q, 0, none⟩ = some (.int .i64 0) ∧ w'.cell? ⟨q, 1, none⟩ = some (.int .i64 m) ∧ w'.cell? ⟨q, 2, none⟩ = some (.int .i64 t))
      (first | exact HTS.out _ HG.out | exact HT.out _ HFd.out | exact HT.out _ (HFd.out.trans (Fr.drew _ _)))
      (first
        | (go_at_call 62; (with_reducible refine (HD.out _).mono ?_); rintro e w6 ⟨rfl, hF6⟩; have HFd := hid (HFd.out.trans (Fr.trans (by first | exact Fr.refl _ _ | exact Fr.drew _ _) hF6)); clear hF6)
        | (go_at_call 102; (with_reducible refine (HL.out _ (by first | exact HFd.out | exact HFd.out.trans (Fr.drew _ _))).mono ?_); rintro e w7 ⟨rfl, hQ7, hF7⟩; have HQ7 := hid hQ7; have HG := hid ((HFd.out.mono (fun _ h => h.elim)).trans (Fr.trans (by first | exact Fr.refl _ _ | exact Fr.drew _ _) hF7)); clear hF7 hQ7))
    all_goals
      have hB7 := HB1.out.keep HG.out HSq.out
      obtain ⟨z6, hz6⟩ := HX6.out
      have c6 := hB7.cell hz6
      have f6 := hB7.frozen 6
      clear hz6
      go_wp2_with fail
      go_ret
      exact ⟨rfl, (hB7).set 6 _, HQs.out _ _ HQ7.out ((fr_cell _ _ _ _)), ((fr_to S q HF1.out).trans (fr_of S q HG.out)).trans (fr_to S q ((fr_cell _ _ _ _)))⟩

set_option maxHeartbeats 800000 in
theorem st_seeBottom_no (t : Int) (hmp : mp = .pointer none ∨ ∃ a, mp = .pointer (some a)) (hB : Blk w q c) (h0 : c[0]? = some (.int .i64 0)) (h1 : c[1]? = some (.int .i64 m)) (h2 : c[2]? = some (.int .i64 t)) (e3 : ∃ y, c[3]? = some y) (e6 : ∃ y, c[6]? = some y) (e9 : ∃ y, c[9]? = some y) (hS : ¬ S q) (hQ : Stays q Q)  (hg : decide (v ≤ t) = true)
    (hL : Does 72 #[mp, .int .i64 x, .int .i64 1] w q S (.tuple #[.int .i64 v, .int .i64 er]) Q) :
    Calls Try.prog 78 #[.pointer (some ⟨q, 0, none⟩), mp, .int .i64 x] w fun e w' => e = .returned (.int .i64 er) ∧ Blk w' q (((c.setIfInBounds 9 (fnv 87)).setIfInBounds 3 (.int .i64 v)).setIfInBounds 6 (.int .i64 3)) ∧ Q w' ∧ Fr (And_ S q) w w' := by
  obtain ⟨n, hn⟩ := id e9
  have cn := hB.cell hn
  have fn := hB.frozen 9
  have hF1 : Fr (fun k => k = q) w (w.setCell ⟨q, 9, none⟩ (fnv 87)) := fr_cell _ _ _ _
  have HC := hid (loadBottom_any mp x v er m S Q q _ _ hmp (hB.set 9 (fnv 87)) (get_set h0 (by decide)) (get_set h1 (by decide)) (has_set e3) hS hQ (hL.later hF1))
  have HF1 := hid hF1
  have HO := hid (show ((c.setIfInBounds 9 (fnv 87)).setIfInBounds 3 (.int .i64 v))[2]? = some (.int .i64 t) from (get_set (get_set h2 (by decide)) (by decide)))
  have HV := hid (show ((c.setIfInBounds 9 (fnv 87)).setIfInBounds 3 (.int .i64 v))[3]? = some (.int .i64 v) from by
    obtain ⟨_, e⟩ := e3
    simp [lt_of_get e])
  have HN := hid (show ∃ y, ((c.setIfInBounds 9 (fnv 87)).setIfInBounds 3 (.int .i64 v))[6]? = some y from has_set (has_set e6))
  have HQs := hid hQ
  clear hB h0 h1 h2 e3 e6 e9 hS hQ hL hF1 hn
  rcases hmp with rfl | ⟨a, rfl⟩ <;>
  · go_enter Try.func78, Try.ntmps78
    go_wp2_with fail
    refine HC.out.mono ?_
    rintro e w2 ⟨rfl, hB2, hQ2, hF2⟩
    have HB2 := hid hB2
    have HQ2 := hid hQ2
    have HF2 := hid hF2
    obtain ⟨z, hz⟩ := HN.out
    have d1 := hB2.cell HV.out
    have d2 := hB2.cell HO.out
    have d3 := hB2.cell hz
    have f3 := hB2.frozen 6
    clear hB2 hQ2 hF2 hz
    go_wp2_with fail
    go_quiet (fail)
    go_wp2_with fail
    go_ret
    exact ⟨rfl, (HB2.out.drewN _).set 6 _, HQs.out _ _ HQ2.out ((Fr.drewN _ _ _).trans (fr_cell _ _ _ _)), ((fr_to S q HF1.out).trans HF2.out).trans (fr_to S q ((Fr.drewN _ _ _).trans (fr_cell _ _ _ _)))⟩

set_option maxHeartbeats 800000 in
theorem st_seeBottom_in (t : Int) (hmp : mp = .pointer none ∨ ∃ a, mp = .pointer (some a)) (hB : Blk w q c) (h0 : c[0]? = some (.int .i64 0)) (h1 : c[1]? = some (.int .i64 m)) (h2 : c[2]? = some (.int .i64 t)) (e3 : ∃ y, c[3]? = some y) (e9 : ∃ y, c[9]? = some y) (hS : ¬ S q) (hQ : Stays q Q)  (hg : decide (v ≤ t) = false)
    (hL : Does 72 #[mp, .int .i64 x, .int .i64 1] w q S (.tuple #[.int .i64 v, .int .i64 er]) Q) :
    Calls Try.prog 78 #[.pointer (some ⟨q, 0, none⟩), mp, .int .i64 x] w fun e w' => e = .returned (.int .i64 er) ∧ Blk w' q ((c.setIfInBounds 9 (fnv 87)).setIfInBounds 3 (.int .i64 v)) ∧ Q w' ∧ Fr (And_ S q) w w' := by
  obtain ⟨n, hn⟩ := id e9
  have cn := hB.cell hn
  have fn := hB.frozen 9
  have hF1 : Fr (fun k => k = q) w (w.setCell ⟨q, 9, none⟩ (fnv 87)) := fr_cell _ _ _ _
  have HC := hid (loadBottom_any mp x v er m S Q q _ _ hmp (hB.set 9 (fnv 87)) (get_set h0 (by decide)) (get_set h1 (by decide)) (has_set e3) hS hQ (hL.later hF1))
  have HF1 := hid hF1
  have HO := hid (show ((c.setIfInBounds 9 (fnv 87)).setIfInBounds 3 (.int .i64 v))[2]? = some (.int .i64 t) from (get_set (get_set h2 (by decide)) (by decide)))
  have HV := hid (show ((c.setIfInBounds 9 (fnv 87)).setIfInBounds 3 (.int .i64 v))[3]? = some (.int .i64 v) from by
    obtain ⟨_, e⟩ := e3
    simp [lt_of_get e])
  have HN := hid (show ∃ y, ((c.setIfInBounds 9 (fnv 87)).setIfInBounds 3 (.int .i64 v))[9]? = some y from has_set (has_set e9))
  have HQs := hid hQ
  clear hB h0 h1 h2 e3 e9 hS hQ hL hF1 hn
  rcases hmp with rfl | ⟨a, rfl⟩ <;>
  · go_enter Try.func78, Try.ntmps78
    go_wp2_with fail
    refine HC.out.mono ?_
    rintro e w2 ⟨rfl, hB2, hQ2, hF2⟩
    have HB2 := hid hB2
    have HQ2 := hid hQ2
    have HF2 := hid hF2
    obtain ⟨z, hz⟩ := HN.out
    have d1 := hB2.cell HV.out
    have d2 := hB2.cell HO.out
    have d3 := hB2.cell hz
    have f3 := hB2.frozen 9
    clear hB2 hQ2 hF2 hz
    go_wp2_with fail
    go_quiet (fail)
    go_wp2_with fail
    go_ret
    exact ⟨rfl, HB2.out.drewN _, HQs.out _ _ HQ2.out (Fr.drewN _ _ _), ((fr_to S q HF1.out).trans HF2.out).trans (Fr.drewN _ _ _)⟩

end
end Go.Proofs.Ytiofdfgcghiibaa
