/-
  Deques of the program: the steps of a push.
-/
import Derived.Test.YtiofdfgcghiibaaOpA
namespace Go.Proofs.Ytiofdfgcghiibaa
open Go.RowKit
set_option linter.unusedVariables false
attribute [local go_sem] run_store_func

section
variable (mp : Value) (x v er m : Int) (S : Nat → Prop) (Q : World → Prop) (q : Nat) (c : Array Value) (w : World)

set_option maxHeartbeats 800000 in
theorem pu_seeTop (hmp : mp = .pointer none ∨ ∃ a, mp = .pointer (some a)) (hB : Blk w q c) (h0 : c[0]? = some (.int .i64 0)) (h1 : c[1]? = some (.int .i64 m)) (hy : ∃ y, c[2]? = some y) (hn : ∃ y, c[13]? = some y) (hS : ¬ S q) (hQ : Stays q Q)
    (hL : Does 72 #[mp, .int .i64 x, .int .i64 0] w q S (.tuple #[.int .i64 v, .int .i64 er]) Q) :
    Calls Try.prog 80 #[.pointer (some ⟨q, 0, none⟩), mp, .int .i64 x] w fun e w' => e = .returned (.int .i64 er) ∧ Blk w' q ((c.setIfInBounds 13 (fnv 88)).setIfInBounds 2 (.int .i64 v)) ∧ Q w' ∧ Fr (And_ S q) w w' := by
  obtain ⟨n, hn⟩ := hn
  have cn := hB.cell hn
  have fn := hB.frozen 13
  have hF1 : Fr (fun k => k = q) w (w.setCell ⟨q, 13, none⟩ (fnv 88)) := fr_cell _ _ _ _
  have HC := hid (loadTop_any mp x v er m S Q q _ _ hmp (hB.set 13 (fnv 88)) (get_set h0 (by decide)) (get_set h1 (by decide)) (has_set hy) hS hQ (hL.later hF1))
  have HF1 := hid hF1
  clear hB h0 h1 hy hn hS hQ hL hF1
  rcases hmp with rfl | ⟨a, rfl⟩ <;>
  · go_enter Try.func80, Try.ntmps80
    go_wp2_with fail
    refine HC.out.mono ?_
    rintro e w2 ⟨rfl, hB2, hQ2, hF2⟩
    go_wp2_with fail
    go_ret
    exact ⟨rfl, hB2, hQ2, (fr_to S q HF1.out).trans hF2⟩

set_option maxRecDepth 100000 in
set_option maxHeartbeats 1000000 in
theorem pu_raise (b b1 : Int) (hmp : mp = .pointer none ∨ ∃ a, mp = .pointer (some a)) (hB : Blk w q c) (h0 : c[0]? = some (.int .i64 0)) (h1 : c[1]? = some (.int .i64 m)) (h3 : c[3]? = some (.int .i64 b)) (e6 : ∃ y, c[6]? = some y) (hS : ¬ S q) (hQ : Stays q Q) (hw : IntKind.i64.wrap (b + 1) = b1)
    (hL : Does 47 #[mp, .int .i64 x, .int .i64 1, .int .i64 b1] w q S (.int .i64 er) Q) :
    Calls Try.prog 97 #[.pointer (some ⟨q, 0, none⟩), mp, .int .i64 x] w fun e w' => e = .returned (.int .i64 er) ∧ Blk w' q (c.setIfInBounds 6 (.int .i64 1)) ∧ Q w' ∧ Fr (And_ S q) w w' := by
  obtain ⟨y6, e6⟩ := e6
  have c6 := hB.cell e6
  have f6 := hB.frozen 6
  have hF1 : Fr (fun k => k = q) w (w.setCell ⟨q, 6, none⟩ (.int .i64 1)) := (fr_cell _ _ _ _)
  have hB1 : Blk (w.setCell ⟨q, 6, none⟩ (.int .i64 1)) q (c.setIfInBounds 6 (.int .i64 1)) := (hB).set 6 (.int .i64 1)
  have HB1 := hid hB1
  have HT := hid (show ∀ w', Fr (fun _ => False) (w.setCell ⟨q, 6, none⟩ (.int .i64 1)) w' → w'.cell? ⟨q, 0, none⟩ = some (.int .i64 0) ∧ w'.cell? ⟨q, 1, none⟩ = some (.int .i64 m) ∧ w'.cell? ⟨q, 3, none⟩ = some (.int .i64 b) from
    fun w' F => ⟨(hB1.keep F id).cell (get_set h0 (by decide)), (hB1.keep F id).cell (get_set h1 (by decide)), (hB1.keep F id).cell (get_set h3 (by decide))⟩)
  have HTS := hid (show ∀ w', Fr S (w.setCell ⟨q, 6, none⟩ (.int .i64 1)) w' → w'.cell? ⟨q, 0, none⟩ = some (.int .i64 0) ∧ w'.cell? ⟨q, 1, none⟩ = some (.int .i64 m) ∧ w'.cell? ⟨q, 3, none⟩ = some (.int .i64 b) from
    fun w' F => ⟨(hB1.keep F hS).cell (get_set h0 (by decide)), (hB1.keep F hS).cell (get_set h1 (by decide)), (hB1.keep F hS).cell (get_set h3 (by decide))⟩)
  have HD := hid (fun (v : World) => bottom_is m v)
  have HL := hid (fun v (F : Fr (fun _ => False) (w.setCell ⟨q, 6, none⟩ (.int .i64 1)) v) => hL v (hF1.trans (fr_no1 q F)))
  have HF1 := hid hF1
  have HFd := hid (Fr.refl (fun _ => False) (w.setCell ⟨q, 6, none⟩ (.int .i64 1)))
  have HSq := hid hS
  have HQs := hid hQ
  have HBL := hid hB.lt
  clear hB h0 h1 h3 e6 hS hQ hL hF1 hB1 
  rcases hmp with rfl | ⟨a, rfl⟩ <;>
  · go_enter Try.func97, Try.ntmps97
    go_upto_region 2 with fail
    go_region_held3 (fun w' => w'.cell? ⟨q, 0, none⟩ = some (.int .i64 0) ∧ w'.cell? ⟨q, 1, none⟩ = some (.int .i64 m) ∧ w'.cell? ⟨q, 3, none⟩ = some (.int .i64 b))
      (first | exact HTS.out _ HG.out | exact HT.out _ HFd.out | exact HT.out _ (HFd.out.trans (Fr.drew _ _)))
      (first
        | (go_at_call 63; (with_reducible refine (HD.out _).mono ?_); rintro e w6 ⟨rfl, hF6⟩; have HFd := hid (HFd.out.trans (Fr.trans (by first | exact Fr.refl _ _ | exact Fr.drew _ _) hF6)); clear hF6)
        | (go_at_call 47; (with_reducible refine (HL.out _ (by first | exact HFd.out | exact HFd.out.trans (Fr.drew _ _))).mono ?_); rintro e w7 ⟨rfl, hQ7, hF7⟩; have HQ7 := hid hQ7; have HG := hid ((HFd.out.mono (fun _ h => h.elim)).trans (Fr.trans (by first | exact Fr.refl _ _ | exact Fr.drew _ _) hF7)); clear hF7 hQ7))
    all_goals
      go_wp2_with fail
      go_ret
      exact ⟨rfl, HB1.out.keep HG.out HSq.out, HQ7.out, (fr_to S q HF1.out).trans (fr_of S q HG.out)⟩

set_option maxRecDepth 100000 in
set_option maxHeartbeats 1000000 in
theorem pu_turn (wa wl y : Int) (hmp : mp = .pointer none ∨ ∃ a, mp = .pointer (some a)) (hB : Blk w q c) (h0 : c[0]? = some (.int .i64 0)) (h1 : c[1]? = some (.int .i64 m)) (h10 : c[10]? = some (.int .i64 wa)) (h11 : c[11]? = some (.int .i64 wl)) (e4 : ∃ y, c[4]? = some y) (e5 : ∃ y, c[5]? = some y) (e12 : ∃ y, c[12]? = some y) (e13 : ∃ y, c[13]? = some y) (hS : ¬ S q) (hQ : Stays q Q) (hp : Rg.word ⟨wa, wl⟩ = y)
    (hL : Does 47 #[mp, .int .i64 x, .int .i64 2, .int .i64 y] w q S (.int .i64 er) Q) :
    Calls Try.prog 108 #[.pointer (some ⟨q, 0, none⟩), mp, .int .i64 x] w fun e w' => e = .returned (.int .i64 er) ∧ Blk w' q ((((c.setIfInBounds 4 (.int .i64 wa)).setIfInBounds 5 (.int .i64 wl)).setIfInBounds 12 (.pointer none)).setIfInBounds 13 (fnv 93)) ∧ Q w' ∧ Fr (And_ S q) w w' := by
  obtain ⟨y4, e4⟩ := e4
  obtain ⟨y5, e5⟩ := e5
  obtain ⟨y12, e12⟩ := e12
  obtain ⟨y13, e13⟩ := e13
  have c10 := hB.cell h10
  have c11 := hB.cell h11
  have c4 := hB.cell e4
  have f4 := hB.frozen 4
  have c5 := hB.cell e5
  have f5 := hB.frozen 5
  have c12 := hB.cell e12
  have f12 := hB.frozen 12
  have c13 := hB.cell e13
  have f13 := hB.frozen 13
  have hF1 : Fr (fun k => k = q) w ((((w.setCell ⟨q, 4, none⟩ (.int .i64 wa)).setCell ⟨q, 5, none⟩ (.int .i64 wl)).setCell ⟨q, 12, none⟩ (.pointer none)).setCell ⟨q, 13, none⟩ (fnv 93)) := ((((fr_cell _ _ _ _)).trans (fr_cell _ _ _ _)).trans (fr_cell _ _ _ _)).trans (fr_cell _ _ _ _)
  have hB1 : Blk ((((w.setCell ⟨q, 4, none⟩ (.int .i64 wa)).setCell ⟨q, 5, none⟩ (.int .i64 wl)).setCell ⟨q, 12, none⟩ (.pointer none)).setCell ⟨q, 13, none⟩ (fnv 93)) q ((((c.setIfInBounds 4 (.int .i64 wa)).setIfInBounds 5 (.int .i64 wl)).setIfInBounds 12 (.pointer none)).setIfInBounds 13 (fnv 93)) := ((((hB).set 4 (.int .i64 wa)).set 5 (.int .i64 wl)).set 12 (.pointer none)).set 13 (fnv 93)
  have HB1 := hid hB1
  have HT := hid (show ∀ w', Fr (fun _ => False) ((((w.setCell ⟨q, 4, none⟩ (.int .i64 wa)).setCell ⟨q, 5, none⟩ (.int .i64 wl)).setCell ⟨q, 12, none⟩ (.pointer none)).setCell ⟨q, 13, none⟩ (fnv 93)) w' → w'.cell? ⟨q, 0, none⟩ = some (.int .i64 0) ∧ w'.cell? ⟨q, 1, none⟩ = some (.int .i64 m) ∧ w'.cell? ⟨q, 4, none⟩ = some (.int .i64 wa) ∧ w'.cell? ⟨q, 5, none⟩ = some (.int .i64 wl) from
    fun w' F => ⟨(hB1.keep F id).cell (get_set (get_set (get_set (get_set h0 (by decide)) (by decide)) (by decide)) (by decide)), (hB1.keep F id).cell (get_set (get_set (get_set (get_set h1 (by decide)) (by decide)) (by decide)) (by decide)), (hB1.keep F id).cell (by simp [lt_of_get e4]), (hB1.keep F id).cell (by simp [lt_of_get e5])⟩)
  have HTS := hid (show ∀ w', Fr S ((((w.setCell ⟨q, 4, none⟩ (.int .i64 wa)).setCell ⟨q, 5, none⟩ (.int .i64 wl)).setCell ⟨q, 12, none⟩ (.pointer none)).setCell ⟨q, 13, none⟩ (fnv 93)) w' → w'.cell? ⟨q, 0, none⟩ = some (.int .i64 0) ∧ w'.cell? ⟨q, 1, none⟩ = some (.int .i64 m) ∧ w'.cell? ⟨q, 4, none⟩ = some (.int .i64 wa) ∧ w'.cell? ⟨q, 5, none⟩ = some (.int .i64 wl) from
    fun w' F => ⟨(hB1.keep F hS).cell (get_set (get_set (get_set (get_set h0 (by decide)) (by decide)) (by decide)) (by decide)), (hB1.keep F hS).cell (get_set (get_set (get_set (get_set h1 (by decide)) (by decide)) (by decide)) (by decide)), (hB1.keep F hS).cell (by simp [lt_of_get e4]), (hB1.keep F hS).cell (by simp [lt_of_get e5])⟩)
  have HD := hid (fun (v : World) => word_is m v)
  have HW := hid (fun (v : World) => word_any wa wl v)
  rw [hp] at HW
  have HL := hid (fun v (F : Fr (fun _ => False) ((((w.setCell ⟨q, 4, none⟩ (.int .i64 wa)).setCell ⟨q, 5, none⟩ (.int .i64 wl)).setCell ⟨q, 12, none⟩ (.pointer none)).setCell ⟨q, 13, none⟩ (fnv 93)) v) => hL v (hF1.trans (fr_no1 q F)))
  have HF1 := hid hF1
  have HFd := hid (Fr.refl (fun _ => False) ((((w.setCell ⟨q, 4, none⟩ (.int .i64 wa)).setCell ⟨q, 5, none⟩ (.int .i64 wl)).setCell ⟨q, 12, none⟩ (.pointer none)).setCell ⟨q, 13, none⟩ (fnv 93)))
  have HSq := hid hS
  have HQs := hid hQ
  have HBL := hid hB.lt
  clear hB h0 h1 h10 h11 e4 e5 e12 e13 hS hQ hL hF1 hB1 hp
  rcases hmp with rfl | ⟨a, rfl⟩ <;>
  · go_enter Try.func108, Try.ntmps108
    go_upto_region 2 with fail
    go_region_held3 (fun w' => w'.cell? ⟨q, 0, none⟩ = some (.int .i64 0) ∧ w'.cell? ⟨q, 1, none⟩ = some (.int .i64 m) ∧ w'.cell? ⟨q, 4, none⟩ = some (.int .i64 wa) ∧ w'.cell? ⟨q, 5, none⟩ = some (.int .i64 wl))
      (first | exact HTS.out _ HG.out | exact HT.out _ HFd.out | exact HT.out _ (HFd.out.trans (Fr.drew _ _)))
      (first
        | (go_at_call 48; (with_reducible refine (HD.out _).mono ?_); rintro e w6 ⟨rfl, hF6⟩; have HFd := hid (HFd.out.trans (Fr.trans (by first | exact Fr.refl _ _ | exact Fr.drew _ _) hF6)); clear hF6)
        | (go_at_call 49; (with_reducible refine (HW.out _).mono ?_); rintro e w6 ⟨rfl, hF6⟩; have HFd := hid (HFd.out.trans (Fr.trans (by first | exact Fr.refl _ _ | exact Fr.drew _ _) hF6)); clear hF6)
        | (go_at_call 47; (with_reducible refine (HL.out _ (by first | exact HFd.out | exact HFd.out.trans (Fr.drew _ _))).mono ?_); rintro e w7 ⟨rfl, hQ7, hF7⟩; have HQ7 := hid hQ7; have HG := hid ((HFd.out.mono (fun _ h => h.elim)).trans (Fr.trans (by first | exact Fr.refl _ _ | exact Fr.drew _ _) hF7)); clear hF7 hQ7))
    all_goals
      go_wp2_with fail
      go_ret
      exact ⟨rfl, HB1.out.keep HG.out HSq.out, HQ7.out, (fr_to S q HF1.out).trans (fr_of S q HG.out)⟩

end
end Go.Proofs.Ytiofdfgcghiibaa
