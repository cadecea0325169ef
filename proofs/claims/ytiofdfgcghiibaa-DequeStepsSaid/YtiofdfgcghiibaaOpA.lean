/-
  Deques of the program: the steps of its operations.
-/
import Derived.Test.YtiofdfgcghiibaaCom
namespace Go.Proofs.Ytiofdfgcghiibaa
open Go.RowKit
set_option linter.unusedVariables false
attribute [local go_sem] run_store_func

theorem get_set {c : Array Value} {i j : Nat} {v y : Value} (h : c[j]? = some y) (hij : i ≠ j) : (c.setIfInBounds i v)[j]? = some y := by
  rw [Array.getElem?_setIfInBounds_ne hij]; exact h
theorem has_set {c : Array Value} {i j : Nat} {v : Value} (h : ∃ y, c[j]? = some y) : ∃ y, (c.setIfInBounds i v)[j]? = some y := by
  obtain ⟨y, h⟩ := h
  have hj := (Array.getElem?_eq_some_iff.1 h).1
  have hj2 : j < (c.setIfInBounds i v).size := by simpa using hj
  exact ⟨_, Array.getElem?_eq_getElem hj2⟩

theorem lt_of_get {c : Array Value} {i : Nat} {v : Value} (h : c[i]? = some v) : i < c.size := (Array.getElem?_eq_some_iff.1 h).1

def fnv (k : Nat) : Value := .func (.func k) #[] #[]

section
variable (mp : Value) (x v er m : Int) (S : Nat → Prop) (Q : World → Prop) (q : Nat) (c : Array Value) (w : World)

set_option maxHeartbeats 800000 in
theorem pu_seeBottom (hmp : mp = .pointer none ∨ ∃ a, mp = .pointer (some a)) (hB : Blk w q c) (h0 : c[0]? = some (.int .i64 0)) (h1 : c[1]? = some (.int .i64 m)) (hy : ∃ y, c[3]? = some y) (hn : ∃ y, c[13]? = some y) (hS : ¬ S q) (hQ : Stays q Q)
    (hL : Does 72 #[mp, .int .i64 x, .int .i64 1] w q S (.tuple #[.int .i64 v, .int .i64 er]) Q) :
    Calls Try.prog 52 #[.pointer (some ⟨q, 0, none⟩), mp, .int .i64 x] w fun e w' => e = .returned (.int .i64 er) ∧ Blk w' q ((c.setIfInBounds 13 (fnv 80)).setIfInBounds 3 (.int .i64 v)) ∧ Q w' ∧ Fr (And_ S q) w w' := by
  obtain ⟨n, hn⟩ := hn
  have cn := hB.cell hn
  have fn := hB.frozen 13
  have hF1 : Fr (fun k => k = q) w (w.setCell ⟨q, 13, none⟩ (fnv 80)) := fr_cell _ _ _ _
  have HC := hid (loadBottom_any mp x v er m S Q q _ _ hmp (hB.set 13 (fnv 80)) (get_set h0 (by decide)) (get_set h1 (by decide)) (has_set hy) hS hQ (hL.later hF1))
  have HF1 := hid hF1
  clear hB h0 h1 hy hn hS hQ hL hF1
  rcases hmp with rfl | ⟨a, rfl⟩ <;>
  · go_enter Try.func52, Try.ntmps52
    go_wp2_with fail
    refine HC.out.mono ?_
    rintro e w2 ⟨rfl, hB2, hQ2, hF2⟩
    go_wp2_with fail
    go_ret
    exact ⟨rfl, hB2, hQ2, (fr_to S q HF1.out).trans hF2⟩

set_option maxRecDepth 100000 in
set_option maxHeartbeats 800000 in
theorem pu_put (ra rl b X y : Int) (hmp : mp = .pointer none ∨ ∃ a, mp = .pointer (some a)) (hB : Blk w q c) (h3 : c[3]? = some (.int .i64 b)) (h4 : c[4]? = some (.int .i64 ra)) (h5 : c[5]? = some (.int .i64 rl)) (h9 : c[9]? = some (.int .i64 X)) (hn : ∃ y, c[13]? = some y) (hS : ¬ S q) (hQ : Stays q Q) (hp : Rg.place ⟨ra, rl⟩ b = y)
    (hL : Does 47 #[mp, .int .i64 x, .int .i64 y, .int .i64 X] w q S (.int .i64 er) Q) :
    Calls Try.prog 93 #[.pointer (some ⟨q, 0, none⟩), mp, .int .i64 x] w fun e w' => e = .returned (.int .i64 er) ∧ Blk w' q (c.setIfInBounds 13 (fnv 97)) ∧ Q w' ∧ Fr (And_ S q) w w' := by
  obtain ⟨n, hn⟩ := hn
  have cn := hB.cell hn
  have fn := hB.frozen 13
  have hF1 : Fr (fun k => k = q) w (w.setCell ⟨q, 13, none⟩ (fnv 97)) := fr_cell _ _ _ _
  have hB1 := hB.set 13 (fnv 97)
  have HB1 := hid hB1
  have HS := hid (show ∀ w', Fr (And_ S q) (w.setCell ⟨q, 13, none⟩ (fnv 97)) w' → True from fun _ _ => trivial)
  have HT := hid (show ∀ w', Fr (fun _ => False) (w.setCell ⟨q, 13, none⟩ (fnv 97)) w' → w'.cell? ⟨q, 3, none⟩ = some (.int .i64 b) ∧ w'.cell? ⟨q, 4, none⟩ = some (.int .i64 ra) ∧ w'.cell? ⟨q, 5, none⟩ = some (.int .i64 rl) ∧ w'.cell? ⟨q, 9, none⟩ = some (.int .i64 X) from
    fun w' F => ⟨(hB1.keep F id).cell (get_set h3 (by decide)), (hB1.keep F id).cell (get_set h4 (by decide)), (hB1.keep F id).cell (get_set h5 (by decide)), (hB1.keep F id).cell (get_set h9 (by decide))⟩)
  have HTS := hid (show ∀ w', Fr S (w.setCell ⟨q, 13, none⟩ (fnv 97)) w' → w'.cell? ⟨q, 3, none⟩ = some (.int .i64 b) ∧ w'.cell? ⟨q, 4, none⟩ = some (.int .i64 ra) ∧ w'.cell? ⟨q, 5, none⟩ = some (.int .i64 rl) ∧ w'.cell? ⟨q, 9, none⟩ = some (.int .i64 X) from
    fun w' F => ⟨(hB1.keep F hS).cell (get_set h3 (by decide)), (hB1.keep F hS).cell (get_set h4 (by decide)), (hB1.keep F hS).cell (get_set h5 (by decide)), (hB1.keep F hS).cell (get_set h9 (by decide))⟩)
  have HP := hid (fun (v : World) => place_any ra rl b v)
  rw [hp] at HP
  have HL := hid (fun v (F : Fr (fun _ => False) (w.setCell ⟨q, 13, none⟩ (fnv 97)) v) => hL v (hF1.trans (fr_no1 q F)))
  have HF1 := hid hF1
  have HFd := hid (Fr.refl (fun _ => False) (w.setCell ⟨q, 13, none⟩ (fnv 97)))
  have HSq := hid hS
  have HBL := hid hB.lt
  clear hB h3 h4 h5 h9 hn hS hQ hL hF1 hB1 hp
  rcases hmp with rfl | ⟨a, rfl⟩ <;>
  · go_enter Try.func93, Try.ntmps93
    go_upto_region 2 with fail
    go_region_held3 (fun w' => w'.cell? ⟨q, 3, none⟩ = some (.int .i64 b) ∧ w'.cell? ⟨q, 4, none⟩ = some (.int .i64 ra) ∧ w'.cell? ⟨q, 5, none⟩ = some (.int .i64 rl) ∧ w'.cell? ⟨q, 9, none⟩ = some (.int .i64 X))
      (first | exact HTS.out _ HG.out | exact HT.out _ HFd.out | exact HT.out _ (HFd.out.trans (Fr.drew _ _)))
      (first
        | (go_at_call 65; (with_reducible refine (HP.out _).mono ?_); rintro e w6 ⟨rfl, hF6⟩; have HFd := hid (HFd.out.trans (Fr.trans (by first | exact Fr.refl _ _ | exact Fr.drew _ _) hF6)); clear hF6)
        | (go_at_call 47; (with_reducible refine (HL.out _ (by first | exact HFd.out | exact HFd.out.trans (Fr.drew _ _))).mono ?_); rintro e w7 ⟨rfl, hQ7, hF7⟩; have HQ7 := hid hQ7; have HG := hid ((HFd.out.mono (fun _ h => h.elim)).trans (Fr.trans (by first | exact Fr.refl _ _ | exact Fr.drew _ _) hF7)); clear hF7 hQ7))
    all_goals
      go_wp2_with fail
      go_ret
      exact ⟨rfl, HB1.out.keep HG.out HSq.out, HQ7.out, (fr_to S q HF1.out).trans (fr_of S q HG.out)⟩
end
end Go.Proofs.Ytiofdfgcghiibaa
