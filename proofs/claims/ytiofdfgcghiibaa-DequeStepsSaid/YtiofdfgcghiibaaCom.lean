/-
  Deques of the program: what its three operations share.
-/
import Derived.Test.YtiofdfgcghiibaaStep
import Derived.Test.YtiofdfgcghiibaaDq
import Derived.Deep.RegionHeld3
import Derived.Deep.QuietTactic
import Derived.BigQuiet
namespace Go.Proofs.Ytiofdfgcghiibaa
open Go.RowKit
set_option linter.unusedVariables false
attribute [local go_sem] run_store_func

/-- What a call of the machine's answers and leaves, in any world in which only block q has turned since. -/
def Does (f : Nat) (args : Array Value) (w : World) (q : Nat) (S : Nat → Prop) (ret : Value) (Q : World → Prop) : Prop :=
  ∀ w', Fr (fun k => k = q) w w' → Calls Try.prog f args w' fun e w'' => e = .returned ret ∧ Q w'' ∧ Fr S w' w''

theorem Does.later {f : Nat} {args : Array Value} {w v : World} {q : Nat} {S : Nat → Prop} {ret : Value} {Q : World → Prop} (h : Does f args w q S ret Q) (F : Fr (fun k => k = q) w v) : Does f args v q S ret Q :=
  fun w' F' => h w' (F.trans F')

/-- What is known of a world, and stays so while only block q turns. -/
def Stays (q : Nat) (Q : World → Prop) : Prop := ∀ v v', Q v → Fr (fun k => k = q) v v' → Q v'

/-- Of what S may turn, and block q. -/
def And_ (S : Nat → Prop) (q : Nat) (k : Nat) : Prop := S k ∨ k = q

theorem fr_of (S : Nat → Prop) (q : Nat) {w w' : World} (h : Fr S w w') : Fr (And_ S q) w w' := h.mono fun _ h => .inl h
theorem fr_to (S : Nat → Prop) (q : Nat) {w w' : World} (h : Fr (fun k => k = q) w w') : Fr (And_ S q) w w' := h.mono fun _ h => .inr h
theorem fr_no (S : Nat → Prop) (q : Nat) {w w' : World} (h : Fr (fun _ => False) w w') : Fr (And_ S q) w w' := h.mono fun _ h => h.elim
theorem fr_no1 (q : Nat) {w w' : World} (h : Fr (fun _ => False) w w') : Fr (fun k => k = q) w w' := h.mono fun _ h => h.elim
theorem fr_cell (w : World) (q i : Nat) (v : Value) : Fr (fun k => k = q) w (w.setCell ⟨q, i, none⟩ v) := Fr.setCell _ _ _ rfl

set_option maxHeartbeats 400000 in
theorem top_is (m : Int) (w : World) :
    Calls Try.prog 62 #[.agg #[.int .i64 0, .int .i64 m]] w fun e w' => e = .returned (.int .i64 0) ∧ Fr (fun _ => False) w w' := by
  go_enter Try.func62, Try.ntmps62
  go_wp2
  go_ret
  exact ⟨rfl, Fr.alloc _ _ _⟩

set_option maxHeartbeats 400000 in
theorem bottom_is (m : Int) (w : World) :
    Calls Try.prog 63 #[.agg #[.int .i64 0, .int .i64 m]] w fun e w' => e = .returned (.int .i64 1) ∧ Fr (fun _ => False) w w' := by
  go_enter Try.func63, Try.ntmps63
  go_wp2
  go_ret
  exact ⟨rfl, Fr.alloc _ _ _⟩

set_option maxHeartbeats 400000 in
theorem word_is (m : Int) (w : World) :
    Calls Try.prog 48 #[.agg #[.int .i64 0, .int .i64 m]] w fun e w' => e = .returned (.int .i64 2) ∧ Fr (fun _ => False) w w' := by
  go_enter Try.func48, Try.ntmps48
  go_wp2
  go_ret
  exact ⟨rfl, Fr.alloc _ _ _⟩

theorem of_word (R : Rg) (h : R.Right) (w : World) :
    Calls Try.prog 61 #[.int .i64 R.word] w fun e w' => e = .returned (.tuple #[.agg #[.int .i64 R.a, .int .i64 R.l], .int .i64 0]) ∧ Fr (fun _ => False) w w' := by
  have e := rgOf_word h
  have hw : R.word = R.a * 16 + R.l := if_pos h
  obtain ⟨h0, h8, ha, hb⟩ := id h
  have hp := pow_pos R.l
  have e1 : R.word / 16 = R.a := by omega
  have e2 : R.word % 16 = R.l := by omega
  have := of_yes R.word w (by omega) (by omega) (by rw [e]; exact h)
  rw [e1, e2] at this
  exact this

section
variable (mp : Value) (x v er m : Int) (S : Nat → Prop) (Q : World → Prop) (q : Nat) (c : Array Value) (w : World)

set_option maxHeartbeats 800000 in
theorem loadTop_any (hmp : mp = .pointer none ∨ ∃ a, mp = .pointer (some a)) (hB : Blk w q c) (h0 : c[0]? = some (.int .i64 0)) (h1 : c[1]? = some (.int .i64 m)) (hy : ∃ y, c[2]? = some y) (hS : ¬ S q) (hQ : Stays q Q)
    (hL : Does 72 #[mp, .int .i64 x, .int .i64 0] w q S (.tuple #[.int .i64 v, .int .i64 er]) Q) :
    Calls Try.prog 79 #[.pointer (some ⟨q, 0, none⟩), mp, .int .i64 x] w fun e w' => e = .returned (.int .i64 er) ∧ Blk w' q (c.setIfInBounds 2 (.int .i64 v)) ∧ Q w' ∧ Fr (And_ S q) w w' := by
  obtain ⟨y, hy⟩ := hy
  have c0 := hB.cell h0
  have c1 := hB.cell h1
  have HB := hid hB
  have HL := hid hL
  have HQ := hid hQ
  have HS := hid hS
  have HY := hid hy
  clear hB h0 h1 hy hS hQ hL
  rcases hmp with rfl | ⟨a, rfl⟩ <;>
  · go_enter Try.func79, Try.ntmps79
    go_wp2_with fail
    refine (top_is m _).mono ?_
    rintro e w1 ⟨rfl, hF1⟩
    go_wp2_with fail
    refine (HL.out _ (fr_no1 q hF1)).mono ?_
    rintro e w2 ⟨rfl, hQ2, hF2⟩
    have hB2 := (HB.out.keep hF1 id).keep hF2 HS.out
    have c2 := hB2.cell HY.out
    have f2 := hB2.frozen 2
    have HB2 := hid hB2
    have HQ2 := hid hQ2
    clear hB2 hQ2
    go_wp2_with fail
    go_ret
    exact ⟨rfl, HB2.out.set 2 _, HQ.out _ _ HQ2.out (fr_cell _ _ _ _), ((fr_no S q hF1).trans (fr_of S q hF2)).trans (fr_to S q (fr_cell _ _ _ _))⟩

set_option maxHeartbeats 800000 in
theorem loadBottom_any (hmp : mp = .pointer none ∨ ∃ a, mp = .pointer (some a)) (hB : Blk w q c) (h0 : c[0]? = some (.int .i64 0)) (h1 : c[1]? = some (.int .i64 m)) (hy : ∃ y, c[3]? = some y) (hS : ¬ S q) (hQ : Stays q Q)
    (hL : Does 72 #[mp, .int .i64 x, .int .i64 1] w q S (.tuple #[.int .i64 v, .int .i64 er]) Q) :
    Calls Try.prog 81 #[.pointer (some ⟨q, 0, none⟩), mp, .int .i64 x] w fun e w' => e = .returned (.int .i64 er) ∧ Blk w' q (c.setIfInBounds 3 (.int .i64 v)) ∧ Q w' ∧ Fr (And_ S q) w w' := by
  obtain ⟨y, hy⟩ := hy
  have c0 := hB.cell h0
  have c1 := hB.cell h1
  have HB := hid hB
  have HL := hid hL
  have HQ := hid hQ
  have HS := hid hS
  have HY := hid hy
  clear hB h0 h1 hy hS hQ hL
  rcases hmp with rfl | ⟨a, rfl⟩ <;>
  · go_enter Try.func81, Try.ntmps81
    go_wp2_with fail
    refine (bottom_is m _).mono ?_
    rintro e w1 ⟨rfl, hF1⟩
    go_wp2_with fail
    refine (HL.out _ (fr_no1 q hF1)).mono ?_
    rintro e w2 ⟨rfl, hQ2, hF2⟩
    have hB2 := (HB.out.keep hF1 id).keep hF2 HS.out
    have c2 := hB2.cell HY.out
    have f2 := hB2.frozen 3
    have HB2 := hid hB2
    have HQ2 := hid hQ2
    clear hB2 hQ2
    go_wp2_with fail
    go_ret
    exact ⟨rfl, HB2.out.set 3 _, HQ.out _ _ HQ2.out (fr_cell _ _ _ _), ((fr_no S q hF1).trans (fr_of S q hF2)).trans (fr_to S q (fr_cell _ _ _ _))⟩

set_option maxHeartbeats 800000 in
theorem loadRing_ok (R : Rg) (hR : R.Right) (hmp : mp = .pointer none ∨ ∃ a, mp = .pointer (some a)) (hB : Blk w q c) (h0 : c[0]? = some (.int .i64 0)) (h1 : c[1]? = some (.int .i64 m)) (hy : ∃ y, c[4]? = some y) (hz : ∃ y, c[5]? = some y) (hS : ¬ S q) (hQ : Stays q Q)
    (hL : Does 72 #[mp, .int .i64 x, .int .i64 2] w q S (.tuple #[.int .i64 R.word, .int .i64 0]) Q) :
    Calls Try.prog 90 #[.pointer (some ⟨q, 0, none⟩), mp, .int .i64 x] w fun e w' => e = .returned (.int .i64 0) ∧ Blk w' q ((c.setIfInBounds 4 (.int .i64 R.a)).setIfInBounds 5 (.int .i64 R.l)) ∧ Q w' ∧ Fr (And_ S q) w w' := by
  obtain ⟨y, hy⟩ := hy
  obtain ⟨z, hz⟩ := hz
  have c0 := hB.cell h0
  have c1 := hB.cell h1
  have HB := hid hB
  have HL := hid hL
  have HQ := hid hQ
  have HS := hid hS
  have HY := hid hy
  have HZ := hid hz
  have HO := hid (fun (v : World) => of_word R hR v)
  obtain ⟨wd, hwd⟩ : ∃ wd, R.word = wd := ⟨_, rfl⟩
  rw [hwd] at HL HO
  clear hB h0 h1 hy hz hS hQ hwd hL
  obtain ⟨ra, rl⟩ := R
  rcases hmp with rfl | ⟨a, rfl⟩ <;>
  · go_enter Try.func90, Try.ntmps90
    go_wp2_with fail
    refine (word_is m _).mono ?_
    rintro e w1 ⟨rfl, hF1⟩
    go_wp2_with fail
    refine (HL.out _ (fr_no1 q hF1)).mono ?_
    rintro e w2 ⟨rfl, hQ2, hF2⟩
    go_wp2_with fail
    refine (HO.out _).mono ?_
    rintro e w3 ⟨rfl, hF3⟩
    have hB2 := ((HB.out.keep hF1 id).keep hF2 HS.out).keep hF3 id
    have c2 := hB2.cell HY.out
    have f2 := hB2.frozen 4
    have c3 := hB2.cell HZ.out
    have f3 := hB2.frozen 5
    have HB2 := hid hB2
    have HQ2 := hid hQ2
    clear hB2 hQ2
    go_wp2_with fail
    go_ret
    exact ⟨rfl, (HB2.out.set 4 _).set 5 _, HQ.out _ _ HQ2.out (((fr_no1 q hF3).trans (fr_cell _ _ _ _)).trans (fr_cell _ _ _ _)), (((fr_no S q hF1).trans (fr_of S q hF2)).trans (fr_no S q hF3)).trans (fr_to S q ((fr_cell _ _ _ _).trans (fr_cell _ _ _ _)))⟩

set_option maxHeartbeats 800000 in
theorem loadRing_no (her : (er == 0) = false) (hmp : mp = .pointer none ∨ ∃ a, mp = .pointer (some a)) (hB : Blk w q c) (h0 : c[0]? = some (.int .i64 0)) (h1 : c[1]? = some (.int .i64 m)) (hS : ¬ S q)
    (hL : Does 72 #[mp, .int .i64 x, .int .i64 2] w q S (.tuple #[.int .i64 v, .int .i64 er]) Q) :
    Calls Try.prog 90 #[.pointer (some ⟨q, 0, none⟩), mp, .int .i64 x] w fun e w' => e = .returned (.int .i64 er) ∧ Blk w' q c ∧ Q w' ∧ Fr (And_ S q) w w' := by
  have c0 := hB.cell h0
  have c1 := hB.cell h1
  have HB := hid hB
  have HL := hid hL
  have HS := hid hS
  clear hB h0 h1 hS hL
  rcases hmp with rfl | ⟨a, rfl⟩ <;>
  · go_enter Try.func90, Try.ntmps90
    go_wp2_with fail
    refine (word_is m _).mono ?_
    rintro e w1 ⟨rfl, hF1⟩
    go_wp2_with fail
    refine (HL.out _ (fr_no1 q hF1)).mono ?_
    rintro e w2 ⟨rfl, hQ2, hF2⟩
    have hB2 := (HB.out.keep hF1 id).keep hF2 HS.out
    go_wp2_with fail
    go_ret
    exact ⟨rfl, hB2, hQ2, (fr_no S q hF1).trans (fr_of S q hF2)⟩
end
end Go.Proofs.Ytiofdfgcghiibaa
