/-
  The document's operations of a deque in memory: what lies there, and each step.
-/
import Derived.Test.YtiofdfgcghiibaaRefC
import Derived.Test.YtiofdfgcghiibaaStepD
import Derived.Test.YtiofdfgcghiibaaTb
import Derived.Test.YtiofdfgcghiibaaList
import Derived.Deep.RegionHeld3
import Derived.Deep.DeepCutAuto
import Derived.Deep.LoopGhost
namespace Go.Proofs.Ytiofdfgcghiibaa
open Go.RowKit
set_option linter.unusedVariables false

/-- The cells of an operation. -/
def rc16 (most : Int) (o : DOp) (cv : Value) : Array Value :=
  #[.int .i64 0, .int .i64 most, .int .i64 o.kind, .int .i64 o.x, .int .i64 o.nx, .int .i64 o.b, .int .i64 o.t, .int .i64 o.rg.a, .int .i64 o.rg.l, .int .i64 o.to.a, .int .i64 o.to.l, cv, .bool o.won, .int .i64 o.how, .int .i64 o.got, .int .i64 o.err]

def RO (w : World) (r cp : Nat) (most : Int) (o : DOp) : Prop :=
  ∃ cv, TBlk w r (rc16 most o cv) 50 ∧ (o.kind = 0 → o.nx = 5 → cv = .pointer (some ⟨cp, 0, none⟩) ∧ IsD w cp (cpOf o))

/-- The document's cells. -/
structure RC (w : World) (B c g : Nat) (L : List Int) (n cap : Nat) (size did : Int) : Prop where
  hc : TBlk w c #[.slice (some ⟨g, 0, none⟩) n cap, .int .i64 size, .int .i64 did] 32
  hg : ∃ ex, w.heap[g]? = some (.cells (ints L ++ ex) 2 (0, 0)) ∧ (ints L ++ ex).size = cap
  ln : L.length = n
  nc : n ≤ cap
  cm : cap ≤ maxLen
  hB : B ≤ g
  ne : c ≠ g

theorem RC.keep {S : Nat → Prop} {w w' : World} {B c g : Nat} {L : List Int} {n cap : Nat} {size did : Int} (h : RC w B c g L n cap size did) (F : Fr S w w') (hc : ¬ S c) (hg : ¬ S g) : RC w' B c g L n cap size did := by
  obtain ⟨ex, h1, h2⟩ := h.hg
  exact { h with hc := h.hc.keep F hc, hg := ⟨ex, by rw [F.block g (Array.getElem?_eq_some_iff.1 h1).1 hg]; exact h1, h2⟩ }

theorem RC.same {w w' : World} {B c g : Nat} {L : List Int} {n cap : Nat} {size did : Int} (h : RC w B c g L n cap size did) (F : Fr (fun _ => False) w w') : RC w' B c g L n cap size did := h.keep F id id

theorem RC.blk {w : World} {B c g : Nat} {L : List Int} {n cap : Nat} {size did : Int} (h : RC w B c g L n cap size did) : ∃ ex, Blk w g (ints L ++ ex) := by
  obtain ⟨ex, h1, h2⟩ := h.hg
  exact ⟨ex, _, h1⟩

theorem RC.cell {w : World} {B c g : Nat} {L : List Int} {n cap : Nat} {size did : Int} (h : RC w B c g L n cap size did) {k : Nat} (hk : k < n) : w.cell? ⟨g, k, none⟩ = some (.int .i64 (L.getD k 0)) := by
  obtain ⟨ex, h1⟩ := h.blk
  exact h1.cell (ints_ex _ _ _ (by rw [h.ln]; exact hk))

theorem RC.frozen {w : World} {B c g : Nat} {L : List Int} {n cap : Nat} {size did : Int} (h : RC w B c g L n cap size did) (k : Nat) : w.frozen? ⟨g, k, none⟩ = false := by
  obtain ⟨ex, h1⟩ := h.blk
  exact h1.frozen k

theorem RC.set {w : World} {B c g : Nat} {L : List Int} {n cap : Nat} {size did : Int} (h : RC w B c g L n cap size did) {k : Nat} (hk : k < n) (v : Int) : RC (w.setCell ⟨g, k, none⟩ (.int .i64 v)) B c g (L.set k v) n cap size did := by
  obtain ⟨ex, h1, h2⟩ := h.hg
  refine { h with hc := h.hc.far _ _ h.ne, hg := ⟨ex, ?_, by simpa [ints] using h2⟩, ln := by simpa using h.ln }
  rw [← ints_ex_set _ _ _ _ (by rw [h.ln]; exact hk)]
  simp [World.setCell, Array.getElem?_modify, h1]

theorem RC.didUp {w : World} {B c g : Nat} {L : List Int} {n cap : Nat} {size did : Int} (h : RC w B c g L n cap size did) (x : Int) : RC (w.setCell ⟨c, 2, none⟩ (.int .i64 x)) B c g L n cap size x := by
  obtain ⟨ex, h1, h2⟩ := h.hg
  refine { h with hc := by simpa using h.hc.set 2 (.int .i64 x), hg := ⟨ex, ?_, h2⟩ }
  rw [Below.heap_setCell _ _ _ _ h.ne.symm]
  exact h1

theorem fr_r (w : World) (r i : Nat) (v : Value) : Fr (fun k => k = r) w (w.setCell ⟨r, i, none⟩ v) := Fr.setCell _ _ _ rfl

theorem RC.rset {w : World} {B c g r : Nat} {L : List Int} {n cap : Nat} {size did : Int} (h : RC w B c g L n cap size did) (h1 : r ≠ c) (h2 : r ≠ g) (i : Nat) (v : Value) : RC (w.setCell ⟨r, i, none⟩ v) B c g L n cap size did :=
  h.keep (fr_r w r i v) (fun hh => h1 (Eq.symm hh)) (fun hh => h2 (Eq.symm hh))

/-- Which blocks a step turns. -/
def RS (r g cp k : Nat) : Prop := k = r ∨ k = g ∨ k = cp

theorem frs_r (w : World) (r g cp i : Nat) (v : Value) : Fr (RS r g cp) w (w.setCell ⟨r, i, none⟩ v) := Fr.setCell _ _ _ (.inl rfl)
theorem frs_g (w : World) (r g cp i : Nat) (v : Value) : Fr (RS r g cp) w (w.setCell ⟨g, i, none⟩ v) := Fr.setCell _ _ _ (.inr (.inl rfl))

/-- The word of a ring is told as it. -/
theorem rof_is (a l : Int) (h : Rg.Right ⟨a, l⟩) (w : World) : Calls Try.prog 66 #[.int .i64 (Rg.word ⟨a, l⟩)] w fun e w' => e = .returned (.tuple #[.agg #[.int .i64 a, .int .i64 l], .int .i64 0]) ∧ Fr (fun _ => False) w w' := by
  have e : Rg.word ⟨a, l⟩ = a * 16 + l := if_pos h
  have h' := h
  obtain ⟨h0, h8, ha, hb⟩ := h
  have := pow_pos l
  simp only at h0 h8 ha hb
  have h2 := rof_yes (a * 16 + l) w (by omega) (by omega) (by unfold rgOf; rw [show (a * 16 + l) / 16 = a by omega, show (a * 16 + l) % 16 = l by omega]; exact h')
  rw [show (a * 16 + l) / 16 = a by omega, show (a * 16 + l) % 16 = l by omega] at h2
  rw [e]
  exact h2

structure RSep (c g r cp : Nat) : Prop where
  rg : r ≠ g
  rc : r ≠ c
  pr : cp ≠ r
  pg : cp ≠ g
  pc : cp ≠ c

def RPost (B c g r cp : Nat) (most : Int) (o : DOp) (L : List Int) (n cap : Nat) (size did : Int) (w : World) (e : Ending) (w' : World) : Prop :=
  e = .returned (.tuple #[]) ∧ RO w' r cp most o ∧ RC w' B c g L n cap size did ∧ Fr (RS r g cp) w w'

set_option maxRecDepth 100000 in
set_option maxHeartbeats 1000000 in
theorem rt1 (B c g r cp n cap : Nat) (most size did : Int) (L : List Int) (x bo t ra rl ta tl pl cx got err : Int) (ld won : Bool) (w : World) (hO : RO w r cp most ⟨2, 1, x, bo, t, ⟨ra, rl⟩, ⟨ta, tl⟩, pl, cx, ld, won, 0, got, err⟩) (hC : RC w B c g L n cap size did) (hS : RSep c g r cp) (h3 : 3 ≤ n)  (v0 : Int) (hv0 : L.getD 0 0 = v0)  :
    Calls Try.prog 59 #[.pointer (some ⟨r, 0, none⟩), .pointer (some ⟨c, 0, none⟩)] w (RPost B c g r cp most ⟨2, 2, x, bo, v0, ⟨ra, rl⟩, ⟨ta, tl⟩, pl, cx, ld, won, 0, got, err⟩ (L) n cap size did w) := by
  obtain ⟨cv, hO, hV⟩ := hO
  unfold rc16 at hO
  have HO := hid hO
  have HC := hid hC
  have HS := hid hS
  have HV := hid hV
  have kd0 := hO.cell (i := 0) rfl
  have kd1 := hO.cell (i := 4) rfl
  have cs := hC.hc.cell (i := 0) rfl
  have n1 : r ≠ g := hS.rg
  have n2 : r ≠ c := hS.rc
  have n3 : c ≠ g := hC.ne
  have n4 : g ≠ r := hS.rg.symm
  have n5 : c ≠ r := hS.rc.symm
  have n6 : g ≠ c := hC.ne.symm
  have kf4 := hO.frozen 4
  have ks4 := hO.cell (i := 4) rfl
  have kf6 := hO.frozen 6
  have ks6 := hO.cell (i := 6) rfl
  have cm0 := hC.cell (k := 0) (by omega)
  rw [hv0] at cm0
  have Hv0 := hid hv0
  clear hv0
  have hb3 : (3 : Int) ≤ (n : Int) := by omega
  clear hO hC hS hV
  go_enter Try.func59, Try.ntmps59
  go_wp2_with fail
  refine bodyPost_end (v := .tuple #[]) (by simp [results, Try.results59, go_sem]) rfl ?_
  have HB9 := ((((HO.out).set 6 (.int .i64 v0))).set 4 (.int .i64 2))
  exact ⟨rfl, ⟨cv, by simpa [rc16] using HB9, fun h => by cases h⟩, ((((HC.out).rset n2 n1 6 (.int .i64 v0))).rset n2 n1 4 (.int .i64 2)), (((frs_r _ r g cp 6 (.int .i64 v0))).trans (frs_r _ r g cp 4 (.int .i64 2)))⟩
set_option maxRecDepth 100000 in
set_option maxHeartbeats 1000000 in
theorem rt2_in (B c g r cp n cap : Nat) (most size did : Int) (L : List Int) (x bo t ra rl ta tl pl cx got err : Int) (ld won : Bool) (w : World) (hO : RO w r cp most ⟨2, 2, x, bo, t, ⟨ra, rl⟩, ⟨ta, tl⟩, pl, cx, ld, won, 0, got, err⟩) (hC : RC w B c g L n cap size did) (hS : RSep c g r cp) (h3 : 3 ≤ n)  (v0 : Int) (hv0 : L.getD 1 0 = v0) (hc : t < v0) :
    Calls Try.prog 59 #[.pointer (some ⟨r, 0, none⟩), .pointer (some ⟨c, 0, none⟩)] w (RPost B c g r cp most ⟨2, 3, x, v0, t, ⟨ra, rl⟩, ⟨ta, tl⟩, pl, cx, ld, won, 0, got, err⟩ (L) n cap size did w) := by
  obtain ⟨cv, hO, hV⟩ := hO
  unfold rc16 at hO
  have HO := hid hO
  have HC := hid hC
  have HS := hid hS
  have HV := hid hV
  have kd0 := hO.cell (i := 0) rfl
  have kd1 := hO.cell (i := 4) rfl
  have cs := hC.hc.cell (i := 0) rfl
  have n1 : r ≠ g := hS.rg
  have n2 : r ≠ c := hS.rc
  have n3 : c ≠ g := hC.ne
  have n4 : g ≠ r := hS.rg.symm
  have n5 : c ≠ r := hS.rc.symm
  have n6 : g ≠ c := hC.ne.symm
  have kc6 := hO.cell (i := 6) rfl
  have kf4 := hO.frozen 4
  have ks4 := hO.cell (i := 4) rfl
  have kf5 := hO.frozen 5
  have ks5 := hO.cell (i := 5) rfl
  have cm0 := hC.cell (k := 1) (by omega)
  rw [hv0] at cm0
  have Hv0 := hid hv0
  clear hv0
  have hb3 : (3 : Int) ≤ (n : Int) := by omega
  have tc : decide (v0 ≤ t) = false := by simp; omega
  clear hc
  clear hO hC hS hV
  go_enter Try.func59, Try.ntmps59
  go_wp2_with fail
  go_region
  go_wp2_with fail
  refine bodyPost_end (v := .tuple #[]) (by simp [results, Try.results59, go_sem]) rfl ?_
  have HB9 := (((((HO.out).set 5 (.int .i64 v0))).set 4 (.int .i64 3))).drew
  exact ⟨rfl, ⟨cv, by simpa [rc16] using HB9, fun h => by cases h⟩, ((((((HC.out).rset n2 n1 5 (.int .i64 v0))).rset n2 n1 4 (.int .i64 3))).same (Fr.drew _ _)), (((((frs_r _ r g cp 5 (.int .i64 v0))).trans (frs_r _ r g cp 4 (.int .i64 3)))).trans (Fr.drew _ _))⟩
set_option maxRecDepth 100000 in
set_option maxHeartbeats 1000000 in
theorem rt2_no (B c g r cp n cap : Nat) (most size did : Int) (L : List Int) (x bo t ra rl ta tl pl cx got err : Int) (ld won : Bool) (w : World) (hO : RO w r cp most ⟨2, 2, x, bo, t, ⟨ra, rl⟩, ⟨ta, tl⟩, pl, cx, ld, won, 0, got, err⟩) (hC : RC w B c g L n cap size did) (hS : RSep c g r cp) (h3 : 3 ≤ n)  (v0 : Int) (hv0 : L.getD 1 0 = v0) (hc : ¬ t < v0) :
    Calls Try.prog 59 #[.pointer (some ⟨r, 0, none⟩), .pointer (some ⟨c, 0, none⟩)] w (RPost B c g r cp most ⟨2, 3, x, v0, t, ⟨ra, rl⟩, ⟨ta, tl⟩, pl, cx, ld, won, 3, got, err⟩ (L) n cap size did w) := by
  obtain ⟨cv, hO, hV⟩ := hO
  unfold rc16 at hO
  have HO := hid hO
  have HC := hid hC
  have HS := hid hS
  have HV := hid hV
  have kd0 := hO.cell (i := 0) rfl
  have kd1 := hO.cell (i := 4) rfl
  have cs := hC.hc.cell (i := 0) rfl
  have n1 : r ≠ g := hS.rg
  have n2 : r ≠ c := hS.rc
  have n3 : c ≠ g := hC.ne
  have n4 : g ≠ r := hS.rg.symm
  have n5 : c ≠ r := hS.rc.symm
  have n6 : g ≠ c := hC.ne.symm
  have kc6 := hO.cell (i := 6) rfl
  have kf4 := hO.frozen 4
  have ks4 := hO.cell (i := 4) rfl
  have kf5 := hO.frozen 5
  have ks5 := hO.cell (i := 5) rfl
  have kf13 := hO.frozen 13
  have ks13 := hO.cell (i := 13) rfl
  have cm0 := hC.cell (k := 1) (by omega)
  rw [hv0] at cm0
  have Hv0 := hid hv0
  clear hv0
  have hb3 : (3 : Int) ≤ (n : Int) := by omega
  have tc : decide (v0 ≤ t) = true := by simp; omega
  clear hc
  clear hO hC hS hV
  go_enter Try.func59, Try.ntmps59
  go_wp2_with fail
  go_region
  go_wp2_with fail
  refine bodyPost_end (v := .tuple #[]) (by simp [results, Try.results59, go_sem]) rfl ?_
  have HB9 := (((((((HO.out).set 5 (.int .i64 v0))).set 4 (.int .i64 3))).set 13 (.int .i64 3))).drew
  exact ⟨rfl, ⟨cv, by simpa [rc16] using HB9, fun h => by cases h⟩, ((((((((HC.out).rset n2 n1 5 (.int .i64 v0))).rset n2 n1 4 (.int .i64 3))).rset n2 n1 13 (.int .i64 3))).same (Fr.drew _ _)), (((((((frs_r _ r g cp 5 (.int .i64 v0))).trans (frs_r _ r g cp 4 (.int .i64 3)))).trans (frs_r _ r g cp 13 (.int .i64 3)))).trans (Fr.drew _ _))⟩
set_option maxRecDepth 100000 in
set_option maxHeartbeats 1000000 in
theorem rt3 (B c g r cp n cap : Nat) (most size did : Int) (L : List Int) (x bo t ra rl ta tl pl cx got err : Int) (ld won : Bool) (w : World) (hO : RO w r cp most ⟨2, 3, x, bo, t, ⟨ra, rl⟩, ⟨ta, tl⟩, pl, cx, ld, won, 0, got, err⟩) (hC : RC w B c g L n cap size did) (hS : RSep c g r cp) (h3 : 3 ≤ n)  (v0 : Int) (hv0 : L.getD 2 0 = v0) (ra2 rl2 : Int) (hR : Rg.Right ⟨ra2, rl2⟩) (hw : v0 = Rg.word ⟨ra2, rl2⟩) :
    Calls Try.prog 59 #[.pointer (some ⟨r, 0, none⟩), .pointer (some ⟨c, 0, none⟩)] w (RPost B c g r cp most ⟨2, 4, x, bo, t, ⟨ra2, rl2⟩, ⟨ta, tl⟩, pl, cx, ld, won, 0, got, err⟩ (L) n cap size did w) := by
  obtain ⟨cv, hO, hV⟩ := hO
  unfold rc16 at hO
  have HO := hid hO
  have HC := hid hC
  have HS := hid hS
  have HV := hid hV
  have kd0 := hO.cell (i := 0) rfl
  have kd1 := hO.cell (i := 4) rfl
  have cs := hC.hc.cell (i := 0) rfl
  have n1 : r ≠ g := hS.rg
  have n2 : r ≠ c := hS.rc
  have n3 : c ≠ g := hC.ne
  have n4 : g ≠ r := hS.rg.symm
  have n5 : c ≠ r := hS.rc.symm
  have n6 : g ≠ c := hC.ne.symm
  have kf4 := hO.frozen 4
  have ks4 := hO.cell (i := 4) rfl
  have kf7 := hO.frozen 7
  have ks7 := hO.cell (i := 7) rfl
  have kf8 := hO.frozen 8
  have ks8 := hO.cell (i := 8) rfl
  have cm0 := hC.cell (k := 2) (by omega)
  rw [hv0] at cm0
  have Hv0 := hid hv0
  clear hv0
  have hb3 : (3 : Int) ≤ (n : Int) := by omega
  have HOF := hid (fun (v : World) => hw ▸ rof_is ra2 rl2 hR v)
  clear hR hw
  have hb4 : (2 : Int) < (n : Int) := by omega
  clear hO hC hS hV
  go_enter Try.func59, Try.ntmps59
  go_wp2_with fail
  refine (HOF.out _).mono ?_
  rintro e w1 ⟨rfl, hF⟩
  have HO := hid (HO.out.keep hF id)
  have HC := hid (HC.out.same hF)
  have HF1 := hid (hF.mono (T := RS r g cp) fun _ h => h.elim)
  clear hF kf7 ks7 kf8 ks8 kf4 ks4
  have kf7 := HO.out.frozen 7
  have ks7 := HO.out.cell (i := 7) rfl
  have kf8 := HO.out.frozen 8
  have ks8 := HO.out.cell (i := 8) rfl
  have kf4 := HO.out.frozen 4
  have ks4 := HO.out.cell (i := 4) rfl
  go_wp2_with fail
  refine bodyPost_end (v := .tuple #[]) (by simp [results, Try.results59, go_sem]) rfl ?_
  have HB9 := ((((((HO.out).set 7 (.int .i64 ra2))).set 8 (.int .i64 rl2))).set 4 (.int .i64 4))
  exact ⟨rfl, ⟨cv, by simpa [rc16] using HB9, fun h => by cases h⟩, ((((((HC.out).rset n2 n1 7 (.int .i64 ra2))).rset n2 n1 8 (.int .i64 rl2))).rset n2 n1 4 (.int .i64 4)), ((((((HF1.out).trans (frs_r _ r g cp 7 (.int .i64 ra2)))).trans (frs_r _ r g cp 8 (.int .i64 rl2)))).trans (frs_r _ r g cp 4 (.int .i64 4)))⟩
set_option maxRecDepth 100000 in
set_option maxHeartbeats 1000000 in
theorem rt5_won (B c g r cp n cap : Nat) (most size did : Int) (L : List Int) (x bo t ra rl ta tl pl cx got err : Int) (ld won : Bool) (w : World) (hO : RO w r cp most ⟨2, 5, x, bo, t, ⟨ra, rl⟩, ⟨ta, tl⟩, pl, cx, ld, won, 2, got, err⟩) (hC : RC w B c g L n cap size did) (hS : RSep c g r cp) (h3 : 3 ≤ n)  (v0 : Int) (hv0 : L.getD 0 0 = v0) (hc : v0 = t) (ht1 : -100000 ≤ t) (ht2 : t ≤ 100000) :
    Calls Try.prog 59 #[.pointer (some ⟨r, 0, none⟩), .pointer (some ⟨c, 0, none⟩)] w (RPost B c g r cp most ⟨2, 5, x, bo, t, ⟨ra, rl⟩, ⟨ta, tl⟩, pl, cx, ld, won, 1, got, err⟩ (L.set 0 (t + 1)) n cap size did w) := by
  obtain ⟨cv, hO, hV⟩ := hO
  unfold rc16 at hO
  have HO := hid hO
  have HC := hid hC
  have HS := hid hS
  have HV := hid hV
  have kd0 := hO.cell (i := 0) rfl
  have kd1 := hO.cell (i := 4) rfl
  have cs := hC.hc.cell (i := 0) rfl
  have n1 : r ≠ g := hS.rg
  have n2 : r ≠ c := hS.rc
  have n3 : c ≠ g := hC.ne
  have n4 : g ≠ r := hS.rg.symm
  have n5 : c ≠ r := hS.rc.symm
  have n6 : g ≠ c := hC.ne.symm
  have kc6 := hO.cell (i := 6) rfl
  have kf13 := hO.frozen 13
  have ks13 := hO.cell (i := 13) rfl
  have cm0 := hC.cell (k := 0) (by omega)
  rw [hv0] at cm0
  have Hv0 := hid hv0
  clear hv0
  have hb3 : (3 : Int) ≤ (n : Int) := by omega
  have rf := hC.frozen (0)
  have rcell := hC.cell (k := 0) (by omega)
  have tc : (v0 == t) = true := by simp [hc]
  clear hc
  clear rcell
  clear hO hC hS hV
  go_enter Try.func59, Try.ntmps59
  go_wp2_with fail
  go_region
  go_wp2_with fail
  go_region
  go_wp2_with fail
  refine bodyPost_end (v := .tuple #[]) (by simp [results, Try.results59, go_sem]) rfl ?_
  have HB9 := ((((((HO.out).far (0) (.int .i64 (t + 1)) n1)).set 13 (.int .i64 1))).drew).drew
  exact ⟨rfl, ⟨cv, by simpa [rc16] using HB9, fun h => by cases h⟩, ((((((((HC.out).set (k := 0) (by omega) (t + 1))).rset n2 n1 13 (.int .i64 1))).same (Fr.drew _ _))).same (Fr.drew _ _)), (((((((frs_g _ r g cp (0) (.int .i64 (t + 1)))).trans (frs_r _ r g cp 13 (.int .i64 1)))).trans (Fr.drew _ _))).trans (Fr.drew _ _))⟩
set_option maxRecDepth 100000 in
set_option maxHeartbeats 1000000 in
theorem rt5_not (B c g r cp n cap : Nat) (most size did : Int) (L : List Int) (x bo t ra rl ta tl pl cx got err : Int) (ld won : Bool) (w : World) (hO : RO w r cp most ⟨2, 5, x, bo, t, ⟨ra, rl⟩, ⟨ta, tl⟩, pl, cx, ld, won, 2, got, err⟩) (hC : RC w B c g L n cap size did) (hS : RSep c g r cp) (h3 : 3 ≤ n)  (v0 : Int) (hv0 : L.getD 0 0 = v0) (hc : v0 ≠ t) :
    Calls Try.prog 59 #[.pointer (some ⟨r, 0, none⟩), .pointer (some ⟨c, 0, none⟩)] w (RPost B c g r cp most ⟨2, 5, x, bo, t, ⟨ra, rl⟩, ⟨ta, tl⟩, pl, cx, ld, won, 5, 0, err⟩ (L) n cap size did w) := by
  obtain ⟨cv, hO, hV⟩ := hO
  unfold rc16 at hO
  have HO := hid hO
  have HC := hid hC
  have HS := hid hS
  have HV := hid hV
  have kd0 := hO.cell (i := 0) rfl
  have kd1 := hO.cell (i := 4) rfl
  have cs := hC.hc.cell (i := 0) rfl
  have n1 : r ≠ g := hS.rg
  have n2 : r ≠ c := hS.rc
  have n3 : c ≠ g := hC.ne
  have n4 : g ≠ r := hS.rg.symm
  have n5 : c ≠ r := hS.rc.symm
  have n6 : g ≠ c := hC.ne.symm
  have kc6 := hO.cell (i := 6) rfl
  have kf13 := hO.frozen 13
  have ks13 := hO.cell (i := 13) rfl
  have kf14 := hO.frozen 14
  have ks14 := hO.cell (i := 14) rfl
  have cm0 := hC.cell (k := 0) (by omega)
  rw [hv0] at cm0
  have Hv0 := hid hv0
  clear hv0
  have hb3 : (3 : Int) ≤ (n : Int) := by omega
  have tc : (v0 == t) = false := by simpa using hc
  clear hc
  clear hO hC hS hV
  go_enter Try.func59, Try.ntmps59
  go_wp2_with fail
  go_region
  go_wp2_with fail
  refine bodyPost_end (v := .tuple #[]) (by simp [results, Try.results59, go_sem]) rfl ?_
  have HB9 := (((((HO.out).set 13 (.int .i64 5))).set 14 (.int .i64 0))).drew
  exact ⟨rfl, ⟨cv, by simpa [rc16] using HB9, fun h => by cases h⟩, ((((((HC.out).rset n2 n1 13 (.int .i64 5))).rset n2 n1 14 (.int .i64 0))).same (Fr.drew _ _)), (((((frs_r _ r g cp 13 (.int .i64 5))).trans (frs_r _ r g cp 14 (.int .i64 0)))).trans (Fr.drew _ _))⟩
set_option maxRecDepth 100000 in
set_option maxHeartbeats 1000000 in
theorem ro1 (B c g r cp n cap : Nat) (most size did : Int) (L : List Int) (x bo t ra rl ta tl pl cx got err : Int) (ld won : Bool) (w : World) (hO : RO w r cp most ⟨1, 1, x, bo, t, ⟨ra, rl⟩, ⟨ta, tl⟩, pl, cx, ld, won, 0, got, err⟩) (hC : RC w B c g L n cap size did) (hS : RSep c g r cp) (h3 : 3 ≤ n)  (v0 : Int) (hv0 : L.getD 1 0 = v0)  :
    Calls Try.prog 58 #[.pointer (some ⟨r, 0, none⟩), .pointer (some ⟨c, 0, none⟩)] w (RPost B c g r cp most ⟨1, 2, x, v0, t, ⟨ra, rl⟩, ⟨ta, tl⟩, pl, cx, ld, won, 0, got, err⟩ (L) n cap size did w) := by
  obtain ⟨cv, hO, hV⟩ := hO
  unfold rc16 at hO
  have HO := hid hO
  have HC := hid hC
  have HS := hid hS
  have HV := hid hV
  have kd0 := hO.cell (i := 0) rfl
  have kd1 := hO.cell (i := 4) rfl
  have cs := hC.hc.cell (i := 0) rfl
  have n1 : r ≠ g := hS.rg
  have n2 : r ≠ c := hS.rc
  have n3 : c ≠ g := hC.ne
  have n4 : g ≠ r := hS.rg.symm
  have n5 : c ≠ r := hS.rc.symm
  have n6 : g ≠ c := hC.ne.symm
  have kf4 := hO.frozen 4
  have ks4 := hO.cell (i := 4) rfl
  have kf5 := hO.frozen 5
  have ks5 := hO.cell (i := 5) rfl
  have cm0 := hC.cell (k := 1) (by omega)
  rw [hv0] at cm0
  have Hv0 := hid hv0
  clear hv0
  have hb3 : (3 : Int) ≤ (n : Int) := by omega
  clear hO hC hS hV
  go_enter Try.func58, Try.ntmps58
  go_wp2_with fail
  refine bodyPost_end (v := .tuple #[]) (by simp [results, Try.results58, go_sem]) rfl ?_
  have HB9 := ((((HO.out).set 5 (.int .i64 v0))).set 4 (.int .i64 2))
  exact ⟨rfl, ⟨cv, by simpa [rc16] using HB9, fun h => by cases h⟩, ((((HC.out).rset n2 n1 5 (.int .i64 v0))).rset n2 n1 4 (.int .i64 2)), (((frs_r _ r g cp 5 (.int .i64 v0))).trans (frs_r _ r g cp 4 (.int .i64 2)))⟩
set_option maxRecDepth 100000 in
set_option maxHeartbeats 1000000 in
theorem ro2 (B c g r cp n cap : Nat) (most size did : Int) (L : List Int) (x bo t ra rl ta tl pl cx got err : Int) (ld won : Bool) (w : World) (hO : RO w r cp most ⟨1, 2, x, bo, t, ⟨ra, rl⟩, ⟨ta, tl⟩, pl, cx, ld, won, 0, got, err⟩) (hC : RC w B c g L n cap size did) (hS : RSep c g r cp) (h3 : 3 ≤ n)  (v0 : Int) (hv0 : L.getD 2 0 = v0) (ra2 rl2 : Int) (hR : Rg.Right ⟨ra2, rl2⟩) (hw : v0 = Rg.word ⟨ra2, rl2⟩) :
    Calls Try.prog 58 #[.pointer (some ⟨r, 0, none⟩), .pointer (some ⟨c, 0, none⟩)] w (RPost B c g r cp most ⟨1, 3, x, bo, t, ⟨ra2, rl2⟩, ⟨ta, tl⟩, pl, cx, ld, won, 0, got, err⟩ (L) n cap size did w) := by
  obtain ⟨cv, hO, hV⟩ := hO
  unfold rc16 at hO
  have HO := hid hO
  have HC := hid hC
  have HS := hid hS
  have HV := hid hV
  have kd0 := hO.cell (i := 0) rfl
  have kd1 := hO.cell (i := 4) rfl
  have cs := hC.hc.cell (i := 0) rfl
  have n1 : r ≠ g := hS.rg
  have n2 : r ≠ c := hS.rc
  have n3 : c ≠ g := hC.ne
  have n4 : g ≠ r := hS.rg.symm
  have n5 : c ≠ r := hS.rc.symm
  have n6 : g ≠ c := hC.ne.symm
  have kf4 := hO.frozen 4
  have ks4 := hO.cell (i := 4) rfl
  have kf7 := hO.frozen 7
  have ks7 := hO.cell (i := 7) rfl
  have kf8 := hO.frozen 8
  have ks8 := hO.cell (i := 8) rfl
  have cm0 := hC.cell (k := 2) (by omega)
  rw [hv0] at cm0
  have Hv0 := hid hv0
  clear hv0
  have hb3 : (3 : Int) ≤ (n : Int) := by omega
  have HOF := hid (fun (v : World) => hw ▸ rof_is ra2 rl2 hR v)
  clear hR hw
  have hb4 : (2 : Int) < (n : Int) := by omega
  clear hO hC hS hV
  go_enter Try.func58, Try.ntmps58
  go_wp2_with fail
  refine (HOF.out _).mono ?_
  rintro e w1 ⟨rfl, hF⟩
  have HO := hid (HO.out.keep hF id)
  have HC := hid (HC.out.same hF)
  have HF1 := hid (hF.mono (T := RS r g cp) fun _ h => h.elim)
  clear hF kf7 ks7 kf8 ks8 kf4 ks4
  have kf7 := HO.out.frozen 7
  have ks7 := HO.out.cell (i := 7) rfl
  have kf8 := HO.out.frozen 8
  have ks8 := HO.out.cell (i := 8) rfl
  have kf4 := HO.out.frozen 4
  have ks4 := HO.out.cell (i := 4) rfl
  go_wp2_with fail
  refine bodyPost_end (v := .tuple #[]) (by simp [results, Try.results58, go_sem]) rfl ?_
  have HB9 := ((((((HO.out).set 7 (.int .i64 ra2))).set 8 (.int .i64 rl2))).set 4 (.int .i64 3))
  exact ⟨rfl, ⟨cv, by simpa [rc16] using HB9, fun h => by cases h⟩, ((((((HC.out).rset n2 n1 7 (.int .i64 ra2))).rset n2 n1 8 (.int .i64 rl2))).rset n2 n1 4 (.int .i64 3)), ((((((HF1.out).trans (frs_r _ r g cp 7 (.int .i64 ra2)))).trans (frs_r _ r g cp 8 (.int .i64 rl2)))).trans (frs_r _ r g cp 4 (.int .i64 3)))⟩
set_option maxRecDepth 100000 in
set_option maxHeartbeats 1000000 in
theorem ro3 (B c g r cp n cap : Nat) (most size did : Int) (L : List Int) (x bo t ra rl ta tl pl cx got err : Int) (ld won : Bool) (w : World) (hO : RO w r cp most ⟨1, 3, x, bo, t, ⟨ra, rl⟩, ⟨ta, tl⟩, pl, cx, ld, won, 0, got, err⟩) (hC : RC w B c g L n cap size did) (hS : RSep c g r cp) (h3 : 3 ≤ n)  (hb1 : -100000 ≤ bo) (hb2 : bo ≤ 100000) (ht1 : -100000 ≤ t) (ht2 : t ≤ 100000) :
    Calls Try.prog 58 #[.pointer (some ⟨r, 0, none⟩), .pointer (some ⟨c, 0, none⟩)] w (RPost B c g r cp most ⟨1, 4, x, bo, t, ⟨ra, rl⟩, ⟨ta, tl⟩, pl, cx, ld, won, 0, got, err⟩ (L.set 1 (bo - 1)) n cap size did w) := by
  obtain ⟨cv, hO, hV⟩ := hO
  unfold rc16 at hO
  have HO := hid hO
  have HC := hid hC
  have HS := hid hS
  have HV := hid hV
  have kd0 := hO.cell (i := 0) rfl
  have kd1 := hO.cell (i := 4) rfl
  have cs := hC.hc.cell (i := 0) rfl
  have n1 : r ≠ g := hS.rg
  have n2 : r ≠ c := hS.rc
  have n3 : c ≠ g := hC.ne
  have n4 : g ≠ r := hS.rg.symm
  have n5 : c ≠ r := hS.rc.symm
  have n6 : g ≠ c := hC.ne.symm
  have kc5 := hO.cell (i := 5) rfl
  have kf4 := hO.frozen 4
  have ks4 := hO.cell (i := 4) rfl
  have hb3 : (3 : Int) ≤ (n : Int) := by omega
  have rf := hC.frozen (1)
  have rcell := hC.cell (k := 1) (by omega)
  clear hO hC hS hV
  go_enter Try.func58, Try.ntmps58
  go_wp2_with fail
  go_region
  go_wp2_with fail
  refine bodyPost_end (v := .tuple #[]) (by simp [results, Try.results58, go_sem]) rfl ?_
  have HB9 := (((((HO.out).far (1) (.int .i64 (bo - 1)) n1)).set 4 (.int .i64 4))).drew
  exact ⟨rfl, ⟨cv, by simpa [rc16] using HB9, fun h => by cases h⟩, ((((((HC.out).set (k := 1) (by omega) (bo - 1))).rset n2 n1 4 (.int .i64 4))).same (Fr.drew _ _)), (((((frs_g _ r g cp (1) (.int .i64 (bo - 1)))).trans (frs_r _ r g cp 4 (.int .i64 4)))).trans (Fr.drew _ _))⟩
set_option maxRecDepth 100000 in
set_option maxHeartbeats 1000000 in
theorem ro4_hi (B c g r cp n cap : Nat) (most size did : Int) (L : List Int) (x bo t ra rl ta tl pl cx got err : Int) (ld won : Bool) (w : World) (hO : RO w r cp most ⟨1, 4, x, bo, t, ⟨ra, rl⟩, ⟨ta, tl⟩, pl, cx, ld, won, 0, got, err⟩) (hC : RC w B c g L n cap size did) (hS : RSep c g r cp) (h3 : 3 ≤ n)  (v0 : Int) (hv0 : L.getD 0 0 = v0) (hc : bo - 1 < v0) (hb1 : -100000 ≤ bo) (hb2 : bo ≤ 100000) :
    Calls Try.prog 58 #[.pointer (some ⟨r, 0, none⟩), .pointer (some ⟨c, 0, none⟩)] w (RPost B c g r cp most ⟨1, 5, x, bo, v0, ⟨ra, rl⟩, ⟨ta, tl⟩, pl, cx, ld, won, 0, got, err⟩ (L) n cap size did w) := by
  obtain ⟨cv, hO, hV⟩ := hO
  unfold rc16 at hO
  have HO := hid hO
  have HC := hid hC
  have HS := hid hS
  have HV := hid hV
  have kd0 := hO.cell (i := 0) rfl
  have kd1 := hO.cell (i := 4) rfl
  have cs := hC.hc.cell (i := 0) rfl
  have n1 : r ≠ g := hS.rg
  have n2 : r ≠ c := hS.rc
  have n3 : c ≠ g := hC.ne
  have n4 : g ≠ r := hS.rg.symm
  have n5 : c ≠ r := hS.rc.symm
  have n6 : g ≠ c := hC.ne.symm
  have kc5 := hO.cell (i := 5) rfl
  have kf4 := hO.frozen 4
  have ks4 := hO.cell (i := 4) rfl
  have kf6 := hO.frozen 6
  have ks6 := hO.cell (i := 6) rfl
  have cm0 := hC.cell (k := 0) (by omega)
  rw [hv0] at cm0
  have Hv0 := hid hv0
  clear hv0
  have hb3 : (3 : Int) ≤ (n : Int) := by omega
  have tc : decide (bo - 1 < v0) = true := by simp; omega
  clear hc
  clear hO hC hS hV
  go_enter Try.func58, Try.ntmps58
  go_wp2_with fail
  go_region
  go_wp2_with fail
  refine bodyPost_end (v := .tuple #[]) (by simp [results, Try.results58, go_sem]) rfl ?_
  have HB9 := (((((((HO.out).set 6 (.int .i64 v0))).set 4 (.int .i64 6))).set 4 (.int .i64 5))).drew
  exact ⟨rfl, ⟨cv, by simpa [rc16] using HB9, fun h => by cases h⟩, ((((((((HC.out).rset n2 n1 6 (.int .i64 v0))).rset n2 n1 4 (.int .i64 6))).rset n2 n1 4 (.int .i64 5))).same (Fr.drew _ _)), (((((((frs_r _ r g cp 6 (.int .i64 v0))).trans (frs_r _ r g cp 4 (.int .i64 6)))).trans (frs_r _ r g cp 4 (.int .i64 5)))).trans (Fr.drew _ _))⟩
set_option maxRecDepth 100000 in
set_option maxHeartbeats 1000000 in
theorem ro4_lo (B c g r cp n cap : Nat) (most size did : Int) (L : List Int) (x bo t ra rl ta tl pl cx got err : Int) (ld won : Bool) (w : World) (hO : RO w r cp most ⟨1, 4, x, bo, t, ⟨ra, rl⟩, ⟨ta, tl⟩, pl, cx, ld, won, 0, got, err⟩) (hC : RC w B c g L n cap size did) (hS : RSep c g r cp) (h3 : 3 ≤ n)  (v0 : Int) (hv0 : L.getD 0 0 = v0) (hc : ¬ bo - 1 < v0) (hb1 : -100000 ≤ bo) (hb2 : bo ≤ 100000) :
    Calls Try.prog 58 #[.pointer (some ⟨r, 0, none⟩), .pointer (some ⟨c, 0, none⟩)] w (RPost B c g r cp most ⟨1, 6, x, bo, v0, ⟨ra, rl⟩, ⟨ta, tl⟩, pl, cx, ld, won, 0, got, err⟩ (L) n cap size did w) := by
  obtain ⟨cv, hO, hV⟩ := hO
  unfold rc16 at hO
  have HO := hid hO
  have HC := hid hC
  have HS := hid hS
  have HV := hid hV
  have kd0 := hO.cell (i := 0) rfl
  have kd1 := hO.cell (i := 4) rfl
  have cs := hC.hc.cell (i := 0) rfl
  have n1 : r ≠ g := hS.rg
  have n2 : r ≠ c := hS.rc
  have n3 : c ≠ g := hC.ne
  have n4 : g ≠ r := hS.rg.symm
  have n5 : c ≠ r := hS.rc.symm
  have n6 : g ≠ c := hC.ne.symm
  have kc5 := hO.cell (i := 5) rfl
  have kf4 := hO.frozen 4
  have ks4 := hO.cell (i := 4) rfl
  have kf6 := hO.frozen 6
  have ks6 := hO.cell (i := 6) rfl
  have cm0 := hC.cell (k := 0) (by omega)
  rw [hv0] at cm0
  have Hv0 := hid hv0
  clear hv0
  have hb3 : (3 : Int) ≤ (n : Int) := by omega
  have tc : decide (bo - 1 < v0) = false := by simp; omega
  clear hc
  clear hO hC hS hV
  go_enter Try.func58, Try.ntmps58
  go_wp2_with fail
  go_region
  go_wp2_with fail
  refine bodyPost_end (v := .tuple #[]) (by simp [results, Try.results58, go_sem]) rfl ?_
  have HB9 := (((((HO.out).set 6 (.int .i64 v0))).set 4 (.int .i64 6))).drew
  exact ⟨rfl, ⟨cv, by simpa [rc16] using HB9, fun h => by cases h⟩, ((((((HC.out).rset n2 n1 6 (.int .i64 v0))).rset n2 n1 4 (.int .i64 6))).same (Fr.drew _ _)), (((((frs_r _ r g cp 6 (.int .i64 v0))).trans (frs_r _ r g cp 4 (.int .i64 6)))).trans (Fr.drew _ _))⟩
set_option maxRecDepth 100000 in
set_option maxHeartbeats 1000000 in
theorem ro5 (B c g r cp n cap : Nat) (most size did : Int) (L : List Int) (x bo t ra rl ta tl pl cx got err : Int) (ld won : Bool) (w : World) (hO : RO w r cp most ⟨1, 5, x, bo, t, ⟨ra, rl⟩, ⟨ta, tl⟩, pl, cx, ld, won, 0, got, err⟩) (hC : RC w B c g L n cap size did) (hS : RSep c g r cp) (h3 : 3 ≤ n)   :
    Calls Try.prog 58 #[.pointer (some ⟨r, 0, none⟩), .pointer (some ⟨c, 0, none⟩)] w (RPost B c g r cp most ⟨1, 5, x, bo, t, ⟨ra, rl⟩, ⟨ta, tl⟩, pl, cx, ld, won, 3, got, err⟩ (L.set 1 bo) n cap size did w) := by
  obtain ⟨cv, hO, hV⟩ := hO
  unfold rc16 at hO
  have HO := hid hO
  have HC := hid hC
  have HS := hid hS
  have HV := hid hV
  have kd0 := hO.cell (i := 0) rfl
  have kd1 := hO.cell (i := 4) rfl
  have cs := hC.hc.cell (i := 0) rfl
  have n1 : r ≠ g := hS.rg
  have n2 : r ≠ c := hS.rc
  have n3 : c ≠ g := hC.ne
  have n4 : g ≠ r := hS.rg.symm
  have n5 : c ≠ r := hS.rc.symm
  have n6 : g ≠ c := hC.ne.symm
  have kc5 := hO.cell (i := 5) rfl
  have kf13 := hO.frozen 13
  have ks13 := hO.cell (i := 13) rfl
  have hb3 : (3 : Int) ≤ (n : Int) := by omega
  have rf := hC.frozen (1)
  have rcell := hC.cell (k := 1) (by omega)
  clear hO hC hS hV
  go_enter Try.func58, Try.ntmps58
  go_wp2_with fail
  go_region
  go_wp2_with fail
  refine bodyPost_end (v := .tuple #[]) (by simp [results, Try.results58, go_sem]) rfl ?_
  have HB9 := (((((HO.out).far (1) (.int .i64 (bo)) n1)).set 13 (.int .i64 3))).drew
  exact ⟨rfl, ⟨cv, by simpa [rc16] using HB9, fun h => by cases h⟩, ((((((HC.out).set (k := 1) (by omega) (bo))).rset n2 n1 13 (.int .i64 3))).same (Fr.drew _ _)), (((((frs_g _ r g cp (1) (.int .i64 (bo)))).trans (frs_r _ r g cp 13 (.int .i64 3)))).trans (Fr.drew _ _))⟩
set_option maxRecDepth 100000 in
set_option maxHeartbeats 1000000 in
theorem ro7_won (B c g r cp n cap : Nat) (most size did : Int) (L : List Int) (x bo t ra rl ta tl pl cx got err : Int) (ld won : Bool) (w : World) (hO : RO w r cp most ⟨1, 7, x, bo, t, ⟨ra, rl⟩, ⟨ta, tl⟩, pl, cx, ld, won, 0, got, err⟩) (hC : RC w B c g L n cap size did) (hS : RSep c g r cp) (h3 : 3 ≤ n)  (v0 : Int) (hv0 : L.getD 0 0 = v0) (hc : v0 = t) (ht1 : -100000 ≤ t) (ht2 : t ≤ 100000) :
    Calls Try.prog 58 #[.pointer (some ⟨r, 0, none⟩), .pointer (some ⟨c, 0, none⟩)] w (RPost B c g r cp most ⟨1, 8, x, bo, t, ⟨ra, rl⟩, ⟨ta, tl⟩, pl, cx, ld, true, 0, got, err⟩ (L.set 0 (t + 1)) n cap size did w) := by
  obtain ⟨cv, hO, hV⟩ := hO
  unfold rc16 at hO
  have HO := hid hO
  have HC := hid hC
  have HS := hid hS
  have HV := hid hV
  have kd0 := hO.cell (i := 0) rfl
  have kd1 := hO.cell (i := 4) rfl
  have cs := hC.hc.cell (i := 0) rfl
  have n1 : r ≠ g := hS.rg
  have n2 : r ≠ c := hS.rc
  have n3 : c ≠ g := hC.ne
  have n4 : g ≠ r := hS.rg.symm
  have n5 : c ≠ r := hS.rc.symm
  have n6 : g ≠ c := hC.ne.symm
  have kc6 := hO.cell (i := 6) rfl
  have kf4 := hO.frozen 4
  have ks4 := hO.cell (i := 4) rfl
  have kf12 := hO.frozen 12
  have ks12 := hO.cell (i := 12) rfl
  have cm0 := hC.cell (k := 0) (by omega)
  rw [hv0] at cm0
  have Hv0 := hid hv0
  clear hv0
  have hb3 : (3 : Int) ≤ (n : Int) := by omega
  have rf := hC.frozen (0)
  have rcell := hC.cell (k := 0) (by omega)
  have tc : (v0 == t) = true := by simp [hc]
  clear hc
  clear rcell
  clear hO hC hS hV
  go_enter Try.func58, Try.ntmps58
  go_wp2_with fail
  go_region
  go_wp2_with fail
  go_region
  go_wp2_with fail
  refine bodyPost_end (v := .tuple #[]) (by simp [results, Try.results58, go_sem]) rfl ?_
  have HB9 := ((((((((HO.out).far (0) (.int .i64 (t + 1)) n1)).set 12 (.bool true))).set 4 (.int .i64 8))).drew).drew
  exact ⟨rfl, ⟨cv, by simpa [rc16] using HB9, fun h => by cases h⟩, ((((((((((HC.out).set (k := 0) (by omega) (t + 1))).rset n2 n1 12 (.bool true))).rset n2 n1 4 (.int .i64 8))).same (Fr.drew _ _))).same (Fr.drew _ _)), (((((((((frs_g _ r g cp (0) (.int .i64 (t + 1)))).trans (frs_r _ r g cp 12 (.bool true)))).trans (frs_r _ r g cp 4 (.int .i64 8)))).trans (Fr.drew _ _))).trans (Fr.drew _ _))⟩
set_option maxRecDepth 100000 in
set_option maxHeartbeats 1000000 in
theorem ro7_not (B c g r cp n cap : Nat) (most size did : Int) (L : List Int) (x bo t ra rl ta tl pl cx got err : Int) (ld won : Bool) (w : World) (hO : RO w r cp most ⟨1, 7, x, bo, t, ⟨ra, rl⟩, ⟨ta, tl⟩, pl, cx, ld, won, 0, got, err⟩) (hC : RC w B c g L n cap size did) (hS : RSep c g r cp) (h3 : 3 ≤ n)  (v0 : Int) (hv0 : L.getD 0 0 = v0) (hc : v0 ≠ t) :
    Calls Try.prog 58 #[.pointer (some ⟨r, 0, none⟩), .pointer (some ⟨c, 0, none⟩)] w (RPost B c g r cp most ⟨1, 8, x, bo, t, ⟨ra, rl⟩, ⟨ta, tl⟩, pl, cx, ld, won, 0, got, err⟩ (L) n cap size did w) := by
  obtain ⟨cv, hO, hV⟩ := hO
  unfold rc16 at hO
  have HO := hid hO
  have HC := hid hC
  have HS := hid hS
  have HV := hid hV
  have kd0 := hO.cell (i := 0) rfl
  have kd1 := hO.cell (i := 4) rfl
  have cs := hC.hc.cell (i := 0) rfl
  have n1 : r ≠ g := hS.rg
  have n2 : r ≠ c := hS.rc
  have n3 : c ≠ g := hC.ne
  have n4 : g ≠ r := hS.rg.symm
  have n5 : c ≠ r := hS.rc.symm
  have n6 : g ≠ c := hC.ne.symm
  have kc6 := hO.cell (i := 6) rfl
  have kf4 := hO.frozen 4
  have ks4 := hO.cell (i := 4) rfl
  have cm0 := hC.cell (k := 0) (by omega)
  rw [hv0] at cm0
  have Hv0 := hid hv0
  clear hv0
  have hb3 : (3 : Int) ≤ (n : Int) := by omega
  have tc : (v0 == t) = false := by simpa using hc
  clear hc
  clear hO hC hS hV
  go_enter Try.func58, Try.ntmps58
  go_wp2_with fail
  go_region
  go_wp2_with fail
  refine bodyPost_end (v := .tuple #[]) (by simp [results, Try.results58, go_sem]) rfl ?_
  have HB9 := (((HO.out).set 4 (.int .i64 8))).drew
  exact ⟨rfl, ⟨cv, by simpa [rc16] using HB9, fun h => by cases h⟩, ((((HC.out).rset n2 n1 4 (.int .i64 8))).same (Fr.drew _ _)), (((frs_r _ r g cp 4 (.int .i64 8))).trans (Fr.drew _ _))⟩
set_option maxRecDepth 100000 in
set_option maxHeartbeats 1000000 in
theorem ro8_won (B c g r cp n cap : Nat) (most size did : Int) (L : List Int) (x bo t ra rl ta tl pl cx got err : Int) (ld won : Bool) (w : World) (hO : RO w r cp most ⟨1, 8, x, bo, t, ⟨ra, rl⟩, ⟨ta, tl⟩, pl, cx, ld, true, 0, got, err⟩) (hC : RC w B c g L n cap size did) (hS : RSep c g r cp) (h3 : 3 ≤ n)   :
    Calls Try.prog 58 #[.pointer (some ⟨r, 0, none⟩), .pointer (some ⟨c, 0, none⟩)] w (RPost B c g r cp most ⟨1, 8, x, bo, t, ⟨ra, rl⟩, ⟨ta, tl⟩, pl, cx, ld, true, 1, x, err⟩ (L.set 1 bo) n cap size did w) := by
  obtain ⟨cv, hO, hV⟩ := hO
  unfold rc16 at hO
  have HO := hid hO
  have HC := hid hC
  have HS := hid hS
  have HV := hid hV
  have kd0 := hO.cell (i := 0) rfl
  have kd1 := hO.cell (i := 4) rfl
  have cs := hC.hc.cell (i := 0) rfl
  have n1 : r ≠ g := hS.rg
  have n2 : r ≠ c := hS.rc
  have n3 : c ≠ g := hC.ne
  have n4 : g ≠ r := hS.rg.symm
  have n5 : c ≠ r := hS.rc.symm
  have n6 : g ≠ c := hC.ne.symm
  have kc5 := hO.cell (i := 5) rfl
  have kc12 := hO.cell (i := 12) rfl
  have kc3 := hO.cell (i := 3) rfl
  have kf13 := hO.frozen 13
  have ks13 := hO.cell (i := 13) rfl
  have kf14 := hO.frozen 14
  have ks14 := hO.cell (i := 14) rfl
  have hb3 : (3 : Int) ≤ (n : Int) := by omega
  have rf := hC.frozen (1)
  have rcell := hC.cell (k := 1) (by omega)
  clear hO hC hS hV
  go_enter Try.func58, Try.ntmps58
  go_wp2_with fail
  go_region
  go_wp2_with fail
  refine bodyPost_end (v := .tuple #[]) (by simp [results, Try.results58, go_sem]) rfl ?_
  have HB9 := (((((((((HO.out).far (1) (.int .i64 (bo)) n1)).set 13 (.int .i64 3))).set 13 (.int .i64 1))).set 14 (.int .i64 x))).drew
  exact ⟨rfl, ⟨cv, by simpa [rc16] using HB9, fun h => by cases h⟩, ((((((((((HC.out).set (k := 1) (by omega) (bo))).rset n2 n1 13 (.int .i64 3))).rset n2 n1 13 (.int .i64 1))).rset n2 n1 14 (.int .i64 x))).same (Fr.drew _ _)), (((((((((frs_g _ r g cp (1) (.int .i64 (bo)))).trans (frs_r _ r g cp 13 (.int .i64 3)))).trans (frs_r _ r g cp 13 (.int .i64 1)))).trans (frs_r _ r g cp 14 (.int .i64 x)))).trans (Fr.drew _ _))⟩
set_option maxRecDepth 100000 in
set_option maxHeartbeats 1000000 in
theorem ro8_not (B c g r cp n cap : Nat) (most size did : Int) (L : List Int) (x bo t ra rl ta tl pl cx got err : Int) (ld won : Bool) (w : World) (hO : RO w r cp most ⟨1, 8, x, bo, t, ⟨ra, rl⟩, ⟨ta, tl⟩, pl, cx, ld, false, 0, got, err⟩) (hC : RC w B c g L n cap size did) (hS : RSep c g r cp) (h3 : 3 ≤ n)   :
    Calls Try.prog 58 #[.pointer (some ⟨r, 0, none⟩), .pointer (some ⟨c, 0, none⟩)] w (RPost B c g r cp most ⟨1, 8, x, bo, t, ⟨ra, rl⟩, ⟨ta, tl⟩, pl, cx, ld, false, 3, got, err⟩ (L.set 1 bo) n cap size did w) := by
  obtain ⟨cv, hO, hV⟩ := hO
  unfold rc16 at hO
  have HO := hid hO
  have HC := hid hC
  have HS := hid hS
  have HV := hid hV
  have kd0 := hO.cell (i := 0) rfl
  have kd1 := hO.cell (i := 4) rfl
  have cs := hC.hc.cell (i := 0) rfl
  have n1 : r ≠ g := hS.rg
  have n2 : r ≠ c := hS.rc
  have n3 : c ≠ g := hC.ne
  have n4 : g ≠ r := hS.rg.symm
  have n5 : c ≠ r := hS.rc.symm
  have n6 : g ≠ c := hC.ne.symm
  have kc5 := hO.cell (i := 5) rfl
  have kc12 := hO.cell (i := 12) rfl
  have kf13 := hO.frozen 13
  have ks13 := hO.cell (i := 13) rfl
  have hb3 : (3 : Int) ≤ (n : Int) := by omega
  have rf := hC.frozen (1)
  have rcell := hC.cell (k := 1) (by omega)
  clear hO hC hS hV
  go_enter Try.func58, Try.ntmps58
  go_wp2_with fail
  go_region
  go_wp2_with fail
  refine bodyPost_end (v := .tuple #[]) (by simp [results, Try.results58, go_sem]) rfl ?_
  have HB9 := (((((HO.out).far (1) (.int .i64 (bo)) n1)).set 13 (.int .i64 3))).drew
  exact ⟨rfl, ⟨cv, by simpa [rc16] using HB9, fun h => by cases h⟩, ((((((HC.out).set (k := 1) (by omega) (bo))).rset n2 n1 13 (.int .i64 3))).same (Fr.drew _ _)), (((((frs_g _ r g cp (1) (.int .i64 (bo)))).trans (frs_r _ r g cp 13 (.int .i64 3)))).trans (Fr.drew _ _))⟩
set_option maxRecDepth 100000 in
set_option maxHeartbeats 1000000 in
theorem ru1 (B c g r cp n cap : Nat) (most size did : Int) (L : List Int) (x bo t ra rl ta tl pl cx got err : Int) (ld won : Bool) (w : World) (hO : RO w r cp most ⟨0, 1, x, bo, t, ⟨ra, rl⟩, ⟨ta, tl⟩, pl, cx, ld, won, 0, got, err⟩) (hC : RC w B c g L n cap size did) (hS : RSep c g r cp) (h3 : 3 ≤ n)  (v0 : Int) (hv0 : L.getD 1 0 = v0)  :
    Calls Try.prog 57 #[.pointer (some ⟨r, 0, none⟩), .pointer (some ⟨c, 0, none⟩)] w (RPost B c g r cp most ⟨0, 2, x, v0, t, ⟨ra, rl⟩, ⟨ta, tl⟩, pl, cx, ld, won, 0, got, err⟩ (L) n cap size did w) := by
  obtain ⟨cv, hO, hV⟩ := hO
  unfold rc16 at hO
  have HO := hid hO
  have HC := hid hC
  have HS := hid hS
  have HV := hid hV
  have kd0 := hO.cell (i := 0) rfl
  have kd1 := hO.cell (i := 4) rfl
  have cs := hC.hc.cell (i := 0) rfl
  have n1 : r ≠ g := hS.rg
  have n2 : r ≠ c := hS.rc
  have n3 : c ≠ g := hC.ne
  have n4 : g ≠ r := hS.rg.symm
  have n5 : c ≠ r := hS.rc.symm
  have n6 : g ≠ c := hC.ne.symm
  have kf4 := hO.frozen 4
  have ks4 := hO.cell (i := 4) rfl
  have kf5 := hO.frozen 5
  have ks5 := hO.cell (i := 5) rfl
  have cm0 := hC.cell (k := 1) (by omega)
  rw [hv0] at cm0
  have Hv0 := hid hv0
  clear hv0
  have hb3 : (3 : Int) ≤ (n : Int) := by omega
  clear hO hC hS hV
  go_enter Try.func57, Try.ntmps57
  go_wp2_with fail
  refine bodyPost_end (v := .tuple #[]) (by simp [results, Try.results57, go_sem]) rfl ?_
  have HB9 := ((((HO.out).set 5 (.int .i64 v0))).set 4 (.int .i64 2))
  exact ⟨rfl, ⟨cv, by simpa [rc16] using HB9, fun _ h => by cases h⟩, ((((HC.out).rset n2 n1 5 (.int .i64 v0))).rset n2 n1 4 (.int .i64 2)), (((frs_r _ r g cp 5 (.int .i64 v0))).trans (frs_r _ r g cp 4 (.int .i64 2)))⟩
set_option maxRecDepth 100000 in
set_option maxHeartbeats 1000000 in
theorem ru2 (B c g r cp n cap : Nat) (most size did : Int) (L : List Int) (x bo t ra rl ta tl pl cx got err : Int) (ld won : Bool) (w : World) (hO : RO w r cp most ⟨0, 2, x, bo, t, ⟨ra, rl⟩, ⟨ta, tl⟩, pl, cx, ld, won, 0, got, err⟩) (hC : RC w B c g L n cap size did) (hS : RSep c g r cp) (h3 : 3 ≤ n)  (v0 : Int) (hv0 : L.getD 0 0 = v0)  :
    Calls Try.prog 57 #[.pointer (some ⟨r, 0, none⟩), .pointer (some ⟨c, 0, none⟩)] w (RPost B c g r cp most ⟨0, 3, x, bo, v0, ⟨ra, rl⟩, ⟨ta, tl⟩, pl, cx, ld, won, 0, got, err⟩ (L) n cap size did w) := by
  obtain ⟨cv, hO, hV⟩ := hO
  unfold rc16 at hO
  have HO := hid hO
  have HC := hid hC
  have HS := hid hS
  have HV := hid hV
  have kd0 := hO.cell (i := 0) rfl
  have kd1 := hO.cell (i := 4) rfl
  have cs := hC.hc.cell (i := 0) rfl
  have n1 : r ≠ g := hS.rg
  have n2 : r ≠ c := hS.rc
  have n3 : c ≠ g := hC.ne
  have n4 : g ≠ r := hS.rg.symm
  have n5 : c ≠ r := hS.rc.symm
  have n6 : g ≠ c := hC.ne.symm
  have kf4 := hO.frozen 4
  have ks4 := hO.cell (i := 4) rfl
  have kf6 := hO.frozen 6
  have ks6 := hO.cell (i := 6) rfl
  have cm0 := hC.cell (k := 0) (by omega)
  rw [hv0] at cm0
  have Hv0 := hid hv0
  clear hv0
  have hb3 : (3 : Int) ≤ (n : Int) := by omega
  clear hO hC hS hV
  go_enter Try.func57, Try.ntmps57
  go_wp2_with fail
  refine bodyPost_end (v := .tuple #[]) (by simp [results, Try.results57, go_sem]) rfl ?_
  have HB9 := ((((HO.out).set 6 (.int .i64 v0))).set 4 (.int .i64 3))
  exact ⟨rfl, ⟨cv, by simpa [rc16] using HB9, fun _ h => by cases h⟩, ((((HC.out).rset n2 n1 6 (.int .i64 v0))).rset n2 n1 4 (.int .i64 3)), (((frs_r _ r g cp 6 (.int .i64 v0))).trans (frs_r _ r g cp 4 (.int .i64 3)))⟩
set_option maxRecDepth 100000 in
set_option maxHeartbeats 1000000 in
theorem ru8 (B c g r cp n cap : Nat) (most size did : Int) (L : List Int) (x bo t ra rl ta tl pl cx got err : Int) (ld won : Bool) (w : World) (hO : RO w r cp most ⟨0, 8, x, bo, t, ⟨ra, rl⟩, ⟨ta, tl⟩, pl, cx, ld, won, 0, got, err⟩) (hC : RC w B c g L n cap size did) (hS : RSep c g r cp) (h3 : 3 ≤ n)  (hb1 : -100000 ≤ bo) (hb2 : bo ≤ 100000) (ht1 : -100000 ≤ t) (ht2 : t ≤ 100000) :
    Calls Try.prog 57 #[.pointer (some ⟨r, 0, none⟩), .pointer (some ⟨c, 0, none⟩)] w (RPost B c g r cp most ⟨0, 8, x, bo, t, ⟨ra, rl⟩, ⟨ta, tl⟩, pl, cx, ld, won, 1, got, err⟩ (L.set 1 (bo + 1)) n cap size did w) := by
  obtain ⟨cv, hO, hV⟩ := hO
  unfold rc16 at hO
  have HO := hid hO
  have HC := hid hC
  have HS := hid hS
  have HV := hid hV
  have kd0 := hO.cell (i := 0) rfl
  have kd1 := hO.cell (i := 4) rfl
  have cs := hC.hc.cell (i := 0) rfl
  have n1 : r ≠ g := hS.rg
  have n2 : r ≠ c := hS.rc
  have n3 : c ≠ g := hC.ne
  have n4 : g ≠ r := hS.rg.symm
  have n5 : c ≠ r := hS.rc.symm
  have n6 : g ≠ c := hC.ne.symm
  have kc5 := hO.cell (i := 5) rfl
  have kf13 := hO.frozen 13
  have ks13 := hO.cell (i := 13) rfl
  have hb3 : (3 : Int) ≤ (n : Int) := by omega
  have rf := hC.frozen (1)
  have rcell := hC.cell (k := 1) (by omega)
  clear hO hC hS hV
  go_enter Try.func57, Try.ntmps57
  go_wp2_with fail
  go_region
  go_wp2_with fail
  refine bodyPost_end (v := .tuple #[]) (by simp [results, Try.results57, go_sem]) rfl ?_
  have HB9 := (((((HO.out).far (1) (.int .i64 (bo + 1)) n1)).set 13 (.int .i64 1))).drew
  exact ⟨rfl, ⟨cv, by simpa [rc16] using HB9, fun _ h => by cases h⟩, ((((((HC.out).set (k := 1) (by omega) (bo + 1))).rset n2 n1 13 (.int .i64 1))).same (Fr.drew _ _)), (((((frs_g _ r g cp (1) (.int .i64 (bo + 1)))).trans (frs_r _ r g cp 13 (.int .i64 1)))).trans (Fr.drew _ _))⟩
set_option maxRecDepth 100000 in
set_option maxHeartbeats 1000000 in
theorem rt4 (B c g r cp n cap : Nat) (most size did : Int) (L : List Int) (x bo t ra rl ta tl pl cx got err : Int) (ld won : Bool) (w : World) (hO : RO w r cp most ⟨2, 4, x, bo, t, ⟨ra, rl⟩, ⟨ta, tl⟩, pl, cx, ld, won, 0, got, err⟩) (hC : RC w B c g L n cap size did) (hS : RSep c g r cp) (h3 : 3 ≤ n) (p : Nat) (hp : Rg.place ⟨ra, rl⟩ (t) = p) (hpn : p < n) (vp : Int) (hvp : L.getD p 0 = vp)  :
    Calls Try.prog 59 #[.pointer (some ⟨r, 0, none⟩), .pointer (some ⟨c, 0, none⟩)] w (RPost B c g r cp most ⟨2, 5, x, bo, t, ⟨ra, rl⟩, ⟨ta, tl⟩, pl, cx, ld, won, 2, vp, err⟩ (L) n cap size did w) := by
  obtain ⟨cv, hO, hV⟩ := hO
  unfold rc16 at hO
  have HO := hid hO
  have HC := hid hC
  have HS := hid hS
  have HV := hid hV
  have kd0 := hO.cell (i := 0) rfl
  have kd1 := hO.cell (i := 4) rfl
  have cs := hC.hc.cell (i := 0) rfl
  have n1 : r ≠ g := hS.rg
  have n2 : r ≠ c := hS.rc
  have n3 : c ≠ g := hC.ne
  have n4 : g ≠ r := hS.rg.symm
  have n5 : c ≠ r := hS.rc.symm
  have n6 : g ≠ c := hC.ne.symm
  have HP := hid (fun (v : World) => hp ▸ rplace_any ra rl (t) v)
  have HPN := hid hpn
  have HVP := hid hvp
  have hpi : (p : Int) < (n : Int) := by omega
  have hpi2 : p < n := hpn
  have hp0 : (0 : Int) ≤ (p : Int) := by omega
  have HS0 := hid hS
  have HSa := hid (show ∀ v, Fr (fun _ => False) w v → v.cell? ⟨c, 0, none⟩ = some (.slice (some ⟨g, 0, none⟩) n cap) ∧ v.cell? ⟨r, 7, none⟩ = some (.int .i64 ra) ∧ v.cell? ⟨r, 8, none⟩ = some (.int .i64 rl) ∧ v.cell? ⟨r, 6, none⟩ = some (.int .i64 t) ∧ v.cell? ⟨g, p, none⟩ = some (.int .i64 vp) from fun v F => ⟨(HC.out.same F).hc.cell (i := 0) rfl, (HO.out.same F).cell (i := 7) rfl, (HO.out.same F).cell (i := 8) rfl, (HO.out.same F).cell (i := 6) rfl, by have := (HC.out.same F).cell HPN.out; rwa [HVP.out] at this⟩)
  have HSb := hid (show ∀ v, Fr (fun _ => False) w v → (v.setCell ⟨r, 14, none⟩ (.int .i64 vp)).cell? ⟨c, 0, none⟩ = some (.slice (some ⟨g, 0, none⟩) n cap) ∧ (v.setCell ⟨r, 14, none⟩ (.int .i64 vp)).cell? ⟨r, 7, none⟩ = some (.int .i64 ra) ∧ (v.setCell ⟨r, 14, none⟩ (.int .i64 vp)).cell? ⟨r, 8, none⟩ = some (.int .i64 rl) ∧ (v.setCell ⟨r, 14, none⟩ (.int .i64 vp)).cell? ⟨r, 6, none⟩ = some (.int .i64 t) ∧ (v.setCell ⟨r, 14, none⟩ (.int .i64 vp)).cell? ⟨g, p, none⟩ = some (.int .i64 vp) from fun v F => ⟨((HC.out.same F).rset HS0.out.rc HS0.out.rg 14 _).hc.cell (i := 0) rfl, ((HO.out.same F).set 14 (.int .i64 vp)).cell (i := 7) rfl, ((HO.out.same F).set 14 (.int .i64 vp)).cell (i := 8) rfl, ((HO.out.same F).set 14 (.int .i64 vp)).cell (i := 6) rfl, by have := ((HC.out.same F).rset HS0.out.rc HS0.out.rg 14 (.int .i64 vp)).cell HPN.out; rwa [HVP.out] at this⟩)
  have HFd := hid (Fr.refl (fun _ => False) w)
  clear hp hvp
  clear hO hC hS hV
  go_enter Try.func59, Try.ntmps59
  go_upto_region 14 with fail
  go_region_held3 (fun v => v.cell? ⟨c, 0, none⟩ = some (.slice (some ⟨g, 0, none⟩) n cap) ∧ v.cell? ⟨r, 7, none⟩ = some (.int .i64 ra) ∧ v.cell? ⟨r, 8, none⟩ = some (.int .i64 rl) ∧ v.cell? ⟨r, 6, none⟩ = some (.int .i64 t) ∧ v.cell? ⟨g, p, none⟩ = some (.int .i64 vp))
    (first | exact HSb.out _ HFd.out | exact HSb.out _ (HFd.out.trans (Fr.drew _ _)) | exact HSa.out _ HFd.out | exact HSa.out _ (HFd.out.trans (Fr.drew _ _)))
    (first
      | (go_at_call 67; ((with_reducible refine (HP.out _).mono ?_); rintro e w6 ⟨rfl, hF6⟩; have HFd := hid (HFd.out.trans (Fr.trans (by first | exact Fr.refl _ _ | exact Fr.drew _ _) hF6)); clear hF6; have kf14 := (HO.out.same HFd.out).frozen 14; have ks14 := (HO.out.same HFd.out).cell (i := 14) rfl)))
  all_goals
    have HO1 := hid (HO.out.same HFd.out)
    have HC1 := hid (HC.out.same HFd.out)
    have HF1 := hid (HFd.out.mono (T := RS r g cp) fun _ h => h.elim)
    have kf4 := (((HO1.out).set 14 (.int .i64 vp))).frozen 4
    have ks4 := (((HO1.out).set 14 (.int .i64 vp))).cell (i := 4) rfl
    have kf13 := (((HO1.out).set 14 (.int .i64 vp))).frozen 13
    have ks13 := (((HO1.out).set 14 (.int .i64 vp))).cell (i := 13) rfl
    go_wp2_with fail
    refine bodyPost_end (v := .tuple #[]) (by simp [results, Try.results59, go_sem]) rfl ?_
    have HB9 := ((((((HO1.out).set 14 (.int .i64 vp))).set 13 (.int .i64 2))).set 4 (.int .i64 5))
    exact ⟨rfl, ⟨cv, by simpa [rc16] using HB9, fun h => by cases h⟩, ((((((HC1.out).rset n2 n1 14 (.int .i64 vp))).rset n2 n1 13 (.int .i64 2))).rset n2 n1 4 (.int .i64 5)), ((((((HF1.out).trans (frs_r _ r g cp 14 (.int .i64 vp)))).trans (frs_r _ r g cp 13 (.int .i64 2)))).trans (frs_r _ r g cp 4 (.int .i64 5)))⟩
set_option maxRecDepth 100000 in
set_option maxHeartbeats 1000000 in
theorem ro6_far (B c g r cp n cap : Nat) (most size did : Int) (L : List Int) (x bo t ra rl ta tl pl cx got err : Int) (ld won : Bool) (w : World) (hO : RO w r cp most ⟨1, 6, x, bo, t, ⟨ra, rl⟩, ⟨ta, tl⟩, pl, cx, ld, won, 0, got, err⟩) (hC : RC w B c g L n cap size did) (hS : RSep c g r cp) (h3 : 3 ≤ n) (p : Nat) (hp : Rg.place ⟨ra, rl⟩ (bo - 1) = p) (hpn : p < n) (vp : Int) (hvp : L.getD p 0 = vp) (hc : t < bo - 1) (hb1 : -100000 ≤ bo) (hb2 : bo ≤ 100000) :
    Calls Try.prog 58 #[.pointer (some ⟨r, 0, none⟩), .pointer (some ⟨c, 0, none⟩)] w (RPost B c g r cp most ⟨1, 7, vp, bo, t, ⟨ra, rl⟩, ⟨ta, tl⟩, pl, cx, ld, won, 1, vp, err⟩ (L) n cap size did w) := by
  obtain ⟨cv, hO, hV⟩ := hO
  unfold rc16 at hO
  have HO := hid hO
  have HC := hid hC
  have HS := hid hS
  have HV := hid hV
  have kd0 := hO.cell (i := 0) rfl
  have kd1 := hO.cell (i := 4) rfl
  have cs := hC.hc.cell (i := 0) rfl
  have n1 : r ≠ g := hS.rg
  have n2 : r ≠ c := hS.rc
  have n3 : c ≠ g := hC.ne
  have n4 : g ≠ r := hS.rg.symm
  have n5 : c ≠ r := hS.rc.symm
  have n6 : g ≠ c := hC.ne.symm
  have HP := hid (fun (v : World) => hp ▸ rplace_any ra rl (bo - 1) v)
  have HPN := hid hpn
  have HVP := hid hvp
  have hpi : (p : Int) < (n : Int) := by omega
  have hpi2 : p < n := hpn
  have hp0 : (0 : Int) ≤ (p : Int) := by omega
  have HS0 := hid hS
  have tw : IntKind.i64.wrap (bo - 1) = bo - 1 := wrap_in _ (by omega) (by omega)
  have tc : decide (t < bo - 1) = true := by simp; omega
  clear hc
  have HSa := hid (show ∀ v, Fr (fun _ => False) w v → v.cell? ⟨c, 0, none⟩ = some (.slice (some ⟨g, 0, none⟩) n cap) ∧ v.cell? ⟨r, 7, none⟩ = some (.int .i64 ra) ∧ v.cell? ⟨r, 8, none⟩ = some (.int .i64 rl) ∧ v.cell? ⟨r, 5, none⟩ = some (.int .i64 bo) ∧ v.cell? ⟨g, p, none⟩ = some (.int .i64 vp) from fun v F => ⟨(HC.out.same F).hc.cell (i := 0) rfl, (HO.out.same F).cell (i := 7) rfl, (HO.out.same F).cell (i := 8) rfl, (HO.out.same F).cell (i := 5) rfl, by have := (HC.out.same F).cell HPN.out; rwa [HVP.out] at this⟩)
  have HSb := hid (show ∀ v, Fr (fun _ => False) w v → (v.setCell ⟨r, 3, none⟩ (.int .i64 vp)).cell? ⟨c, 0, none⟩ = some (.slice (some ⟨g, 0, none⟩) n cap) ∧ (v.setCell ⟨r, 3, none⟩ (.int .i64 vp)).cell? ⟨r, 7, none⟩ = some (.int .i64 ra) ∧ (v.setCell ⟨r, 3, none⟩ (.int .i64 vp)).cell? ⟨r, 8, none⟩ = some (.int .i64 rl) ∧ (v.setCell ⟨r, 3, none⟩ (.int .i64 vp)).cell? ⟨r, 5, none⟩ = some (.int .i64 bo) ∧ (v.setCell ⟨r, 3, none⟩ (.int .i64 vp)).cell? ⟨g, p, none⟩ = some (.int .i64 vp) from fun v F => ⟨((HC.out.same F).rset HS0.out.rc HS0.out.rg 3 _).hc.cell (i := 0) rfl, ((HO.out.same F).set 3 (.int .i64 vp)).cell (i := 7) rfl, ((HO.out.same F).set 3 (.int .i64 vp)).cell (i := 8) rfl, ((HO.out.same F).set 3 (.int .i64 vp)).cell (i := 5) rfl, by have := ((HC.out.same F).rset HS0.out.rc HS0.out.rg 3 (.int .i64 vp)).cell HPN.out; rwa [HVP.out] at this⟩)
  have HFd := hid (Fr.refl (fun _ => False) w)
  clear hp hvp
  clear hO hC hS hV
  go_enter Try.func58, Try.ntmps58
  go_upto_region 20 with fail
  go_region_held3 (fun v => v.cell? ⟨c, 0, none⟩ = some (.slice (some ⟨g, 0, none⟩) n cap) ∧ v.cell? ⟨r, 7, none⟩ = some (.int .i64 ra) ∧ v.cell? ⟨r, 8, none⟩ = some (.int .i64 rl) ∧ v.cell? ⟨r, 5, none⟩ = some (.int .i64 bo) ∧ v.cell? ⟨g, p, none⟩ = some (.int .i64 vp))
    (first | exact HSb.out _ HFd.out | exact HSb.out _ (HFd.out.trans (Fr.drew _ _)) | exact HSa.out _ HFd.out | exact HSa.out _ (HFd.out.trans (Fr.drew _ _)))
    (first
      | (go_at_call 67; ((with_reducible refine (HP.out _).mono ?_); rintro e w6 ⟨rfl, hF6⟩; have HFd := hid (HFd.out.trans (Fr.trans (by first | exact Fr.refl _ _ | exact Fr.drew _ _) hF6)); clear hF6; have kf3 := (HO.out.same HFd.out).frozen 3; have ks3 := (HO.out.same HFd.out).cell (i := 3) rfl)))
  all_goals
    have HO1 := hid (HO.out.same HFd.out)
    have HC1 := hid (HC.out.same HFd.out)
    have HF1 := hid (HFd.out.mono (T := RS r g cp) fun _ h => h.elim)
    have kf3 := (((HO1.out).set 3 (.int .i64 vp))).frozen 3
    have ks3 := (((HO1.out).set 3 (.int .i64 vp))).cell (i := 3) rfl
    have kf4 := (((HO1.out).set 3 (.int .i64 vp))).frozen 4
    have ks4 := (((HO1.out).set 3 (.int .i64 vp))).cell (i := 4) rfl
    have kf5 := (((HO1.out).set 3 (.int .i64 vp))).frozen 5
    have ks5 := (((HO1.out).set 3 (.int .i64 vp))).cell (i := 5) rfl
    have kf6 := (((HO1.out).set 3 (.int .i64 vp))).frozen 6
    have ks6 := (((HO1.out).set 3 (.int .i64 vp))).cell (i := 6) rfl
    have kf13 := (((HO1.out).set 3 (.int .i64 vp))).frozen 13
    have ks13 := (((HO1.out).set 3 (.int .i64 vp))).cell (i := 13) rfl
    have kf14 := (((HO1.out).set 3 (.int .i64 vp))).frozen 14
    have ks14 := (((HO1.out).set 3 (.int .i64 vp))).cell (i := 14) rfl
    clear tw
    go_wp2_with fail
    go_region
    go_wp2_with fail
    refine bodyPost_end (v := .tuple #[]) (by simp [results, Try.results58, go_sem]) rfl ?_
    have HB9 := (((((((((HO1.out).set 3 (.int .i64 vp))).set 4 (.int .i64 7))).set 13 (.int .i64 1))).set 14 (.int .i64 vp))).drew
    exact ⟨rfl, ⟨cv, by simpa [rc16] using HB9, fun h => by cases h⟩, ((((((((((HC1.out).rset n2 n1 3 (.int .i64 vp))).rset n2 n1 4 (.int .i64 7))).rset n2 n1 13 (.int .i64 1))).rset n2 n1 14 (.int .i64 vp))).same (Fr.drew _ _)), ((((((((((HF1.out).trans (frs_r _ r g cp 3 (.int .i64 vp)))).trans (frs_r _ r g cp 4 (.int .i64 7)))).trans (frs_r _ r g cp 13 (.int .i64 1)))).trans (frs_r _ r g cp 14 (.int .i64 vp)))).trans (Fr.drew _ _))⟩
set_option maxRecDepth 100000 in
set_option maxHeartbeats 1000000 in
theorem ro6_last (B c g r cp n cap : Nat) (most size did : Int) (L : List Int) (x bo t ra rl ta tl pl cx got err : Int) (ld won : Bool) (w : World) (hO : RO w r cp most ⟨1, 6, x, bo, t, ⟨ra, rl⟩, ⟨ta, tl⟩, pl, cx, ld, won, 0, got, err⟩) (hC : RC w B c g L n cap size did) (hS : RSep c g r cp) (h3 : 3 ≤ n) (p : Nat) (hp : Rg.place ⟨ra, rl⟩ (bo - 1) = p) (hpn : p < n) (vp : Int) (hvp : L.getD p 0 = vp) (hc : ¬ t < bo - 1) (hb1 : -100000 ≤ bo) (hb2 : bo ≤ 100000) :
    Calls Try.prog 58 #[.pointer (some ⟨r, 0, none⟩), .pointer (some ⟨c, 0, none⟩)] w (RPost B c g r cp most ⟨1, 7, vp, bo, t, ⟨ra, rl⟩, ⟨ta, tl⟩, pl, cx, ld, won, 0, got, err⟩ (L) n cap size did w) := by
  obtain ⟨cv, hO, hV⟩ := hO
  unfold rc16 at hO
  have HO := hid hO
  have HC := hid hC
  have HS := hid hS
  have HV := hid hV
  have kd0 := hO.cell (i := 0) rfl
  have kd1 := hO.cell (i := 4) rfl
  have cs := hC.hc.cell (i := 0) rfl
  have n1 : r ≠ g := hS.rg
  have n2 : r ≠ c := hS.rc
  have n3 : c ≠ g := hC.ne
  have n4 : g ≠ r := hS.rg.symm
  have n5 : c ≠ r := hS.rc.symm
  have n6 : g ≠ c := hC.ne.symm
  have HP := hid (fun (v : World) => hp ▸ rplace_any ra rl (bo - 1) v)
  have HPN := hid hpn
  have HVP := hid hvp
  have hpi : (p : Int) < (n : Int) := by omega
  have hpi2 : p < n := hpn
  have hp0 : (0 : Int) ≤ (p : Int) := by omega
  have HS0 := hid hS
  have tw : IntKind.i64.wrap (bo - 1) = bo - 1 := wrap_in _ (by omega) (by omega)
  have tc : decide (t < bo - 1) = false := by simp; omega
  clear hc
  have HSa := hid (show ∀ v, Fr (fun _ => False) w v → v.cell? ⟨c, 0, none⟩ = some (.slice (some ⟨g, 0, none⟩) n cap) ∧ v.cell? ⟨r, 7, none⟩ = some (.int .i64 ra) ∧ v.cell? ⟨r, 8, none⟩ = some (.int .i64 rl) ∧ v.cell? ⟨r, 5, none⟩ = some (.int .i64 bo) ∧ v.cell? ⟨g, p, none⟩ = some (.int .i64 vp) from fun v F => ⟨(HC.out.same F).hc.cell (i := 0) rfl, (HO.out.same F).cell (i := 7) rfl, (HO.out.same F).cell (i := 8) rfl, (HO.out.same F).cell (i := 5) rfl, by have := (HC.out.same F).cell HPN.out; rwa [HVP.out] at this⟩)
  have HSb := hid (show ∀ v, Fr (fun _ => False) w v → (v.setCell ⟨r, 3, none⟩ (.int .i64 vp)).cell? ⟨c, 0, none⟩ = some (.slice (some ⟨g, 0, none⟩) n cap) ∧ (v.setCell ⟨r, 3, none⟩ (.int .i64 vp)).cell? ⟨r, 7, none⟩ = some (.int .i64 ra) ∧ (v.setCell ⟨r, 3, none⟩ (.int .i64 vp)).cell? ⟨r, 8, none⟩ = some (.int .i64 rl) ∧ (v.setCell ⟨r, 3, none⟩ (.int .i64 vp)).cell? ⟨r, 5, none⟩ = some (.int .i64 bo) ∧ (v.setCell ⟨r, 3, none⟩ (.int .i64 vp)).cell? ⟨g, p, none⟩ = some (.int .i64 vp) from fun v F => ⟨((HC.out.same F).rset HS0.out.rc HS0.out.rg 3 _).hc.cell (i := 0) rfl, ((HO.out.same F).set 3 (.int .i64 vp)).cell (i := 7) rfl, ((HO.out.same F).set 3 (.int .i64 vp)).cell (i := 8) rfl, ((HO.out.same F).set 3 (.int .i64 vp)).cell (i := 5) rfl, by have := ((HC.out.same F).rset HS0.out.rc HS0.out.rg 3 (.int .i64 vp)).cell HPN.out; rwa [HVP.out] at this⟩)
  have HFd := hid (Fr.refl (fun _ => False) w)
  clear hp hvp
  clear hO hC hS hV
  go_enter Try.func58, Try.ntmps58
  go_upto_region 20 with fail
  go_region_held3 (fun v => v.cell? ⟨c, 0, none⟩ = some (.slice (some ⟨g, 0, none⟩) n cap) ∧ v.cell? ⟨r, 7, none⟩ = some (.int .i64 ra) ∧ v.cell? ⟨r, 8, none⟩ = some (.int .i64 rl) ∧ v.cell? ⟨r, 5, none⟩ = some (.int .i64 bo) ∧ v.cell? ⟨g, p, none⟩ = some (.int .i64 vp))
    (first | exact HSb.out _ HFd.out | exact HSb.out _ (HFd.out.trans (Fr.drew _ _)) | exact HSa.out _ HFd.out | exact HSa.out _ (HFd.out.trans (Fr.drew _ _)))
    (first
      | (go_at_call 67; ((with_reducible refine (HP.out _).mono ?_); rintro e w6 ⟨rfl, hF6⟩; have HFd := hid (HFd.out.trans (Fr.trans (by first | exact Fr.refl _ _ | exact Fr.drew _ _) hF6)); clear hF6; have kf3 := (HO.out.same HFd.out).frozen 3; have ks3 := (HO.out.same HFd.out).cell (i := 3) rfl)))
  all_goals
    have HO1 := hid (HO.out.same HFd.out)
    have HC1 := hid (HC.out.same HFd.out)
    have HF1 := hid (HFd.out.mono (T := RS r g cp) fun _ h => h.elim)
    have kf3 := (((HO1.out).set 3 (.int .i64 vp))).frozen 3
    have ks3 := (((HO1.out).set 3 (.int .i64 vp))).cell (i := 3) rfl
    have kf4 := (((HO1.out).set 3 (.int .i64 vp))).frozen 4
    have ks4 := (((HO1.out).set 3 (.int .i64 vp))).cell (i := 4) rfl
    have kf5 := (((HO1.out).set 3 (.int .i64 vp))).frozen 5
    have ks5 := (((HO1.out).set 3 (.int .i64 vp))).cell (i := 5) rfl
    have kf6 := (((HO1.out).set 3 (.int .i64 vp))).frozen 6
    have ks6 := (((HO1.out).set 3 (.int .i64 vp))).cell (i := 6) rfl
    clear tw
    go_wp2_with fail
    go_region
    go_wp2_with fail
    refine bodyPost_end (v := .tuple #[]) (by simp [results, Try.results58, go_sem]) rfl ?_
    have HB9 := (((((HO1.out).set 3 (.int .i64 vp))).set 4 (.int .i64 7))).drew
    exact ⟨rfl, ⟨cv, by simpa [rc16] using HB9, fun h => by cases h⟩, ((((((HC1.out).rset n2 n1 3 (.int .i64 vp))).rset n2 n1 4 (.int .i64 7))).same (Fr.drew _ _)), ((((((HF1.out).trans (frs_r _ r g cp 3 (.int .i64 vp)))).trans (frs_r _ r g cp 4 (.int .i64 7)))).trans (Fr.drew _ _))⟩
set_option maxRecDepth 100000 in
set_option maxHeartbeats 1000000 in
theorem ru7 (B c g r cp n cap : Nat) (most size did : Int) (L : List Int) (x bo t ra rl ta tl pl cx got err : Int) (ld won : Bool) (w : World) (hO : RO w r cp most ⟨0, 7, x, bo, t, ⟨ra, rl⟩, ⟨ta, tl⟩, pl, cx, ld, won, 0, got, err⟩) (hC : RC w B c g L n cap size did) (hS : RSep c g r cp) (h3 : 3 ≤ n) (p : Nat) (hp : Rg.place ⟨ra, rl⟩ (bo) = p) (hpn : p < n)  :
    Calls Try.prog 57 #[.pointer (some ⟨r, 0, none⟩), .pointer (some ⟨c, 0, none⟩)] w (RPost B c g r cp most ⟨0, 8, x, bo, t, ⟨ra, rl⟩, ⟨ta, tl⟩, pl, cx, ld, won, 0, got, err⟩ (L.set p x) n cap size did w) := by
  obtain ⟨cv, hO, hV⟩ := hO
  unfold rc16 at hO
  have HO := hid hO
  have HC := hid hC
  have HS := hid hS
  have HV := hid hV
  have kd0 := hO.cell (i := 0) rfl
  have kd1 := hO.cell (i := 4) rfl
  have cs := hC.hc.cell (i := 0) rfl
  have n1 : r ≠ g := hS.rg
  have n2 : r ≠ c := hS.rc
  have n3 : c ≠ g := hC.ne
  have n4 : g ≠ r := hS.rg.symm
  have n5 : c ≠ r := hS.rc.symm
  have n6 : g ≠ c := hC.ne.symm
  have HP := hid (fun (v : World) => hp ▸ rplace_any ra rl (bo) v)
  have HPN := hid hpn
  have hpi : (p : Int) < (n : Int) := by omega
  have hpi2 : p < n := hpn
  have hp0 : (0 : Int) ≤ (p : Int) := by omega
  have HS0 := hid hS
  have HSa := hid (show ∀ v, Fr (fun _ => False) w v → v.cell? ⟨c, 0, none⟩ = some (.slice (some ⟨g, 0, none⟩) n cap) ∧ v.cell? ⟨r, 7, none⟩ = some (.int .i64 ra) ∧ v.cell? ⟨r, 8, none⟩ = some (.int .i64 rl) ∧ v.cell? ⟨r, 5, none⟩ = some (.int .i64 bo) ∧ v.cell? ⟨r, 3, none⟩ = some (.int .i64 x) from fun v F => ⟨(HC.out.same F).hc.cell (i := 0) rfl, (HO.out.same F).cell (i := 7) rfl, (HO.out.same F).cell (i := 8) rfl, (HO.out.same F).cell (i := 5) rfl, (HO.out.same F).cell (i := 3) rfl⟩)
  have HSb := hid (show ∀ v, Fr (fun _ => False) w v → (v.setCell ⟨g, p, none⟩ (.int .i64 x)).cell? ⟨c, 0, none⟩ = some (.slice (some ⟨g, 0, none⟩) n cap) ∧ (v.setCell ⟨g, p, none⟩ (.int .i64 x)).cell? ⟨r, 7, none⟩ = some (.int .i64 ra) ∧ (v.setCell ⟨g, p, none⟩ (.int .i64 x)).cell? ⟨r, 8, none⟩ = some (.int .i64 rl) ∧ (v.setCell ⟨g, p, none⟩ (.int .i64 x)).cell? ⟨r, 5, none⟩ = some (.int .i64 bo) ∧ (v.setCell ⟨g, p, none⟩ (.int .i64 x)).cell? ⟨r, 3, none⟩ = some (.int .i64 x) from fun v F => ⟨((HC.out.same F).set HPN.out x).hc.cell (i := 0) rfl, (((HO.out.same F).far p (.int .i64 x) HS0.out.rg)).cell (i := 7) rfl, (((HO.out.same F).far p (.int .i64 x) HS0.out.rg)).cell (i := 8) rfl, (((HO.out.same F).far p (.int .i64 x) HS0.out.rg)).cell (i := 5) rfl, (((HO.out.same F).far p (.int .i64 x) HS0.out.rg)).cell (i := 3) rfl⟩)
  have HFd := hid (Fr.refl (fun _ => False) w)
  clear hp
  clear hO hC hS hV
  go_enter Try.func57, Try.ntmps57
  go_upto_region 36 with fail
  go_region_held3 (fun v => v.cell? ⟨c, 0, none⟩ = some (.slice (some ⟨g, 0, none⟩) n cap) ∧ v.cell? ⟨r, 7, none⟩ = some (.int .i64 ra) ∧ v.cell? ⟨r, 8, none⟩ = some (.int .i64 rl) ∧ v.cell? ⟨r, 5, none⟩ = some (.int .i64 bo) ∧ v.cell? ⟨r, 3, none⟩ = some (.int .i64 x))
    (first | exact HSb.out _ HFd.out | exact HSb.out _ (HFd.out.trans (Fr.drew _ _)) | exact HSa.out _ HFd.out | exact HSa.out _ (HFd.out.trans (Fr.drew _ _)))
    (first
      | (go_at_call 67; ((with_reducible refine (HP.out _).mono ?_); rintro e w6 ⟨rfl, hF6⟩; have HFd := hid (HFd.out.trans (Fr.trans (by first | exact Fr.refl _ _ | exact Fr.drew _ _) hF6)); clear hF6; have kf99 := (HC.out.same HFd.out).frozen p; have ks99 := (HC.out.same HFd.out).cell HPN.out)))
  all_goals
    have HO1 := hid (HO.out.same HFd.out)
    have HC1 := hid (HC.out.same HFd.out)
    have HF1 := hid (HFd.out.mono (T := RS r g cp) fun _ h => h.elim)
    have kf4 := (((HO1.out).far (p) (.int .i64 (x)) HS0.out.rg)).frozen 4
    have ks4 := (((HO1.out).far (p) (.int .i64 (x)) HS0.out.rg)).cell (i := 4) rfl
    go_wp2_with fail
    refine bodyPost_end (v := .tuple #[]) (by simp [results, Try.results57, go_sem]) rfl ?_
    have HB9 := ((((HO1.out).far (p) (.int .i64 (x)) n1)).set 4 (.int .i64 8))
    exact ⟨rfl, ⟨cv, by simpa [rc16] using HB9, fun _ h => by cases h⟩, ((((HC1.out).set (k := p) (by omega) (x))).rset n2 n1 4 (.int .i64 8)), ((((HF1.out).trans (frs_g _ r g cp (p) (.int .i64 (x))))).trans (frs_r _ r g cp 4 (.int .i64 8)))⟩
end Go.Proofs.Ytiofdfgcghiibaa
