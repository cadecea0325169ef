/-
  EventActs answers true at every input.
-/
import Derived.Test.YtlhpngoplmccjaaEAwake
import Derived.Test.YtlhpngoplmccjaaActP
import Derived.Test.YtlhpngoplmccjaaOpen
import Derived.Deep.DeepCutAuto
import Derived.Deep.DeepMust
import Derived.Deep.LoopGhost
import Derived.Deep.CutBlock
namespace Go.Proofs.Ytlhpngoplmccjaa
open Go.RowKit
set_option linter.unusedVariables false

theorem Try.infow : (Try.prog.info? 79).map (fun i => (i.zero, i.size, i.bytes)) = some (some (.pointer none), 1, 8) := by kernel_rfl
theorem Try.infor : (Try.prog.info? 81).map (fun i => (i.zero, i.size, i.bytes)) = some (some (.pointer none), 1, 8) := by kernel_rfl
theorem Try.infoe : (Try.prog.info? 76).map (fun i => (i.zero, i.size, i.bytes)) = some (some (.agg #[.int .i64 0]), 1, 8) := by kernel_rfl

theorem make_ev (w : World) : (Instr.makeSlice 72 (.int .i64 3) (.int .i64 3)).run Try.prog w = .ok (.slice (some ⟨w.heap.size, 0, none⟩) 3 3) (w.alloc (.cells #[.int .i64 0, .int .i64 0, .int .i64 0] 76)) := by
  obtain ⟨i, hi, hzz⟩ := Option.map_eq_some_iff.1 Try.infoe
  simp only [Prod.mk.injEq] at hzz
  obtain ⟨hz, hs, hb⟩ := hzz
  have hr := run_make (P := Try.prog) w 72 76 i _ Try.underlying72 hi hz .i64 .i64 3 3 (by omega) (by omega) (by rw [hb]; omega) (by omega)
  rw [hs, show madeCells (Value.agg #[Value.int .i64 0]).cells ((3 : Int).toNat * 1) = #[.int .i64 0, .int .i64 0, .int .i64 0] from made_ints 3] at hr
  exact hr

theorem full_mk (b : MB) (l : List Int) (u : Nat) (s : List Int) (j : Nat) (x : Int) (w : World) (h : IsM w b (mk l u s)) (hx : x = j) (hj : j < s.length) (hn : l.length = u) :
    Calls Try.prog 31 #[.pointer (some ⟨b.m, 0, none⟩), .int .i64 x] w fun e w' => e = .returned (.tuple #[.agg #[.int .i64 0], .int .i64 21]) ∧ IsM w' b (mk l u s) ∧ Fr b.own w w' := by
  subst hx
  exact enew_full b (mk l u s) j w h hj (by show (l.length : Int) - (u : Int) < 1; omega)


def AtRel (w0 : World) (b : MB) (bE bW bR bT : Nat) (d : Nat) (z : Value) (wr : World) : Prop :=
  ∃ (k : Nat) (x y : Nat → Nat) (st : List Int), k ≤ 3 ∧ d = 3 + 1 - k ∧ z = .int .i64 k ∧ Mem3 w0 b bE bW bR bT x y k k [0, 0, 0] [0, 0, 0] (fun _ => 0) (fun _ => 0) (fun _ => 0) (fun _ => 0) st wr ∧ Three st k

structure AS (i did : Nat) (T : List Int) (st : List Int) : Prop where
  th : Three st did
  di : did ≤ i + 3
  tl : T.length = 3
  tb : ∀ j, j < 3 → 0 ≤ T.getD j 0 ∧ T.getD j 0 ≤ i

theorem AS.up {i did : Nat} {T st : List Int} (h : AS i did T st) : AS (i + 1) did T st := ⟨h.th, by have := h.di; omega, h.tl, fun j hj => by have := h.tb j hj; omega⟩

theorem AS.op {i did : Nat} {T st : List Int} (h : AS i did T st) (hi : i ≤ 900) {g : Nat} (hg : g < 3) : AS (i + 1) (did + 1) T (stp st g) := ⟨h.th.step (by have := h.di; omega) hg, by have := h.di; omega, h.tl, fun j hj => by have := h.tb j hj; omega⟩

theorem AS.tell {i did : Nat} {T st : List Int} (h : AS i did T st) (hi : i ≤ 900) {g : Nat} (hg : g < 3) {u : Nat} (hu : u < 3) : AS (i + 1) (did + 1) (T.set u (T.getD u 0 + 1)) (stp st g) :=
  ⟨h.th.step (by have := h.di; omega) hg, by have := h.di; omega, by simpa using h.tl, fun j hj => by
    rw [gs _ _ _ _ (by rw [h.tl]; exact hu)]
    split
    · have := h.tb u hu; omega
    · have := h.tb j hj; omega⟩

def ActRel (w0 : World) (b : MB) (bE bW bR bT : Nat) (x y : Nat → Nat) (n : Nat) (d : Nat) (z z2 : Value) (wr : World) : Prop :=
  ∃ (i did : Nat) (T : List Int) (a s : Nat → Int) (st : List Int), i ≤ n ∧ d = n + 1 - i ∧ z = .int .i64 did ∧ z2 = .int .i64 i ∧ Mem3 w0 b bE bW bR bT x y 3 3 T T a s a s st wr ∧ AS i did T st

def CameA (w0 : World) (b : MB) (bE bW bR bT : Nat) (x y : Nat → Nat) (i did : Nat) (z : Value) (wr : World) : Prop :=
  ∃ (o : Bool) (T : List Int) (a s : Nat → Int) (st : List Int), z = .bool o ∧ Mem3 w0 b bE bW bR bT x y 3 3 T T a s a s st wr ∧ AS (i + 1) (if o then did + 1 else did) T st

theorem row_at3 {w : World} {a : Option Addr} {len i : Nat} {f : Nat → Nat → Int} (h : Row w a len 3 f) (hi : i < len) :
    ∃ b off, a = some ⟨b, off, none⟩ ∧ (∀ v, Fr (fun _ => False) w v → v.cell? ⟨b, off + i * 3, none⟩ = some (.int .i64 (f i 0)) ∧ v.cell? ⟨b, off + i * 3 + 1, none⟩ = some (.int .i64 (f i 1)) ∧ v.cell? ⟨b, off + i * 3 + 2, none⟩ = some (.int .i64 (f i 2))) := by
  obtain ⟨b, off, ha, hb, hc⟩ := h (by omega)
  have key : ∀ v, Fr (fun _ => False) w v → ∀ j, j < 3 → v.cell? ⟨b, off + i * 3 + j, none⟩ = some (.int .i64 (f i j)) := by
    intro v hf j hj
    have := (hc i j hi hj).1
    rw [← Nat.add_assoc] at this
    rw [← this]
    exact World.cell?_of_block (w := w) (hf.block b hb id)
  exact ⟨b, off, ha, fun v hf => ⟨key v hf 0 (by omega), key v hf 1 (by omega), key v hf 2 (by omega)⟩⟩

theorem told_any (T : List Int) (k : Nat) (s : Int) (hk : k < 3) : told T 3 k s = (T.getD k 0 == s) := told_in T 3 k s _ hk rfl

theorem steps_mk (b : MB) (l : List Int) (u : Nat) (s : List Int) (j : Nat) (x v : Int) (w : World) (h : IsM w b (mk l u s)) (hx : x = j) (hj : j < s.length) (hv : s.getD j 0 = v) :
    Calls Try.prog 24 #[.pointer (some ⟨b.m, 0, none⟩), .int .i64 x] w fun e w' => e = .returned (.int .i64 v) ∧ w = w' := by
  subst hx hv
  exact steps_in b (mk l u s) j w h hj

theorem peek_mk (b : MB) (l : List Int) (u : Nat) (s : List Int) (j : Nat) (x v : Int) (w : World) (h : IsM w b (mk l u s)) (hx : x = j) (hj : j < u) (hv : l.getD j 0 = v) :
    Calls Try.prog 28 #[.pointer (some ⟨b.m, 0, none⟩), .int .i64 x] w fun e w' => e = .returned (.int .i64 v) ∧ w = w' := by
  subst hx hv
  exact peek_in b (mk l u s) j w h hj

theorem Fr.of_eq' {S : Nat → Prop} {w w' : World} (h : w = w') : Fr S w w' := h ▸ Fr.refl S w

def Want (V wn : Int) (ok : Bool) : Prop := (ok = true ∧ wn = 0 ∧ 0 ≤ V ∧ V < 3) ∨ (ok = false ∧ wn = 10 ∧ (V < 0 ∨ 3 ≤ V))

def CutW (V : Int) (wr : World) (z : Value) (wx : World) : Prop := ∃ (wn : Int) (ok : Bool), z = .int .i64 wn ∧ Want V wn ok ∧ wr = wx
def CutB (v : Bool) (wr : World) (z : Value) (wx : World) : Prop := z = .bool v ∧ wr = wx
def CutD (o : Bool) (did : Nat) (wr : World) (z : Value) (wx : World) : Prop := ∃ d : Nat, z = .int .i64 d ∧ d = (if o then did + 1 else did) ∧ wr = wx

def SeRel (wd : World) (d : Nat) (z : Value) (wr : World) : Prop := ∃ k : Nat, k ≤ 3 ∧ d = 3 + 1 - k ∧ z = .int .i64 k ∧ Fr (fun _ => False) wd wr

theorem wrap_s (c : Int) (h0 : 0 ≤ c) (h1 : c ≤ 1000) : wrap64 (c + 1) = c + 1 := by unfold wrap64; omega

set_option maxRecDepth 100000 in
set_option maxHeartbeats 4000000 in
theorem acts_any (A : Option Addr) (n cp : Nat) (f : Nat → Nat → Int) (w0 : World) (hr : Row w0 A n 3 f) :
    Calls Try.prog 5 #[.slice A n cp] w0 fun e w' => e = .returned (.bool true) ∧ Below w0.heap.size w0 w' := by
  have HR := hid hr
  clear hr
  have mw := run_make_row' (P := Try.prog) 73 79 (.pointer none) 8 Try.underlying73 Try.infow rfl .i64 .i64 3 (by omega) (by omega)
  rw [show ((3 : Nat) : Int) = 3 from rfl] at mw
  have mr := run_make_row' (P := Try.prog) 74 81 (.pointer none) 8 Try.underlying74 Try.infor rfl .i64 .i64 3 (by omega) (by omega)
  rw [show ((3 : Nat) : Int) = 3 from rfl] at mr
  have ml := run_make_row' (P := Try.prog) 30 2 (.int .i64 0) 8 Try.underlying30 Try.infol rfl .i64 .i64 3 (by omega) (by omega)
  rw [show ((3 : Nat) : Int) = 3 from rfl] at ml
  have me := make_ev
  have HG0 := hid (Fr.refl (fun _ => False) w0)
  go_enter Try.func5, Try.ntmps5
  go_wp2_with fail
  refine (new_mk 3 2 3 2 rfl rfl _ (by omega) (by omega) (by omega) (by omega)).mono ?_
  rintro e w1 ⟨b, rfl, hM, hF, hown⟩
  have HG1 := hid (HG0.out.trans hF)
  have HM1 := hid hM
  have HOWN := hid (show ∀ i, b.own i → w0.heap.size ≤ i from fun i hi => by have := hown i hi; have := HG0.out.size; omega)
  clear hF hM hown HG0
  go_wp2_with fail
  clear mw mr ml me
  obtain ⟨w2, hw2⟩ : ∃ w2, (((w1.alloc (.cells #[.int .i64 0, .int .i64 0, .int .i64 0] 76)).alloc (.cells (madeCells #[.pointer none] 3) 79)).alloc (.cells (madeCells #[.pointer none] 3) 81)).alloc (.cells (madeCells #[.int .i64 0] 3) 2) = w2 := ⟨_, rfl⟩
  obtain ⟨bE, hbE⟩ : ∃ bn, w1.heap.size = bn := ⟨_, rfl⟩
  obtain ⟨bW, hbW⟩ : ∃ bs, bE + 1 = bs := ⟨_, rfl⟩
  obtain ⟨bR, hbR⟩ : ∃ bs, bW + 1 = bs := ⟨_, rfl⟩
  obtain ⟨bT, hbT⟩ : ∃ bs, bR + 1 = bs := ⟨_, rfl⟩
  have HE2 := hid (show Blk w2 bE (ints (evl 0)) from by rw [← hw2]; exact ((((Blk.new w1 #[.int .i64 0, .int .i64 0, .int .i64 0] _).at hbE).alloc _).alloc _).alloc _)
  have HW2 := hid (show Blk w2 bW (pt (fun _ => 0) 0) from by rw [← hw2, ← made_pt]; exact (((Blk.new _ _ _).at (by simp; omega)).alloc _).alloc _)
  have HR2 := hid (show Blk w2 bR (pt (fun _ => 0) 0) from by rw [← hw2, ← made_pt]; exact ((Blk.new _ _ _).at (by simp; omega)).alloc _)
  have HT2 := hid (show Blk w2 bT (ints [0, 0, 0]) from by rw [← hw2, made_ints]; exact (Blk.new _ _ _).at (by simp; omega))
  have hF : Fr (fun _ => False) w1 w2 := by rw [← hw2]; exact (((Fr.alloc _ _ _).trans (Fr.alloc _ _ _)).trans (Fr.alloc _ _ _)).trans (Fr.alloc _ _ _)
  have HE := hid (show Env3 w0.heap.size b bE bW bR bT from ⟨fun k hk => ⟨HOWN.out k hk, by have := HM1.out.own_lt _ hk; omega⟩, by have := HG1.out.size; omega, by omega, by omega, by omega⟩)
  have HREL := hid (show AtRel w0 b bE bW bR bT 4 (.int .i64 0) w2 from ⟨0, fun _ => 0, fun _ => 0, [0, 0, 0], by omega, by omega, rfl, ⟨HM1.out.same hF, HE2.out, HW2.out, HR2.out, HT2.out, fun j hj => absurd hj (Nat.not_lt_zero _), fun j hj => absurd hj (Nat.not_lt_zero _), fun i j hi => absurd hi (Nat.not_lt_zero _), fun i j hi => absurd hi (Nat.not_lt_zero _), fun i j hi => absurd hi (Nat.not_lt_zero _), HG1.out.trans hF⟩, ⟨0, 0, 0, rfl, rfl⟩⟩)
  rw [hw2, hbE, hbW, hbR, hbT]
  clear hw2 hF hbE hbW hbR hbT HG1 HM1 HE2 HW2 HR2 HT2 HOWN
  go_loopg [9] 4 (fun d z wr => AtRel w0 b bE bW bR bT d z wr)
  case atStart => exact HREL.out
  case round =>
    clear HREL
    obtain ⟨k, x, y, st, hk, rfl, rfl, hM, hT⟩ := hrel
    have HM := hid hM
    have HT := hid hT
    have HK := hid hk
    clear hM hT hk
    by_cases hlt : k < 3
    · have hlt2 : (k : Int) < 3 := by omega
      have tk : ((k : Int) != (k : Int)) = false := by simp
      go_wp2_with fail
      refine (enew_mk b [0, 0, 0] k st k k k _ HM.out.hM rfl rfl (by rw [HT.out.len]; exact hlt) (by simp; omega)).mono ?_
      rintro e w3 ⟨rfl, hM3, hF3⟩
      have HM3 := hid hM3
      have HF3 := hid hF3
      have hE := HE.out
      have n1 : ¬ b.own bE := fun hh => by have := hE.ob _ hh; omega
      have n2 : ¬ b.own bW := fun hh => by have := hE.ob _ hh; have := hE.e1; omega
      have n3 : ¬ b.own bR := fun hh => by have := hE.ob _ hh; have := hE.e1; have := hE.e2; omega
      have m1 : bW ≠ bE := by have := hE.e1; omega
      have m2 : bR ≠ bE := by have := hE.e1; have := hE.e2; omega
      have m3 : bR ≠ bW := by have := hE.e2; omega
      have HE3 := hid (HM.out.hE.keep hF3 n1)
      have HW3 := hid (HM.out.hW.keep hF3 n2)
      have HR3 := hid (HM.out.hR.keep hF3 n3)
      have NE := hid hE
      have NN := hid (And.intro n1 (And.intro n2 n3))
      have MM := hid (And.intro m1 (And.intro m2 m3))
      clear hM3 hF3 hE n1 n2 n3 m1 m2 m3
      go_upto_region 14 with fail
      obtain ⟨w4, hw4⟩ : ∃ w4, w3.alloc (.cells #[.int .i64 k] 76) = w4 := ⟨_, rfl⟩
      obtain ⟨be, hbe⟩ : ∃ be, w3.heap.size = be := ⟨_, rfl⟩
      have hF4 : Fr (fun _ => False) w3 w4 := by rw [← hw4]; exact Fr.alloc _ _ _
      have HB4 := hid (show Blk w4 be #[.int .i64 k] from by rw [← hw4]; exact (Blk.new _ _ _).at hbe)
      have HE4 := hid (HE3.out.same hF4)
      have HW4 := hid (HW3.out.same hF4)
      have HR4 := hid (HR3.out.same hF4)
      have HF4 := hid hF4
      have LB := hid (show be ≠ bE ∧ be ≠ bW from ⟨by have := HE3.out.lt; omega, by have := HW3.out.lt; omega⟩)
      rw [hw4, hbe]
      clear hw4 hbe hF4
      have p0 := HB4.out.cell (i := 0) rfl
      have c0 : ∃ v, w4.cell? ⟨bE, k, none⟩ = some v := ⟨_, HE4.out.cell (ints_at _ _ (by rw [evl_len]; exact hlt))⟩
      obtain ⟨v0, c0⟩ := c0
      have f0 := HE4.out.frozen k
      go_upto_region 15 with fail
      have hs4 : Fr (fun i => i = bE) w4 (w4.setCell ⟨bE, k, none⟩ (.int .i64 k)) := Fr.setCell _ _ _ rfl
      have hE5 : Blk (w4.setCell ⟨bE, k, none⟩ (.int .i64 k)) bE (ints (evl (k + 1))) := by rw [← evl_set k hlt, ← ints_set]; exact HE4.out.set k _
      obtain ⟨w5, hw5⟩ : ∃ w5, w4.setCell ⟨bE, k, none⟩ (.int .i64 k) = w5 := ⟨_, rfl⟩
      rw [hw5] at hs4 hE5 ⊢
      have HS4 := hid hs4
      have HE5 := hid hE5
      have HB5 := hid (HB4.out.keep hs4 LB.out.1)
      have HW5 := hid (HW4.out.keep hs4 MM.out.1)
      have HR5 := hid (HR4.out.keep hs4 MM.out.2.1)
      clear hw5 hs4 hE5 p0 c0 f0
      have p0 := HB5.out.cell (i := 0) rfl
      go_wp2_with fail
      refine (ewait_mk k _).mono ?_
      rintro e w6 ⟨X, rfl, hX, hF6, hlX⟩
      have HX6 := hid hX
      have HF6 := hid hF6
      have HLX := hid hlX
      have HE6 := hid (HE5.out.same hF6)
      have HW6 := hid (HW5.out.same hF6)
      have HR6 := hid (HR5.out.same hF6)
      have NXW := hid (show X ≠ bW from by have := HW5.out.lt; omega)
      have NXR := hid (show X ≠ bR from by have := HR5.out.lt; omega)
      clear hX hF6 hlX p0
      have c0 : w6.cell? ⟨bW, k, none⟩ = some (.pointer none) := HW6.out.cell (i := k) (show (pt x k)[k]? = some (.pointer none) from by simp [pt, hlt])
      have f0 := HW6.out.frozen k
      go_upto_region 16 with fail
      have hs6 : Fr (fun i => i = bW) w6 (w6.setCell ⟨bW, k, none⟩ (.pointer (some ⟨X, 0, none⟩))) := Fr.setCell _ _ _ rfl
      have hW7 : Blk (w6.setCell ⟨bW, k, none⟩ (.pointer (some ⟨X, 0, none⟩))) bW (pt (updn x k X) (k + 1)) := by rw [← pt_set x k X hlt]; exact HW6.out.set k _
      obtain ⟨w7, hw7⟩ : ∃ w7, w6.setCell ⟨bW, k, none⟩ (.pointer (some ⟨X, 0, none⟩)) = w7 := ⟨_, rfl⟩
      rw [hw7] at hs6 hW7 ⊢
      have HS6 := hid hs6
      have HW7 := hid hW7
      have HE7 := hid (HE6.out.keep hs6 MM.out.1.symm)
      have HR7 := hid (HR6.out.keep hs6 MM.out.2.2)
      have HX7 := hid (HX6.out.keep hs6 NXW.out)
      clear hw7 hs6 hW7 c0 f0
      have hR8 := HR7.out.alloc (.cells #[.int .i64 0, .int .i64 0] 83)
      have HR8 := hid hR8
      have c0 : (w7.alloc (.cells #[.int .i64 0, .int .i64 0] 83)).cell? ⟨bR, k, none⟩ = some (.pointer none) := hR8.cell (i := k) (show (pt y k)[k]? = some (.pointer none) from by simp [pt, hlt])
      have f0 := hR8.frozen k
      clear hR8
      go_wp2_with fail
      obtain ⟨Y, hY⟩ : ∃ Y, w7.heap.size = Y := ⟨_, rfl⟩
      obtain ⟨w8, hw8⟩ : ∃ w8, w7.alloc (.cells #[.int .i64 0, .int .i64 0] 83) = w8 := ⟨_, rfl⟩
      have HF8 := hid (show Fr (fun _ => False) w7 w8 from by rw [← hw8]; exact Fr.alloc _ _ _)
      have HY8 := hid (show Blk w8 Y #[.int .i64 0, .int .i64 0] from by rw [← hw8]; exact (Blk.new _ _ _).at hY)
      have NYR := hid (show Y ≠ bR from by have := HR7.out.lt; omega)
      have LXY := hid (show X ≠ Y from by have := Blk.lt HX7.out; omega)
      have HLY := hid (show w7.heap.size ≤ Y from by omega)
      rw [hw8] at HR8 ⊢
      rw [hY]
      clear hw8 hY c0 f0
      have hs8 : Fr (fun i => i = bR) w8 (w8.setCell ⟨bR, k, none⟩ (.pointer (some ⟨Y, 0, none⟩))) := Fr.setCell _ _ _ rfl
      have hR9 : Blk (w8.setCell ⟨bR, k, none⟩ (.pointer (some ⟨Y, 0, none⟩))) bR (pt (updn y k Y) (k + 1)) := by rw [← pt_set y k Y hlt]; exact HR8.out.set k _
      obtain ⟨w9, hw9⟩ : ∃ w9, w8.setCell ⟨bR, k, none⟩ (.pointer (some ⟨Y, 0, none⟩)) = w9 := ⟨_, rfl⟩
      rw [hw9] at hs8 hR9 ⊢
      have HS8 := hid hs8
      have HR9 := hid hR9
      clear hw9 hs8 hR9
      go_roundg (4 - (k + 1))
      case rel =>
        refine ⟨k + 1, updn x k X, updn y k Y, _, by omega, rfl, by go_num, HM.out.more NE.out (X := X) (Y := Y) (st' := stp st k) ?_ ?_ ?_ HR9.out ?_ ?_ ?_ ?_ ?_ LXY.out, HT.out.step (by omega) hlt⟩
        · have hb : ∀ i, b.own i → i ≠ bE ∧ i ≠ bW ∧ i ≠ bR := fun i hi => ⟨fun hh => NN.out.1 (hh ▸ hi), fun hh => NN.out.2.1 (hh ▸ hi), fun hh => NN.out.2.2 (hh ▸ hi)⟩
          exact ((((((HM3.out.same HF4.out).keep HS4.out (fun i hi hh => (hb i hi).1 hh)).same HF6.out).keep HS6.out (fun i hi hh => (hb i hi).2.1 hh)).same HF8.out).keep HS8.out (fun i hi hh => (hb i hi).2.2 hh))
        · exact (HE7.out.same HF8.out).keep HS8.out MM.out.2.1.symm
        · exact (HW7.out.same HF8.out).keep HS8.out MM.out.2.2.symm
        · exact (((((((HF3.out.mono fun _ h => .inl h).trans (HF4.out.mono fun _ h => h.elim)).trans (HS4.out.mono fun _ h => .inr (.inl h))).trans (HF6.out.mono fun _ h => h.elim)).trans (HS6.out.mono fun _ h => .inr (.inr (.inl h)))).trans (HF8.out.mono fun _ h => h.elim)).trans (HS8.out.mono fun _ h => .inr (.inr (.inr h))))
        · exact (HX7.out.same HF8.out).keep HS8.out NXR.out
        · exact HY8.out.keep HS8.out NYR.out
        · have := HF3.out.size; have := HF4.out.size; have := HS4.out.size; have := HLX.out; omega
        · have := HF3.out.size; have := HF4.out.size; have := HS4.out.size; have := HF6.out.size; have := HS6.out.size; have := HLY.out; omega
      case measure => omega
    · obtain rfl : k = 3 := by have := HK.out; omega
      clear HK hlt
      go_wp2_with fail
      refine (full_mk b [0, 0, 0] 3 st 0 0 _ HM.out.hM rfl (by rw [HT.out.len]; omega) rfl).mono ?_
      rintro e w3 ⟨rfl, hM3, hF3⟩
      have HM3 := hid (HM.out.mach HE.out hM3 hF3)
      clear hM3 hF3 HM
      rcases tn : decide ((300 : Int) < (n : Int)) with _ | _
      rotate_left 1
      · go_wp2_with fail
        refine (awake_ok _).mono ?_
        rintro e w9 ⟨rfl, hF9⟩
        go_wp2_with fail
        go_ret
        exact ⟨rfl, (HM3.out.hF.trans ((Fr.alloc _ _ _).trans hF9)).below (Nat.le_refl _) (fun _ hh => hh.elim)⟩
      have HNN := hid (show n ≤ 300 from by simp at tn; omega)
      go_wp2_with fail
      have HM4 := hid (HM3.out.same (Fr.alloc _ w3 (.cells #[.int .i64 0] 76)))
      clear tn HM3
      go_loopg [13, 14] (n + 1) (fun d z z2 wr => ActRel w0 b bE bW bR bT x y n d z z2 wr)
      case atStart => exact ⟨0, 3, [0, 0, 0], _, _, st, by omega, by omega, rfl, rfl, HM4.out, HT.out, by omega, rfl, fun j hj => by
        match j, hj with
        | 0, _ => exact ⟨by decide, by decide⟩
        | 1, _ => exact ⟨by decide, by decide⟩
        | 2, _ => exact ⟨by decide, by decide⟩⟩
      case round =>
        clear HM4 HT
        obtain ⟨i, did, T, a, s, st2, hi, rfl, rfl, rfl, hM, hA⟩ := hrel
        have HM := hid hM
        have HA := hid hA
        clear hM hA
        by_cases hlt : i < n
        · have hlt2 : (i : Int) < n := by omega
          obtain ⟨gl, ol, rfl, hcl⟩ := row_at3 HR.out hlt
          obtain ⟨k0, k1, k2⟩ := hcl _ HM.out.hF
          clear hcl
          obtain ⟨Q, hQ⟩ : ∃ X, f i 0 = X := ⟨_, rfl⟩
          obtain ⟨X, hX⟩ : ∃ X, f i 1 = X := ⟨_, rfl⟩
          obtain ⟨V, hV⟩ : ∃ X, f i 2 = X := ⟨_, rfl⟩
          rw [hQ] at k0
          rw [hX] at k1
          rw [hV] at k2
          clear hX hQ hV
          have h1 := tmod_bd X 3 (by omega)
          have h2 := tmod_rd X 3 (by omega)
          have h3 := Int.emod_nonneg X (show (3 : Int) ≠ 0 by omega)
          have h4 := Int.emod_lt_of_pos X (show 0 < (3 : Int) by omega)
          obtain ⟨tm, htm⟩ : ∃ t, X.tmod 3 = t := ⟨_, rfl⟩
          obtain ⟨u, hu⟩ := Int.eq_ofNat_of_zero_le h3
          rw [htm] at h1 h2
          rw [hu] at h2 h4
          have u3 : u < 3 := by omega
          have hn := HNN.out
          clear h3 hu hi
          have HAD := hid HA.out.di
          go_upto_region 27 with fail
          clear h1 h2 h4 htm
          obtain ⟨vb, hvb⟩ : ∃ v, (decide (V < 0) || decide (2 < V)) = v := ⟨_, rfl⟩
          have HVB := hid hvb
          clear hvb
          go_cut [115] from 110 to 115 (fun z wx => CutB vb wr z wx)
          case first =>
            rcases hv1 : decide (V < 0) with _ | _
            · rcases hv2 : decide (2 < V) with _ | _
              · go_wp2_with fail
                go_meet
                exact ⟨by rw [← HVB.out, hv1, hv2]; rfl, rfl⟩
              · go_wp2_with fail
                go_meet
                exact ⟨by rw [← HVB.out, hv1, hv2]; rfl, rfl⟩
            · go_wp2_with fail
              go_meet
              exact ⟨by rw [← HVB.out, hv1]; rfl, rfl⟩
          case rest =>
            obtain ⟨rfl, hwc⟩ := hcut
            subst hwc
            go_upto_if 115 with fail
            go_cut [17] from 110 to 115 (fun z wx => CutW V wr z wx)
            case first =>
              cases vb with
              | true =>
                have := HVB.out
                go_wp2_with fail
                go_meet
                exact ⟨10, false, rfl, .inr ⟨rfl, rfl, by simp at this; omega⟩, rfl⟩
              | false =>
                have := HVB.out
                go_wp2_with fail
                go_meet
                exact ⟨0, true, rfl, .inl ⟨rfl, rfl, by simp at this; omega⟩, rfl⟩
            case rest =>
            obtain ⟨wn, ok, rfl, hw, hwc⟩ := hcut
            subst hwc
            have HW := hid hw
            have tok : (wn == 0) = ok := by rcases hw with ⟨h1, h2, _⟩ | ⟨h1, h2, _⟩ <;> (rw [h1, h2]; rfl)
            clear hw HVB vb
            go_upto_block 4 with fail
            clear tok
            go_cut [18, 19, 20] from 118 to 221 (fun o _ _ wx => CameA w0 b bE bW bR bT x y i did o wx)
            case first =>
              rcases HW.out with ⟨rfl, rfl, hw⟩ | ⟨rfl, rfl, hw⟩
              · clear HW
                as_aux_lemma =>
                  obtain ⟨g, rfl⟩ := Int.eq_ofNat_of_zero_le hw.1
                  have G3 := hid (show g < 3 from by omega)
                  clear hw
                  have HI9 := hid (show i ≤ 900 from by have := HNN.out; omega)
                  have HTB := hid (HA.out.tb u u3)
                  have cE := HM.out.cE u u3
                  have cW := HM.out.cW u u3
                  have cR := HM.out.cR u u3
                  have cT := HM.out.cT u (by rw [HA.out.tl]; exact u3)
                  have tb1 := HTB.out.1
                  have tb2 : T.getD u 0 ≤ 300 := by have := HTB.out.2; have := HNN.out; omega
                  have tvv : (T.getD u 0 != T.getD u 0) = false := by simp
                  obtain ⟨Tu, hTu⟩ : ∃ z, T.getD u 0 = z := ⟨_, rfl⟩
                  have HTU := hid hTu
                  rw [hTu] at cT tb1 tb2 tvv
                  clear hTu
                  have hu0 : (0 : Int) ≤ (u : Int) := by omega
                  have hu3 : (u : Int) < 3 := by omega
                  have HX := hid (HM.out.hx u u3).1
                  have HY := hid (HM.out.hy u u3).1
                  have HOX := hid (show ¬ b.own (x u) from fun hh => by have := HE.out.ob _ hh; have := HE.out.e1; have := HE.out.e2; have := HE.out.e3; have := (HM.out.hx u u3).2; omega)
                  rcases q0 : (Q == 0) with _ | _
                  rotate_left 1
                  · go_wp2_with fail
                    refine (eread_mk b T 3 st2 g u g u Tu _ HM.out.hM rfl rfl (by rw [HA.out.th.len]; exact G3.out) u3 HTU.out).mono ?_
                    rintro e w7 ⟨rfl, hM7, hF7⟩
                    have HM7 := hid (HM.out.mach HE.out hM7 hF7)
                    clear hM7 hF7 k0 k1 k2 cE cT cW cR
                    have cT := HM7.out.cT u (by rw [HA.out.tl]; exact u3)
                    rw [HTU.out] at cT
                    go_wp2_with fail
                    go_meet
                    exact ⟨true, T, a, s, _, rfl, HM7.out, HA.out.op HI9.out G3.out⟩
                  rcases q1 : (Q == 1) with _ | _
                  rotate_left 1
                  · go_wp2_with fail
                    refine (etell_mk b T 3 st2 g u g u (Tu + 1) _ HM.out.hM rfl rfl (by rw [HA.out.th.len]; exact G3.out) u3 (by rw [HTU.out]; exact wrap_s Tu tb1 (by omega))).mono ?_
                    rintro e w7 ⟨rfl, hM7, hF7⟩
                    have HM7 := hid (HM.out.mach HE.out hM7 hF7)
                    clear hM7 hF7 k0 k1 k2 cE cT cW cR
                    have cT := HM7.out.cT u (by rw [HA.out.tl]; exact u3)
                    rw [HTU.out] at cT
                    have fT := HM7.out.hT.frozen u
                    go_wp2_with fail
                    go_meet
                    exact ⟨true, T.set u (Tu + 1), a, s, _, rfl, HM7.out.told HE.out u (Tu + 1), by have := HA.out.tell HI9.out G3.out u3; rwa [HTU.out] at this⟩
                  rcases q2 : (Q == 2) with _ | _
                  rotate_left 1
                  · go_wp2_with fail
                    refine (wready_mk b T 3 st2 g u g Tu (x u) u (a u) (s u) _ HM.out.hM HX.out HOX.out rfl rfl (by rw [HA.out.th.len]; exact G3.out) u3 HTU.out).mono ?_
                    rintro e w7 ⟨rfl, hM7, hX7, hF7⟩
                    have HM7 := hid (HM.out.ready HE.out u3 hM7 hX7 hF7)
                    clear hM7 hX7 hF7 k0 k1 k2 cE cT cW cR
                    have HS := hid (show ∀ v, Fr (fun i => i = y u) w7 v → v.cell? ⟨bR, u, none⟩ = some (.pointer (some ⟨y u, 0, none⟩)) ∧ v.cell? ⟨bT, u, none⟩ = some (.int .i64 Tu) from fun v F => by
                      have h2 := (HM7.out.hy u u3).2
                      have := HE.out.e1; have := HE.out.e2; have := HE.out.e3
                      refine ⟨(HM7.out.hR.keep F (fun hh => by have hh2 : bR = y u := hh; omega)).cell (pt_at _ _ _ u3 u3), ?_⟩
                      have h3 := (HM7.out.hT.keep F (fun hh => by have hh2 : bT = y u := hh; omega)).cell (ints_at _ u (by rw [HA.out.tl]; exact u3))
                      rwa [HTU.out] at h3)
                    have HFd := hid (Fr.refl (fun _ => False) w7)
                    have HFe := hid (Fr.refl (fun i => i = y u) w7)
                    have HRD := hid (fun (v : World) (F : Fr (fun _ => False) w7 v) => rready_ok (y u) (a u) (s u) Tu v ((HM7.out.hy u u3).1.same F))
                    go_upto_region 45 with fail
                    go_region_held3 (fun v => v.cell? ⟨bR, u, none⟩ = some (.pointer (some ⟨y u, 0, none⟩)) ∧ v.cell? ⟨bT, u, none⟩ = some (.int .i64 Tu))
                      (first | exact HS.out _ HFe.out | exact HS.out _ (HFe.out.trans (Fr.drew _ _)))
                      (first
                        | (go_at_call 37; ((with_reducible refine (HRD.out _ (by first | exact HFd.out | exact HFd.out.trans (Fr.drew _ _))).mono ?_); rintro e w8 ⟨rfl, hY8, hF8⟩; have HFe := hid (HFe.out.trans (Fr.trans (by first | exact Fr.refl _ _ | exact Fr.drew _ _) hF8)); have HY8 := hid hY8; clear hF8 hY8)))
                    all_goals
                      have HM8 := hid (HM7.out.ref HE.out u3 (by first | exact HY8.out | exact HY8.out.same (Fr.drew _ _)) HFe.out)
                      go_wp2_with fail
                      go_meet
                      exact ⟨true, T, _, _, _, rfl, HM8.out, HA.out.op HI9.out G3.out⟩
                  rcases q3 : (Q == 3) with _ | _
                  rotate_left 1
                  · have NXY := hid (HM.out.xy u u u3 u3)
                    have NYX := hid (show ¬ (y u = x u) from fun hh => NXY.out hh.symm)
                    have HS := hid (show ∀ v, Fr (fun i => i = x u ∨ i = y u) wr v → v.cell? ⟨bW, u, none⟩ = some (.pointer (some ⟨x u, 0, none⟩)) ∧ v.cell? ⟨bR, u, none⟩ = some (.pointer (some ⟨y u, 0, none⟩)) from fun v F => by
                      have h1 := (HM.out.hx u u3).2
                      have h2 := (HM.out.hy u u3).2
                      have := HE.out.e1; have := HE.out.e2; have := HE.out.e3
                      exact ⟨(HM.out.hW.keep F (fun hh => by rcases hh with hh | hh <;> omega)).cell (pt_at _ _ _ u3 u3), (HM.out.hR.keep F (fun hh => by rcases hh with hh | hh <;> omega)).cell (pt_at _ _ _ u3 u3)⟩)
                    have HFd := hid (Fr.refl (fun _ => False) wr)
                    have HFe := hid (Fr.refl (fun i => i = x u ∨ i = y u) wr)
                    by_cases ha : a u = 1
                    · have hx0 := HX.out
                      have hy0 := HY.out
                      rw [ha] at hx0 hy0
                      have HX1 := hid hx0
                      have HY1 := hid hy0
                      clear ha hx0 hy0
                      have HP1 := hid (fun (v : World) (F : Fr (fun _ => False) wr v) => wpark_ok (x u) u (s u) v (HX1.out.same F))
                      have HP2 := hid (fun (v : World) (F : Fr (fun i => i = x u) wr v) => rpark_ok (y u) (s u) v (HY1.out.keep F NYX.out))
                      go_upto_region 48 with fail
                      go_region_held3 (fun v => v.cell? ⟨bW, u, none⟩ = some (.pointer (some ⟨x u, 0, none⟩)) ∧ v.cell? ⟨bR, u, none⟩ = some (.pointer (some ⟨y u, 0, none⟩)))
                        (first | exact HS.out _ HFe.out | exact HS.out _ (HFe.out.trans (Fr.drew _ _)))
                        (first
                          | (go_at_call 38; ((with_reducible refine (HP1.out _ (by first | exact HFd.out | exact HFd.out.trans (Fr.drew _ _))).mono ?_); rintro e w8 ⟨rfl, hX8, hF8⟩; have HFe := hid (HFe.out.trans (Fr.trans (by first | exact Fr.refl _ _ | exact Fr.drew _ _) (hF8.mono fun _ h => Or.inl h))); have HFx := hid (Fr.trans (HFd.out.mono fun _ h => h.elim) (Fr.trans (by first | exact Fr.refl _ _ | exact Fr.drew _ _) hF8)); have HX8 := hid hX8; have HW8 := hid (show w8 = w8 from rfl); have HFz := hid (Fr.refl (fun _ => False) w8); clear hF8 hX8))
                          | (go_at_call 39; ((with_reducible refine (HP2.out _ (by first | exact HFx.out.trans (HFz.out.mono fun _ h => h.elim) | exact HFx.out.trans ((HFz.out.trans (Fr.drew _ _)).mono fun _ h => h.elim))).mono ?_); rintro e w9 ⟨rfl, hY9, hF9⟩; have HFe := hid (HFe.out.trans (Fr.trans (by first | exact Fr.refl _ _ | exact Fr.drew _ _) (hF9.mono fun _ h => Or.inr h))); have HFy := hid (Fr.trans (HFz.out.mono fun _ h => h.elim) (Fr.trans (by first | exact Fr.refl _ _ | exact Fr.drew _ _) hF9)); have HY9 := hid hY9; clear hF9 hY9)))
                      all_goals
                        have HMa := hid (HM.out.wait HE.out u3 HX8.out HFx.out)
                        have HMb := hid (HMa.out.ref HE.out u3 (by first | exact HY9.out | exact HY9.out.same (Fr.drew _ _)) HFy.out)
                        go_wp2_with fail
                        go_meet
                        exact ⟨false, T, updi a u 2, updi s u (s u), _, rfl, HMb.out, HA.out.up⟩
                    · have HNA := hid ha
                      have HX1 := hid HX.out
                      have HY1 := hid HY.out
                      clear ha
                      have HP1 := hid (fun (v : World) (F : Fr (fun _ => False) wr v) => wpark_no (x u) u (a u) (s u) v (HX1.out.same F) HNA.out)
                      have HP2 := hid (fun (v : World) (F : Fr (fun _ => False) wr v) => rpark_no (y u) (a u) (s u) v (HY1.out.same F) HNA.out)
                      go_upto_region 48 with fail
                      go_region_held3 (fun v => v.cell? ⟨bW, u, none⟩ = some (.pointer (some ⟨x u, 0, none⟩)) ∧ v.cell? ⟨bR, u, none⟩ = some (.pointer (some ⟨y u, 0, none⟩)))
                        (first | exact HS.out _ HFe.out | exact HS.out _ (HFe.out.trans (Fr.drew _ _)))
                        (first
                          | (go_at_call 38; ((with_reducible refine (HP1.out _ (by first | exact HFd.out | exact HFd.out.trans (Fr.drew _ _))).mono ?_); rintro e w8 ⟨rfl, hF8⟩; have HFe := hid (HFe.out.trans (Fr.trans (by first | exact Fr.refl _ _ | exact Fr.drew _ _) (Fr.of_eq' hF8))); have HFd := hid (HFd.out.trans (Fr.trans (by first | exact Fr.refl _ _ | exact Fr.drew _ _) (Fr.of_eq' hF8))); clear hF8))
                          | (go_at_call 39; ((with_reducible refine (HP2.out _ (by first | exact HFd.out | exact HFd.out.trans (Fr.drew _ _))).mono ?_); rintro e w9 ⟨rfl, hF9⟩; have HFe := hid (HFe.out.trans (Fr.trans (by first | exact Fr.refl _ _ | exact Fr.drew _ _) (Fr.of_eq' hF9))); have HFd := hid (HFd.out.trans (Fr.trans (by first | exact Fr.refl _ _ | exact Fr.drew _ _) (Fr.of_eq' hF9))); clear hF9)))
                      all_goals
                        have HMb := hid (HM.out.same HFd.out)
                        go_wp2_with fail
                        go_meet
                        exact ⟨false, T, a, s, _, rfl, HMb.out, HA.out.up⟩
                  rcases q4 : (Q == 4) with _ | _
                  rotate_left 1
                  · go_wp2_with fail
                    refine (wleave_ok (x u) u (a u) (s u) _ HX.out).mono ?_
                    rintro e w7 ⟨rfl, hX7, hF7⟩
                    have HM7 := hid (HM.out.wait HE.out u3 hX7 hF7)
                    clear hX7 hF7 k0 k1 k2 cE cT cW cR
                    have cR := HM7.out.cR u u3
                    have HY7 := hid (HM7.out.hy u u3).1
                    have y0 := HY7.out.cell (i := 0) rfl
                    have f0 := HY7.out.frozen 0
                    go_wp2_with fail
                    go_meet
                    exact ⟨false, T, updi a u 0, updi s u (s u), _, rfl, HM7.out.ref HE.out u3 (a' := 0) (s' := s u) (by simpa using HY7.out.set 0 (.int .i64 0)) (Fr.setCell _ _ _ rfl), HA.out.up⟩
                  go_wp2_with fail
                  go_meet
                  exact ⟨false, T, a, s, _, rfl, HM.out, HA.out.up⟩
              · clear HW
                as_aux_lemma =>
                  have HVO := hid hw
                  clear hw
                  have HI9 := hid (show i ≤ 900 from by have := HNN.out; omega)
                  have HTB := hid (HA.out.tb u u3)
                  have cE := HM.out.cE u u3
                  have cW := HM.out.cW u u3
                  have cR := HM.out.cR u u3
                  have cT := HM.out.cT u (by rw [HA.out.tl]; exact u3)
                  have tb1 := HTB.out.1
                  have tb2 : T.getD u 0 ≤ 300 := by have := HTB.out.2; have := HNN.out; omega
                  have tvv : (T.getD u 0 != T.getD u 0) = false := by simp
                  obtain ⟨Tu, hTu⟩ : ∃ z, T.getD u 0 = z := ⟨_, rfl⟩
                  have HTU := hid hTu
                  rw [hTu] at cT tb1 tb2 tvv
                  clear hTu
                  have hu0 : (0 : Int) ≤ (u : Int) := by omega
                  have hu3 : (u : Int) < 3 := by omega
                  have HX := hid (HM.out.hx u u3).1
                  have HY := hid (HM.out.hy u u3).1
                  have HOX := hid (show ¬ b.own (x u) from fun hh => by have := HE.out.ob _ hh; have := HE.out.e1; have := HE.out.e2; have := HE.out.e3; have := (HM.out.hx u u3).2; omega)
                  rcases q0 : (Q == 0) with _ | _
                  rotate_left 1
                  · go_wp2_with fail
                    refine (eread_no b (mk T 3 st2) V u _ HM.out.hM (fun hh => by have h4 : V < ((st2.length : Nat) : Int) := hh.2.1; rw [HA.out.th.len] at h4; have h5 : 0 ≤ V := hh.1; have := HVO.out; omega)).mono ?_
                    rintro e w7 ⟨rfl, hF7⟩
                    have HM7 := hid (HM.out.same hF7)
                    clear hF7 k0 k1 k2 cE cT cW cR
                    go_wp2_with fail
                    go_meet
                    exact ⟨false, T, a, s, _, rfl, HM7.out, HA.out.up⟩
                  rcases q1 : (Q == 1) with _ | _
                  rotate_left 1
                  · go_wp2_with fail
                    refine (etell_no b (mk T 3 st2) V u _ HM.out.hM (fun hh => by have h4 : V < ((st2.length : Nat) : Int) := hh.2.1; rw [HA.out.th.len] at h4; have h5 : 0 ≤ V := hh.1; have := HVO.out; omega)).mono ?_
                    rintro e w7 ⟨rfl, hM7, hF7⟩
                    have HM7 := hid (HM.out.mach HE.out hM7 hF7)
                    clear hM7 hF7 k0 k1 k2 cE cT cW cR
                    go_wp2_with fail
                    go_meet
                    exact ⟨false, T, a, s, _, rfl, HM7.out, HA.out.up⟩
                  rcases q2 : (Q == 2) with _ | _
                  rotate_left 1
                  · go_wp2_with fail
                    refine (wready_no b (mk T 3 st2) V u (x u) (a u) (s u) _ HX.out HM.out.hM (fun hh => by have h4 : V < ((st2.length : Nat) : Int) := hh.2.1; rw [HA.out.th.len] at h4; have h5 : 0 ≤ V := hh.1; have := HVO.out; omega)).mono ?_
                    rintro e w7 ⟨rfl, hF7⟩
                    have HM7 := hid (HM.out.same hF7)
                    clear hF7 k0 k1 k2 cE cT cW cR
                    go_wp2_with fail
                    go_meet
                    exact ⟨false, T, a, s, _, rfl, HM7.out, HA.out.up⟩
                  rcases q3 : (Q == 3) with _ | _
                  rotate_left 1
                  · have NXY := hid (HM.out.xy u u u3 u3)
                    have NYX := hid (show ¬ (y u = x u) from fun hh => NXY.out hh.symm)
                    have HS := hid (show ∀ v, Fr (fun i => i = x u ∨ i = y u) wr v → v.cell? ⟨bW, u, none⟩ = some (.pointer (some ⟨x u, 0, none⟩)) ∧ v.cell? ⟨bR, u, none⟩ = some (.pointer (some ⟨y u, 0, none⟩)) from fun v F => by
                      have h1 := (HM.out.hx u u3).2
                      have h2 := (HM.out.hy u u3).2
                      have := HE.out.e1; have := HE.out.e2; have := HE.out.e3
                      exact ⟨(HM.out.hW.keep F (fun hh => by rcases hh with hh | hh <;> omega)).cell (pt_at _ _ _ u3 u3), (HM.out.hR.keep F (fun hh => by rcases hh with hh | hh <;> omega)).cell (pt_at _ _ _ u3 u3)⟩)
                    have HFd := hid (Fr.refl (fun _ => False) wr)
                    have HFe := hid (Fr.refl (fun i => i = x u ∨ i = y u) wr)
                    by_cases ha : a u = 1
                    · have hx0 := HX.out
                      have hy0 := HY.out
                      rw [ha] at hx0 hy0
                      have HX1 := hid hx0
                      have HY1 := hid hy0
                      clear ha hx0 hy0
                      have HP1 := hid (fun (v : World) (F : Fr (fun _ => False) wr v) => wpark_ok (x u) u (s u) v (HX1.out.same F))
                      have HP2 := hid (fun (v : World) (F : Fr (fun i => i = x u) wr v) => rpark_ok (y u) (s u) v (HY1.out.keep F NYX.out))
                      go_upto_region 48 with fail
                      go_region_held3 (fun v => v.cell? ⟨bW, u, none⟩ = some (.pointer (some ⟨x u, 0, none⟩)) ∧ v.cell? ⟨bR, u, none⟩ = some (.pointer (some ⟨y u, 0, none⟩)))
                        (first | exact HS.out _ HFe.out | exact HS.out _ (HFe.out.trans (Fr.drew _ _)))
                        (first
                          | (go_at_call 38; ((with_reducible refine (HP1.out _ (by first | exact HFd.out | exact HFd.out.trans (Fr.drew _ _))).mono ?_); rintro e w8 ⟨rfl, hX8, hF8⟩; have HFe := hid (HFe.out.trans (Fr.trans (by first | exact Fr.refl _ _ | exact Fr.drew _ _) (hF8.mono fun _ h => Or.inl h))); have HFx := hid (Fr.trans (HFd.out.mono fun _ h => h.elim) (Fr.trans (by first | exact Fr.refl _ _ | exact Fr.drew _ _) hF8)); have HX8 := hid hX8; have HW8 := hid (show w8 = w8 from rfl); have HFz := hid (Fr.refl (fun _ => False) w8); clear hF8 hX8))
                          | (go_at_call 39; ((with_reducible refine (HP2.out _ (by first | exact HFx.out.trans (HFz.out.mono fun _ h => h.elim) | exact HFx.out.trans ((HFz.out.trans (Fr.drew _ _)).mono fun _ h => h.elim))).mono ?_); rintro e w9 ⟨rfl, hY9, hF9⟩; have HFe := hid (HFe.out.trans (Fr.trans (by first | exact Fr.refl _ _ | exact Fr.drew _ _) (hF9.mono fun _ h => Or.inr h))); have HFy := hid (Fr.trans (HFz.out.mono fun _ h => h.elim) (Fr.trans (by first | exact Fr.refl _ _ | exact Fr.drew _ _) hF9)); have HY9 := hid hY9; clear hF9 hY9)))
                      all_goals
                        have HMa := hid (HM.out.wait HE.out u3 HX8.out HFx.out)
                        have HMb := hid (HMa.out.ref HE.out u3 (by first | exact HY9.out | exact HY9.out.same (Fr.drew _ _)) HFy.out)
                        go_wp2_with fail
                        go_meet
                        exact ⟨false, T, updi a u 2, updi s u (s u), _, rfl, HMb.out, HA.out.up⟩
                    · have HNA := hid ha
                      have HX1 := hid HX.out
                      have HY1 := hid HY.out
                      clear ha
                      have HP1 := hid (fun (v : World) (F : Fr (fun _ => False) wr v) => wpark_no (x u) u (a u) (s u) v (HX1.out.same F) HNA.out)
                      have HP2 := hid (fun (v : World) (F : Fr (fun _ => False) wr v) => rpark_no (y u) (a u) (s u) v (HY1.out.same F) HNA.out)
                      go_upto_region 48 with fail
                      go_region_held3 (fun v => v.cell? ⟨bW, u, none⟩ = some (.pointer (some ⟨x u, 0, none⟩)) ∧ v.cell? ⟨bR, u, none⟩ = some (.pointer (some ⟨y u, 0, none⟩)))
                        (first | exact HS.out _ HFe.out | exact HS.out _ (HFe.out.trans (Fr.drew _ _)))
                        (first
                          | (go_at_call 38; ((with_reducible refine (HP1.out _ (by first | exact HFd.out | exact HFd.out.trans (Fr.drew _ _))).mono ?_); rintro e w8 ⟨rfl, hF8⟩; have HFe := hid (HFe.out.trans (Fr.trans (by first | exact Fr.refl _ _ | exact Fr.drew _ _) (Fr.of_eq' hF8))); have HFd := hid (HFd.out.trans (Fr.trans (by first | exact Fr.refl _ _ | exact Fr.drew _ _) (Fr.of_eq' hF8))); clear hF8))
                          | (go_at_call 39; ((with_reducible refine (HP2.out _ (by first | exact HFd.out | exact HFd.out.trans (Fr.drew _ _))).mono ?_); rintro e w9 ⟨rfl, hF9⟩; have HFe := hid (HFe.out.trans (Fr.trans (by first | exact Fr.refl _ _ | exact Fr.drew _ _) (Fr.of_eq' hF9))); have HFd := hid (HFd.out.trans (Fr.trans (by first | exact Fr.refl _ _ | exact Fr.drew _ _) (Fr.of_eq' hF9))); clear hF9)))
                      all_goals
                        have HMb := hid (HM.out.same HFd.out)
                        go_wp2_with fail
                        go_meet
                        exact ⟨false, T, a, s, _, rfl, HMb.out, HA.out.up⟩
                  rcases q4 : (Q == 4) with _ | _
                  rotate_left 1
                  · go_wp2_with fail
                    refine (wleave_ok (x u) u (a u) (s u) _ HX.out).mono ?_
                    rintro e w7 ⟨rfl, hX7, hF7⟩
                    have HM7 := hid (HM.out.wait HE.out u3 hX7 hF7)
                    clear hX7 hF7 k0 k1 k2 cE cT cW cR
                    have cR := HM7.out.cR u u3
                    have HY7 := hid (HM7.out.hy u u3).1
                    have y0 := HY7.out.cell (i := 0) rfl
                    have f0 := HY7.out.frozen 0
                    go_wp2_with fail
                    go_meet
                    exact ⟨false, T, updi a u 0, updi s u (s u), _, rfl, HM7.out.ref HE.out u3 (a' := 0) (s' := s u) (by simpa using HY7.out.set 0 (.int .i64 0)) (Fr.setCell _ _ _ rfl), HA.out.up⟩
                  go_wp2_with fail
                  go_meet
                  exact ⟨false, T, a, s, _, rfl, HM.out, HA.out.up⟩
            case rest =>
              as_aux_lemma =>
                obtain ⟨o, T, a, s, st3, rfl, hM, hA⟩ := hcut
                clear HM HA HW
                have HM := hid hM
                have HA := hid hA
                clear hM hA
                obtain ⟨wy, hwy⟩ : ∃ wy, wy = wc := ⟨_, rfl⟩
                rw [← hwy] at HM ⊢
                clear hwy
                go_upto_if 222 with fail
                go_cut [13] from 222 to 224 (fun z wx => CutD o did wy z wx)
                case first =>
                  have hn := HNN.out
                  have hd : did ≤ 1000 := by have := HAD.out; omega
                  cases o with
                  | true =>
                    go_wp2_with fail
                    go_meet
                    exact ⟨did + 1, by go_num, rfl, rfl⟩
                  | false =>
                    go_wp2_with fail
                    go_meet
                    exact ⟨did, rfl, rfl, rfl⟩
                case rest =>
                  obtain ⟨dd, rfl, hdd, hwc⟩ := hcut
                  subst hwc
                  rw [← hdd] at HA
                  clear hdd
                  obtain ⟨p1, p2, p3, hst, hsum⟩ := HA.out.th.eq
                  subst hst
                  have hn := HNN.out
                  have hd : dd ≤ 1000 := by have := HA.out.di; omega
                  have b1 : p1 ≤ 1000 := by omega
                  have b2 : p2 ≤ 1000 := by omega
                  have b3 : p3 ≤ 1000 := by omega
                  have ts : ((p1 : Int) + (p2 : Int) + (p3 : Int) != (dd : Int)) = false := by simp; omega
                  clear hsum
                  go_wp2_with fail
                  refine (steps_mk b T 3 _ 0 0 p1 _ HM.out.hM rfl (by simp) rfl).mono ?_
                  rintro e w' ⟨rfl, rfl⟩
                  go_wp2_with fail
                  refine (steps_mk b T 3 _ 1 1 p2 _ HM.out.hM rfl (by simp) rfl).mono ?_
                  rintro e w' ⟨rfl, rfl⟩
                  go_wp2_with fail
                  refine (steps_mk b T 3 _ 2 2 p3 _ HM.out.hM rfl (by simp) rfl).mono ?_
                  rintro e w' ⟨rfl, rfl⟩
                  go_wp2_with fail
                  clear ts b1 b2 b3 hd hn
                  go_loopg [21] 4 (fun d z wr => SeRel wy d z wr)
                  case atStart => exact ⟨0, by omega, by omega, rfl, Fr.refl _ _⟩
                  case round =>
                    obtain ⟨k, hk, rfl, rfl, hF⟩ := hrel
                    have HMk := hid (HM.out.same hF)
                    have HFk := hid hF
                    have HK := hid hk
                    clear hF hk
                    by_cases hk3 : k < 3
                    · have hk3' : (k : Int) < 3 := by omega
                      have hk0 : (0 : Int) ≤ (k : Int) := by omega
                      obtain ⟨tk, htk⟩ : ∃ z, T.getD k 0 = z := ⟨_, rfl⟩
                      have HTK := hid htk
                      have hb1 : 0 ≤ tk ∧ tk ≤ 1000 := by have := HA.out.tb k hk3; have := HNN.out; omega
                      have HB1 := hid hb1
                      clear htk hb1
                      have tw : IntKind.i64.wrap (tk + 1) = tk + 1 := by rw [IntKind.wrap_i64]; have := HB1.out; omega
                      have tt : (tk != tk) = false := by simp
                      obtain ⟨vv, hvv⟩ : ∃ v, ((a k == 2) && (tk == s k)) = v := ⟨_, rfl⟩
                      have HVV := hid hvv
                      have tv : (vv != vv) = false := by simp
                      clear hvv
                      have HS := hid (show ∀ v, Fr (fun _ => False) wr v → v.cell? ⟨bT, k, none⟩ = some (.int .i64 tk) ∧ v.cell? ⟨bW, k, none⟩ = some (.pointer (some ⟨x k, 0, none⟩)) ∧ v.cell? ⟨bR, k, none⟩ = some (.pointer (some ⟨y k, 0, none⟩)) ∧ v.cell? ⟨bE, k, none⟩ = some (.int .i64 k) from fun v F => by
                        have h1 := (HMk.out.same F).cT k (by rw [HA.out.tl]; exact hk3)
                        rw [HTK.out] at h1
                        exact ⟨h1, (HMk.out.same F).cW k hk3, (HMk.out.same F).cR k hk3, (HMk.out.same F).cE k hk3⟩)
                      have HC1 := hid (fun (v : World) (F : Fr (fun _ => False) wr v) => peek_mk b T 3 _ k k tk v (HMk.out.same F).hM rfl hk3 HTK.out)
                      have HC2 := hid (fun (v : World) (F : Fr (fun _ => False) wr v) => wparked_mk b T 3 _ (x k) k (a k) (s k) vv v (HMk.out.same F).hM ((HMk.out.same F).hx k hk3).1 (by rw [told_any _ _ _ hk3, HTK.out]; exact HVV.out))
                      have HC3 := hid (fun (v : World) (F : Fr (fun _ => False) wr v) => rparked_ok (y k) (a k) (s k) tk vv v ((HMk.out.same F).hy k hk3).1 HVV.out)
                      have HC4 := hid (fun (v : World) (F : Fr (fun _ => False) wr v) => eparked_mk b T 3 _ k tk true v (HMk.out.same F).hM (by rw [told_any _ _ _ hk3, HTK.out]; simp))
                      have HC5 := hid (fun (v : World) (F : Fr (fun _ => False) wr v) => eparked_mk b T 3 _ k (tk + 1) false v (HMk.out.same F).hM (by rw [told_any _ _ _ hk3, HTK.out]; simp; omega))
                      have HFd := hid (Fr.refl (fun _ => False) wr)
                      go_upto_region 61 with fail
                      go_region_held3 (fun v => v.cell? ⟨bT, k, none⟩ = some (.int .i64 tk) ∧ v.cell? ⟨bW, k, none⟩ = some (.pointer (some ⟨x k, 0, none⟩)) ∧ v.cell? ⟨bR, k, none⟩ = some (.pointer (some ⟨y k, 0, none⟩)) ∧ v.cell? ⟨bE, k, none⟩ = some (.int .i64 k))
                        (first | exact HS.out _ HFd.out | exact HS.out _ (HFd.out.trans (Fr.drew _ _)))
                        (first
                          | (go_at_call 28; ((with_reducible refine (HC1.out _ (by first | exact HFd.out | exact HFd.out.trans (Fr.drew _ _))).mono ?_); rintro e w8 ⟨rfl, hF8⟩; have HFd := hid (HFd.out.trans (Fr.trans (by first | exact Fr.refl _ _ | exact Fr.drew _ _) (Fr.of_eq' hF8))); clear hF8))
                          | (go_at_call 41; ((with_reducible refine (HC2.out _ (by first | exact HFd.out | exact HFd.out.trans (Fr.drew _ _))).mono ?_); rintro e w8 ⟨rfl, hF8⟩; have HFd := hid (HFd.out.trans (Fr.trans (by first | exact Fr.refl _ _ | exact Fr.drew _ _) hF8)); clear hF8))
                          | (go_at_call 42; ((with_reducible refine (HC3.out _ (by first | exact HFd.out | exact HFd.out.trans (Fr.drew _ _))).mono ?_); rintro e w8 ⟨rfl, hF8⟩; have HFd := hid (HFd.out.trans (Fr.trans (by first | exact Fr.refl _ _ | exact Fr.drew _ _) hF8)); clear hF8))
                          | (go_at_call 43; ((with_reducible refine (HC4.out _ (by first | exact HFd.out | exact HFd.out.trans (Fr.drew _ _))).mono ?_); rintro e w8 ⟨rfl, hF8⟩; have HFd := hid (HFd.out.trans (Fr.trans (by first | exact Fr.refl _ _ | exact Fr.drew _ _) hF8)); clear hF8))
                          | (go_at_call 43; ((with_reducible refine (HC5.out _ (by first | exact HFd.out | exact HFd.out.trans (Fr.drew _ _))).mono ?_); rintro e w8 ⟨rfl, hF8⟩; have HFd := hid (HFd.out.trans (Fr.trans (by first | exact Fr.refl _ _ | exact Fr.drew _ _) hF8)); clear hF8)))
                      all_goals
                        have HFn := hid (HFk.out.trans HFd.out)
                        go_wp2_with fail
                        go_roundg (4 - (k + 1))
                        case rel => exact ⟨k + 1, by omega, rfl, by go_num, HFn.out⟩
                        case measure => omega
                    · obtain rfl : k = 3 := by have := HK.out; omega
                      go_wp2_with fail
                      go_roundg (n + 1 - (i + 1))
                      case rel => exact ⟨i + 1, dd, T, a, s, _, by omega, rfl, rfl, by go_num, HMk.out, HA.out⟩
                      case measure => omega
        · have hlt2 : ¬ (i : Int) < n := by omega
          go_wp2_with fail
          refine (awake_ok _).mono ?_
          rintro e w9 ⟨rfl, hF9⟩
          go_wp2_with fail
          go_ret
          exact ⟨rfl, (HM.out.hF.trans hF9).below (Nat.le_refl _) (fun _ hh => hh.elim)⟩
end Go.Proofs.Ytlhpngoplmccjaa
