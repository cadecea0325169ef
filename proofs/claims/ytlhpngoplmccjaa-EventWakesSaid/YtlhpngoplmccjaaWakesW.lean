/-
  EventWakes answers true at every input.
-/
import Derived.Test.YtlhpngoplmccjaaEAwake
import Derived.Test.YtlhpngoplmccjaaWakeP
import Derived.Test.YtlhpngoplmccjaaOpen
import Derived.Deep.DeepCutAuto
import Derived.Deep.DeepMust
import Derived.Deep.LoopGhost
namespace Go.Proofs.Ytlhpngoplmccjaa
open Go.RowKit
set_option linter.unusedVariables false

theorem alloc_mk (b : MB) (l : List Int) (u : Nat) (s : List Int) (j n : Nat) (x y v : Int) (w : World) (h : IsM w b (mk l u s)) (hx : x = j) (hy : y = n) (hv : v = u) (hj : j < s.length) (h1 : 1 ≤ n) (hn : u + n ≤ l.length) :
    Calls Try.prog 44 #[.pointer (some ⟨b.m, 0, none⟩), .int .i64 x, .int .i64 y] w fun e w' => e = .returned (.tuple #[.int .i64 v, .int .i64 0]) ∧ IsM w' b (mk l (u + n) (stp s j)) ∧ Fr b.own w w' := by
  subst hx hy hv
  exact alloc_ok b (mk l u s) j n w h hj h1 hn

theorem Try.infow : (Try.prog.info? 79).map (fun i => (i.zero, i.size, i.bytes)) = some (some (.pointer none), 1, 8) := by kernel_rfl


theorem row_at1 {w : World} {a : Option Addr} {len i : Nat} {f : Nat → Nat → Int} (h : Row w a len 1 f) (hi : i < len) :
    ∃ b off, a = some ⟨b, off, none⟩ ∧ (∀ v, Fr (fun _ => False) w v → v.cell? ⟨b, off + i, none⟩ = some (.int .i64 (f i 0))) := by
  obtain ⟨b, off, ha, hb, hc⟩ := h (by omega)
  refine ⟨b, off, ha, fun v hf => ?_⟩
  have := (hc i 0 hi (by omega)).1
  rw [show off + (i * 1 + 0) = off + i by omega] at this
  rw [← this]
  exact World.cell?_of_block (w := w) (hf.block b hb id)

theorem add_mk (b : MB) (l : List Int) (u : Nat) (s : List Int) (j k : Nat) (x y v : Int) (l' : List Int) (w : World) (h : IsM w b (mk l u s)) (hx : x = j) (hy : y = k) (hj : j < s.length) (hk : k < u) (hl : l.set k (wrap64 (l.getD k 0 + 1)) = l') (hv : l.getD k 0 = v) :
    Calls Try.prog 45 #[.pointer (some ⟨b.m, 0, none⟩), .int .i64 x, .int .i64 y, .int .i64 1] w fun e w' => e = .returned (.tuple #[.int .i64 v, .int .i64 0]) ∧ IsM w' b (mk l' u (stp s j)) ∧ Fr b.own w w' := by
  subst hx hy hl hv
  exact add_ok b (mk l u s) j k 1 w h hj hk

theorem load_mk (b : MB) (l : List Int) (u : Nat) (s : List Int) (j k : Nat) (x y v : Int) (w : World) (h : IsM w b (mk l u s)) (hx : x = j) (hy : y = k) (hj : j < s.length) (hk : k < u) (hv : l.getD k 0 = v) :
    Calls Try.prog 46 #[.pointer (some ⟨b.m, 0, none⟩), .int .i64 x, .int .i64 y] w fun e w' => e = .returned (.tuple #[.int .i64 v, .int .i64 0]) ∧ IsM w' b (mk l u (stp s j)) ∧ Fr b.own w w' := by
  subst hx hy hv
  exact load_ok b (mk l u s) j k w h hj hk

def casB (c o : Int) : Bool := c == o

theorem cas_mk (b : MB) (t c : Int) (u : Nat) (s : List Int) (j : Nat) (x y o v : Int) (w : World) (h : IsM w b (mk [t, c] u s)) (hx : x = j) (hy : y = 1) (hj : j < s.length) (hk : 1 < u) :
    Calls Try.prog 47 #[.pointer (some ⟨b.m, 0, none⟩), .int .i64 x, .int .i64 y, .int .i64 o, .int .i64 v] w fun e w' => e = .returned (.tuple #[.bool (casB c o), .int .i64 0]) ∧ IsM w' b (mk [t, if c = o then v else c] u (stp s j)) ∧ Fr b.own w w' := by
  subst hx
  rw [show y = ((1 : Nat) : Int) from hy]
  by_cases ho : c = o
  · have e : casB c o = true := by simp [casB, ho]
    rw [e, if_pos ho]
    exact cas_yes b (mk [t, c] u s) j 1 o v w h hj hk ho
  · have e : casB c o = false := by simp [casB, ho]
    rw [e, if_neg ho]
    exact cas_not b (mk [t, c] u s) j 1 o v w h hj hk ho

theorem peek_mk (b : MB) (l : List Int) (u : Nat) (s : List Int) (j : Nat) (x v : Int) (w : World) (h : IsM w b (mk l u s)) (hx : x = j) (hj : j < u) (hv : l.getD j 0 = v) :
    Calls Try.prog 28 #[.pointer (some ⟨b.m, 0, none⟩), .int .i64 x] w fun e w' => e = .returned (.int .i64 v) ∧ w = w' := by
  subst hx hv
  exact peek_in b (mk l u s) j w h hj

theorem wrap_small (c : Int) (h0 : 0 ≤ c) (h1 : c ≤ 1000) : wrap64 (c + 1) = c + 1 := by unfold wrap64; omega

def WtRel (w0 : World) (b : MB) (be bn bs bw : Nat) (s1 : List Int) (d : Nat) (z : Value) (wr : World) : Prop :=
  ∃ (k : Nat) (x : Nat → Nat), k ≤ 6 ∧ d = 6 + 1 - k ∧ z = .int .i64 k ∧ IsM wr b (mk [0, 0] 2 s1) ∧ Blk wr be #[.int .i64 0] ∧ Blk wr bn (ints [0, 0, 0, 0, 0, 0]) ∧ Blk wr bs (ints [0, 0, 0, 0, 0, 0]) ∧ Blk wr bw (pl x k)
    ∧ (∀ j, j < k → WT wr (x j) 0 0 0 ∧ bw < x j) ∧ (∀ i j, i < k → j < k → x i = x j → i = j) ∧ Fr (fun _ => False) w0 wr

def WkRel (w0 : World) (b : MB) (be bn bs bw : Nat) (x : Nat → Nat) (n : Nat) (d : Nat) (z : Value) (wr : World) : Prop :=
  ∃ (i : Nat) (t c : Int) (N S : List Int) (a s : Nat → Int) (st : List Int), i ≤ n ∧ d = n + 1 - i ∧ z = .int .i64 i ∧ Mem w0 b be bn bs bw x t c N S a s st wr ∧ WI i t c N S a s

def CameW (w0 : World) (b : MB) (be bn bs bw : Nat) (x : Nat → Nat) (i : Nat) (z : Value) (wr : World) : Prop :=
  z = .int .i64 0 ∧ ∃ (t c : Int) (N S : List Int) (a s : Nat → Int) (st : List Int), Mem w0 b be bn bs bw x t c N S a s st wr ∧ WI i t c N S a s

def pre (N : List Int) : Nat → Int
  | 0 => 0
  | k + 1 => pre N k + N.getD k 0

def ThRel (N : List Int) (c : Int) (wd : World) (d : Nat) (z y : Value) (wr : World) : Prop :=
  ∃ k : Nat, k ≤ 3 ∧ d = 3 + 1 - k ∧ z = .int .i64 (c - pre N k) ∧ y = .int .i64 k ∧ wd = wr

def EdRel (wd : World) (d : Nat) (z : Value) (wr : World) : Prop :=
  ∃ k : Nat, 3 ≤ k ∧ k ≤ 6 ∧ d = 6 + 1 - k ∧ z = .int .i64 k ∧ Fr (fun _ => False) wd wr

theorem WI.init : WI 0 0 0 [0, 0, 0, 0, 0, 0] [0, 0, 0, 0, 0, 0] (fun _ => 0) (fun _ => 0) :=
  ⟨by omega, by omega, by omega, by omega, rfl, rfl, fun j hj => .inl (match j, hj with | 0, _ => rfl | 1, _ => rfl | 2, _ => rfl), fun j j3 j6 => by
    have e : ([0, 0, 0, 0, 0, 0] : List Int).getD j 0 = 0 := match j, j6 with | 0, _ => rfl | 1, _ => rfl | 2, _ => rfl | 3, _ => rfl | 4, _ => rfl | 5, _ => rfl
    rw [e]
    exact ⟨by omega, by omega, by omega, by omega, by omega, by omega, by omega⟩⟩

theorem WI.pend0 {i : Nat} {t c : Int} {N S : List Int} {a s : Nat → Int} (h : WI i t c N S a s) : 0 ≤ pend N ∧ pend N ≤ 3 := by
  have h0 := h.nx 0 (by omega)
  have h1 := h.nx 1 (by omega)
  have h2 := h.nx 2 (by omega)
  unfold pend
  omega

theorem WI.two {i : Nat} {t c : Int} {N S : List Int} {a s : Nat → Int} (h : WI i t c N S a s) {u : Nat} (u3 : 3 ≤ u) (u6 : u < 6) (n' a' : Int) (H : TI t (c - pend N) n' (S.getD u 0) a' (s u)) :
    WI (i + 1) t c (N.set u n') S (updi a u a') (updi s u (s u)) := by
  have := h.look u3 u6 n' (S.getD u 0) a' (s u) c h.c0 (Int.le_refl _) H
  rwa [set_same S u (by rw [h.sl]; exact u6)] at this

theorem told_two (t c s : Int) : told [t, c] 2 0 s = (t == s) := told_in [t, c] 2 0 s t (by omega) rfl

set_option maxRecDepth 100000 in
set_option maxHeartbeats 4000000 in
theorem wakes_any (A : Option Addr) (n cp : Nat) (f : Nat → Nat → Int) (w0 : World) (hr : Row w0 A n 1 f) :
    Calls Try.prog 6 #[.slice A n cp] w0 fun e w' => e = .returned (.bool true) ∧ Below w0.heap.size w0 w' := by
  have HR := hid hr
  clear hr
  have mw := run_make_row' (P := Try.prog) 73 79 (.pointer none) 8 Try.underlying73 Try.infow rfl .i64 .i64 6 (by omega) (by omega)
  rw [show ((6 : Nat) : Int) = 6 from rfl] at mw
  have HG0 := hid (Fr.refl (fun _ => False) w0)
  go_enter Try.func6, Try.ntmps6
  go_wp2_with fail
  refine (new_mk 2 6 2 6 rfl rfl _ (by omega) (by omega) (by omega) (by omega)).mono ?_
  rintro e w1 ⟨b, rfl, hM, hF, hown⟩
  have HG1 := hid (HG0.out.trans hF)
  have HM1 := hid hM
  have HOWN := hid (show ∀ i, b.own i → w0.heap.size ≤ i from fun i hi => by have := hown i hi; have := HG0.out.size; omega)
  clear hF hM hown HG0
  go_wp2_with fail
  refine (enew_mk b _ _ _ 6 6 0 _ HM1.out rfl rfl (by simp) (by simp)).mono ?_
  rintro e w2 ⟨rfl, hM, hF⟩
  have HG2 := hid (HG1.out.since hF (fun i hi hlt => by have := HOWN.out i hi; omega))
  have HM2 := hid hM
  clear hF hM HG1 HM1
  obtain ⟨s0, hs0⟩ : ∃ s0, stp (List.replicate (6 + 1) 0) 6 = s0 := ⟨_, rfl⟩
  have HSs0 := hid (show s0.length = 7 from by rw [← hs0]; decide +kernel)
  rw [hs0] at HM2
  have HM2 := hid (show IsM w2 b (mk [0, 0] 1 s0) from HM2.out)
  clear hs0
  go_wp2_with fail
  obtain ⟨be, hbe⟩ : ∃ be, w2.heap.size = be := ⟨_, rfl⟩
  obtain ⟨w3, hw3⟩ : ∃ w3, w2.alloc (.cells #[.int .i64 0] 76) = w3 := ⟨_, rfl⟩
  have HBbe3 := hid (show Blk w3 be #[.int .i64 0] from by rw [← hw3]; exact (Blk.new _ _ _).at hbe)
  have hF : Fr (fun _ => False) w2 w3 := by rw [← hw3]; exact Fr.alloc _ _ _
  have HM3 := hid (HM2.out.same hF)
  have HG3 := hid (HG2.out.trans hF)
  have HLbe := hid (show w0.heap.size ≤ be from by have := HG2.out.size; omega)
  have HOB := hid (show ∀ k, b.own k → k < be from fun k hh => by have := HM2.out.own_lt _ hh; omega)
  have nObe := hid (show ¬ b.own be from fun hh => by have := HOB.out _ hh; omega)
  rw [hw3, hbe]
  clear hw3 hF HG2 HM2 hbe
  have pbe := HBbe3.out.cell (i := 0) rfl
  refine (alloc_mk b _ _ _ 6 1 6 1 1 _ HM3.out rfl rfl rfl (by have := HSs0.out; omega) (by omega) (by simp)).mono ?_
  rintro e w4 ⟨rfl, hM, hF⟩
  have HG4 := hid (HG3.out.since hF (fun i hi hlt => by have := HOWN.out i hi; omega))
  have HM4 := hid hM
  have HBbe4 := hid (HBbe3.out.keep hF nObe.out)
  clear hF hM HG3 HM3 HBbe3 pbe
  have pbe := HBbe4.out.cell (i := 0) rfl
  obtain ⟨s1, hs1⟩ : ∃ s1, stp s0 6 = s1 := ⟨_, rfl⟩
  have HSs1 := hid (show s1.length = 7 from by rw [← hs1, stp_len]; exact HSs0.out)
  rw [hs1] at HM4
  have HM4 := hid (show IsM w4 b (mk [0, 0] 2 s1) from HM4.out)
  clear hs1 HSs0
  rcases tn : decide ((300 : Int) < (n : Int)) with _ | _
  rotate_left 1
  · go_wp2_with fail
    refine (awake_ok _).mono ?_
    rintro e w9 ⟨rfl, hF9⟩
    go_wp2_with fail
    go_ret
    exact ⟨rfl, (HG4.out.trans hF9).below (Nat.le_refl _) (fun _ hh => hh.elim)⟩
  have hn : n ≤ 300 := by simp at tn; omega
  go_wp2_with fail
  have HNN := hid hn
  clear mw tn hn
  obtain ⟨w5, hw5⟩ : ∃ w5, ((w4.alloc (.cells #[.int .i64 0, .int .i64 0, .int .i64 0, .int .i64 0, .int .i64 0, .int .i64 0] 97)).alloc (.cells #[.int .i64 0, .int .i64 0, .int .i64 0, .int .i64 0, .int .i64 0, .int .i64 0] 98)).alloc (.cells (madeCells #[.pointer none] 6) 79) = w5 := ⟨_, rfl⟩
  obtain ⟨bn, hbn⟩ : ∃ bn, w4.heap.size = bn := ⟨_, rfl⟩
  obtain ⟨bs, hbs⟩ : ∃ bs, bn + 1 = bs := ⟨_, rfl⟩
  obtain ⟨bw, hbw⟩ : ∃ bw, bs + 1 = bw := ⟨_, rfl⟩
  have HBN5 := hid (show Blk w5 bn (ints [0, 0, 0, 0, 0, 0]) from by rw [← hw5]; exact (((Blk.new w4 #[.int .i64 0, .int .i64 0, .int .i64 0, .int .i64 0, .int .i64 0, .int .i64 0] _).at hbn).alloc _).alloc _)
  have HBS5 := hid (show Blk w5 bs (ints [0, 0, 0, 0, 0, 0]) from by rw [← hw5]; exact ((Blk.new _ #[.int .i64 0, .int .i64 0, .int .i64 0, .int .i64 0, .int .i64 0, .int .i64 0] _).at (by simp; omega)).alloc _)
  have HBW5 := hid (show Blk w5 bw (pl (fun _ => 0) 0) from by rw [← hw5, ← made_pl]; exact (Blk.new _ _ _).at (by simp; omega))
  have hF : Fr (fun _ => False) w4 w5 := by rw [← hw5]; exact ((Fr.alloc _ _ _).trans (Fr.alloc _ _ _)).trans (Fr.alloc _ _ _)
  have HE := hid (show Env w0.heap.size b be bn bs bw from ⟨fun k hk => ⟨HOWN.out k hk, HOB.out k hk⟩, HLbe.out, by have := HBbe4.out.lt; omega, by omega, by omega⟩)
  have HM5 := hid (HM4.out.same hF)
  have HG5 := hid (HG4.out.trans hF)
  have HBbe5 := hid (HBbe4.out.same hF)
  rw [hw5, hbn, hbs, hbw]
  clear hw5 hF hbn hbs hbw HG4 HM4 HBbe4 pbe HOWN HOB HLbe nObe HM2
  have HREL := hid (show WtRel w0 b be bn bs bw s1 7 (.int .i64 0) w5 from ⟨0, fun _ => 0, by omega, by omega, rfl, HM5.out, HBbe5.out, HBN5.out, HBS5.out, HBW5.out, fun j hj => absurd hj (Nat.not_lt_zero _), fun i j hi => absurd hi (Nat.not_lt_zero _), HG5.out⟩)
  clear HM5 HBbe5 HBN5 HBS5 HBW5 HG5
  go_loopg [12] 7 (fun d z wr => WtRel w0 b be bn bs bw s1 d z wr)
  case atStart => exact HREL.out
  case round =>
    clear HREL
    obtain ⟨k, x, hk, rfl, rfl, hM, hB, hN, hS, hW, hx, hxx, hF⟩ := hrel
    have HM := hid hM
    have HB := hid hB
    have HN := hid hN
    have HS := hid hS
    have HW := hid hW
    have HX := hid hx
    have HXX := hid hxx
    have HF := hid hF
    have HK := hid hk
    clear hM hB hN hS hW hx hxx hF hk
    have pbe := HB.out.cell (i := 0) rfl
    by_cases hlt : k < 6
    · have hlt2 : (k : Int) < 6 := by omega
      go_wp2_with fail
      refine (ewait_mk 0 _).mono ?_
      rintro e w6 ⟨y, rfl, hX, hF, hly⟩
      have HW6 := hid (HW.out.same hF)
      have HF6 := hid hF
      have HX6 := hid hX
      have HLY := hid hly
      clear hF hX hly pbe
      have f6 := HW6.out.frozen k
      have c6 : ∃ v, w6.cell? ⟨bw, k, none⟩ = some v := ⟨_, HW6.out.cell (i := k) (show (pl x k)[k]? = some (.pointer none) from by simp [pl, hlt])⟩
      obtain ⟨v6, c6⟩ := c6
      go_wp2_with fail
      have hs : Fr (fun i => i = bw) w6 (w6.setCell ⟨bw, k, none⟩ (.pointer (some ⟨y, 0, none⟩))) := Fr.setCell _ _ _ rfl
      have hW7 : Blk (w6.setCell ⟨bw, k, none⟩ (.pointer (some ⟨y, 0, none⟩))) bw (pl (updn x k y) (k + 1)) := by rw [← pl_set x k y hlt]; exact HW6.out.set k _
      have HF7 := hid hs
      have HW7 := hid hW7
      clear hs hW7 c6 f6
      go_roundg (7 - (k + 1))
      case rel =>
        have hE := HE.out
        have hwl := HW.out.lt
        have := HLY.out
        refine ⟨k + 1, updn x k y, by omega, rfl, by go_num, (HM.out.same HF6.out).keep HF7.out (fun i hi hh => by have := hE.ob _ hi; have := hE.e1; have := hE.e2; have := hE.e3; have hh2 : i = bw := hh; omega), (HB.out.same HF6.out).keep HF7.out (fun hh => by have := hE.e1; have := hE.e2; have := hE.e3; have hh2 : be = bw := hh; omega),
          (HN.out.same HF6.out).keep HF7.out (fun hh => by have := hE.e1; have := hE.e2; have := hE.e3; have hh2 : bn = bw := hh; omega), (HS.out.same HF6.out).keep HF7.out (fun hh => by have := hE.e1; have := hE.e2; have := hE.e3; have hh2 : bs = bw := hh; omega), HW7.out, ?_, ?_, (HF.out.trans HF6.out).since HF7.out (fun i hi hl => by have := hE.b0; have := hE.e1; have := hE.e2; have := hE.e3; have hh2 : i = bw := hi; omega)⟩
        · intro j hj
          unfold updn
          by_cases hj2 : j = k
          · rw [if_pos hj2]
            exact ⟨HX6.out.keep HF7.out (fun hh => by have hh2 : y = bw := hh; omega), by omega⟩
          · rw [if_neg hj2]
            have h1 := HX.out j (by omega)
            exact ⟨(h1.1.same HF6.out).keep HF7.out (fun hh => by have hh2 : x j = bw := hh; omega), h1.2⟩
        · intro i j hi hj
          unfold updn
          by_cases hi2 : i = k
          · by_cases hj2 : j = k
            · intro _; omega
            · rw [if_pos hi2, if_neg hj2]
              intro hh
              have := Blk.lt (HX.out j (by omega)).1
              omega
          · by_cases hj2 : j = k
            · rw [if_neg hi2, if_pos hj2]
              intro hh
              have := Blk.lt (HX.out i (by omega)).1
              omega
            · rw [if_neg hi2, if_neg hj2]
              exact HXX.out i j (by omega) (by omega)
      case measure => omega
    · obtain rfl : k = 6 := by have := HK.out; omega
      have HMM := hid (show Mem w0 b be bn bs bw x 0 0 [0, 0, 0, 0, 0, 0] [0, 0, 0, 0, 0, 0] (fun _ => 0) (fun _ => 0) s1 wr from ⟨HM.out, HB.out, HN.out, HS.out, HW.out, HX.out, HXX.out, HSs1.out, HF.out⟩)
      clear HM HB HN HS HW HX HXX HF HK hlt pbe
      go_wp2_with fail
      go_loopg [13] (n + 1) (fun d z wr => WkRel w0 b be bn bs bw x n d z wr)
      case atStart => exact ⟨0, 0, 0, _, _, _, _, s1, Nat.zero_le _, by omega, rfl, HMM.out, WI.init⟩
      case round =>
        clear HMM HSs1
        obtain ⟨i, t, c, N, S, a, s, st, hi, rfl, rfl, hM, hI⟩ := hrel
        have HM := hid hM
        have HI := hid hI
        clear hM hI
        by_cases hlt : i < n
        · have hlt2 : (i : Int) < n := by omega
          obtain ⟨gl, ol, rfl, hcl⟩ := row_at1 HR.out hlt
          have k0 := hcl _ HM.out.hF
          clear hcl
          obtain ⟨X, hX⟩ : ∃ X, f i 0 = X := ⟨_, rfl⟩
          rw [hX] at k0
          clear hX
          have h1 := tmod_bd X 6 (by omega)
          have h2 := tmod_rd X 6 (by omega)
          have h3 := Int.emod_nonneg X (show (6 : Int) ≠ 0 by omega)
          have h4 := Int.emod_lt_of_pos X (show 0 < (6 : Int) by omega)
          obtain ⟨tm, htm⟩ : ∃ t, X.tmod 6 = t := ⟨_, rfl⟩
          obtain ⟨u, hu⟩ := Int.eq_ofNat_of_zero_le h3
          rw [htm] at h1 h2
          rw [hu] at h2 h4
          have u6 : u < 6 := by omega
          have hn := HNN.out
          clear h3 hu hi
          go_upto_if 73 with fail
          clear h1 h2 h4 htm k0
          go_cut [15] from 72 to 173 (fun z wx => CameW w0 b be bn bs bw x (i + 1) z wx)
          case first =>
            have HU6 := hid u6
            have HN6 := hid (show u < N.length from by have := HI.out.nl; omega)
            have HST := hid (show u < st.length from by have := HM.out.sl; omega)
            have bu0 : (0 : Int) ≤ (u : Int) := by omega
            have bu6 : (u : Int) < 6 := by omega
            by_cases hu3 : u < 3
            · have hu3' : (u : Int) < 3 := by omega
              have c0 := HM.out.cN u HN6.out
              have HC0 := hid (show 0 ≤ c ∧ c ≤ 1000 ∧ 0 ≤ t ∧ t ≤ 1000 from by have := HI.out.c0; have := HI.out.ci; have := HI.out.t0; have := HI.out.ti; omega)
              rcases HI.out.nx u hu3 with hn0 | hn0
              · rw [hn0] at c0
                have HN0 := hid hn0
                clear hn0
                go_wp2_with fail
                refine (add_mk b [t, c] 2 st u 1 u 1 c [t, c + 1] _ HM.out.hM rfl rfl HST.out (by omega) (by show [t, wrap64 (c + 1)] = _; rw [wrap_small c HC0.out.1 HC0.out.2.1]) rfl).mono ?_
                rintro e w7 ⟨rfl, hM7, hF7⟩
                have HM7 := hid (HM.out.mach HE.out hM7 (by rw [stp_len]; exact HM.out.sl) hF7)
                clear hM7 hF7 c0
                have c0 := HM7.out.cN u HN6.out
                rw [HN0.out] at c0
                have f1 := HM7.out.hN.frozen u
                go_wp2_with fail
                go_meet
                exact ⟨rfl, _, _, _, _, _, _, _, HM7.out.next HE.out u 1, HI.out.put hu3 HN0.out⟩
              · rw [hn0] at c0
                have HN0 := hid hn0
                clear hn0
                have pbe := HM.out.cB
                go_wp2_with fail
                refine (etell_mk b [t, c] 2 st u 0 u 0 (t + 1) _ HM.out.hM rfl rfl HST.out (by omega) (by show wrap64 (t + 1) = _; rw [wrap_small t HC0.out.2.2.1 HC0.out.2.2.2])).mono ?_
                rintro e w7 ⟨rfl, hM7, hF7⟩
                have HM7 := hid (HM.out.mach HE.out (t' := t + 1) (c' := c) hM7 (by rw [stp_len]; exact HM.out.sl) hF7)
                clear hM7 hF7 c0 pbe
                have c0 := HM7.out.cN u HN6.out
                rw [HN0.out] at c0
                have f1 := HM7.out.hN.frozen u
                go_wp2_with fail
                go_meet
                exact ⟨rfl, _, _, _, _, _, _, _, HM7.out.next HE.out u 0, HI.out.tell hu3 HN0.out⟩
            · have hu3' : ¬ (u : Int) < 3 := by omega
              have u3 : 3 ≤ u := by omega
              have HT := hid (HI.out.th u u3 u6)
              have HPD := hid HI.out.pend0
              have c0 := HM.out.cN u HN6.out
              have cw := HM.out.cW u u6
              have cs := HM.out.cS u (by have := HI.out.sl; omega)
              have HX := hid (HM.out.hx u u6).1
              have HOX := hid (show ¬ b.own (x u) from fun hh => by have := HE.out.ob _ hh; have := HE.out.e1; have := HE.out.e2; have := HE.out.e3; have := (HM.out.hx u u6).2; omega)
              rcases HT.out.n0 with hn0 | hn0 | hn0 | hn0
              · rw [hn0] at c0
                have HN0 := hid hn0
                clear hn0
                go_wp2_with fail
                refine (wready_mk b [t, c] 2 st u 0 u t (x u) 0 (a u) (s u) _ HM.out.hM HX.out HOX.out rfl rfl HST.out (by omega) rfl).mono ?_
                rintro e w7 ⟨rfl, hM7, hX7, hF7⟩
                have HM7 := hid (HM.out.ready HE.out u6 hM7 (by rw [stp_len]; exact HM.out.sl) hX7 hF7)
                clear hM7 hX7 hF7 c0 cw cs
                have c0 := HM7.out.cN u HN6.out
                have f1 := HM7.out.hN.frozen u
                go_wp2_with fail
                go_meet
                exact ⟨rfl, _, _, _, _, _, _, _, HM7.out.next HE.out u 1, by
                  have := HI.out.look u3 u6 1 (S.getD u 0) 1 t c HI.out.c0 (Int.le_refl _) ⟨by omega, by omega, by omega, by omega, by omega, by omega, HT.out.sb⟩
                  rwa [set_same S u (by rw [HI.out.sl]; exact u6)] at this⟩
              · rw [hn0] at c0
                have HN0 := hid hn0
                clear hn0
                go_wp2_with fail
                refine (load_mk b [t, c] 2 st u 1 u 1 c _ HM.out.hM rfl rfl HST.out (by omega) rfl).mono ?_
                rintro e w7 ⟨rfl, hM7, hF7⟩
                have HM7 := hid (HM.out.mach HE.out hM7 (by rw [stp_len]; exact HM.out.sl) hF7)
                clear hM7 hF7 c0 cw cs
                have c2 := HM7.out.cS u (by have := HI.out.sl; omega)
                have f2 := HM7.out.hS.frozen u
                have HM8 := hid (HM7.out.saw HE.out u c)
                have c0 := HM8.out.cN u HN6.out
                have f1 := HM8.out.hN.frozen u
                go_wp2_with fail
                go_meet
                exact ⟨rfl, _, _, _, _, _, _, _, HM8.out.next HE.out u 2, by
                  have h1 := HI.out.look u3 u6 2 c (a u) (s u) c HI.out.c0 (Int.le_refl _) ⟨by omega, HT.out.st, HT.out.rd ∘ (fun _ => .inl HN0.out), by omega, fun h2 h3 => by have := HT.out.rd (.inl HN0.out); omega, fun _ h2 _ => by have := HPD.out; omega, by have := HI.out.c0; have := HI.out.ci; omega⟩
                  rwa [updi_same, updi_same] at h1⟩
              · rw [hn0] at c0
                have HN0 := hid hn0
                have HA1 := hid (HT.out.rd (.inr hn0))
                clear hn0
                obtain ⟨Y, hY⟩ : ∃ Y, S.getD u 0 = Y := ⟨_, rfl⟩
                rw [hY] at cs
                have HY := hid hY
                have HSB := hid (show 0 ≤ Y ∧ Y ≤ 1000 from by have := HT.out.sb; omega)
                clear hY
                by_cases hY0 : 0 < Y
                · have hsb := HSB.out
                  have hsb1 := hsb.1
                  have hsb2 := hsb.2
                  clear hsb
                  have tw : IntKind.i64.wrap (Y - 1) = Y - 1 := by rw [IntKind.wrap_i64]; omega
                  have HFd := hid (Fr.refl (fun _ => False) wr)
                  have HFe := hid (Fr.refl b.own wr)
                  have HS := hid (show ∀ v, Fr b.own wr v → v.cell? ⟨bs, u, none⟩ = some (.int .i64 Y) from fun v F => by
                    have := (HM.out.hS.keep F (fun hh => by have := HE.out.ob _ hh; have := HE.out.e1; have := HE.out.e2; omega)).cell (i := u) (ints_at _ _ (by have := HI.out.sl; omega))
                    rwa [HY.out] at this)
                  have HCA := hid (fun (v : World) (F : Fr (fun _ => False) wr v) => cas_mk b t c 2 st u u 1 Y (Y - 1) v (HM.out.hM.same F) rfl rfl HST.out (by omega))
                  go_upto_region 32 with fail
                  clear cs cw c0
                  go_region_held3 (fun v => v.cell? ⟨bs, u, none⟩ = some (.int .i64 Y))
                    (first | exact HS.out _ HFe.out | exact HS.out _ (HFe.out.trans (Fr.drew _ _)))
                    (first
                      | (go_at_call 47; ((with_reducible refine (HCA.out _ (by first | exact HFd.out | exact HFd.out.trans (Fr.drew _ _))).mono ?_); rintro e w6 ⟨rfl, hM6, hF6⟩; have HFe := hid (HFe.out.trans (Fr.trans (by first | exact Fr.refl _ _ | exact Fr.drew _ _) hF6)); have HM6 := hid hM6; clear hF6 hM6)))
                  all_goals
                    have HM7 := hid (HM.out.mach HE.out (by first | exact HM6.out | exact HM6.out.same (Fr.drew _ _)) (by rw [stp_len]; exact HM.out.sl) HFe.out)
                    have cw := HM7.out.cW u u6
                    have HX7 := hid (HM7.out.hx u u6).1
                    go_wp2_with fail
                    refine (wleave_ok (x u) 0 (a u) (s u) _ HX7.out).mono ?_
                    rintro e w8 ⟨rfl, hX8, hF8⟩
                    have HM8 := hid (HM7.out.wait HE.out u6 hX8 hF8)
                    clear hX8 hF8 cw
                    have c0 := HM8.out.cN u HN6.out
                    have f1 := HM8.out.hN.frozen u
                    go_wp2_with fail
                    go_meet
                    exact ⟨rfl, _, _, _, _, _, _, _, HM8.out.next HE.out u 0, by
                      have h1 := HI.out.look u3 u6 0 (S.getD u 0) 0 (s u) (if c = Y then Y - 1 else c) (by have := HI.out.c0; split <;> omega) (by split <;> omega) ⟨by omega, HT.out.st, by omega, by omega, by omega, by omega, HT.out.sb⟩
                      rwa [set_same S u (by rw [HI.out.sl]; exact u6)] at h1⟩
                · rw [HA1.out] at HX
                  go_wp2_with fail
                  refine (wpark_ok (x u) 0 (s u) _ HX.out).mono ?_
                  rintro e w7 ⟨rfl, hX7, hF7⟩
                  have HM7 := hid (HM.out.wait HE.out u6 hX7 hF7)
                  have HYN := hid hY0
                  clear hX7 hF7 c0 cw cs hY0
                  have c0 := HM7.out.cN u HN6.out
                  have f1 := HM7.out.hN.frozen u
                  go_wp2_with fail
                  go_meet
                  exact ⟨rfl, _, _, _, _, _, _, _, HM7.out.next HE.out u 3, HI.out.two u3 u6 3 2 ⟨by omega, HT.out.st, by omega, fun _ => rfl, fun _ h2 => ⟨rfl, HT.out.lk HN0.out (by have := HYN.out; have := HY.out; omega) h2⟩, by omega, HT.out.sb⟩⟩
              · rw [hn0] at c0
                have HN0 := hid hn0
                have HA1 := hid (HT.out.ly hn0)
                clear hn0
                rcases hv : (t == s u) with _ | _
                · have HV := hid hv
                  clear hv
                  go_wp2_with fail
                  refine (wparked_mk b [t, c] 2 st (x u) 0 (a u) (s u) false _ HM.out.hM HX.out (by rw [told_two, HV.out, HA1.out]; rfl)).mono ?_
                  rintro e w7 ⟨rfl, hF7⟩
                  have HM7 := hid (HM.out.same hF7)
                  clear hF7 c0 cw cs
                  have c0 := HM7.out.cN u HN6.out
                  have f1 := HM7.out.hN.frozen u
                  go_wp2_with fail
                  go_meet
                  exact ⟨rfl, _, _, _, _, _, _, _, HM7.out.next HE.out u 0, by
                    have hne : t ≠ s u := by have := HV.out; simpa using this
                    have h1 := HI.out.two u3 u6 0 (a u) ⟨by omega, HT.out.st, by omega, by omega, fun _ h2 => absurd h2.symm hne, by omega, HT.out.sb⟩
                    rwa [updi_same, updi_same] at h1⟩
                · have HV := hid hv
                  clear hv
                  go_wp2_with fail
                  refine (wparked_mk b [t, c] 2 st (x u) 0 (a u) (s u) true _ HM.out.hM HX.out (by rw [told_two, HV.out, HA1.out]; rfl)).mono ?_
                  rintro e w7 ⟨rfl, hF7⟩
                  have HM7 := hid (HM.out.same hF7)
                  clear hF7 c0 cw cs
                  go_wp2_with fail
                  go_meet
                  exact ⟨rfl, _, _, _, _, _, _, _, HM7.out, HI.out.up⟩
          case rest =>
            clear HM HI
            obtain ⟨rfl, t, c, N, S, a, s, st, hM, hI⟩ := hcut
            have HM := hid hM
            have HI := hid hI
            clear hM hI
            obtain ⟨wy, hwy⟩ : ∃ wy, wy = wc := ⟨_, rfl⟩
            rw [← hwy] at HM ⊢
            clear hwy
            go_wp2_with fail
            refine (peek_mk b [t, c] 2 st 1 1 c _ HM.out.hM rfl (by omega) rfl).mono ?_
            rintro e w' ⟨rfl, rfl⟩
            go_wp2_with fail
            go_loopg [16, 17] 4 (fun d z y wr => ThRel N c wy d z y wr)
            case atStart => exact ⟨0, by omega, by omega, by simp [pre], rfl, rfl⟩
            case round =>
              obtain ⟨k, hk, rfl, rfl, rfl, hwr⟩ := hrel
              obtain ⟨ws, hws⟩ : ∃ ws, ws = wr := ⟨_, rfl⟩
              rw [← hws] at hwr ⊢
              clear hws
              subst hwr
              have HK := hid hk
              clear hk
              by_cases hk3 : k < 3
              · have hk3' : (k : Int) < 3 := by omega
                have c0 := HM.out.cN k (by have := HI.out.nl; omega)
                have hb : 0 ≤ pre N k ∧ pre N k ≤ 3 ∧ 0 ≤ N.getD k 0 ∧ N.getD k 0 ≤ 1 := by
                  have q0 := HI.out.nx 0 (by omega)
                  have q1 := HI.out.nx 1 (by omega)
                  have q2 := HI.out.nx 2 (by omega)
                  match k, hk3 with
                  | 0, _ => simp only [pre]; omega
                  | 1, _ => simp only [pre]; omega
                  | 2, _ => simp only [pre]; omega
                have HPR := hid (show pre N (k + 1) = pre N k + N.getD k 0 from rfl)
                have hc0 := HI.out.c0
                have hc1 := HI.out.ci
                obtain ⟨P, hP⟩ : ∃ P, pre N k = P := ⟨_, rfl⟩
                obtain ⟨Q, hQ⟩ : ∃ Q, N.getD k 0 = Q := ⟨_, rfl⟩
                rw [hP, hQ] at HPR hb
                rw [hQ] at c0
                rw [hP]
                obtain ⟨hb1, hb2, hb3, hb4⟩ := hb
                have hn9 := HNN.out
                clear hP hQ
                go_wp2_with fail
                go_roundg (4 - (k + 1))
                case rel => exact ⟨k + 1, by omega, rfl, by rw [HPR.out]; go_num, by go_num, rfl⟩
                case measure => omega
              · obtain rfl : k = 3 := by have := HK.out; omega
                have HTH := hid (show c - pre N 3 = c - pend N from by simp only [pre, pend]; omega)
                obtain ⟨D, hD⟩ : ∃ D, c - pre N 3 = D := ⟨_, rfl⟩
                rw [hD] at HTH ⊢
                clear hD HK hk3
                go_wp2_with fail
                go_loopg [18] 4 (fun d z wr => EdRel wy d z wr)
                case atStart => exact ⟨3, by omega, by omega, by omega, rfl, Fr.refl _ _⟩
                case round =>
                  obtain ⟨k, hk3, hk, rfl, rfl, hF⟩ := hrel
                  have HK := hid hk
                  have HM2 := hid (HM.out.same hF)
                  have HF2 := hid hF
                  clear hk hF
                  by_cases hk6 : k < 6
                  · have hk6' : (k : Int) < 6 := by omega
                    have hk0' : (0 : Int) ≤ (k : Int) := by omega
                    have cw := HM2.out.cW k hk6
                    have HX := hid (HM2.out.hx k hk6).1
                    have HT := hid (HI.out.th k hk3 hk6)
                    have c0 := HM2.out.cN k (by have := HI.out.nl; omega)
                    obtain ⟨v, hv⟩ : ∃ v, ((a k == 2) && told [t, c] 2 0 (s k)) = v := ⟨_, rfl⟩
                    have HV := hid hv
                    clear hv
                    by_cases hD0 : 0 < D
                    · have HVF := hid (show v = false from by
                        have h1 := HTH.out
                        have h2 := HV.out
                        rw [told_two] at h2
                        cases v with
                        | false => rfl
                        | true =>
                          simp at h2
                          have := HT.out.pk h2.1 h2.2.symm
                          omega)
                      rw [HVF.out] at HV
                      go_wp2_with fail
                      refine (wparked_mk b [t, c] 2 st (x k) 0 (a k) (s k) false _ HM2.out.hM HX.out HV.out).mono ?_
                      rintro e w7 ⟨rfl, hF7⟩
                      have HM3 := hid (HM2.out.same hF7)
                      have HX3 := hid (HX.out.same hF7)
                      have HF3 := hid (HF2.out.trans hF7)
                      clear hF7 cw c0
                      have cw := HM3.out.cW k hk6
                      go_wp2_with fail
                      refine (wparked_mk b [t, c] 2 st (x k) 0 (a k) (s k) false _ HM3.out.hM HX3.out HV.out).mono ?_
                      rintro e w8 ⟨rfl, hF8⟩
                      have HF4 := hid (HF3.out.trans hF8)
                      clear hF8 cw
                      go_wp2_with fail
                      go_roundg (7 - (k + 1))
                      case rel => exact ⟨k + 1, by omega, by omega, rfl, by go_num, HF4.out⟩
                      case measure => omega
                    · cases v with
                      | false =>
                        go_wp2_with fail
                        refine (wparked_mk b [t, c] 2 st (x k) 0 (a k) (s k) false _ HM2.out.hM HX.out HV.out).mono ?_
                        rintro e w7 ⟨rfl, hF7⟩
                        have HF3 := hid (HF2.out.trans hF7)
                        clear hF7 cw c0
                        go_wp2_with fail
                        go_roundg (7 - (k + 1))
                        case rel => exact ⟨k + 1, by omega, by omega, rfl, by go_num, HF3.out⟩
                        case measure => omega
                      | true =>
                        have HN3 := hid (show N.getD k 0 = 3 from by
                          have h2 := HV.out
                          rw [told_two] at h2
                          simp at h2
                          exact (HT.out.pk h2.1 h2.2.symm).1)
                        go_wp2_with fail
                        refine (wparked_mk b [t, c] 2 st (x k) 0 (a k) (s k) true _ HM2.out.hM HX.out HV.out).mono ?_
                        rintro e w7 ⟨rfl, hF7⟩
                        have HF3 := hid (HF2.out.trans hF7)
                        have HM3 := hid (HM2.out.same hF7)
                        clear hF7 cw c0
                        have c0 := HM3.out.cN k (by have := HI.out.nl; omega)
                        rw [HN3.out] at c0
                        go_wp2_with fail
                        go_roundg (7 - (k + 1))
                        case rel => exact ⟨k + 1, by omega, by omega, rfl, by go_num, HF3.out⟩
                        case measure => omega
                  · go_wp2_with fail
                    go_roundg (n + 1 - (i + 1))
                    case rel => exact ⟨i + 1, t, c, N, S, a, s, st, by omega, rfl, by go_num, HM2.out, HI.out⟩
                    case measure => omega
        · have hlt2 : ¬ (i : Int) < n := by omega
          go_wp2_with fail
          refine (awake_ok _).mono ?_
          rintro e w9 ⟨rfl, hF9⟩
          go_wp2_with fail
          go_ret
          exact ⟨rfl, (HM.out.hF.trans hF9).below (Nat.le_refl _) (fun _ hh => hh.elim)⟩
end Go.Proofs.Ytlhpngoplmccjaa
