/-
  ScopeLives answers true at every input.
-/
import Derived.Test.YtoajdknhllaoeaaAw
import Derived.Test.YtoajdknhllaoeaaOpb
namespace Go.Proofs.Ytoajdknhllaoeaa
open Go.RowKit
set_option linter.unusedVariables false

theorem wrapped_3 (a : Int) : ∃ u : Nat, u < 3 ∧ (Int.tmod (wrap64 (Int.tmod a 3 + 3)) 3) = u := by
  have h1 : -3 < Int.tmod a 3 ∧ Int.tmod a 3 < 3 := by
    have h2 := Int.tmod_lt_of_pos a (show (0 : Int) < 3 by decide)
    have h3 := Int.tmod_lt_of_pos (-a) (show (0 : Int) < 3 by decide)
    rw [Int.neg_tmod] at h3
    omega
  generalize Int.tmod a 3 = t at h1
  rw [show wrap64 (t + 3) = t + 3 by unfold wrap64; omega]
  have h4 : 0 ≤ t + 3 := by omega
  rw [Int.tmod_eq_emod_of_nonneg h4]
  exact ⟨((t + 3) % 3).toNat, by omega, by omega⟩

/-- Three numbers in a block. -/
def lv3 (f : Nat → Int) : Array Value := #[.int .i64 (f 0), .int .i64 (f 1), .int .i64 (f 2)]
theorem lv3_at (f : Nat → Int) {u : Nat} (h : u < 3) : (lv3 f)[u]? = some (.int .i64 (f u)) := by
  obtain rfl | rfl | rfl : u = 0 ∨ u = 1 ∨ u = 2 := by omega
  all_goals rfl
theorem lv3_set (f : Nat → Int) {u : Nat} (h : u < 3) (x : Int) : (lv3 f).setIfInBounds u (.int .i64 x) = lv3 (fun k => if k = u then x else f k) := by
  obtain rfl | rfl | rfl : u = 0 ∨ u = 1 ∨ u = 2 := by omega
  all_goals rfl

structure LvM (w0 : World) (b : MB) (tb nb : Nat) (T : Sc) (f : Nat → Int) (w : World) : Prop where
  ex : ∃ O, Trm w O b tb T ∧ (∀ k, O k → w0.heap.size ≤ k) ∧ ¬ O nb
  fr : Fr (fun _ => False) w0 w
  lo : w0.heap.size ≤ nb
  blk : Blk w nb (lv3 f)
  n3 : T.n = 3
  z : T.z = 6
  s : T.s.length = 2
  na : ∀ k, T.asked k = false

section
variable {w0 : World} {b : MB} {tb nb : Nat} {T : Sc} {f : Nat → Int} (w : World)

theorem LvM.same {w w' : World} (h : LvM w0 b tb nb T f w) (F : Fr (fun _ => False) w w') : LvM w0 b tb nb T f w' := by
  obtain ⟨O, h1, h2, h3⟩ := h.ex
  exact ⟨⟨O, h1.same F, h2, h3⟩, h.fr.trans F, h.lo, h.blk.keep F id, h.n3, h.z, h.s, h.na⟩

theorem LvM.turn {w w' : World} {O : Nat → Prop} {T' : Sc} (h : LvM w0 b tb nb T f w) (h2 : ∀ k, O k → w0.heap.size ≤ k) (h3 : ¬ O nb) (hT : Trm w' O b tb T') (F : Fr O w w') (e1 : T'.n = T.n) (e2 : T'.z = T.z) (e3 : T'.s.length = T.s.length) (e4 : T'.asked = T.asked) : LvM w0 b tb nb T' f w' :=
  ⟨⟨O, hT, h2, h3⟩, h.fr.since F (fun i hi hl => by have := h2 i hi; omega), h.lo, h.blk.keep F h3, by rw [e1, h.n3], by rw [e2, h.z], by rw [e3, h.s], by rw [e4]; exact h.na⟩

theorem LvM.put {w : World} (h : LvM w0 b tb nb T f w) {u : Nat} (hu : u < 3) (x : Int) : LvM w0 b tb nb T (fun k => if k = u then x else f k) (w.setCell ⟨nb, u, none⟩ (.int .i64 x)) := by
  obtain ⟨O, h1, h2, h3⟩ := h.ex
  have F : Fr (fun k => k = nb) w (w.setCell ⟨nb, u, none⟩ (.int .i64 x)) := Fr.setCell _ _ _ rfl
  have hb := h.blk.set u (.int .i64 x)
  rw [lv3_set f hu x] at hb
  exact ⟨⟨O, h1.keep F (fun k hk e => h3 (e ▸ hk)), h2, h3⟩, h.fr.since F (fun i hi hl => by have := h.lo; omega), h.lo, hb, h.n3, h.z, h.s, h.na⟩

theorem lv_enter (u : Nat) (hu : u < 3) (h : LvM w0 b tb nb T f w) :
    Calls Try.prog 16 #[.pointer (some ⟨tb, 0, none⟩), .pointer (some ⟨b.m, 0, none⟩), .int .i64 1, .int .i64 u] w fun e w' => e = .returned (.int .i64 0) ∧ LvM w0 b tb nb ((T.step 1).add u 1) f w' := by
  obtain ⟨O, h1, h2, h3⟩ := h.ex
  refine (enter_ok w 1 u 1 rfl (by rw [h.s]; omega) (by rw [h.n3]; exact hu) (by rw [h.z]; omega) h1).mono ?_
  rintro e w' ⟨he, hT, hF⟩
  exact ⟨he, h.turn h2 h3 hT hF rfl rfl (stp_len _ _) rfl⟩

theorem lv_leave (u : Nat) (hu : u < 3) (r : Bool) (hr : (T.live u == 1) = r) (h : LvM w0 b tb nb T f w) :
    Calls Try.prog 17 #[.pointer (some ⟨tb, 0, none⟩), .pointer (some ⟨b.m, 0, none⟩), .int .i64 1, .int .i64 u] w fun e w' => e = .returned (.tuple #[.bool r, .int .i64 0]) ∧ LvM w0 b tb nb ((T.step 1).add u (-1)) f w' := by
  obtain ⟨O, h1, h2, h3⟩ := h.ex
  refine (leave_ok w 1 u 1 rfl (by rw [h.s]; omega) (by rw [h.n3]; exact hu) (by rw [h.z]; omega) r hr h1).mono ?_
  rintro e w' ⟨he, hT, hF⟩
  exact ⟨he, h.turn h2 h3 hT hF rfl rfl (stp_len _ _) rfl⟩

theorem lv_live (u : Nat) (hu : u < 3) (v : Int) (hv : T.live u = v) (h : LvM w0 b tb nb T f w) :
    Calls Try.prog 18 #[.pointer (some ⟨tb, 0, none⟩), .pointer (some ⟨b.m, 0, none⟩), .int .i64 0, .int .i64 u] w fun e w' => e = .returned (.tuple #[.int .i64 v, .int .i64 0]) ∧ LvM w0 b tb nb (T.step 0) f w' := by
  subst hv
  obtain ⟨O, h1, h2, h3⟩ := h.ex
  refine (live_ok w 0 u 0 rfl (by rw [h.s]; omega) (by rw [h.n3]; exact hu) (by rw [h.z]; omega) h1).mono ?_
  rintro e w' ⟨he, hT, hF⟩
  exact ⟨he, h.turn h2 h3 hT hF rfl rfl (stp_len _ _) rfl⟩

theorem lv_peek (u : Nat) (hu : u < 3) (v : Int) (hv : T.live u = v) (h : LvM w0 b tb nb T f w) :
    Calls Try.prog 24 #[.pointer (some ⟨tb, 0, none⟩), .pointer (some ⟨b.m, 0, none⟩), .int .i64 u] w fun e w' => e = .returned (.tuple #[.bool false, .int .i64 v]) ∧ Fr (fun _ => False) w w' := by
  subst hv
  obtain ⟨O, h1, h2, h3⟩ := h.ex
  exact peek_ok w u (by rw [h.n3]; exact hu) (by rw [h.z]; omega) false (h.na u) h1
end

/-- Behind i comings and goings. -/
def LvI (w0 : World) (b : MB) (tb nb : Nat) (i : Nat) (w : World) : Prop := ∃ T f, LvM w0 b tb nb T f w ∧ (∀ k, k < 3 → T.live k = f k) ∧ ∀ k, k < 3 → -(i : Int) ≤ f k ∧ f k ≤ i

theorem LvI.add {w0 : World} {b : MB} {tb nb i u : Nat} {T : Sc} {f : Nat → Int} {w : World} {v x : Int} (h : LvM w0 b tb nb ((T.step 1).add u v) (fun k => if k = u then x else f k) w) (hl : ∀ k, k < 3 → T.live k = f k) (hb : ∀ k, k < 3 → -(i : Int) ≤ f k ∧ f k ≤ i) (hi : i ≤ 200) (hv : v = 1 ∨ v = -1) (hx : x = f u + v) (hu : u < 3) : LvI w0 b tb nb (i + 1) w := by
  refine ⟨_, _, h, fun k hk => ?_, fun k hk => ?_⟩
  · show (if k = u then wrap64 (T.live u + v) else T.live k) = if k = u then x else f k
    by_cases e : k = u
    · rw [if_pos e, if_pos e, hl u hu, hx]
      have := hb u hu
      unfold wrap64
      omega
    · rw [if_neg e, if_neg e]
      exact hl k hk
  · have h1 := hb k hk
    have h2 := hb u hu
    by_cases e : k = u
    · simp only [if_pos e]
      omega
    · simp only [if_neg e]
      omega

theorem LvI.step {w0 : World} {b : MB} {tb nb i : Nat} {T : Sc} {f : Nat → Int} {w : World} (h : LvM w0 b tb nb (T.step 0) f w) (hl : ∀ k, k < 3 → T.live k = f k) (hb : ∀ k, k < 3 → -(i : Int) ≤ f k ∧ f k ≤ i) : LvI w0 b tb nb i w := ⟨_, _, h, hl, hb⟩

def LvRel (w0 : World) (b : MB) (tb nb m : Nat) (d : Nat) (z : Value) (w : World) : Prop := ∃ i : Nat, i ≤ m ∧ d = m + 1 - i ∧ z = .int .i64 i ∧ LvI w0 b tb nb i w
def LjRel (w0 : World) (b : MB) (tb nb i : Nat) (d : Nat) (z : Value) (w : World) : Prop := ∃ j : Nat, j ≤ 3 ∧ d = 4 - j ∧ z = .int .i64 j ∧ LvI w0 b tb nb i w

def lv0 : Sc := scT 6 (stp (List.replicate 2 0) 0)
def lv1 : Sc := (lv0.step 0).opn 0
def lv2 : Sc := (lv1.step 0).opn 1

set_option maxRecDepth 100000 in
set_option maxHeartbeats 4000000 in
theorem livesLaw (A : Option Addr) (n c : Nat) (f : Nat → Nat → Int) (A2 : Option Addr) (n2 c2 : Nat) (g : Nat → Bool) (w0 : World) (hr : Row w0 A n 1 f) (hg : BRow w0 A2 n2 g) :
    Calls Try.prog 7 #[.slice A n c, .slice A2 n2 c2] w0 fun e w' => e = .returned (.bool true) ∧ Below w0.heap.size w0 w' := by
  have HRW := hid hr
  have HGW := hid hg
  clear hr hg
  go_enter Try.func7, Try.ntmps7
  go_wp2_with fail
  refine (new_mk 6 1 6 1 rfl rfl _ (by omega) (by omega) (by omega) (by omega)).mono ?_
  rintro e w1 ⟨b, rfl, hM, hF, hown⟩
  have HM := hid hM
  have HF := hid hF
  have HO := hid hown
  clear hM hF hown
  go_wp2_with fail
  refine (ow_new w0 b 6 2 0 0 _ rfl (by omega) (by omega) HM.out HF.out HO.out).mono ?_
  rintro e w2 ⟨tb, rfl, h⟩
  have HT := hid (show OwnT w0 w2 b tb lv0 from h)
  clear h HM HF HO
  go_wp2_with fail
  refine (ow_open w2 0 0 0 0 1 rfl rfl (by decide) (by decide) (by decide) (by decide) rfl HT.out).mono ?_
  rintro e w3 ⟨rfl, h⟩
  have HT1 := hid (show OwnT w0 w3 b tb lv1 from h)
  clear h HT
  go_wp2_with fail
  refine (ow_open w3 0 1 0 1 2 rfl rfl (by decide) (by decide) (by decide) (by decide) rfl HT1.out).mono ?_
  rintro e w4 ⟨rfl, h⟩
  have HT2 := hid (show OwnT w0 w4 b tb lv2 from h)
  clear h HT1
  by_cases hlen : 200 < n2
  · have t0 : decide ((200 : Int) < (n2 : Int)) = true := by simp; omega
    go_wp2_with fail
    refine (awake_ok _).mono ?_
    rintro e w9 ⟨rfl, hF9⟩
    have HF9 := hid (HT2.out.fr.trans hF9)
    clear hF9
    go_wp2_with fail
    go_ret
    exact ⟨rfl, HF9.out.below (Nat.le_refl _) (fun _ hh => hh.elim)⟩
  have t0 : decide ((200 : Int) < (n2 : Int)) = false := by simp; omega
  have HLEN := hid hlen
  clear hlen
  go_upto_region 7 with fail
  clear t0
  obtain ⟨nb, hnb⟩ : ∃ be, w4.heap.size = be := ⟨_, rfl⟩
  have HLV := hid (show LvI w0 b tb nb 0 (w4.alloc (.cells #[.int .i64 0, .int .i64 0, .int .i64 0] 74)) from by
    have hF4 := Fr.alloc (fun _ => False) w4 (.cells #[.int .i64 0, .int .i64 0, .int .i64 0] 74)
    obtain ⟨O, h1, h2, h3⟩ := HT2.out.same hF4
    obtain ⟨O', k1, k2, k3⟩ := HT2.out
    refine ⟨lv2, fun _ => 0, ⟨⟨O', k1.same hF4, k2, fun hh => by have := k1.lt _ hh; omega⟩, h3, by have := k3.size; omega, (Blk.new _ _ _).at hnb, rfl, rfl, rfl, fun k => ?_⟩, fun k hk => ?_, fun k hk => (by show -((0 : Nat) : Int) ≤ 0 ∧ (0 : Int) ≤ ((0 : Nat) : Int); omega)⟩
    · show (if k = 2 then false else if k = 1 then false else false) = false
      repeat (first | rfl | split)
    · show (if k = 2 then 0 else if k = 1 then 0 else (0 : Int)) = 0
      repeat (first | rfl | split))
  clear HT2
  go_wp2_with fail
  obtain ⟨w5, hw5⟩ : ∃ w5, w4.alloc (.cells #[.int .i64 0, .int .i64 0, .int .i64 0] 74) = w5 := ⟨_, rfl⟩
  rw [hw5] at HLV ⊢
  try rw [hnb]
  clear hw5 hnb
  go_loopg [14] (n2 + 1) (fun d z wr => LvRel w0 b tb nb n2 d z wr)
  case atStart => exact ⟨0, by omega, by omega, rfl, HLV.out⟩
  case round =>
    clear HLV
    obtain ⟨i, hi, rfl, rfl, hI⟩ := hrel
    have HI := hid hi
    obtain ⟨T, q, hM, hl, hb⟩ := hI
    have HM := hid hM
    have HL := hid hl
    have HB := hid hb
    clear hi hM hl hb
    by_cases hlt : i < n2
    · by_cases hlt2 : i < n
      · have t1 : decide ((i : Int) < (n2 : Int)) = true := by simp; omega
        have t2 : decide ((i : Int) < (n : Int)) = true := by simp; omega
        have h1 : (i : Int) < n2 := by omega
        have h2 : (i : Int) < n := by omega
        obtain ⟨gk, ok, rfl, hck⟩ := row1_at HRW.out hlt2
        obtain ⟨gl, ol, rfl, hcl⟩ := HGW.out.at_ hlt
        have ck := hck _ HM.out.fr
        have HCL := hid hcl
        have cl := hcl _ HM.out.fr
        clear hck hcl
        obtain ⟨y, hy⟩ : ∃ y, f i 0 = y := ⟨_, rfl⟩
        rw [hy] at ck
        clear hy
        obtain ⟨u, hu, hue⟩ := wrapped_3 y
        go_upto_region 12 with fail
        try rw [hue]
        clear hue ck
        obtain ⟨x, hx⟩ : ∃ x, q u = x := ⟨_, rfl⟩
        have hbu := HB.out u hu
        have hlu := HL.out u hu
        rw [hx] at hbu hlu
        have hi2 : i ≤ 200 := by have := HLEN.out; have := HI.out; omega
        have HX := hid hx
        have HU := hid hu
        have HI2 := hid hi2
        have hu2 : (u : Int) < 3 := by omega
        have hb1 : -200 ≤ x := by omega
        have hb2 : x ≤ 200 := by omega
        rcases hgi : g i with _ | _
        · rw [hgi] at cl
          have HGI := hid hgi
          obtain ⟨r, hr⟩ : ∃ r, (x == 1) = r := ⟨_, rfl⟩
          have HLV := hid (lv_leave _ u hu r (by rw [hlu]; exact hr) HM.out)
          have t5 : (r != r) = false := by simp
          have HR := hid hr
          clear hx hgi hlu hbu hi2 hr
          go_wp2_with fail
          refine HLV.out.mono ?_
          rintro e w6 ⟨rfl, h6⟩
          have H6 := hid h6
          have c6 : w6.cell? ⟨nb, u, none⟩ = some (.int .i64 x) := by rw [← HX.out]; exact h6.blk.cell (lv3_at _ hu)
          have z6 := h6.blk.frozen u
          have l6 := h6.blk.lt
          have t6 : (x == 1) = r := HR.out
          clear h6 cl
          go_upto_region 20 with fail
          have H7 := hid (H6.out.put HU.out (x - 1))
          have HLW := hid (LvI.add H7.out HL.out HB.out HI2.out (.inr rfl) (by rw [HX.out]; rfl) HU.out)
          obtain ⟨w7, hw7⟩ : ∃ w7, w6.setCell ⟨nb, u, none⟩ (.int .i64 (x - 1)) = w7 := ⟨_, rfl⟩
          rw [hw7] at HLW ⊢
          clear hw7 H7 H6 c6 z6 l6 t6 t5
          clear HM HL HB HX
          go_wp2_with fail
          go_loopg [18] 4 (fun d z wr => LjRel w0 b tb nb (i + 1) d z wr)
          case atStart => exact ⟨0, by omega, by omega, rfl, HLW.out⟩
          case round =>
            clear HLW
            obtain ⟨j, hj, rfl, rfl, hJ⟩ := hrel
            have HJ := hid hj
            obtain ⟨T2, q2, hM2, hl2, hb2⟩ := hJ
            have HM2 := hid hM2
            have HL2 := hid hl2
            have HB2 := hid hb2
            clear hj hM2 hl2 hb2
            by_cases hjl : j < 3
            · have hj3 : (j : Int) < 3 := by omega
              obtain ⟨x2, hx2⟩ : ∃ x2, q2 j = x2 := ⟨_, rfl⟩
              have HX2 := hid hx2
              have HLV := hid (lv_live _ j hjl x2 (by rw [HL2.out j hjl]; exact hx2) HM2.out)
              have HPK := hid (fun W (h : LvM w0 b tb nb (T2.step 0) q2 W) => lv_peek W j hjl x2 (show (T2.step 0).live j = x2 from (HL2.out j hjl).trans hx2) h)
              have t8 : (x2 != x2) = false := by simp
              have HJL := hid hjl
              clear hx2
              go_wp2_with fail
              refine HLV.out.mono ?_
              rintro e w8 ⟨rfl, h8⟩
              have H8 := hid h8
              clear h8 HM2
              go_wp2_with fail
              refine (HPK.out _ H8.out).mono ?_
              rintro e w9 ⟨rfl, hF9⟩
              have H9 := hid (H8.out.same hF9)
              have c9 : w9.cell? ⟨nb, j, none⟩ = some (.int .i64 x2) := by rw [← HX2.out]; exact H9.out.blk.cell (lv3_at _ HJL.out)
              have l9 := H9.out.blk.lt
              clear hF9 H8
              go_wp2_with fail
              go_roundg (4 - (j + 1))
              case rel => exact ⟨j + 1, by omega, by omega, by go_num, LvI.step H9.out HL2.out HB2.out⟩
              case measure => omega
            · obtain rfl : j = 3 := by have := HJ.out; omega
              have hi4 := HI2.out
              go_wp2_with fail
              go_roundg (n2 + 1 - (i + 1))
              case rel => exact ⟨i + 1, by omega, by omega, by go_num, _, _, HM2.out, HL2.out, HB2.out⟩
              case measure => omega
        · rw [hgi] at cl
          have HLV := hid (lv_enter _ u hu HM.out)
          clear hx hgi hlu hbu hi2
          go_wp2_with fail
          refine HLV.out.mono ?_
          rintro e w6 ⟨rfl, h6⟩
          have H6 := hid h6
          have c6 : w6.cell? ⟨nb, u, none⟩ = some (.int .i64 x) := by rw [← HX.out]; exact h6.blk.cell (lv3_at _ hu)
          have z6 := h6.blk.frozen u
          have l6 := h6.blk.lt
          clear h6 cl
          go_upto_region 20 with fail
          have H7 := hid (H6.out.put HU.out (x + 1))
          have HLW := hid (LvI.add H7.out HL.out HB.out HI2.out (.inl rfl) (by rw [HX.out]) HU.out)
          obtain ⟨w7, hw7⟩ : ∃ w7, w6.setCell ⟨nb, u, none⟩ (.int .i64 (x + 1)) = w7 := ⟨_, rfl⟩
          rw [hw7] at HLW ⊢
          clear hw7 H7 H6 c6 z6 l6
          clear HM HL HB HX
          go_wp2_with fail
          go_loopg [18] 4 (fun d z wr => LjRel w0 b tb nb (i + 1) d z wr)
          case atStart => exact ⟨0, by omega, by omega, rfl, HLW.out⟩
          case round =>
            clear HLW
            obtain ⟨j, hj, rfl, rfl, hJ⟩ := hrel
            have HJ := hid hj
            obtain ⟨T2, q2, hM2, hl2, hb2⟩ := hJ
            have HM2 := hid hM2
            have HL2 := hid hl2
            have HB2 := hid hb2
            clear hj hM2 hl2 hb2
            by_cases hjl : j < 3
            · have hj3 : (j : Int) < 3 := by omega
              obtain ⟨x2, hx2⟩ : ∃ x2, q2 j = x2 := ⟨_, rfl⟩
              have HX2 := hid hx2
              have HLV := hid (lv_live _ j hjl x2 (by rw [HL2.out j hjl]; exact hx2) HM2.out)
              have HPK := hid (fun W (h : LvM w0 b tb nb (T2.step 0) q2 W) => lv_peek W j hjl x2 (show (T2.step 0).live j = x2 from (HL2.out j hjl).trans hx2) h)
              have t8 : (x2 != x2) = false := by simp
              have HJL := hid hjl
              clear hx2
              go_wp2_with fail
              refine HLV.out.mono ?_
              rintro e w8 ⟨rfl, h8⟩
              have H8 := hid h8
              clear h8 HM2
              go_wp2_with fail
              refine (HPK.out _ H8.out).mono ?_
              rintro e w9 ⟨rfl, hF9⟩
              have H9 := hid (H8.out.same hF9)
              have c9 : w9.cell? ⟨nb, j, none⟩ = some (.int .i64 x2) := by rw [← HX2.out]; exact H9.out.blk.cell (lv3_at _ HJL.out)
              have l9 := H9.out.blk.lt
              clear hF9 H8
              go_wp2_with fail
              go_roundg (4 - (j + 1))
              case rel => exact ⟨j + 1, by omega, by omega, by go_num, LvI.step H9.out HL2.out HB2.out⟩
              case measure => omega
            · obtain rfl : j = 3 := by have := HJ.out; omega
              have hi4 := HI2.out
              go_wp2_with fail
              go_roundg (n2 + 1 - (i + 1))
              case rel => exact ⟨i + 1, by omega, by omega, by go_num, _, _, HM2.out, HL2.out, HB2.out⟩
              case measure => omega
      · have t1 : decide ((i : Int) < (n2 : Int)) = true := by simp; omega
        have t2 : decide ((i : Int) < (n : Int)) = false := by simp; omega
        go_wp2_with fail
        refine (awake_ok _).mono ?_
        rintro e w9 ⟨rfl, hF9⟩
        have HF9 := hid (HM.out.fr.trans hF9)
        clear hF9
        go_wp2_with fail
        go_ret
        exact ⟨rfl, HF9.out.below (Nat.le_refl _) (fun _ hh => hh.elim)⟩
    · have t1 : decide ((i : Int) < (n2 : Int)) = false := by simp; omega
      go_wp2_with fail
      refine (awake_ok _).mono ?_
      rintro e w9 ⟨rfl, hF9⟩
      have HF9 := hid (HM.out.fr.trans hF9)
      clear hF9
      go_wp2_with fail
      go_ret
      exact ⟨rfl, HF9.out.below (Nat.le_refl _) (fun _ hh => hh.elim)⟩
end Go.Proofs.Ytoajdknhllaoeaa
