/-
  ClockOnce: the walk.
-/
import Derived.Test.YtpgbhgkikpmhiaaOnP
import Derived.Deep.CutBlock
namespace Go.Proofs.Ytpgbhgkikpmhiaa
open Go.RowKit
set_option linter.unusedVariables false

/-- The clock, and the row of what is due. -/
structure OnI (w : World) (db c : Nat) (O : Nat → Prop) (now : Int) (T : List Due) (D : List Int) (W : World) : Prop where
  blk : Blk W db (ints D)
  lo : w.heap.size ≤ db
  ck : OwnC w W O c now T
  out : ¬ O db

theorem OnI.same {w : World} {db c : Nat} {O : Nat → Prop} {now : Int} {T : List Due} {D : List Int} {W W' : World} (h : OnI w db c O now T D W) (F : Fr (fun _ => False) W W') : OnI w db c O now T D W' :=
  ⟨h.blk.keep F (fun h => h), h.lo, h.ck.same F, h.out⟩

theorem OnI.put {w : World} {db c : Nat} {O : Nat → Prop} {now : Int} {T : List Due} {D : List Int} {W : World} (h : OnI w db c O now T D W) (k : Nat) (v : Int) : OnI w db c O now T (D.set k v) (W.setCell ⟨db, k, none⟩ (.int .i64 v)) := by
  have F : Fr (fun j => j = db) W (W.setCell ⟨db, k, none⟩ (.int .i64 v)) := Fr.setCell _ _ _ rfl
  exact ⟨ints_set D k v ▸ h.blk.set k (.int .i64 v), h.lo, h.ck.keep F (fun j hj e => h.out (e ▸ hj)) (fun j hj => by have hj2 : j = db := hj; have := h.lo; omega), h.out⟩

theorem OnI.cell {w : World} {db c : Nat} {O : Nat → Prop} {now : Int} {T : List Due} {D : List Int} {W : World} (h : OnI w db c O now T D W) {k : Nat} (hk : k < D.length) : W.cell? ⟨db, k, none⟩ = some (.int .i64 (dd D k)) := h.blk.cell (ints_at D k hk)

/-- What an act leaves. -/
def ActPost (w : World) (db c : Nat) (O : Nat → Prop) (d i n now : Int) (T : List Due) (D : List Int) (W : World) (e : Ending) (W' : World) : Prop :=
  ∃ A cap O', e = .returned (.tuple #[.slice A (actL d n now T).length cap, .bool (actB d i T), .int .i64 (actE d i n now T)]) ∧ OwnR W' W.heap.size 3 1 A (actL d n now T).length cap (intsV (actL d n now T)) ∧ OnI w db c O' (actN d n now) (actT d i n now T) D W' ∧ Fr O W W'

theorem OnI.act {w : World} {db c : Nat} {O : Nat → Prop} {now : Int} {T : List Due} {D : List Int} {W : World} (h : OnI w db c O now T D W) (d i n : Int) (h0 : 0 ≤ now) (h1 : now ≤ 1099511627776) (hs : T.length < 60000) :
    Calls Try.prog 12 #[.pointer (some ⟨c, 0, none⟩), .agg #[.int .i64 d, .int .i64 i, .int .i64 n]] W (ActPost w db c O d i n now T D W) := by
  refine (do_ok W d i n h.ck.ck h0 h1 hs).mono ?_
  intro e W' hp
  obtain ⟨A, cap, O', he, hO, hC, hF, hL⟩ := h.ck.act hp
  refine ⟨A, cap, O', he, hO, ⟨h.blk.keep hF h.out, h.lo, hC, fun hk => ?_⟩, hF⟩
  rcases hL db hk with h2 | h2
  · exact h.out h2
  · have := h.blk.lt; omega

def OnRel (len : Nat) (w : World) (db c : Nat) (d : Nat) (x : Value) (wr : World) : Prop :=
  ∃ (k : Nat) (O : Nat → Prop) (now : Int) (T : List Due) (D : List Int), k ≤ len ∧ d = len + 1 - k ∧ x = .int .i64 k ∧ now ≤ 1099511627776 ∧ OncI now T D ∧ OnI w db c O now T D wr

/-- Behind the switch. -/
def OnCut (w : World) (db c : Nat) (O : Nat → Prop) (now : Int) (T : List Due) (W : World) : Prop := ∃ D, OncI now T D ∧ OnI w db c O now T D W

theorem OnCut.drewN {w : World} {db c : Nat} {O : Nat → Prop} {now : Int} {T : List Due} {W : World} (h : OnCut w db c O now T W) (n : Nat) : OnCut w db c O now T (W.drewN n) := by
  obtain ⟨D, h1, h2⟩ := h
  exact ⟨D, h1, h2.same (Fr.drewN _ _ _)⟩

theorem OnCut.drew {w : World} {db c : Nat} {O : Nat → Prop} {now : Int} {T : List Due} {W : World} (h : OnCut w db c O now T W) : OnCut w db c O now T W.drew := by
  obtain ⟨D, h1, h2⟩ := h
  exact ⟨D, h1, h2.same (Fr.drew _ _)⟩

/-- While those that came are struck. -/
def OnRelA (w : World) (db c : Nat) (O : Nat → Prop) (now t : Int) (T T2 : List Due) (D : List Int) (B : Nat) (A : Option Addr) (cap ll : Nat) (L : List Int) (d : Nat) (x : Value) (wx : World) : Prop :=
  ∃ pre rest D', d = rest.length ∧ due t T = pre ++ rest ∧ x = .int .i64 (pre.length : Nat) ∧ OncA now t T pre D D' ∧ OnI w db c O t T2 D' wx ∧ OwnR wx B 3 1 A ll cap (intsV L)

set_option maxRecDepth 100000 in
set_option maxHeartbeats 3200000 in
theorem once_any (al : Option Addr) (len capl : Nat) (f : Nat → Nat → Int) (w : World) (hrow : Row w al len 3 f) :
    Calls Try.prog 6 #[.slice al len capl] w fun e w' => e = .returned (.bool true) ∧ Below w.heap.size w w' := by
  have HROW := hid hrow
  clear hrow
  go_enter Try.func6, Try.ntmps6
  go_wp2_with fail
  refine (ck_new w).mono ?_
  rintro e w1 hp
  obtain ⟨O1, c, rfl, h⟩ := OwnC.made hp
  have H1 := hid h
  clear hp h
  by_cases hlen : 200 < len
  · have hlen2 : (200 : Int) < len := by omega
    go_wp2_with fail
    refine (awake_ok w1).mono ?_
    rintro e w2 ⟨rfl, hF⟩
    have HF := hid (H1.out.fr.trans hF)
    clear hF
    go_wp2_with fail
    go_ret
    exact ⟨rfl, HF.out.below (Nat.le_refl _) (fun _ h => h.elim)⟩
  have hlen2 : ¬ (200 : Int) < len := by omega
  have HLEN := hid hlen
  go_wp2_with fail
  clear hlen hlen2
  have hF2 := Fr.alloc (fun _ => False) w1 (.cells #[.int .i64 0, .int .i64 0, .int .i64 0, .int .i64 0, .int .i64 0, .int .i64 0, .int .i64 0, .int .i64 0] 51)
  have H2 := hid (show OnI w w1.heap.size c O1 0 [] [0, 0, 0, 0, 0, 0, 0, 0] (w1.alloc (.cells #[.int .i64 0, .int .i64 0, .int .i64 0, .int .i64 0, .int .i64 0, .int .i64 0, .int .i64 0, .int .i64 0] 51)) from
    ⟨Blk.new _ _ _, H1.out.fr.size, H1.out.same hF2, fun hk => by have := H1.out.ck.lt _ hk; omega⟩)
  obtain ⟨db, hdb⟩ : ∃ b, w1.heap.size = b := ⟨_, rfl⟩
  obtain ⟨w2, hw2⟩ : ∃ w2, w1.alloc (.cells #[.int .i64 0, .int .i64 0, .int .i64 0, .int .i64 0, .int .i64 0, .int .i64 0, .int .i64 0, .int .i64 0] 51) = w2 := ⟨_, rfl⟩
  rw [hw2, hdb] at H2
  rw [hw2, hdb]
  clear hF2 hw2 hdb
  go_loopg [5] (len + 1) (fun d x wr => OnRel len w db c d x wr)
  case atStart => exact ⟨0, O1, 0, [], _, by omega, by omega, rfl, by omega, ⟨rfl, by omega, by simp, fun k hk hd => by
    exfalso
    revert hd
    match k, hk with
    | 0, _ => simp [dd]
    | 1, _ => simp [dd]
    | 2, _ => simp [dd]
    | 3, _ => simp [dd]
    | 4, _ => simp [dd]
    | 5, _ => simp [dd]
    | 6, _ => simp [dd]
    | 7, _ => simp [dd]⟩, H2.out⟩
  case round =>
    obtain ⟨k, O, now, T, D, hk, rfl, rfl, hn1, hO, hI⟩ := hrel
    have HK := hid hk
    have HO := hid hO
    have HI := hid hI
    have hn0 : 0 ≤ now := hO.pos
    clear hO hI hk
    by_cases hlt : k < len
    · obtain ⟨rb, off, rfl, hrb, hc⟩ := HROW.out.at_three hlt
      obtain ⟨c0, c1, c2⟩ := hc wr HI.out.ck.fr
      have hlt2 : (k : Int) < len := by omega
      obtain ⟨x0, hx0⟩ : ∃ x, f k 0 = x := ⟨_, rfl⟩
      obtain ⟨x1, hx1⟩ : ∃ x, f k 1 = x := ⟨_, rfl⟩
      obtain ⟨x2, hx2⟩ : ∃ x, f k 2 = x := ⟨_, rfl⟩
      rw [hx0] at c0
      rw [hx1] at c1
      rw [hx2] at c2
      obtain ⟨q1, hm8⟩ := mod8_is x1
      obtain ⟨m, hm⟩ : ∃ m, mod8 x1 = m := ⟨_, rfl⟩
      rw [hm] at q1 hm8
      clear hc hrb hx0 hx1 hx2 hm
      go_upto_region 12 with fail
      have hF3 := Fr.alloc (fun _ => False) wr (.cells #[.int .i64 x0, .int .i64 m, .int .i64 x2] 37)
      have HB3 := hid (Blk.new wr #[.int .i64 x0, .int .i64 m, .int .i64 x2] 37)
      have HI3 := hid (HI.out.same hF3)
      have HOL := hid HI.out.ck.ck.lt
      obtain ⟨ab, hab⟩ : ∃ b, wr.heap.size = b := ⟨_, rfl⟩
      rw [hab] at HB3 HOL ⊢
      obtain ⟨w3, hw3⟩ : ∃ w3, wr.alloc (.cells #[.int .i64 x0, .int .i64 m, .int .i64 x2] 37) = w3 := ⟨_, rfl⟩
      rw [hw3] at HB3 HI3 ⊢
      clear hF3 hw3 hab c0 c1 c2 q1
      go_wp2_with fail
      refine (ck_now w3 HI3.out.ck.ck).mono ?_
      rintro e w4 ⟨rfl, rfl⟩
      have b0 : w3.cell? ⟨ab, 0, none⟩ = some (.int .i64 x0) := HB3.out.cell rfl
      have b1 : w3.cell? ⟨ab, 1, none⟩ = some (.int .i64 m) := HB3.out.cell rfl
      have b2 : w3.cell? ⟨ab, 2, none⟩ = some (.int .i64 x2) := HB3.out.cell rfl
      have HTL := hid (show T.length ≤ 8 from by rw [← HO.out.count HI.out.ck.ck.ids]; exact cntD_le _ _)
      go_wp2_with fail
      refine (HI3.out.act x0 m x2 hn0 hn1 (by have := HTL.out; omega)).mono ?_
      rintro e w5 ⟨A, cap, O', rfl, hRow, hI5, hF5⟩
      have HR5 := hid hRow
      have HI5 := hid hI5
      have HB5 := hid (HB3.out.keep hF5 (fun hk => by have := HOL.out _ hk; omega))
      have HDB := hid (show db < w3.heap.size from HI3.out.blk.lt)
      have HSRT := hid HI.out.ck.ck.srt
      have HIDS := hid HI.out.ck.ck.ids
      have HNB := hid (actN_in x0 x2 now hn0 hn1)
      clear hRow hI5 hF5 b0 b1 b2
      obtain ⟨n2, hn2⟩ : ∃ x, actN x0 x2 now = x := ⟨_, rfl⟩
      obtain ⟨T2, hT2⟩ : ∃ x, actT x0 m x2 now T = x := ⟨_, rfl⟩
      obtain ⟨L, hL⟩ : ∃ x, actL x0 x2 now T = x := ⟨_, rfl⟩
      obtain ⟨hb, hhb⟩ : ∃ x, actB x0 m T = x := ⟨_, rfl⟩
      obtain ⟨er, her⟩ : ∃ x, actE x0 m x2 now T = x := ⟨_, rfl⟩
      rw [hL] at HR5 ⊢
      rw [hhb, her]
      rw [hn2] at HI5 HNB
      rw [hT2] at HI5
      have HN2 := hid hn2
      have HT2 := hid hT2
      have HL := hid hL
      have HHB := hid hhb
      have HER := hid her
      obtain ⟨ll, hll⟩ : ∃ x, L.length = x := ⟨_, rfl⟩
      have HLL := hid hll
      rw [hll] at HR5 ⊢
      have b0 : w5.cell? ⟨ab, 0, none⟩ = some (.int .i64 x0) := HB5.out.cell rfl
      have b1 : w5.cell? ⟨ab, 1, none⟩ = some (.int .i64 m) := HB5.out.cell rfl
      have b2 : w5.cell? ⟨ab, 2, none⟩ = some (.int .i64 x2) := HB5.out.cell rfl
      have hml := HO.out.len
      have d0 := HI5.out.cell (k := m) (by omega)
      have f0 := HI5.out.blk.frozen m
      have HZH := hid (HO.out.has hm8)
      have H18 := hid (fun n h => setE_18 HO.out hm8 n h)
      obtain ⟨z, hz⟩ : ∃ z, dd D m = z := ⟨_, rfl⟩
      rw [hz] at d0 HZH H18
      have hm9 : (m : Int) < 8 := by omega
      clear hn2 hT2 hL hhb her hll hz hml
      have HLB := hid (show ll ≤ 8 from by rw [← HLL.out, ← HL.out]; have := actL_len x0 x2 now T; have := HTL.out; omega)
      go_upto_block 2 with fail
      go_cut [11, 12] from 50 to 155 (fun u v wx => OnCut w db c O' n2 T2 wx)
      case first =>
        rcases t0 : (x0 == 0) with _ | _
        · rcases t1 : (x0 == 1) with _ | _
          · rcases t2 : (x0 == 2) with _ | _
            · have e1 : n2 = now := by rw [← HN2.out]; unfold actN; rw [t2]; rfl
              have e2 : T2 = T := by rw [← HT2.out]; unfold actT; rw [t0, t1, t2]; rfl
              have HE := hid (show OnCut w db c O' n2 T2 w5 from ⟨D, by rw [e1, e2]; exact HO.out, HI5.out⟩)
              clear e1 e2
              go_wp2_with fail
              go_meet
              exact HE.out
            · have e0 : er = advE x2 now := by rw [← HER.out]; unfold actE; rw [t0, t2]; rfl
              have e1 : n2 = advN x2 now := by rw [← HN2.out]; unfold actN; rw [t2]; rfl
              have e2 : T2 = advT x2 now T := by rw [← HT2.out]; unfold actT; rw [t0, t1, t2]; rfl
              have e3 : L = advL x2 now T := by rw [← HL.out]; unfold actL; rw [t2]; rfl
              rcases hv : advNo x2 now with _ | _
              · obtain ⟨hx0, hx9⟩ : 0 ≤ x2 ∧ x2 ≤ 1099511627776 - now := by
                  unfold advNo at hv
                  simp only [Bool.or_eq_false_iff, decide_eq_false_iff_not] at hv
                  omega
                unfold advE at e0
                unfold advN at e1
                unfold advT at e2
                unfold advL at e3
                rw [hv] at e0 e1 e2 e3
                simp only [cond_false] at e0 e1 e2 e3
                rw [← e1] at e2 e3
                have HNW := hid (fun W (F : Fr (fun _ => False) w5 W) => ck_now W (HI5.out.same F).ck.ck)
                have te : (er == 0) = true := by rw [e0]; rfl
                have te2 : (er != 0) = false := by rw [e0]; rfl
                have q6 : IntKind.i64.wrap (now + x2) = n2 := by rw [IntKind.wrap_i64, e1]; omega
                have t6 : (n2 != n2) = false := by simp
                have HE1 := hid (show now ≤ n2 by omega)
                have HE2 := hid e2
                have HE3 := hid e3
                clear e0 e1 e2 e3 hv
                go_upto_region 27 with fail
                go_quiet ((go_at_call 21; exact ((HNW.out _ (Fr.drewN _ _ _)).mono fun _ _ ⟨he, hm⟩ => ⟨he, _, hm.symm⟩)))
                go_wp2_with fail
                clear b0 b1 b2 d0 f0
                have HI6 := hid (HI5.out.same (Fr.drewN _ _ nq))
                have HR6 := hid (OwnR.same HR5.out (Fr.drewN _ _ nq))
                obtain ⟨w6, hw6⟩ : ∃ w6, w5.drewN nq = w6 := ⟨_, rfl⟩
                rw [hw6] at HI6 HR6 ⊢
                clear hw6
                go_loopg [11] (due n2 T).length (fun d x wx => OnRelA w db c O' now n2 T T2 D w3.heap.size A cap ll L d x wx)
                case atStart => exact ⟨[], due n2 T, D, rfl, rfl, rfl, OncA.start HO.out, HI6.out, HR6.out⟩
                case round =>
                  obtain ⟨pre, rest, D', hd, hT, rfl, hA, hI, hR⟩ := hrel
                  have HD := hid hd
                  have HTT := hid hT
                  have HA := hid hA
                  have HI7 := hid hI
                  have HR7 := hid hR
                  have HPL := hid (show pre.length + rest.length = ll from by rw [← HLL.out, HE3.out, hT]; simp [idsOf])
                  clear hd hT hA hI hR
                  cases rest with
                  | nil =>
                    obtain ⟨p, hp⟩ : ∃ p, pre.length = p := ⟨_, rfl⟩
                    have HP := hid hp
                    rw [hp]
                    have g1 : ¬ (p : Int) < (ll : Int) := by have := HPL.out; rw [hp] at this; simp at this; omega
                    clear hp
                    have HE := hid (show OnCut w db c O' n2 T2 wr from ⟨D', by
                      rw [HE2.out]
                      exact OncA.done HO.out HSRT.out HIDS.out HE1.out (by
                        have := HTT.out
                        rw [List.append_nil] at this
                        rw [this]
                        exact HA.out), HI7.out⟩)
                    go_wp2_with fail
                    go_meet
                    exact HE.out
                  | cons x rest =>
                    obtain ⟨kx, hk8, hx2, hdx, hpos, hle, hstep⟩ := HA.out.step HO.out HTT.out HIDS.out
                    have HST := hid hstep
                    obtain ⟨p, hp⟩ : ∃ p, pre.length = p := ⟨_, rfl⟩
                    have HP := hid hp
                    have hpl : p < ll := by have := HPL.out; rw [hp] at this; simp at this; omega
                    have hpl2 : (p : Int) < (ll : Int) := by omega
                    have hll := HLL.out
                    obtain ⟨g9, off9, hA9, -, hc9⟩ := (OwnR.intR HR7.out hll.symm) (by omega)
                    have cx := hc9 p (by omega)
                    have hgx : L.getD p 0 = (kx : Int) := by
                      rw [HE3.out, HTT.out, ← hp, ← hx2]
                      unfold idsOf
                      rw [List.map_append, List.getD_eq_getElem?_getD, List.getElem?_append_right (by simp)]
                      simp
                    rw [hgx] at cx
                    have dx := HI7.out.cell (k := kx) (by have := HA.out.len; omega)
                    have fx := HI7.out.blk.frozen kx
                    rw [hdx] at dx
                    obtain ⟨y, hy⟩ : ∃ y, x.1 = y := ⟨_, rfl⟩
                    rw [hy] at dx hpos hle
                    subst hA9
                    have HNW := hid (fun W (F : Fr (fun _ => False) wr W) => ck_now W (HI7.out.same F).ck.ck)
                    have v1 : decide ((kx : Int) < 0) = false := decide_eq_false (by omega)
                    have v2 : decide ((7 : Int) < (kx : Int)) = false := decide_eq_false (by omega)
                    have v3 : (y == 0) = false := by simp; omega
                    have v4 : decide (n2 < y) = false := decide_eq_false (by omega)
                    have hk9 : (kx : Int) < 8 := by omega
                    have hkz : (0 : Int) ≤ (kx : Int) := by omega
                    rw [hp]
                    clear hc9 hgx hdx hstep hll hx2 hy hp hpos hle
                    go_upto_region 33 with fail
                    go_quiet ((go_at_call 21; exact ((HNW.out _ (Fr.drewN _ _ _)).mono fun _ _ ⟨he, hm⟩ => ⟨he, _, hm.symm⟩)))
                    have hlb := HLB.out
                    go_wp2_with fail
                    go_roundg rest.length
                    case rel =>
                      have F7 : Fr (fun j => j = db) wr ((wr.drewN nq).setCell ⟨db, kx, none⟩ (.int .i64 0)) := (Fr.drewN _ _ _).trans (Fr.setCell _ _ _ rfl)
                      refine ⟨pre ++ [x], rest, D'.set kx 0, rfl, by rw [HTT.out]; simp, ?_, HST.out, (HI7.out.same (Fr.drewN _ _ nq)).put kx 0, OwnR.keep HR7.out F7 (fun j hj e => by have := (OwnR.lt HR7.out j hj).1; have := HDB.out; omega)⟩
                      rw [List.length_append, HP.out]
                      first | rfl | exact congrArg _ (by unfold wrap64; simp; omega)
                    case measure => have := HD.out; simp at this; omega
              · unfold advE at e0
                unfold advN at e1
                unfold advT at e2
                unfold advL at e3
                rw [hv] at e0 e1 e2 e3
                simp only [cond_true] at e0 e1 e2 e3
                have HE := hid (show OnCut w db c O' n2 T2 w5 from ⟨D, by rw [e1, e2]; exact HO.out, HI5.out⟩)
                have HNW := hid (fun W (F : Fr (fun _ => False) w5 W) => ck_now W (HI5.out.same F).ck.ck)
                rw [e1] at HNW
                have HS2 := hid (show ∀ W, Fr (fun _ => False) w5 W → W.cell? ⟨ab, 2, none⟩ = some (.int .i64 x2) from fun W F => (HB5.out.keep F (fun h => h)).cell rfl)
                have hl0 : ll = 0 := by rw [← HLL.out, e3]; rfl
                have te : (er == 0) = false := by rw [e0]; rfl
                have te2 : (er != 0) = true := by rw [e0]; rfl
                have tl : ((ll : Int) != 0) = false := by rw [hl0]; rfl
                have tl2 : ¬ (0 : Int) < (ll : Int) := by rw [hl0]; decide
                have t6 : (now != now) = false := by simp
                clear e0 e1 e2 e3 hv hl0
                go_upto_region 27 with fail
                go_quiet ((go_at_call 21; exact ((HNW.out _ (Fr.drewN _ _ _)).mono fun _ _ ⟨he, hm⟩ => ⟨he, _, hm.symm⟩)))
                go_wp2_with fail
                go_loopg [11] 0 (fun d x wx => d = 0 ∧ x = .int .i64 0 ∧ wx = w5.drewN nq)
                case atStart => exact ⟨rfl, rfl, rfl⟩
                case round =>
                  obtain ⟨hd0, rfl, rfl⟩ := hrel
                  go_wp2_with fail
                  go_meet
                  exact HE.out.drewN _
          · have e1 : n2 = now := by rw [← HN2.out]; unfold actN; rw [show (x0 == 2) = false by simp at t1 ⊢; omega]; rfl
            have e2 : T2 = dropT m T := by rw [← HT2.out]; unfold actT; rw [t0, t1]; rfl
            have e3 : hb = (z != 0) := by rw [← HHB.out, ← HZH.out]; unfold actB; rw [t1]; rfl
            have HE := hid (show OnCut w db c O' n2 T2 (w5.setCell ⟨db, m, none⟩ (.int .i64 0)) from ⟨D.set m 0, by rw [e1, e2]; exact HO.out.drop hm8, HI5.out.put m 0⟩)
            clear e1 e2
            rcases vz : (z != 0) with _ | _
            · rw [vz] at e3
              subst e3
              go_wp2_with fail
              go_meet
              exact HE.out
            · rw [vz] at e3
              subst e3
              go_wp2_with fail
              go_meet
              exact HE.out
        · have e0 : er = setE m x2 now T := by rw [← HER.out]; unfold actE; rw [t0]; rfl
          have e1 : n2 = now := by rw [← HN2.out]; unfold actN; rw [show (x0 == 2) = false by simp at t0 ⊢; omega]; rfl
          have e2 : T2 = setT m x2 now T := by rw [← HT2.out]; unfold actT; rw [t0]; rfl
          rcases te : (er == 0) with _ | _
          · have hne : setE m x2 now T ≠ 0 := by rw [← e0]; simpa using te
            have HE := hid (show OnCut w db c O' n2 T2 w5 from ⟨D, by rw [e1, e2, set_some hne]; exact HO.out, HI5.out⟩)
            have h18 := H18.out x2 hne
            rw [← e0] at h18
            clear e0 e1 e2 hne
            rcases v1 : (z != 0) with _ | _ <;> rcases v2 : decide (1 ≤ x2) with _ | _ <;> rcases v3 : decide (x2 ≤ 1099511627776) with _ | _
            all_goals
              rw [v1, v2, v3] at h18
              simp only [Bool.and_true, Bool.and_false, Bool.and_self] at h18
              go_wp2_with fail
              go_meet
              exact HE.out
          · have hee : setE m x2 now T = 0 := by rw [← e0]; simpa using te
            obtain ⟨g0, g1, g2, g3, g4⟩ := set_zero hee
            have hz0 : (z != 0) = false := by rw [← HZH.out]; exact g3
            have HE := hid (show OnCut w db c O' n2 T2 (w5.setCell ⟨db, m, none⟩ (.int .i64 (now + x2))) from ⟨D.set m (now + x2), by rw [e1, e2, g4]; exact HO.out.set hm8 g1 g3, HI5.out.put m (now + x2)⟩)
            clear e0 e1 e2 hee g0 g3 g4
            go_wp2_with fail
            go_meet
            exact HE.out
      case rest =>
        obtain ⟨D', hO', hI'⟩ := hcut
        have HO7 := hid hO'
        have HI7 := hid hI'
        have HCN := hid (hO'.count hI'.ck.ck.ids)
        clear hO' hI' b0 b1 b2 d0 f0
        go_wp2_with fail
        go_loopg [13, 14] 8 (fun d x y wx => ∃ j : Nat, j ≤ 8 ∧ d = 8 - j ∧ x = .int .i64 (cntD D' j : Nat) ∧ y = .int .i64 j ∧ Fr (fun _ => False) wc wx)
        case atStart => exact ⟨0, by omega, rfl, rfl, rfl, Fr.refl _ _⟩
        case round =>
          obtain ⟨j, hj, rfl, rfl, rfl, hF⟩ := hrel
          have HF := hid hF
          clear hF
          have hcj := cntD_le D' j
          by_cases hj8 : j < 8
          · have hj9 : (j : Int) < 8 := by omega
            have dj := (HI7.out.same HF.out).cell (k := j) (by have := HO7.out.len; omega)
            obtain ⟨y, hy⟩ : ∃ y, dd D' j = y := ⟨_, rfl⟩
            have HY := hid hy
            rw [hy] at dj
            obtain ⟨cj, hcje⟩ : ∃ x, cntD D' j = x := ⟨_, rfl⟩
            have HCJ := hid (show cntD D' (j + 1) = cj + bif y != 0 then 1 else 0 from by rw [← hcje, ← hy]; rfl)
            rw [hcje] at hcj ⊢
            clear hy hcje
            rcases ty : (y != 0) with _ | _
            · rw [ty] at HCJ
              go_wp2_with fail
              go_roundg (8 - (j + 1))
              case rel => exact ⟨j + 1, by omega, rfl, by rw [HCJ.out]; rfl, by go_num, HF.out⟩
              case measure => omega
            · rw [ty] at HCJ
              have HNW := hid (fun W (F : Fr (fun _ => False) wr W) => ck_now W (HI7.out.same (HF.out.trans F)).ck.ck)
              have v4 : decide (y ≤ n2) = false := decide_eq_false (by
                have h1 := HO7.out.no j hj8 (by rw [HY.out]; simpa using ty)
                obtain ⟨k', hk', e1, e2, e3⟩ := HO7.out.yes _ h1
                rw [HY.out] at e3
                simp only at e3
                omega)
              go_upto_region 42 with fail
              go_quiet ((go_at_call 21; exact ((HNW.out _ (Fr.drewN _ _ _)).mono fun _ _ ⟨he, hm⟩ => ⟨he, _, hm.symm⟩)))
              go_wp2_with fail
              go_roundg (8 - (j + 1))
              case rel => exact ⟨j + 1, by omega, rfl, by rw [HCJ.out]; first | rfl | exact congrArg _ (by unfold wrap64; simp; omega), by first | rfl | exact congrArg _ (by unfold wrap64; simp; omega), HF.out.trans (Fr.drewN _ _ _)⟩
              case measure => omega
          · obtain rfl : j = 8 := by omega
            have HI8 := hid (HI7.out.same HF.out)
            have HLC := hid (ck_len wr HI8.out.ck.ck)
            rw [← HCN.out] at HLC
            obtain ⟨cn, hcn⟩ : ∃ x, cntD D' 8 = x := ⟨_, rfl⟩
            rw [hcn] at HLC ⊢
            clear hcn hcj
            go_wp2_with fail
            refine HLC.out.mono ?_
            rintro e w9 ⟨rfl, rfl⟩
            go_wp2_with fail
            go_roundg (len + 1 - (k + 1))
            case rel => exact ⟨k + 1, O', n2, T2, D', by omega, rfl, by first | rfl | go_num, HNB.out.2.1, HO7.out, HI8.out⟩
            case measure => omega
    · obtain rfl : k = len := by have := HK.out; omega
      go_wp2_with fail
      refine (awake_ok wr).mono ?_
      rintro e w2 ⟨rfl, hF⟩
      have HF := hid (HI.out.ck.fr.trans hF)
      clear hF
      go_wp2_with fail
      go_ret
      exact ⟨rfl, HF.out.below (Nat.le_refl _) (fun _ h => h.elim)⟩
end Go.Proofs.Ytpgbhgkikpmhiaa
