/-
  EventParked answers true at every input.
-/
import Derived.Test.YtlhpngoplmccjaaEAwake
import Derived.Deep.DeepCutAuto
import Derived.Deep.DeepMust
import Derived.Deep.LoopGhost
namespace Go.Proofs.Ytlhpngoplmccjaa
open Go.RowKit
set_option linter.unusedVariables false

theorem alloc_mk (b : MB) (l : List Int) (u : Nat) (s : List Int) (j n : Nat) (x y v : Int) (w : World) (h : IsM w b (mk l u s)) (hx : x = j) (hy : y = n) (hv : v = u) (hj : j < s.length) (h1 : 1 ≤ n) (hn : u + n ≤ l.length) :
    Calls Try.prog 44 #[.pointer (some ⟨b.m, 0, none⟩), .int .i64 x, .int .i64 y] w fun e w' => e = .returned (.tuple #[.int .i64 v, .int .i64 0]) ∧ IsM w' b (mk l (u + n) (stp s j)) ∧ Fr b.own w w' := by
  subst hx hy hv
  exact alloc_ok b (mk l u s) j n w h hj h1 hn

theorem store_mk (b : MB) (l : List Int) (u : Nat) (s : List Int) (j k : Nat) (x y v : Int) (w : World) (h : IsM w b (mk l u s)) (hx : x = j) (hy : y = k) (hj : j < s.length) (hk : k < u) :
    Calls Try.prog 48 #[.pointer (some ⟨b.m, 0, none⟩), .int .i64 x, .int .i64 y, .int .i64 v] w fun e w' => e = .returned (.int .i64 0) ∧ IsM w' b (mk (l.set k v) u (stp s j)) ∧ Fr b.own w w' := by
  subst hx hy
  exact store_ok b (mk l u s) j k v w h hj hk

theorem steps_mk (b : MB) (l : List Int) (u : Nat) (s : List Int) (j : Nat) (x v : Int) (w : World) (h : IsM w b (mk l u s)) (hx : x = j) (hj : j < s.length) (hv : s.getD j 0 = v) :
    Calls Try.prog 24 #[.pointer (some ⟨b.m, 0, none⟩), .int .i64 x] w fun e w' => e = .returned (.int .i64 v) ∧ w = w' := by
  subst hx hv
  exact steps_in b (mk l u s) j w h hj

theorem peek_mk (b : MB) (l : List Int) (u : Nat) (s : List Int) (j : Nat) (x v : Int) (w : World) (h : IsM w b (mk l u s)) (hx : x = j) (hj : j < u) (hv : l.getD j 0 = v) :
    Calls Try.prog 28 #[.pointer (some ⟨b.m, 0, none⟩), .int .i64 x] w fun e w' => e = .returned (.int .i64 v) ∧ w = w' := by
  subst hx hv
  exact peek_in b (mk l u s) j w h hj

theorem stp0 (p c : Int) : stp [p, c] 0 = [wrap64 (p + 1), c] := rfl
theorem stp1 (p c d : Int) (h : wrap64 (c + 1) = d) : stp [p, c] 1 = [p, d] := by rw [← h]; rfl

theorem fill_step (V : List Int) (hV : V.length = 4) (k : Nat) (hk : k < 4) : (V.take k ++ List.replicate (9 - k) 0).set k (V.getD k 0) = V.take (k + 1) ++ List.replicate (9 - (k + 1)) 0 := by
  match V, hV with
  | [a, b, c, d], _ =>
    match k, hk with
    | 0, _ => rfl
    | 1, _ => rfl
    | 2, _ => rfl
    | 3, _ => rfl

def PkRel (w0 : World) (b : MB) (bl : Nat) (V : List Int) (d : Nat) (z : Value) (wr : World) : Prop :=
  ∃ (k : Nat) (p : Int), k ≤ 4 ∧ d = 4 + 1 - k ∧ z = .int .i64 k ∧ IsM wr b (mk (V.take k ++ List.replicate (9 - k) 0) 4 [p, 0]) ∧ Blk wr bl (ints V) ∧ Fr (fun _ => False) w0 wr

theorem ints_four (V : List Int) (hV : V.length = 4) : ∃ a b c d, V = [a, b, c, d] := by
  match V, hV with
  | [a, b, c, d], _ => exact ⟨a, b, c, d, rfl⟩

theorem up_ne (v : Int) (h1 : -9223372036854775808 ≤ v) (h2 : v ≤ 9223372036854775807) : wrap64 (v + 1) ≠ v := by
  unfold wrap64
  omega

theorem Fr.of_eq' {S : Nat → Prop} {w w' : World} (h : w = w') : Fr S w w' := h ▸ Fr.refl S w

set_option maxRecDepth 100000 in
set_option maxHeartbeats 4000000 in
theorem parked_low (at_ : Int) (V : List Int) (seen : Int) (w0 : World) (hV : V.length = 4) (h : at_ < 0) :
    Calls Try.prog 8 #[.int .i64 at_, .agg (ints V), .int .i64 seen] w0 fun e w' => e = .returned (.bool true) ∧ Below w0.heap.size w0 w' := by
  have HV := hid hV
  clear hV
  have ta : decide (0 ≤ at_) = false := by simp; omega
  have HOUT := hid (show ∀ u : Int, at_ < 0 ∨ u ≤ at_ from fun _ => .inl h)
  have HAT := hid h
  clear h
  have HOUT := hid (show at_ < 0 ∨ ((4 : Nat) : Int) ≤ at_ from .inl HAT.out)
  go_enter Try.func8, Try.ntmps8
  have HG0 := hid (Fr.alloc (fun _ => False) w0 (.cells (ints V) 105))
  have HBl0 := hid (Blk.new w0 (ints V) 105)
  obtain ⟨bl, hbl⟩ : ∃ bl, w0.heap.size = bl := ⟨_, rfl⟩
  have HLbl := hid (show w0.heap.size ≤ bl from by omega)
  go_wp2_with fail
  refine (new_mk 9 1 9 1 rfl rfl _ (by omega) (by omega) (by omega) (by omega)).mono ?_
  rintro e w1 ⟨b, rfl, hM, hF, hown⟩
  have HG1 := hid (HG0.out.trans hF)
  have HM1 := hid (show IsM w1 b (mk (List.replicate 9 0) 0 [0, 0]) from hM)
  have HBl1 := hid ((HBl0.out.same hF).at hbl)
  have HOWN2 := hid (show ∀ i, b.own i → w0.heap.size < i from fun i hi => by have := hown i hi; simp at this; omega)
  have HOWN := hid (show ∀ i, b.own i → w0.heap.size ≤ i from fun i hi => Nat.le_of_lt (HOWN2.out i hi))
  have nObl := hid (show ¬ b.own bl from fun hh => by have := HOWN2.out bl hh; omega)
  clear hF hM hown HG0 HBl0 hbl
  go_wp2_with fail
  refine (alloc_mk b _ _ _ 0 4 0 4 0 _ HM1.out rfl rfl rfl (by simp) (by omega) (by simp)).mono ?_
  rintro e w2 ⟨rfl, hM, hF⟩
  have HG2 := hid (HG1.out.since hF (fun i hi hlt => by have := HOWN.out i hi; omega))
  have HM2 := hid hM
  have HBl2 := hid (HBl1.out.keep hF nObl.out)
  clear HBl1
  clear hF hM HG1 HM1
  go_wp2_with fail
  have HREL := hid (show PkRel w0 b bl V 5 (.int .i64 0) w2 from ⟨0, _, by omega, by omega, rfl, HM2.out, HBl2.out, HG2.out⟩)
  clear HM2 HBl2 HG2
  go_loopg [11] 5 (fun d z wr => PkRel w0 b bl V d z wr)
  case atStart => exact HREL.out
  case round =>
    clear HREL
    obtain ⟨n, p, hn, rfl, rfl, hM, hB, hG⟩ := hrel
    have HM10 := hid hM
    have HBl10 := hid hB
    have HG10 := hid hG
    have HN := hid hn
    clear hM hB hG hn
    by_cases hlt : n < 4
    · have hlt2 : (n : Int) < 4 := by omega
      have c1 := HBl10.out.cell (i := n) (ints_at V n (by have := HV.out; omega))
      obtain ⟨z, hz⟩ : ∃ z, V.getD n 0 = z := ⟨_, rfl⟩
      rw [hz] at c1
      have HZ := hid hz
      clear hz
      go_wp2_with fail
      refine (store_mk b _ _ _ 0 n 0 n z _ HM10.out rfl rfl (by simp) hlt).mono ?_
      rintro e w11 ⟨rfl, hM, hF⟩
      have HG11 := hid (HG10.out.since hF (fun i hi hlt => by have := HOWN.out i hi; omega))
      have HM11 := hid hM
      have HBl11 := hid (HBl10.out.keep hF nObl.out)
      clear HBl10 c1
      clear hF hM HG10 HM10
      go_wp2_with fail
      go_roundg (5 - (n + 1))
      case rel => exact ⟨n + 1, _, by omega, rfl, by go_num, by have := HM11.out; rw [← HZ.out, fill_step V HV.out n hlt, stp0] at this; exact this, HBl11.out, HG11.out⟩
      case measure => omega
    · obtain rfl : n = 4 := by have := HN.out; omega
      have HM10 := hid (show IsM wr b (mk (V.take 4 ++ [0, 0, 0, 0, 0]) 4 [p, 0]) from HM10.out)
      obtain ⟨L, hL⟩ : ∃ L, V.take 4 ++ [0, 0, 0, 0, 0] = L := ⟨_, rfl⟩
      have HLV := hid (show ∀ j, j < 4 → L.getD j 0 = V.getD j 0 from fun j hj => by
        obtain ⟨a, b, c, d, rfl⟩ := ints_four V HV.out
        rw [← hL]
        match j, hj with
        | 0, _ => rfl
        | 1, _ => rfl
        | 2, _ => rfl
        | 3, _ => rfl)
      rw [hL] at HM10
      clear hL HN hlt

      go_wp2_with fail
      obtain ⟨be, hbe⟩ : ∃ be, wr.heap.size = be := ⟨_, rfl⟩
      obtain ⟨w11, hw11⟩ : ∃ w11, wr.alloc (.cells #[.int .i64 at_] 76) = w11 := ⟨_, rfl⟩
      have HBbe11 := hid (show Blk w11 be #[.int .i64 at_] from by rw [← hw11]; exact (Blk.new _ _ _).at hbe)
      have hF : Fr (fun _ => False) wr w11 := by rw [← hw11]; exact Fr.alloc _ _ _
      have HM11 := hid (HM10.out.same hF)
      have HG11 := hid (HG10.out.trans hF)
      have HBl11 := hid (HBl10.out.same hF)
      have HLbe := hid (show w0.heap.size ≤ be from by have := HG10.out.size; omega)
      have nObe := hid (show ¬ b.own be from fun hh => by have := HM10.out.own_lt _ hh; omega)
      have nbl_be := hid (show bl ≠ be from by have := HBl10.out.lt; omega)
      rw [hw11, hbe]
      clear hw11 hF HG10 HM10 HBl10 hbe
      have pbe := HBbe11.out.cell (i := 0) rfl
      refine (eparked_mk b _ _ _ at_ seen false _ HM11.out (told_out _ _ _ _ HOUT.out)).mono ?_
      rintro e w12 ⟨rfl, hF⟩
      have HG12 := hid (HG11.out.trans hF)
      have HM12 := hid (HM11.out.same hF)
      have HBbe12 := hid (HBbe11.out.same hF)
      have HBl12 := hid (HBl11.out.same hF)
      clear HBl11
      clear hF HG11 HM11 HBbe11 pbe
      have pbe := HBbe12.out.cell (i := 0) rfl
      go_wp2_with fail
      refine (eparked_nil at_ seen _).mono ?_
      rintro e w13 ⟨rfl, hF⟩
      have HG13 := hid (HG12.out.trans hF)
      have HM13 := hid (HM12.out.same hF)
      have HBbe13 := hid (HBbe12.out.same hF)
      have HBl13 := hid (HBl12.out.same hF)
      clear HBl12
      clear hF HG12 HM12 HBbe12 pbe
      have pbe := HBbe13.out.cell (i := 0) rfl
      go_wp2_with fail
      refine (wleave_none _).mono ?_
      rintro e w' ⟨rfl, rfl⟩
      go_wp2_with fail
      refine (ewait_mk at_ _).mono ?_
      rintro e w14 ⟨x, rfl, hX, hF, hlx⟩
      have HG14 := hid (HG13.out.trans hF)
      have HM14 := hid (HM13.out.same hF)
      have HBbe14 := hid (HBbe13.out.same hF)
      have HXx14 := hid hX
      have HLx := hid (show w0.heap.size ≤ x from by have := HG13.out.size; omega)
      have nOx := hid (show ¬ b.own x from fun hh => by have := HM13.out.own_lt _ hh; omega)
      have nbe_x := hid (show be ≠ x from by have := HBbe13.out.lt; omega)
      have nbl_x := hid (show bl ≠ x from by have := HBl13.out.lt; omega)
      clear hX hlx
      have HBl14 := hid (HBl13.out.same hF)
      clear HBl13
      clear hF HG13 HM13 HBbe13 pbe
      have pbe := HBbe14.out.cell (i := 0) rfl
      go_wp2_with fail
      refine (eread_nil 0 at_ _).mono ?_
      rintro e w15 ⟨rfl, hF⟩
      have HG15 := hid (HG14.out.trans hF)
      have HM15 := hid (HM14.out.same hF)
      have HXx15 := hid (HXx14.out.same hF)
      have HBbe15 := hid (HBbe14.out.same hF)
      have HBl15 := hid (HBl14.out.same hF)
      clear HBl14
      clear hF HG14 HM14 HXx14 HBbe14 pbe
      have pbe := HBbe15.out.cell (i := 0) rfl
      go_wp2_with fail
      refine (enew_nil 0 _).mono ?_
      rintro e w16 ⟨rfl, hF⟩
      have HG16 := hid (HG15.out.trans hF)
      have HM16 := hid (HM15.out.same hF)
      have HXx16 := hid (HXx15.out.same hF)
      have HBbe16 := hid (HBbe15.out.same hF)
      have HBl16 := hid (HBl15.out.same hF)
      clear HBl15
      clear hF HG15 HM15 HXx15 HBbe15 pbe
      have pbe := HBbe16.out.cell (i := 0) rfl
      go_wp2_with fail
      obtain ⟨bf, hbf⟩ : ∃ bf, w16.heap.size = bf := ⟨_, rfl⟩
      obtain ⟨w17, hw⟩ : ∃ u, w16.alloc (.cells #[.int .i64 0] 76) = u := ⟨_, rfl⟩
      have HBbf17 := hid (show Blk w17 bf #[.int .i64 0] from by rw [← hw]; exact (Blk.new _ _ _).at hbf)
      have hF : Fr (fun _ => False) w16 w17 := by rw [← hw]; exact Fr.alloc _ _ _
      have HM17 := hid (HM16.out.same hF)
      have HG17 := hid (HG16.out.trans hF)
      have HBl17 := hid (HBl16.out.same hF)
      have HBbe17 := hid (HBbe16.out.same hF)
      have HXx17 := hid (HXx16.out.same hF)
      have nObf := hid (show ¬ b.own bf from fun hh => by have := HM16.out.own_lt _ hh; omega)
      have nbf_x := hid (show bf ≠ x from by have := Blk.lt HXx16.out; omega)
      rw [hw, hbf]
      clear hw hF HG16 HM16 HBl16 HBbe16 HXx16 hbf pbe
      have pbe := HBbe17.out.cell (i := 0) rfl
      have pbf := HBbf17.out.cell (i := 0) rfl
      refine (wready_none _ 0 _).mono ?_
      rintro e w' ⟨rfl, rfl⟩
      go_wp2_with fail
      refine (wpark_none _).mono ?_
      rintro e w' ⟨rfl, rfl⟩
      go_wp2_with fail
      refine (wparked_none _ _).mono ?_
      rintro e w18 ⟨rfl, hF⟩
      have HG18 := hid (HG17.out.trans hF)
      have HM18 := hid (HM17.out.same hF)
      have HXx18 := hid (HXx17.out.same hF)
      have HBbe18 := hid (HBbe17.out.same hF)
      have HBbf18 := hid (HBbf17.out.same hF)
      have HBl18 := hid (HBl17.out.same hF)
      clear HBl17
      clear hF HG17 HM17 HXx17 HBbe17 pbe HBbf17 pbf
      have pbe := HBbe18.out.cell (i := 0) rfl
      have pbf := HBbf18.out.cell (i := 0) rfl
      go_wp2_with fail
      refine (wready_nil 0 at_ x 0 0 _ HXx18.out).mono ?_
      rintro e w19 ⟨rfl, hF⟩
      have HG19 := hid (HG18.out.trans hF)
      have HM19 := hid (HM18.out.same hF)
      have HXx19 := hid (HXx18.out.same hF)
      have HBbe19 := hid (HBbe18.out.same hF)
      have HBbf19 := hid (HBbf18.out.same hF)
      have HBl19 := hid (HBl18.out.same hF)
      clear HBl18
      clear hF HG18 HM18 HXx18 HBbe18 pbe HBbf18 pbf
      have pbe := HBbe19.out.cell (i := 0) rfl
      have pbf := HBbf19.out.cell (i := 0) rfl
      go_wp2_with fail
      refine (wparked_nil x at_ 0 0 _ HXx19.out).mono ?_
      rintro e w20 ⟨rfl, hF⟩
      have HG20 := hid (HG19.out.trans hF)
      have HM20 := hid (HM19.out.same hF)
      have HXx20 := hid (HXx19.out.same hF)
      have HBbe20 := hid (HBbe19.out.same hF)
      have HBbf20 := hid (HBbf19.out.same hF)
      have HBl20 := hid (HBl19.out.same hF)
      clear HBl19
      clear hF HG19 HM19 HXx19 HBbe19 pbe HBbf19 pbf
      have pbe := HBbe20.out.cell (i := 0) rfl
      have pbf := HBbf20.out.cell (i := 0) rfl
      go_wp2_with fail
      refine (etell_nil 0 at_ _).mono ?_
      rintro e w21 ⟨rfl, hF⟩
      have HG21 := hid (HG20.out.trans hF)
      have HM21 := hid (HM20.out.same hF)
      have HXx21 := hid (HXx20.out.same hF)
      have HBbe21 := hid (HBbe20.out.same hF)
      have HBbf21 := hid (HBbf20.out.same hF)
      have HBl21 := hid (HBl20.out.same hF)
      clear HBl20
      clear hF HG20 HM20 HXx20 HBbe20 pbe HBbf20 pbf
      have pbe := HBbe21.out.cell (i := 0) rfl
      have pbf := HBbf21.out.cell (i := 0) rfl
      go_wp2_with fail
      refine (eread_no b _ 1 at_ _ HM21.out (fun hh => by have h4 : at_ < ((4 : Nat) : Int) := hh.2.2.2; have h5 : 0 ≤ at_ := hh.2.2.1; have := HOUT.out; omega)).mono ?_
      rintro e w22 ⟨rfl, hF⟩
      have HG22 := hid (HG21.out.trans hF)
      have HM22 := hid (HM21.out.same hF)
      have HXx22 := hid (HXx21.out.same hF)
      have HBbe22 := hid (HBbe21.out.same hF)
      have HBbf22 := hid (HBbf21.out.same hF)
      have HBl22 := hid (HBl21.out.same hF)
      clear HBl21
      clear hF HG21 HM21 HXx21 HBbe21 pbe HBbf21 pbf
      have pbe := HBbe22.out.cell (i := 0) rfl
      have pbf := HBbf22.out.cell (i := 0) rfl
      go_wp2_with fail
      refine (etell_no b _ 1 at_ _ HM22.out (fun hh => by have h4 : at_ < ((4 : Nat) : Int) := hh.2.2.2; have h5 : 0 ≤ at_ := hh.2.2.1; have := HOUT.out; omega)).mono ?_
      rintro e w23 ⟨rfl, hM, hF⟩
      have HG23 := hid (HG22.out.since hF (fun i hi hlt => by have := HOWN.out i hi; omega))
      have HM23 := hid hM
      have HXx23 := hid (HXx22.out.keep hF nOx.out)
      have HBbe23 := hid (HBbe22.out.keep hF nObe.out)
      have HBbf23 := hid (HBbf22.out.keep hF nObf.out)
      have HBl23 := hid (HBl22.out.keep hF nObl.out)
      clear HBl22
      clear hF hM HG22 HM22 HXx22 HBbe22 pbe HBbf22 pbf
      have pbe := HBbe23.out.cell (i := 0) rfl
      have pbf := HBbf23.out.cell (i := 0) rfl
      go_wp2_with fail
      refine (wready_no b _ 1 at_ x 0 0 _ HXx23.out HM23.out (fun hh => by have h4 : at_ < ((4 : Nat) : Int) := hh.2.2.2; have h5 : 0 ≤ at_ := hh.2.2.1; have := HOUT.out; omega)).mono ?_
      rintro e w24 ⟨rfl, hF⟩
      have HG24 := hid (HG23.out.trans hF)
      have HM24 := hid (HM23.out.same hF)
      have HXx24 := hid (HXx23.out.same hF)
      have HBbe24 := hid (HBbe23.out.same hF)
      have HBbf24 := hid (HBbf23.out.same hF)
      have HBl24 := hid (HBl23.out.same hF)
      clear HBl23
      clear hF HG23 HM23 HXx23 HBbe23 pbe HBbf23 pbf
      have pbe := HBbe24.out.cell (i := 0) rfl
      have pbf := HBbf24.out.cell (i := 0) rfl
      go_wp2_with fail
      refine (wpark_no x at_ 0 0 _ HXx24.out (by decide)).mono ?_
      rintro e w' ⟨rfl, rfl⟩
      go_wp2_with fail
      refine (wparked_mk b _ _ _ x at_ 0 0 false _ HM24.out HXx24.out (rest_up _ _ _ _ _ (by decide))).mono ?_
      rintro e w25 ⟨rfl, hF⟩
      have HG25 := hid (HG24.out.trans hF)
      have HM25 := hid (HM24.out.same hF)
      have HXx25 := hid (HXx24.out.same hF)
      have HBbe25 := hid (HBbe24.out.same hF)
      have HBbf25 := hid (HBbf24.out.same hF)
      have HBl25 := hid (HBl24.out.same hF)
      clear HBl24
      clear hF HG24 HM24 HXx24 HBbe24 pbe HBbf24 pbf
      have pbe := HBbe25.out.cell (i := 0) rfl
      have pbf := HBbf25.out.cell (i := 0) rfl
      go_wp2_with fail
      refine (steps_mk b _ _ _ 1 1 0 _ HM25.out rfl (by simp) rfl).mono ?_
      rintro e w' ⟨rfl, rfl⟩
      go_wp2_with fail
      refine (awake_ok _).mono ?_
      rintro e w99 ⟨rfl, hF9⟩
      go_wp2_with fail
      go_ret
      exact ⟨rfl, (HG25.out.trans hF9).below (Nat.le_refl _) (fun _ hh => hh.elim)⟩

set_option maxRecDepth 100000 in
set_option maxHeartbeats 4000000 in
theorem parked_high (at_ : Int) (V : List Int) (seen : Int) (w0 : World) (hV : V.length = 4) (h : 4 ≤ at_) :
    Calls Try.prog 8 #[.int .i64 at_, .agg (ints V), .int .i64 seen] w0 fun e w' => e = .returned (.bool true) ∧ Below w0.heap.size w0 w' := by
  have HV := hid hV
  clear hV
  have ta : decide (0 ≤ at_) = true := by simp; omega
  have tb : decide (at_ < 4) = false := by simp; omega
  have HOUT := hid (show at_ < 0 ∨ ((4 : Nat) : Int) ≤ at_ from .inr h)
  clear h
  go_enter Try.func8, Try.ntmps8
  have HG0 := hid (Fr.alloc (fun _ => False) w0 (.cells (ints V) 105))
  have HBl0 := hid (Blk.new w0 (ints V) 105)
  obtain ⟨bl, hbl⟩ : ∃ bl, w0.heap.size = bl := ⟨_, rfl⟩
  have HLbl := hid (show w0.heap.size ≤ bl from by omega)
  go_wp2_with fail
  refine (new_mk 9 1 9 1 rfl rfl _ (by omega) (by omega) (by omega) (by omega)).mono ?_
  rintro e w1 ⟨b, rfl, hM, hF, hown⟩
  have HG1 := hid (HG0.out.trans hF)
  have HM1 := hid (show IsM w1 b (mk (List.replicate 9 0) 0 [0, 0]) from hM)
  have HBl1 := hid ((HBl0.out.same hF).at hbl)
  have HOWN2 := hid (show ∀ i, b.own i → w0.heap.size < i from fun i hi => by have := hown i hi; simp at this; omega)
  have HOWN := hid (show ∀ i, b.own i → w0.heap.size ≤ i from fun i hi => Nat.le_of_lt (HOWN2.out i hi))
  have nObl := hid (show ¬ b.own bl from fun hh => by have := HOWN2.out bl hh; omega)
  clear hF hM hown HG0 HBl0 hbl
  go_wp2_with fail
  refine (alloc_mk b _ _ _ 0 4 0 4 0 _ HM1.out rfl rfl rfl (by simp) (by omega) (by simp)).mono ?_
  rintro e w2 ⟨rfl, hM, hF⟩
  have HG2 := hid (HG1.out.since hF (fun i hi hlt => by have := HOWN.out i hi; omega))
  have HM2 := hid hM
  have HBl2 := hid (HBl1.out.keep hF nObl.out)
  clear HBl1
  clear hF hM HG1 HM1
  go_wp2_with fail
  have HREL := hid (show PkRel w0 b bl V 5 (.int .i64 0) w2 from ⟨0, _, by omega, by omega, rfl, HM2.out, HBl2.out, HG2.out⟩)
  clear HM2 HBl2 HG2
  go_loopg [11] 5 (fun d z wr => PkRel w0 b bl V d z wr)
  case atStart => exact HREL.out
  case round =>
    clear HREL
    obtain ⟨n, p, hn, rfl, rfl, hM, hB, hG⟩ := hrel
    have HM10 := hid hM
    have HBl10 := hid hB
    have HG10 := hid hG
    have HN := hid hn
    clear hM hB hG hn
    by_cases hlt : n < 4
    · have hlt2 : (n : Int) < 4 := by omega
      have c1 := HBl10.out.cell (i := n) (ints_at V n (by have := HV.out; omega))
      obtain ⟨z, hz⟩ : ∃ z, V.getD n 0 = z := ⟨_, rfl⟩
      rw [hz] at c1
      have HZ := hid hz
      clear hz
      go_wp2_with fail
      refine (store_mk b _ _ _ 0 n 0 n z _ HM10.out rfl rfl (by simp) hlt).mono ?_
      rintro e w11 ⟨rfl, hM, hF⟩
      have HG11 := hid (HG10.out.since hF (fun i hi hlt => by have := HOWN.out i hi; omega))
      have HM11 := hid hM
      have HBl11 := hid (HBl10.out.keep hF nObl.out)
      clear HBl10 c1
      clear hF hM HG10 HM10
      go_wp2_with fail
      go_roundg (5 - (n + 1))
      case rel => exact ⟨n + 1, _, by omega, rfl, by go_num, by have := HM11.out; rw [← HZ.out, fill_step V HV.out n hlt, stp0] at this; exact this, HBl11.out, HG11.out⟩
      case measure => omega
    · obtain rfl : n = 4 := by have := HN.out; omega
      have HM10 := hid (show IsM wr b (mk (V.take 4 ++ [0, 0, 0, 0, 0]) 4 [p, 0]) from HM10.out)
      obtain ⟨L, hL⟩ : ∃ L, V.take 4 ++ [0, 0, 0, 0, 0] = L := ⟨_, rfl⟩
      have HLV := hid (show ∀ j, j < 4 → L.getD j 0 = V.getD j 0 from fun j hj => by
        obtain ⟨a, b, c, d, rfl⟩ := ints_four V HV.out
        rw [← hL]
        match j, hj with
        | 0, _ => rfl
        | 1, _ => rfl
        | 2, _ => rfl
        | 3, _ => rfl)
      rw [hL] at HM10
      clear hL HN hlt

      go_wp2_with fail
      obtain ⟨be, hbe⟩ : ∃ be, wr.heap.size = be := ⟨_, rfl⟩
      obtain ⟨w11, hw11⟩ : ∃ w11, wr.alloc (.cells #[.int .i64 at_] 76) = w11 := ⟨_, rfl⟩
      have HBbe11 := hid (show Blk w11 be #[.int .i64 at_] from by rw [← hw11]; exact (Blk.new _ _ _).at hbe)
      have hF : Fr (fun _ => False) wr w11 := by rw [← hw11]; exact Fr.alloc _ _ _
      have HM11 := hid (HM10.out.same hF)
      have HG11 := hid (HG10.out.trans hF)
      have HBl11 := hid (HBl10.out.same hF)
      have HLbe := hid (show w0.heap.size ≤ be from by have := HG10.out.size; omega)
      have nObe := hid (show ¬ b.own be from fun hh => by have := HM10.out.own_lt _ hh; omega)
      have nbl_be := hid (show bl ≠ be from by have := HBl10.out.lt; omega)
      rw [hw11, hbe]
      clear hw11 hF HG10 HM10 HBl10 hbe
      have pbe := HBbe11.out.cell (i := 0) rfl
      refine (eparked_mk b _ _ _ at_ seen false _ HM11.out (told_out _ _ _ _ HOUT.out)).mono ?_
      rintro e w12 ⟨rfl, hF⟩
      have HG12 := hid (HG11.out.trans hF)
      have HM12 := hid (HM11.out.same hF)
      have HBbe12 := hid (HBbe11.out.same hF)
      have HBl12 := hid (HBl11.out.same hF)
      clear HBl11
      clear hF HG11 HM11 HBbe11 pbe
      have pbe := HBbe12.out.cell (i := 0) rfl
      go_wp2_with fail
      refine (eparked_nil at_ seen _).mono ?_
      rintro e w13 ⟨rfl, hF⟩
      have HG13 := hid (HG12.out.trans hF)
      have HM13 := hid (HM12.out.same hF)
      have HBbe13 := hid (HBbe12.out.same hF)
      have HBl13 := hid (HBl12.out.same hF)
      clear HBl12
      clear hF HG12 HM12 HBbe12 pbe
      have pbe := HBbe13.out.cell (i := 0) rfl
      go_wp2_with fail
      refine (wleave_none _).mono ?_
      rintro e w' ⟨rfl, rfl⟩
      go_wp2_with fail
      refine (ewait_mk at_ _).mono ?_
      rintro e w14 ⟨x, rfl, hX, hF, hlx⟩
      have HG14 := hid (HG13.out.trans hF)
      have HM14 := hid (HM13.out.same hF)
      have HBbe14 := hid (HBbe13.out.same hF)
      have HXx14 := hid hX
      have HLx := hid (show w0.heap.size ≤ x from by have := HG13.out.size; omega)
      have nOx := hid (show ¬ b.own x from fun hh => by have := HM13.out.own_lt _ hh; omega)
      have nbe_x := hid (show be ≠ x from by have := HBbe13.out.lt; omega)
      have nbl_x := hid (show bl ≠ x from by have := HBl13.out.lt; omega)
      clear hX hlx
      have HBl14 := hid (HBl13.out.same hF)
      clear HBl13
      clear hF HG13 HM13 HBbe13 pbe
      have pbe := HBbe14.out.cell (i := 0) rfl
      go_wp2_with fail
      refine (eread_nil 0 at_ _).mono ?_
      rintro e w15 ⟨rfl, hF⟩
      have HG15 := hid (HG14.out.trans hF)
      have HM15 := hid (HM14.out.same hF)
      have HXx15 := hid (HXx14.out.same hF)
      have HBbe15 := hid (HBbe14.out.same hF)
      have HBl15 := hid (HBl14.out.same hF)
      clear HBl14
      clear hF HG14 HM14 HXx14 HBbe14 pbe
      have pbe := HBbe15.out.cell (i := 0) rfl
      go_wp2_with fail
      refine (enew_nil 0 _).mono ?_
      rintro e w16 ⟨rfl, hF⟩
      have HG16 := hid (HG15.out.trans hF)
      have HM16 := hid (HM15.out.same hF)
      have HXx16 := hid (HXx15.out.same hF)
      have HBbe16 := hid (HBbe15.out.same hF)
      have HBl16 := hid (HBl15.out.same hF)
      clear HBl15
      clear hF HG15 HM15 HXx15 HBbe15 pbe
      have pbe := HBbe16.out.cell (i := 0) rfl
      go_wp2_with fail
      obtain ⟨bf, hbf⟩ : ∃ bf, w16.heap.size = bf := ⟨_, rfl⟩
      obtain ⟨w17, hw⟩ : ∃ u, w16.alloc (.cells #[.int .i64 0] 76) = u := ⟨_, rfl⟩
      have HBbf17 := hid (show Blk w17 bf #[.int .i64 0] from by rw [← hw]; exact (Blk.new _ _ _).at hbf)
      have hF : Fr (fun _ => False) w16 w17 := by rw [← hw]; exact Fr.alloc _ _ _
      have HM17 := hid (HM16.out.same hF)
      have HG17 := hid (HG16.out.trans hF)
      have HBl17 := hid (HBl16.out.same hF)
      have HBbe17 := hid (HBbe16.out.same hF)
      have HXx17 := hid (HXx16.out.same hF)
      have nObf := hid (show ¬ b.own bf from fun hh => by have := HM16.out.own_lt _ hh; omega)
      have nbf_x := hid (show bf ≠ x from by have := Blk.lt HXx16.out; omega)
      rw [hw, hbf]
      clear hw hF HG16 HM16 HBl16 HBbe16 HXx16 hbf pbe
      have pbe := HBbe17.out.cell (i := 0) rfl
      have pbf := HBbf17.out.cell (i := 0) rfl
      refine (wready_none _ 0 _).mono ?_
      rintro e w' ⟨rfl, rfl⟩
      go_wp2_with fail
      refine (wpark_none _).mono ?_
      rintro e w' ⟨rfl, rfl⟩
      go_wp2_with fail
      refine (wparked_none _ _).mono ?_
      rintro e w18 ⟨rfl, hF⟩
      have HG18 := hid (HG17.out.trans hF)
      have HM18 := hid (HM17.out.same hF)
      have HXx18 := hid (HXx17.out.same hF)
      have HBbe18 := hid (HBbe17.out.same hF)
      have HBbf18 := hid (HBbf17.out.same hF)
      have HBl18 := hid (HBl17.out.same hF)
      clear HBl17
      clear hF HG17 HM17 HXx17 HBbe17 pbe HBbf17 pbf
      have pbe := HBbe18.out.cell (i := 0) rfl
      have pbf := HBbf18.out.cell (i := 0) rfl
      go_wp2_with fail
      refine (wready_nil 0 at_ x 0 0 _ HXx18.out).mono ?_
      rintro e w19 ⟨rfl, hF⟩
      have HG19 := hid (HG18.out.trans hF)
      have HM19 := hid (HM18.out.same hF)
      have HXx19 := hid (HXx18.out.same hF)
      have HBbe19 := hid (HBbe18.out.same hF)
      have HBbf19 := hid (HBbf18.out.same hF)
      have HBl19 := hid (HBl18.out.same hF)
      clear HBl18
      clear hF HG18 HM18 HXx18 HBbe18 pbe HBbf18 pbf
      have pbe := HBbe19.out.cell (i := 0) rfl
      have pbf := HBbf19.out.cell (i := 0) rfl
      go_wp2_with fail
      refine (wparked_nil x at_ 0 0 _ HXx19.out).mono ?_
      rintro e w20 ⟨rfl, hF⟩
      have HG20 := hid (HG19.out.trans hF)
      have HM20 := hid (HM19.out.same hF)
      have HXx20 := hid (HXx19.out.same hF)
      have HBbe20 := hid (HBbe19.out.same hF)
      have HBbf20 := hid (HBbf19.out.same hF)
      have HBl20 := hid (HBl19.out.same hF)
      clear HBl19
      clear hF HG19 HM19 HXx19 HBbe19 pbe HBbf19 pbf
      have pbe := HBbe20.out.cell (i := 0) rfl
      have pbf := HBbf20.out.cell (i := 0) rfl
      go_wp2_with fail
      refine (etell_nil 0 at_ _).mono ?_
      rintro e w21 ⟨rfl, hF⟩
      have HG21 := hid (HG20.out.trans hF)
      have HM21 := hid (HM20.out.same hF)
      have HXx21 := hid (HXx20.out.same hF)
      have HBbe21 := hid (HBbe20.out.same hF)
      have HBbf21 := hid (HBbf20.out.same hF)
      have HBl21 := hid (HBl20.out.same hF)
      clear HBl20
      clear hF HG20 HM20 HXx20 HBbe20 pbe HBbf20 pbf
      have pbe := HBbe21.out.cell (i := 0) rfl
      have pbf := HBbf21.out.cell (i := 0) rfl
      go_wp2_with fail
      refine (eread_no b _ 1 at_ _ HM21.out (fun hh => by have h4 : at_ < ((4 : Nat) : Int) := hh.2.2.2; have h5 : 0 ≤ at_ := hh.2.2.1; have := HOUT.out; omega)).mono ?_
      rintro e w22 ⟨rfl, hF⟩
      have HG22 := hid (HG21.out.trans hF)
      have HM22 := hid (HM21.out.same hF)
      have HXx22 := hid (HXx21.out.same hF)
      have HBbe22 := hid (HBbe21.out.same hF)
      have HBbf22 := hid (HBbf21.out.same hF)
      have HBl22 := hid (HBl21.out.same hF)
      clear HBl21
      clear hF HG21 HM21 HXx21 HBbe21 pbe HBbf21 pbf
      have pbe := HBbe22.out.cell (i := 0) rfl
      have pbf := HBbf22.out.cell (i := 0) rfl
      go_wp2_with fail
      refine (etell_no b _ 1 at_ _ HM22.out (fun hh => by have h4 : at_ < ((4 : Nat) : Int) := hh.2.2.2; have h5 : 0 ≤ at_ := hh.2.2.1; have := HOUT.out; omega)).mono ?_
      rintro e w23 ⟨rfl, hM, hF⟩
      have HG23 := hid (HG22.out.since hF (fun i hi hlt => by have := HOWN.out i hi; omega))
      have HM23 := hid hM
      have HXx23 := hid (HXx22.out.keep hF nOx.out)
      have HBbe23 := hid (HBbe22.out.keep hF nObe.out)
      have HBbf23 := hid (HBbf22.out.keep hF nObf.out)
      have HBl23 := hid (HBl22.out.keep hF nObl.out)
      clear HBl22
      clear hF hM HG22 HM22 HXx22 HBbe22 pbe HBbf22 pbf
      have pbe := HBbe23.out.cell (i := 0) rfl
      have pbf := HBbf23.out.cell (i := 0) rfl
      go_wp2_with fail
      refine (wready_no b _ 1 at_ x 0 0 _ HXx23.out HM23.out (fun hh => by have h4 : at_ < ((4 : Nat) : Int) := hh.2.2.2; have h5 : 0 ≤ at_ := hh.2.2.1; have := HOUT.out; omega)).mono ?_
      rintro e w24 ⟨rfl, hF⟩
      have HG24 := hid (HG23.out.trans hF)
      have HM24 := hid (HM23.out.same hF)
      have HXx24 := hid (HXx23.out.same hF)
      have HBbe24 := hid (HBbe23.out.same hF)
      have HBbf24 := hid (HBbf23.out.same hF)
      have HBl24 := hid (HBl23.out.same hF)
      clear HBl23
      clear hF HG23 HM23 HXx23 HBbe23 pbe HBbf23 pbf
      have pbe := HBbe24.out.cell (i := 0) rfl
      have pbf := HBbf24.out.cell (i := 0) rfl
      go_wp2_with fail
      refine (wpark_no x at_ 0 0 _ HXx24.out (by decide)).mono ?_
      rintro e w' ⟨rfl, rfl⟩
      go_wp2_with fail
      refine (wparked_mk b _ _ _ x at_ 0 0 false _ HM24.out HXx24.out (rest_up _ _ _ _ _ (by decide))).mono ?_
      rintro e w25 ⟨rfl, hF⟩
      have HG25 := hid (HG24.out.trans hF)
      have HM25 := hid (HM24.out.same hF)
      have HXx25 := hid (HXx24.out.same hF)
      have HBbe25 := hid (HBbe24.out.same hF)
      have HBbf25 := hid (HBbf24.out.same hF)
      have HBl25 := hid (HBl24.out.same hF)
      clear HBl24
      clear hF HG24 HM24 HXx24 HBbe24 pbe HBbf24 pbf
      have pbe := HBbe25.out.cell (i := 0) rfl
      have pbf := HBbf25.out.cell (i := 0) rfl
      go_wp2_with fail
      refine (steps_mk b _ _ _ 1 1 0 _ HM25.out rfl (by simp) rfl).mono ?_
      rintro e w' ⟨rfl, rfl⟩
      go_wp2_with fail
      refine (awake_ok _).mono ?_
      rintro e w99 ⟨rfl, hF9⟩
      go_wp2_with fail
      go_ret
      exact ⟨rfl, (HG25.out.trans hF9).below (Nat.le_refl _) (fun _ hh => hh.elim)⟩

set_option maxRecDepth 100000 in
set_option maxHeartbeats 4000000 in
theorem parked_in (at_ : Int) (V : List Int) (seen : Int) (w0 : World) (hV : V.length = 4) (h0 : 0 ≤ at_) (h1 : at_ < 4) (hf : ∀ j, j < 4 → -9223372036854775808 ≤ V.getD j 0 ∧ V.getD j 0 ≤ 9223372036854775807) :
    Calls Try.prog 8 #[.int .i64 at_, .agg (ints V), .int .i64 seen] w0 fun e w' => e = .returned (.bool true) ∧ Below w0.heap.size w0 w' := by
  have HV := hid hV
  clear hV
  obtain ⟨k, rfl⟩ := Int.eq_ofNat_of_zero_le h0
  have hk : k < 4 := by omega
  have ta : decide (0 ≤ (k : Int)) = true := by simp
  have tb : decide ((k : Int) < 4) = true := by simp; omega
  obtain ⟨q, hq⟩ : ∃ q, V.getD k 0 = q := ⟨_, rfl⟩
  have hfq := hf k hk
  rw [hq] at hfq
  have HUP := hid (up_ne q hfq.1 hfq.2)
  have HQ := hid hq
  have HK := hid hk
  clear h0 h1 hf hfq hq
  go_enter Try.func8, Try.ntmps8
  have HG0 := hid (Fr.alloc (fun _ => False) w0 (.cells (ints V) 105))
  have HBl0 := hid (Blk.new w0 (ints V) 105)
  obtain ⟨bl, hbl⟩ : ∃ bl, w0.heap.size = bl := ⟨_, rfl⟩
  have HLbl := hid (show w0.heap.size ≤ bl from by omega)
  go_wp2_with fail
  refine (new_mk 9 1 9 1 rfl rfl _ (by omega) (by omega) (by omega) (by omega)).mono ?_
  rintro e w1 ⟨b, rfl, hM, hF, hown⟩
  have HG1 := hid (HG0.out.trans hF)
  have HM1 := hid (show IsM w1 b (mk (List.replicate 9 0) 0 [0, 0]) from hM)
  have HBl1 := hid ((HBl0.out.same hF).at hbl)
  have HOWN2 := hid (show ∀ i, b.own i → w0.heap.size < i from fun i hi => by have := hown i hi; simp at this; omega)
  have HOWN := hid (show ∀ i, b.own i → w0.heap.size ≤ i from fun i hi => Nat.le_of_lt (HOWN2.out i hi))
  have nObl := hid (show ¬ b.own bl from fun hh => by have := HOWN2.out bl hh; omega)
  clear hF hM hown HG0 HBl0 hbl
  go_wp2_with fail
  refine (alloc_mk b _ _ _ 0 4 0 4 0 _ HM1.out rfl rfl rfl (by simp) (by omega) (by simp)).mono ?_
  rintro e w2 ⟨rfl, hM, hF⟩
  have HG2 := hid (HG1.out.since hF (fun i hi hlt => by have := HOWN.out i hi; omega))
  have HM2 := hid hM
  have HBl2 := hid (HBl1.out.keep hF nObl.out)
  clear HBl1
  clear hF hM HG1 HM1
  go_wp2_with fail
  have HREL := hid (show PkRel w0 b bl V 5 (.int .i64 0) w2 from ⟨0, _, by omega, by omega, rfl, HM2.out, HBl2.out, HG2.out⟩)
  clear HM2 HBl2 HG2
  go_loopg [11] 5 (fun d z wr => PkRel w0 b bl V d z wr)
  case atStart => exact HREL.out
  case round =>
    clear HREL
    obtain ⟨n, p, hn, rfl, rfl, hM, hB, hG⟩ := hrel
    have HM10 := hid hM
    have HBl10 := hid hB
    have HG10 := hid hG
    have HN := hid hn
    clear hM hB hG hn
    by_cases hlt : n < 4
    · have hlt2 : (n : Int) < 4 := by omega
      have c1 := HBl10.out.cell (i := n) (ints_at V n (by have := HV.out; omega))
      obtain ⟨z, hz⟩ : ∃ z, V.getD n 0 = z := ⟨_, rfl⟩
      rw [hz] at c1
      have HZ := hid hz
      clear hz
      go_wp2_with fail
      refine (store_mk b _ _ _ 0 n 0 n z _ HM10.out rfl rfl (by simp) hlt).mono ?_
      rintro e w11 ⟨rfl, hM, hF⟩
      have HG11 := hid (HG10.out.since hF (fun i hi hlt => by have := HOWN.out i hi; omega))
      have HM11 := hid hM
      have HBl11 := hid (HBl10.out.keep hF nObl.out)
      clear HBl10 c1
      clear hF hM HG10 HM10
      go_wp2_with fail
      go_roundg (5 - (n + 1))
      case rel => exact ⟨n + 1, _, by omega, rfl, by go_num, by have := HM11.out; rw [← HZ.out, fill_step V HV.out n hlt, stp0] at this; exact this, HBl11.out, HG11.out⟩
      case measure => omega
    · obtain rfl : n = 4 := by have := HN.out; omega
      have HM10 := hid (show IsM wr b (mk (V.take 4 ++ [0, 0, 0, 0, 0]) 4 [p, 0]) from HM10.out)
      obtain ⟨L, hL⟩ : ∃ L, V.take 4 ++ [0, 0, 0, 0, 0] = L := ⟨_, rfl⟩
      have HLV := hid (show ∀ j, j < 4 → L.getD j 0 = V.getD j 0 from fun j hj => by
        obtain ⟨a, b, c, d, rfl⟩ := ints_four V HV.out
        rw [← hL]
        match j, hj with
        | 0, _ => rfl
        | 1, _ => rfl
        | 2, _ => rfl
        | 3, _ => rfl)
      rw [hL] at HM10
      clear hL HN hlt
      have TD := hid (show told L 4 (k : Int) seen = (q == seen) from told_in L 4 k seen q HK.out (by rw [HLV.out k HK.out, HQ.out]))
      have HLQ := hid (show L.getD k 0 = q from by rw [HLV.out k HK.out, HQ.out])
      obtain ⟨v, hv⟩ : ∃ v, (q == seen) = v := ⟨_, rfl⟩
      have HV1 := hid hv
      have tv : (v != v) = false := by simp
      have cq : wr.cell? ⟨bl, k, none⟩ = some (.int .i64 q) := by rw [← HQ.out]; exact HBl10.out.cell (ints_at V k (by have := HV.out; omega))


      have hb : bits .and .i64 (k : Int) 3 = (k : Int) := by
        have := HK.out
        match k, this with
        | 0, _ => decide +kernel
        | 1, _ => decide +kernel
        | 2, _ => decide +kernel
        | 3, _ => decide +kernel
      have hk1 : (k : Int) < 4 := by have := HK.out; omega
      have hk0 : (0 : Int) ≤ (k : Int) := by omega
      go_wp2_with fail
      clear cq
      obtain ⟨be, hbe⟩ : ∃ be, wr.heap.size = be := ⟨_, rfl⟩
      obtain ⟨w11, hw11⟩ : ∃ w11, wr.alloc (.cells #[.int .i64 (k : Int)] 76) = w11 := ⟨_, rfl⟩
      have HBbe11 := hid (show Blk w11 be #[.int .i64 (k : Int)] from by rw [← hw11]; exact (Blk.new _ _ _).at hbe)
      have hF : Fr (fun _ => False) wr w11 := by rw [← hw11]; exact Fr.alloc _ _ _
      have HM11 := hid (HM10.out.same hF)
      have HG11 := hid (HG10.out.trans hF)
      have HBl11 := hid (HBl10.out.same hF)
      have HLbe := hid (show w0.heap.size ≤ be from by have := HG10.out.size; omega)
      have nObe := hid (show ¬ b.own be from fun hh => by have := HM10.out.own_lt _ hh; omega)
      have nbl_be := hid (show bl ≠ be from by have := HBl10.out.lt; omega)
      rw [hw11, hbe]
      clear hw11 hF HG10 HM10 HBl10 hbe
      have pbe := HBbe11.out.cell (i := 0) rfl
      refine (eparked_mk b _ _ _ (k : Int) seen v _ HM11.out (by rw [TD.out, HV1.out])).mono ?_
      rintro e w12 ⟨rfl, hF⟩
      have HG12 := hid (HG11.out.trans hF)
      have HM12 := hid (HM11.out.same hF)
      have HBbe12 := hid (HBbe11.out.same hF)
      have HBl12 := hid (HBl11.out.same hF)
      clear HBl11
      clear hF HG11 HM11 HBbe11 pbe
      have pbe := HBbe12.out.cell (i := 0) rfl
      have cq := HBl12.out.cell (i := k) (ints_at V k (by have := HV.out; have := HK.out; omega))
      rw [HQ.out] at cq
      go_wp2_with fail
      refine (eparked_nil (k : Int) seen _).mono ?_
      rintro e w13 ⟨rfl, hF⟩
      have HG13 := hid (HG12.out.trans hF)
      have HM13 := hid (HM12.out.same hF)
      have HBbe13 := hid (HBbe12.out.same hF)
      have HBl13 := hid (HBl12.out.same hF)
      clear HBl12
      clear cq
      clear hF HG12 HM12 HBbe12 pbe
      have pbe := HBbe13.out.cell (i := 0) rfl
      clear hv tv
      go_wp2_with fail
      refine (wleave_none _).mono ?_
      rintro e w' ⟨rfl, rfl⟩
      go_wp2_with fail
      refine (ewait_mk (k : Int) _).mono ?_
      rintro e w14 ⟨x, rfl, hX, hF, hlx⟩
      have HG14 := hid (HG13.out.trans hF)
      have HM14 := hid (HM13.out.same hF)
      have HBbe14 := hid (HBbe13.out.same hF)
      have HXx14 := hid hX
      have HLx := hid (show w0.heap.size ≤ x from by have := HG13.out.size; omega)
      have nOx := hid (show ¬ b.own x from fun hh => by have := HM13.out.own_lt _ hh; omega)
      have nbe_x := hid (show be ≠ x from by have := HBbe13.out.lt; omega)
      have nbl_x := hid (show bl ≠ x from by have := HBl13.out.lt; omega)
      clear hX hlx
      have HBl14 := hid (HBl13.out.same hF)
      clear HBl13
      clear hF HG13 HM13 HBbe13 pbe
      have pbe := HBbe14.out.cell (i := 0) rfl
      go_wp2_with fail
      refine (eread_nil 0 (k : Int) _).mono ?_
      rintro e w15 ⟨rfl, hF⟩
      have HG15 := hid (HG14.out.trans hF)
      have HM15 := hid (HM14.out.same hF)
      have HXx15 := hid (HXx14.out.same hF)
      have HBbe15 := hid (HBbe14.out.same hF)
      have HBl15 := hid (HBl14.out.same hF)
      clear HBl14
      clear hF HG14 HM14 HXx14 HBbe14 pbe
      have pbe := HBbe15.out.cell (i := 0) rfl
      go_wp2_with fail
      refine (enew_nil 0 _).mono ?_
      rintro e w16 ⟨rfl, hF⟩
      have HG16 := hid (HG15.out.trans hF)
      have HM16 := hid (HM15.out.same hF)
      have HXx16 := hid (HXx15.out.same hF)
      have HBbe16 := hid (HBbe15.out.same hF)
      have HBl16 := hid (HBl15.out.same hF)
      clear HBl15
      clear hF HG15 HM15 HXx15 HBbe15 pbe
      have pbe := HBbe16.out.cell (i := 0) rfl
      go_wp2_with fail
      obtain ⟨bf, hbf⟩ : ∃ bf, w16.heap.size = bf := ⟨_, rfl⟩
      obtain ⟨w17, hw⟩ : ∃ u, w16.alloc (.cells #[.int .i64 0] 76) = u := ⟨_, rfl⟩
      have HBbf17 := hid (show Blk w17 bf #[.int .i64 0] from by rw [← hw]; exact (Blk.new _ _ _).at hbf)
      have hF : Fr (fun _ => False) w16 w17 := by rw [← hw]; exact Fr.alloc _ _ _
      have HM17 := hid (HM16.out.same hF)
      have HG17 := hid (HG16.out.trans hF)
      have HBl17 := hid (HBl16.out.same hF)
      have HBbe17 := hid (HBbe16.out.same hF)
      have HXx17 := hid (HXx16.out.same hF)
      have nObf := hid (show ¬ b.own bf from fun hh => by have := HM16.out.own_lt _ hh; omega)
      have nbf_x := hid (show bf ≠ x from by have := Blk.lt HXx16.out; omega)
      rw [hw, hbf]
      clear hw hF HG16 HM16 HBl16 HBbe16 HXx16 hbf pbe
      have pbe := HBbe17.out.cell (i := 0) rfl
      have pbf := HBbf17.out.cell (i := 0) rfl
      refine (wready_none _ 0 _).mono ?_
      rintro e w' ⟨rfl, rfl⟩
      go_wp2_with fail
      refine (wpark_none _).mono ?_
      rintro e w' ⟨rfl, rfl⟩
      go_wp2_with fail
      refine (wparked_none _ _).mono ?_
      rintro e w18 ⟨rfl, hF⟩
      have HG18 := hid (HG17.out.trans hF)
      have HM18 := hid (HM17.out.same hF)
      have HXx18 := hid (HXx17.out.same hF)
      have HBbe18 := hid (HBbe17.out.same hF)
      have HBbf18 := hid (HBbf17.out.same hF)
      have HBl18 := hid (HBl17.out.same hF)
      clear HBl17
      clear hF HG17 HM17 HXx17 HBbe17 pbe HBbf17 pbf
      have pbe := HBbe18.out.cell (i := 0) rfl
      have pbf := HBbf18.out.cell (i := 0) rfl
      go_wp2_with fail
      refine (wready_nil 0 (k : Int) x 0 0 _ HXx18.out).mono ?_
      rintro e w19 ⟨rfl, hF⟩
      have HG19 := hid (HG18.out.trans hF)
      have HM19 := hid (HM18.out.same hF)
      have HXx19 := hid (HXx18.out.same hF)
      have HBbe19 := hid (HBbe18.out.same hF)
      have HBbf19 := hid (HBbf18.out.same hF)
      have HBl19 := hid (HBl18.out.same hF)
      clear HBl18
      clear hF HG18 HM18 HXx18 HBbe18 pbe HBbf18 pbf
      have pbe := HBbe19.out.cell (i := 0) rfl
      have pbf := HBbf19.out.cell (i := 0) rfl
      go_wp2_with fail
      refine (wparked_nil x (k : Int) 0 0 _ HXx19.out).mono ?_
      rintro e w20 ⟨rfl, hF⟩
      have HG20 := hid (HG19.out.trans hF)
      have HM20 := hid (HM19.out.same hF)
      have HXx20 := hid (HXx19.out.same hF)
      have HBbe20 := hid (HBbe19.out.same hF)
      have HBbf20 := hid (HBbf19.out.same hF)
      have HBl20 := hid (HBl19.out.same hF)
      clear HBl19
      clear hF HG19 HM19 HXx19 HBbe19 pbe HBbf19 pbf
      have pbe := HBbe20.out.cell (i := 0) rfl
      have pbf := HBbf20.out.cell (i := 0) rfl
      go_wp2_with fail
      refine (etell_nil 0 (k : Int) _).mono ?_
      rintro e w21 ⟨rfl, hF⟩
      have HG21 := hid (HG20.out.trans hF)
      have HM21 := hid (HM20.out.same hF)
      have HXx21 := hid (HXx20.out.same hF)
      have HBbe21 := hid (HBbe20.out.same hF)
      have HBbf21 := hid (HBbf20.out.same hF)
      have HBl21 := hid (HBl20.out.same hF)
      clear HBl20
      clear hF HG20 HM20 HXx20 HBbe20 pbe HBbf20 pbf
      have pbe := HBbe21.out.cell (i := 0) rfl
      have pbf := HBbf21.out.cell (i := 0) rfl
      go_wp2_with fail
      refine (eread_mk b _ _ _ 1 k 1 (k : Int) q _ HM21.out rfl rfl (by simp) HK.out HLQ.out).mono ?_
      rintro e w22 ⟨rfl, hM, hF⟩
      have HG22 := hid (HG21.out.since hF (fun i hi hlt => by have := HOWN.out i hi; omega))
      have HM22 := hid hM
      have HXx22 := hid (HXx21.out.keep hF nOx.out)
      have HBbe22 := hid (HBbe21.out.keep hF nObe.out)
      have HBbf22 := hid (HBbf21.out.keep hF nObf.out)
      have HBl22 := hid (HBl21.out.keep hF nObl.out)
      clear HBl21
      clear hF hM HG21 HM21 HXx21 HBbe21 pbe HBbf21 pbf
      have pbe := HBbe22.out.cell (i := 0) rfl
      have pbf := HBbf22.out.cell (i := 0) rfl
      rw [stp1 p 0 1 (by decide +kernel)] at HM22
      have tq : (q != q) = false := by simp
      have cq := HBl22.out.cell (i := k) (ints_at V k (by have := HV.out; have := HK.out; omega))
      rw [HQ.out] at cq
      go_wp2_with fail
      refine (wready_mk b _ _ _ 1 k 1 q x (k : Int) 0 0 _ HM22.out HXx22.out nOx.out rfl rfl (by simp) HK.out HLQ.out).mono ?_
      rintro e w23 ⟨rfl, hM, hX, hF⟩
      have HG23 := hid (HG22.out.since hF (fun i hi hlt => hi.elim (fun h => by have := HOWN.out i h; omega) (fun h => by have := HLx.out; have h2 : i = x := h; omega)))
      have HM23 := hid hM
      have HXx23 := hid hX
      have HBbe23 := hid (HBbe22.out.keep hF (fun hh => hh.elim nObe.out nbe_x.out))
      have HBbf23 := hid (HBbf22.out.keep hF (fun hh => hh.elim nObf.out nbf_x.out))
      have HBl23 := hid (HBl22.out.keep hF (fun hh => hh.elim nObl.out nbl_x.out))
      clear HBl22
      clear cq
      clear hF hM hX HG22 HM22 HXx22 HBbe22 pbe HBbf22 pbf
      have pbe := HBbe23.out.cell (i := 0) rfl
      have pbf := HBbf23.out.cell (i := 0) rfl
      rw [stp1 p 1 2 (by decide +kernel)] at HM23
      go_wp2_with fail
      refine (wpark_ok x (k : Int) q _ HXx23.out).mono ?_
      rintro e w24 ⟨rfl, hX, hF⟩
      have HG24 := hid (HG23.out.since hF (fun i hi hlt => by have := HLx.out; have h2 : i = x := hi; omega))
      have HM24 := hid (HM23.out.keep hF (fun k hk hh => nOx.out (hh ▸ hk)))
      have HXx24 := hid hX
      have HBbe24 := hid (HBbe23.out.keep hF nbe_x.out)
      have HBbf24 := hid (HBbf23.out.keep hF nbf_x.out)
      have HBl24 := hid (HBl23.out.keep hF nbl_x.out)
      clear HBl23
      clear hF hX HG23 HM23 HXx23 HBbe23 pbe HBbf23 pbf
      have pbe := HBbe24.out.cell (i := 0) rfl
      have pbf := HBbf24.out.cell (i := 0) rfl
      go_wp2_with fail
      refine (wparked_mk b _ _ _ x (k : Int) 2 q true _ HM24.out HXx24.out (rest_yes _ _ k _ HK.out HLQ.out)).mono ?_
      rintro e w25 ⟨rfl, hF⟩
      have HG25 := hid (HG24.out.trans hF)
      have HM25 := hid (HM24.out.same hF)
      have HXx25 := hid (HXx24.out.same hF)
      have HBbe25 := hid (HBbe24.out.same hF)
      have HBbf25 := hid (HBbf24.out.same hF)
      have HBl25 := hid (HBl24.out.same hF)
      clear HBl24
      clear hF HG24 HM24 HXx24 HBbe24 pbe HBbf24 pbf
      have pbe := HBbe25.out.cell (i := 0) rfl
      have pbf := HBbf25.out.cell (i := 0) rfl
      go_wp2_with fail
      refine (wparked_nil x (k : Int) 2 q _ HXx25.out).mono ?_
      rintro e w26 ⟨rfl, hF⟩
      have HG26 := hid (HG25.out.trans hF)
      have HM26 := hid (HM25.out.same hF)
      have HXx26 := hid (HXx25.out.same hF)
      have HBbe26 := hid (HBbe25.out.same hF)
      have HBbf26 := hid (HBbf25.out.same hF)
      have HBl26 := hid (HBl25.out.same hF)
      clear HBl25
      clear hF HG25 HM25 HXx25 HBbe25 pbe HBbf25 pbf
      have pbe := HBbe26.out.cell (i := 0) rfl
      have pbf := HBbf26.out.cell (i := 0) rfl
      obtain ⟨z, hz⟩ : ∃ z, wrap64 (q + 1) = z := ⟨_, rfl⟩
      have HZ := hid hz
      have tz : IntKind.i64.wrap (q + 1) = z := by rw [← hz]; rw [IntKind.wrap_i64]; unfold wrap64; omega
      have tz2 : (z == z) = true := by simp
      have HZN := hid (show z ≠ q from by have := HUP.out; rwa [hz] at this)
      have HLZ := hid (show (L.set k z).getD k 0 = z from by
        rw [List.getD_eq_getElem?_getD, List.getElem?_set_self (by have := HM26.out.le; have h4 : 4 ≤ L.length := this; have := HK.out; omega)]
        rfl)
      clear hz
      have HTL := hid (fun (u : World) (F : Fr (fun _ => False) w26 u) => etell_mk b _ _ _ 1 k 1 (k : Int) z u (HM26.out.same F) rfl rfl (by simp) HK.out (by rw [HLQ.out]; exact HZ.out))
      have HS := hid (show ∀ u, Fr b.own w26 u → u.cell? ⟨be, 0, none⟩ = some (.int .i64 (k : Int)) ∧ u.cell? ⟨bl, k, none⟩ = some (.int .i64 q) from fun u F => ⟨(HBbe26.out.keep F nObe.out).cell rfl, by rw [← HQ.out]; exact (HBl26.out.keep F nObl.out).cell (ints_at V k (by have := HV.out; have := HK.out; omega))⟩)
      have HFd := hid (Fr.refl (fun _ => False) w26)
      have HFe := hid (Fr.refl b.own w26)
      have h1 : (0 : Int) ≤ (k : Int) := by omega
      have h2 : (k : Int) < 4 := by have := HK.out; omega
      clear pbe pbf
      go_upto_region 26 with fail
      go_region_held3 (fun u => u.cell? ⟨be, 0, none⟩ = some (.int .i64 (k : Int)) ∧ u.cell? ⟨bl, k, none⟩ = some (.int .i64 q))
        (first | exact HS.out _ HFe.out | exact HS.out _ (HFe.out.trans (Fr.drew _ _)))
        (first
          | (go_at_call 35; ((with_reducible refine (HTL.out _ (by first | exact HFd.out | exact HFd.out.trans (Fr.drew _ _))).mono ?_); rintro e w6 ⟨rfl, hM6, hF6⟩; have HFe := hid (HFe.out.trans (Fr.trans (by first | exact Fr.refl _ _ | exact Fr.drew _ _) hF6)); have HX6 := hid (HXx26.out.keep HFe.out nOx.out); have HM6 := hid hM6; have HPK := hid (fun (u : World) (F : Fr (fun _ => False) w6 u) => wparked_mk b _ _ _ x (k : Int) 2 q false u (HM6.out.same F) (HX6.out.same F) (rest_no _ _ k _ _ HK.out HLZ.out HZN.out)); have HPE := hid (fun (u : World) (F : Fr (fun _ => False) w6 u) => peek_mk b _ _ _ k (k : Int) z u (HM6.out.same F) rfl HK.out HLZ.out); have HST := hid (fun (u : World) (F : Fr (fun _ => False) w6 u) => steps_mk b _ _ _ 1 1 3 u (HM6.out.same F) rfl (by rw [stp_len]; simp) (by rw [stp1 p 2 3 (by decide +kernel)]; rfl)); have HFd := hid (Fr.refl (fun _ => False) w6); clear hF6 hM6))
          | (go_at_call 41; ((with_reducible refine (HPK.out _ (by first | exact HFd.out | exact HFd.out.trans (Fr.drew _ _))).mono ?_); rintro e w7 ⟨rfl, hF7⟩; have HFe := hid (HFe.out.trans (Fr.trans (by first | exact Fr.refl _ _ | exact Fr.drew _ _) (hF7.mono fun _ h => h.elim))); have HFd := hid (HFd.out.trans (Fr.trans (by first | exact Fr.refl _ _ | exact Fr.drew _ _) hF7)); clear hF7))
          | (go_at_call 28; ((with_reducible refine (HPE.out _ (by first | exact HFd.out | exact HFd.out.trans (Fr.drew _ _))).mono ?_); rintro e w8 ⟨rfl, hF7⟩; have HFe := hid (HFe.out.trans (Fr.trans (by first | exact Fr.refl _ _ | exact Fr.drew _ _) (Fr.of_eq' hF7))); have HFd := hid (HFd.out.trans (Fr.trans (by first | exact Fr.refl _ _ | exact Fr.drew _ _) (Fr.of_eq' hF7))); clear hF7))
          | (go_at_call 24; ((with_reducible refine (HST.out _ (by first | exact HFd.out | exact HFd.out.trans (Fr.drew _ _))).mono ?_); rintro e w8 ⟨rfl, hF7⟩; have HFe := hid (HFe.out.trans (Fr.trans (by first | exact Fr.refl _ _ | exact Fr.drew _ _) (Fr.of_eq' hF7))); have HFd := hid (HFd.out.trans (Fr.trans (by first | exact Fr.refl _ _ | exact Fr.drew _ _) (Fr.of_eq' hF7))); clear hF7))
          | (go_at_call 33; ((with_reducible refine (awake_ok _).mono ?_); rintro e w9 ⟨rfl, hF7⟩; have HFe := hid (HFe.out.trans (Fr.trans (by first | exact Fr.refl _ _ | exact Fr.drew _ _) (hF7.mono fun _ h => h.elim))); have HFd := hid (HFd.out.trans (Fr.trans (by first | exact Fr.refl _ _ | exact Fr.drew _ _) hF7)); clear hF7)))
      all_goals
        go_wp2_with fail
        go_ret
        exact ⟨rfl, (HG26.out.since HFe.out (fun i hi hlt => by have := HOWN.out i hi; omega)).below (Nat.le_refl _) (fun _ hh => hh.elim)⟩

theorem parkedLaw (a : Int) (V : List Int) (s : Int) (w : World) (hV : V.length = 4) (hf : ∀ j, j < 4 → -9223372036854775808 ≤ V.getD j 0 ∧ V.getD j 0 ≤ 9223372036854775807) :
    Calls Try.prog 8 #[.int .i64 a, .agg (ints V), .int .i64 s] w fun e w' => e = .returned (.bool true) ∧ Below w.heap.size w w' := by
  by_cases h : a < 0
  · exact parked_low a V s w hV h
  · by_cases h4 : 4 ≤ a
    · exact parked_high a V s w hV h4
    · exact parked_in a V s w hV (by omega) (by omega) hf

theorem parkedLaw4 (a x y z u : Int) (h : ((-9223372036854775808 ≤ x ∧ x ≤ 9223372036854775807) ∧ (-9223372036854775808 ≤ y ∧ y ≤ 9223372036854775807) ∧ (-9223372036854775808 ≤ z ∧ z ≤ 9223372036854775807) ∧ (-9223372036854775808 ≤ u ∧ u ≤ 9223372036854775807))) (s : Int) (w : World) :
    Calls Try.prog 8 #[.int .i64 a, .agg #[.int .i64 x, .int .i64 y, .int .i64 z, .int .i64 u], .int .i64 s] w fun e w' => e = .returned (.bool true) ∧ Below w.heap.size w w' :=
  parkedLaw a [x, y, z, u] s w rfl (fun j hj => match j, hj with
    | 0, _ => h.1
    | 1, _ => h.2.1
    | 2, _ => h.2.2.1
    | 3, _ => h.2.2.2)
end Go.Proofs.Ytlhpngoplmccjaa
