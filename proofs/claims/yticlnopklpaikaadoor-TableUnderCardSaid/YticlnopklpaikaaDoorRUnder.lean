/-
  Stage 7: Under, the document's.
-/
import Derived.Test.YticlnopklpaikaaDoorUnder
namespace Go.Proofs.YticlnopklpaikaaDoor
open Go.RowKit
set_option linter.unusedVariables false

/-- Where the loop stands. -/
def RuRel (l : List Tw) (z n : Nat) (w : World) (d : Nat) (lv k : Value) (wr : World) : Prop :=
  ∃ (j nk : Nat) (A' : Option Addr) (cap : Nat), z + j ≤ n ∧ d = n - z + 1 - j ∧ k = .int .i64 ((z + j : Nat) : Int) ∧ (undD l z j).length = nk ∧ nk ≤ j ∧ lv = .slice A' nk cap ∧ OwnR wr w.heap.size 40 7 A' nk cap (flatT (undD l z j)) ∧ Fr (fun _ => False) w wr

def RuPost (l : List Tw) (z : Nat) (w : World) (e : Ending) (w' : World) : Prop :=
  Fr (fun _ => False) w w' ∧ ∃ (A' : Option Addr) (n' cap : Nat), (und l z).length = n' ∧ e = .returned (.slice A' n' cap) ∧ OwnR w' w.heap.size 40 7 A' n' cap (flatT (und l z))

set_option maxRecDepth 100000 in
set_option maxHeartbeats 4000000 in
theorem runder_any (A : Option Addr) (n c z : Nat) (l : List Tw) (w : World) (hA : RdT w A l) (hl : l.length = n) (hn : n ≤ 4000000) (hz : z < n) (hs : Nest l) :
    Calls Tryd.prog 19 #[.slice A n c, .int .i64 (z : Int)] w (RuPost l z w) := by
  have HWT := hid (fun (W : World) (hW : Fr (fun _ => False) w W) (x t : Int) => rwithin_any A n c l x t W (hA.same hW) hl hn)
  have HL := hid hl
  have HCE := hid (fun (W : World) (hW : Fr (fun _ => False) w W) (j : Nat) (r : Tw) (hr : l[j]? = some r) => (hA.same hW).cell hr)
  have HNS := hid hs
  obtain ⟨i0, hii, hzz⟩ := Option.map_eq_some_iff.1 infoWz
  simp only [Prod.mk.injEq] at hzz
  obtain ⟨hy0, hy1, hy2⟩ := hzz
  have HII := hid hii
  have HZ0 := hid hy0
  have HZ1 := hid hy1
  have HZ2 := hid hy2
  clear hl hA hs hii hy0 hy1 hy2
  go_enter Tryd.func19, Tryd.ntmps19
  go_wp2_with fail
  go_loopg [5, 6] (n - z + 1) (fun d lv k wr => RuRel l z n w d lv k wr)
  case atStart => exact ⟨0, 0, none, 0, by omega, by omega, rfl, rfl, by omega, rfl, OwnR.nil _ _ _ _, Fr.refl _ _⟩
  case round =>
    obtain ⟨j, nk, A', cap, hj, hd, rfl, hk, hnk, rfl, hO, hF⟩ := hrel
    have HK := hid hk
    have HD := hid hd
    have HO := hid hO
    have HF := hid hF
    clear hk hd hO hF
    by_cases hlt : z + j < n
    · obtain ⟨s, hs⟩ : ∃ s, l[z + j]? = some s := ⟨_, List.getElem?_eq_getElem (by rw [HL.out]; omega)⟩
      have HSR := hid hs
      have HP := hid (parAt_of' hs)
      clear hs
      obtain ⟨y, hy⟩ : ∃ y : Nat, z + j = y := ⟨_, rfl⟩
      have HY := hid hy
      have hin := inn_of HNS.out.down (t := (z : Int)) (i := ((z + j : Nat) : Int)) (n := n + 1) (by omega)
      rw [hy] at hin ⊢
      have hyn : y < n := by omega
      have hyz : z ≤ y := by omega
      obtain ⟨b, hb⟩ : ∃ b, inn l (z : Int) (y : Int) = b := ⟨_, rfl⟩
      rw [hb] at hin
      have HB := hid hb
      have HWI := hid hin
      clear hy hin hb
      go_wp2_with fail
      refine (HWT.out _ HF.out _ _).mono ?_
      rintro e w2 ⟨rfl, hF2⟩
      rw [HWI.out]
      have HF2 := hid (HF.out.trans hF2)
      have HO2 := hid (OwnR.same HO.out hF2)
      clear hF2
      cases b with
      | false =>
        go_wp2_with fail
        go_roundg (n - z + 1 - (j + 1))
        case rel =>
          have hnx : undD l z (j + 1) = undD l z j := by
            rw [undD, if_neg (by rw [HY.out, HB.out]; simp), List.append_nil]
          exact ⟨j + 1, nk, A', cap, by omega, rfl, by rw [← HY.out, show z + (j + 1) = (z + j) + 1 by omega]; go_num, by rw [hnx]; exact HK.out, by omega, rfl, by rw [hnx]; exact HO2.out, HF2.out⟩
        case measure => have := HD.out; omega
      | true =>
        have HIN := hid (show inn l (z : Int) (z + j : Nat) = true by rw [HY.out]; exact HB.out)
        have hle := inn_le HNS.out.down HB.out
        have hpz : z < y → (z : Int) ≤ s.par ∧ s.par < 4000000 := fun hh => by
          have h1 := ((inn_up HNS.out.down (by omega)).1 HB.out).2.2
          have h2 := inn_le HNS.out.down h1
          have h3 := HNS.out.down y (by omega) (by omega)
          rw [← HP.out, HY.out]
          omega
        obtain ⟨ga, oga, rfl, hga, hcc⟩ := HCE.out w2 HF2.out (z + j) s HSR.out
        rw [HY.out] at hcc
        obtain ⟨pa, hpa⟩ : ∃ x, s.par = x := ⟨_, rfl⟩
        obtain ⟨x1, hx1⟩ : ∃ x, s.in_ = x := ⟨_, rfl⟩
        obtain ⟨x2, hx2⟩ : ∃ x, s.fn = x := ⟨_, rfl⟩
        obtain ⟨x3, hx3⟩ : ∃ x, s.kind = x := ⟨_, rfl⟩
        obtain ⟨x4, hx4⟩ : ∃ x, s.v = x := ⟨_, rfl⟩
        obtain ⟨x5, hx5⟩ : ∃ x, s.st = x := ⟨_, rfl⟩
        obtain ⟨x6, hx6⟩ : ∃ x, s.cl = x := ⟨_, rfl⟩
        have HSC := hid (show s = ⟨pa, x1, x2, x3, x4, x5, x6⟩ by obtain ⟨_, _, _, _, _, _, _⟩ := s; simp only at hpa hx1 hx2 hx3 hx4 hx5 hx6; subst hpa hx1 hx2 hx3 hx4 hx5 hx6; rfl)
        have q0 : w2.cell? ⟨ga, oga + y * 7, none⟩ = some (.int .i64 pa) := hcc 0 _ (by rw [HSC.out]; rfl)
        have q1 : w2.cell? ⟨ga, oga + y * 7 + 1, none⟩ = some (.int .i64 x1) := hcc 1 _ (by rw [HSC.out]; rfl)
        have q2 : w2.cell? ⟨ga, oga + y * 7 + 2, none⟩ = some (.int .i64 x2) := hcc 2 _ (by rw [HSC.out]; rfl)
        have q3 : w2.cell? ⟨ga, oga + y * 7 + 3, none⟩ = some (.int .i64 x3) := hcc 3 _ (by rw [HSC.out]; rfl)
        have q4 : w2.cell? ⟨ga, oga + y * 7 + 4, none⟩ = some (.int .i64 x4) := hcc 4 _ (by rw [HSC.out]; rfl)
        have q5 : w2.cell? ⟨ga, oga + y * 7 + 5, none⟩ = some (.int .i64 x5) := hcc 5 _ (by rw [HSC.out]; rfl)
        have q6 : w2.cell? ⟨ga, oga + y * 7 + 6, none⟩ = some (.string x6) := hcc 6 _ (by rw [HSC.out]; rfl)
        rw [hpa] at hpz
        have hy0 : (0 : Int) ≤ y ∧ (y : Int) < n := by omega
        clear hcc hpa hx1 hx2 hx3 hx4 hx5 hx6 hle
        by_cases hzy : z < y
        · have t2 : ((y : Int) == (z : Int)) = false := beq_eq_false_iff_ne.2 (by omega)
          obtain ⟨p0, p1⟩ := hpz hzy
          go_upto_region 11 with fail
          have hF4 := HF2.out.trans (Fr.alloc (fun _ => False) w2 (.cells #[.int .i64 (pa - z), .int .i64 x1, .int .i64 x2, .int .i64 x3, .int .i64 x4, .int .i64 x5, .string x6] 40))
          have hO4 := OwnR.same HO2.out (Fr.alloc (fun _ => False) w2 (.cells #[.int .i64 (pa - z), .int .i64 x1, .int .i64 x2, .int .i64 x3, .int .i64 x4, .int .i64 x5, .string x6] 40))
          have hB4 := Blk.new w2 #[.int .i64 (pa - z), .int .i64 x1, .int .i64 x2, .int .i64 x3, .int .i64 x4, .int .i64 x5, .string x6] 40
          obtain ⟨w4, hw4⟩ : ∃ w4, w4 = w2.alloc (.cells #[.int .i64 (pa - z), .int .i64 x1, .int .i64 x2, .int .i64 x3, .int .i64 x4, .int .i64 x5, .string x6] 40) := ⟨_, rfl⟩
          rw [← hw4] at hF4 hO4 hB4 ⊢
          clear hw4 q0 q1 q2 q3 q4 q5 q6
          have b0 := hB4.cell (i := 0) rfl
          have b1 := hB4.cell (i := 1) rfl
          have b2 := hB4.cell (i := 2) rfl
          have b3 := hB4.cell (i := 3) rfl
          have b4 := hB4.cell (i := 4) rfl
          have b5 := hB4.cell (i := 5) rfl
          have b6 := hB4.cell (i := 6) rfl
          simp only [List.getElem_toArray, List.getElem_cons_zero, List.getElem_cons_succ] at b0 b1 b2 b3 b4 b5 b6
          have l4 := hB4.lt
          have hbs : w.heap.size ≤ w4.heap.size := hF4.size
          obtain ⟨xs, hxs⟩ : ∃ xs, flatT (undD l z j) = xs := ⟨_, rfl⟩
          rw [hxs] at hO4
          have HXS := hid hxs
          have HA2 := hid (Fr.alloc (fun _ => False) w4 (.cells #[.int .i64 (pa - z), .int .i64 x1, .int .i64 x2, .int .i64 x3, .int .i64 x4, .int .i64 x5, .string x6] 40))
          have HOW := hid (OwnR.same hO4 HA2.out)
          have HF4 := hid hF4
          have HNW := hid (news_cells w4 40 [.int .i64 (pa - z), .int .i64 x1, .int .i64 x2, .int .i64 x3, .int .i64 x4, .int .i64 x5, .string x6])
          clear hF4 hO4 hB4 hxs
          go_wp2_with (at_builtin; go_must (refine wpList_append_own _ rfl _ _ 22 rfl w.heap.size 40 i0 _ 7 64 Tryd.underlying22 HII.out HZ0.out HZ1.out HZ2.out rfl (by decide) (.slice A' nk cap) nk xs rfl HOW.out ⟨w4.heap.size, 0, none⟩ 1 1 [.int .i64 (pa - z), .int .i64 x1, .int .i64 x2, .int .i64 x3, .int .i64 x4, .int .i64 x5, .string x6] rfl rfl HNW.out (by intro u hu; simp at hu; rcases hu with rfl | rfl | rfl | rfl | rfl | rfl | rfl <;> rfl) (by unfold maxLen; omega) (by omega) (by simp; omega) ?_; intro v2 w9 hown2 hgrow2 hnil2; clear hnil2; obtain ⟨A3, c3, rfl, ho2⟩ := OwnR.form hown2; have HO3 := hid ho2; have HF5 := hid (HF4.out.since ((HA2.out.mono (fun _ h => h.elim)).trans (Fr.of_grown hgrow2)) (fun i hi hlt => by have := OwnR.lt HOW.out _ hi; show False; omega)); clear hown2 hgrow2 ho2))
          go_roundg (n - z + 1 - (j + 1))
          case rel =>
            have hnx : undD l z (j + 1) = undD l z j ++ [⟨(pa - z), x1, x2, x3, x4, x5, x6⟩] := by
              rw [undD, if_pos HIN.out, HSR.out, HSC.out]
              simp only [Option.map_some, Option.toList_some]
              rw [shr_b (by have := HY.out; omega)]
            refine ⟨j + 1, nk + 1, A3, c3, by omega, rfl, by rw [← HY.out, show z + (j + 1) = (z + j) + 1 by omega]; go_num, by rw [hnx, List.length_append, HK.out]; rfl, by omega, rfl, OwnR.eq HO3.out ?_, HF5.out⟩
            rw [hnx, flatT_app, flatT_one, HXS.out]
            rfl
          case measure => have := HD.out; omega
        · have t2 : ((y : Int) == (z : Int)) = true := beq_iff_eq.2 (by omega)
          clear hpz
          go_upto_region 11 with fail
          have hF4 := HF2.out.trans (Fr.alloc (fun _ => False) w2 (.cells #[.int .i64 (-1), .int .i64 0, .int .i64 x2, .int .i64 x3, .int .i64 x4, .int .i64 x5, .string x6] 40))
          have hO4 := OwnR.same HO2.out (Fr.alloc (fun _ => False) w2 (.cells #[.int .i64 (-1), .int .i64 0, .int .i64 x2, .int .i64 x3, .int .i64 x4, .int .i64 x5, .string x6] 40))
          have hB4 := Blk.new w2 #[.int .i64 (-1), .int .i64 0, .int .i64 x2, .int .i64 x3, .int .i64 x4, .int .i64 x5, .string x6] 40
          obtain ⟨w4, hw4⟩ : ∃ w4, w4 = w2.alloc (.cells #[.int .i64 (-1), .int .i64 0, .int .i64 x2, .int .i64 x3, .int .i64 x4, .int .i64 x5, .string x6] 40) := ⟨_, rfl⟩
          rw [← hw4] at hF4 hO4 hB4 ⊢
          clear hw4 q0 q1 q2 q3 q4 q5 q6
          have b0 := hB4.cell (i := 0) rfl
          have b1 := hB4.cell (i := 1) rfl
          have b2 := hB4.cell (i := 2) rfl
          have b3 := hB4.cell (i := 3) rfl
          have b4 := hB4.cell (i := 4) rfl
          have b5 := hB4.cell (i := 5) rfl
          have b6 := hB4.cell (i := 6) rfl
          simp only [List.getElem_toArray, List.getElem_cons_zero, List.getElem_cons_succ] at b0 b1 b2 b3 b4 b5 b6
          have l4 := hB4.lt
          have hbs : w.heap.size ≤ w4.heap.size := hF4.size
          obtain ⟨xs, hxs⟩ : ∃ xs, flatT (undD l z j) = xs := ⟨_, rfl⟩
          rw [hxs] at hO4
          have HXS := hid hxs
          have HA2 := hid (Fr.alloc (fun _ => False) w4 (.cells #[.int .i64 (-1), .int .i64 0, .int .i64 x2, .int .i64 x3, .int .i64 x4, .int .i64 x5, .string x6] 40))
          have HOW := hid (OwnR.same hO4 HA2.out)
          have HF4 := hid hF4
          have HNW := hid (news_cells w4 40 [.int .i64 (-1), .int .i64 0, .int .i64 x2, .int .i64 x3, .int .i64 x4, .int .i64 x5, .string x6])
          clear hF4 hO4 hB4 hxs
          go_wp2_with (at_builtin; go_must (refine wpList_append_own _ rfl _ _ 22 rfl w.heap.size 40 i0 _ 7 64 Tryd.underlying22 HII.out HZ0.out HZ1.out HZ2.out rfl (by decide) (.slice A' nk cap) nk xs rfl HOW.out ⟨w4.heap.size, 0, none⟩ 1 1 [.int .i64 (-1), .int .i64 0, .int .i64 x2, .int .i64 x3, .int .i64 x4, .int .i64 x5, .string x6] rfl rfl HNW.out (by intro u hu; simp at hu; rcases hu with rfl | rfl | rfl | rfl | rfl | rfl | rfl <;> rfl) (by unfold maxLen; omega) (by omega) (by simp; omega) ?_; intro v2 w9 hown2 hgrow2 hnil2; clear hnil2; obtain ⟨A3, c3, rfl, ho2⟩ := OwnR.form hown2; have HO3 := hid ho2; have HF5 := hid (HF4.out.since ((HA2.out.mono (fun _ h => h.elim)).trans (Fr.of_grown hgrow2)) (fun i hi hlt => by have := OwnR.lt HOW.out _ hi; show False; omega)); clear hown2 hgrow2 ho2))
          go_roundg (n - z + 1 - (j + 1))
          case rel =>
            have hnx : undD l z (j + 1) = undD l z j ++ [⟨(-1), 0, x2, x3, x4, x5, x6⟩] := by
              rw [undD, if_pos HIN.out, HSR.out, HSC.out]
              simp only [Option.map_some, Option.toList_some]
              rw [shr_a (by have := HY.out; omega)]
            refine ⟨j + 1, nk + 1, A3, c3, by omega, rfl, by rw [← HY.out, show z + (j + 1) = (z + j) + 1 by omega]; go_num, by rw [hnx, List.length_append, HK.out]; rfl, by omega, rfl, OwnR.eq HO3.out ?_, HF5.out⟩
            rw [hnx, flatT_app, flatT_one, HXS.out]
            rfl
          case measure => have := HD.out; omega
    · have HU := hid (show und l z = undD l z j by unfold und; rw [HL.out, show n - z = j by omega])
      go_wp2_with fail
      go_ret
      exact ⟨HF.out, A', nk, cap, by rw [HU.out]; exact HK.out, rfl, by rw [HU.out]; exact HO.out⟩

end Go.Proofs.YticlnopklpaikaaDoor
