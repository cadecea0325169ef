/-
  SerialFuel: the walk.
-/
import Derived.Test.YtpjcdjooiaefdaaDoorVPlainW
import Derived.Test.YtpjcdjooiaefdaaDoorVFuelM
namespace Go.Proofs.YtpjcdjooiaefdaaDoor
open Go.RowKit
set_option linter.unusedVariables false

def FuRel (rows : List Rw) (n : Nat) (w0 : World) (d : Nat) (s k : Value) (wr : World) : Prop := ∃ j : Nat, j ≤ n ∧ d = n + 1 - j ∧ k = .int .i64 j ∧ s = .int .i64 (wrap64 (sumS (rows.take j))) ∧ Fr (fun _ => False) w0 wr

set_option maxRecDepth 100000 in
set_option maxHeartbeats 4000000 in
theorem fuel_law (A : Option Addr) (c : Nat) (P : List Fn) (fuel more : Int) (w : World) (ht : Tabs w) (hp : Prg w w.heap.size A P) :
    Calls Tryd.prog 3 #[.agg #[.slice A P.length c], .int .i64 fuel, .int .i64 more] w (LawPost w) := by
  obtain ⟨n, hn⟩ : ∃ n, P.length = n := ⟨_, rfl⟩
  obtain ⟨w1, hw1⟩ : ∃ w1, w1 = w.alloc (.cells #[.slice A n c] 24) := ⟨_, rfl⟩
  have HF1 := hid (show Fr (fun _ => False) w w1 by rw [hw1]; exact Fr.alloc _ _ _)
  have HX := hid (show TBlk w1 w.heap.size #[.slice A n c] 24 by rw [hw1]; exact TBlk.new _ _ _)
  have HP := hid (fun W (hW : Fr (fun _ => False) w W) => (hp.same hW (Nat.le_refl _)).more hW.size)
  have HT := hid (fun W (hW : Fr (fun _ => False) w W) => ht.same hW)
  have HN := hid hn
  rw [hn]
  have HSM := hid (fun W (hW : Fr (fun _ => False) w W) => small_any A n c P fuel W (HP.out W hW) hn)
  have HAW := hid (fun W (hW : Fr (fun _ => False) w W) => awake_any W (HT.out W hW))
  have HXW := hid (show ∀ W, Fr (fun _ => False) w1 W → W.cell? ⟨w.heap.size, 0, none⟩ = some (.slice A n c) ∧ w.heap.size < W.heap.size from fun W hW => ⟨(TBlk.blk (HX.out.keep hW (fun h => h))).cell rfl, Nat.lt_of_lt_of_le (TBlk.blk HX.out).lt hW.size⟩)
  clear hp ht hn
  go_enter Tryd.func3, Tryd.ntmps3
  go_upto_region 1 with fail
  rw [← hw1]
  clear hw1
  obtain ⟨p1, l1⟩ := HXW.out _ (Fr.refl _ _)
  go_wp2_with fail
  refine (HSM.out _ HF1.out).mono ?_
  rintro e w2 ⟨b, rfl, hb, hF2⟩
  have HF2 := hid hF2
  have HB := hid hb
  clear hb hF2 p1 l1
  obtain ⟨p2, l2⟩ := HXW.out _ HF2.out
  cases b with
  | false =>
    go_wp2_with fail
    refine (HAW.out _ (HF1.out.trans HF2.out)).mono ?_
    rintro e w3 ⟨rfl, hF3⟩
    go_wp2_with fail
    go_ret
    exact ⟨rfl, (HF1.out.trans HF2.out).trans hF3⟩
  | true =>
    by_cases m0 : more < 0
    · go_wp2_with fail
      refine (HAW.out _ (HF1.out.trans HF2.out)).mono ?_
      rintro e w3 ⟨rfl, hF3⟩
      go_wp2_with fail
      go_ret
      exact ⟨rfl, (HF1.out.trans HF2.out).trans hF3⟩
    by_cases m1 : 3000 < more
    · go_wp2_with fail
      refine (HAW.out _ (HF1.out.trans HF2.out)).mono ?_
      rintro e w3 ⟨rfl, hF3⟩
      go_wp2_with fail
      go_ret
      exact ⟨rfl, (HF1.out.trans HF2.out).trans hF3⟩
    by_cases f0 : fuel < 0
    · go_wp2_with fail
      refine (HAW.out _ (HF1.out.trans HF2.out)).mono ?_
      rintro e w3 ⟨rfl, hF3⟩
      go_wp2_with fail
      go_ret
      exact ⟨rfl, (HF1.out.trans HF2.out).trans hF3⟩
    obtain ⟨F, rfl⟩ : ∃ F : Nat, fuel = F := ⟨fuel.toNat, by omega⟩
    obtain ⟨M, rfl⟩ : ∃ M : Nat, more = M := ⟨more.toNat, by omega⟩
    obtain ⟨b1, b2, _⟩ := HB.out rfl
    have HRU := hid (fun fu W (hW : Fr (fun _ => False) w W) => run_any A n c P fu W (HT.out _ hW) (HP.out _ hW) HN.out (by have := HN.out; omega))
    have hfm : wrap64 ((F : Int) + M) = ((F + M : Nat) : Int) := by rw [wrap_small (by omega) (by omega)]; omega
    have HFM := hid (show F + M ≤ 1048576 by omega)
    clear b1 b2 HB
    go_wp2_with fail
    refine (HRU.out F _ (HF1.out.trans HF2.out)).mono ?_
    rintro e w3 ⟨rows, st, er, A3, cap3, hri3, rfl, hO3, hF3⟩
    have HF3 := hid (HF2.out.trans hF3)
    have HI3 := hid hri3
    have HR3 := hid (OwnR.rdR hO3)
    obtain ⟨ln, hln⟩ : ∃ ln, rows.length = ln := ⟨_, rfl⟩
    rw [hln]
    have HLN := hid hln
    have HFW := hid (run_few hri3)
    clear hri3 hO3 hF3 hln p2 l2
    obtain ⟨p3, l3⟩ := HXW.out _ HF3.out
    go_wp2_with fail
    refine (HRU.out ((F + M : Nat) : Int) _ (HF1.out.trans HF3.out)).mono ?_
    rintro e w4 ⟨rows2, st2, er2, A4, cap4, hri4, rfl, hO4, hF4⟩
    have HF34 := hid hF4
    have HF4 := hid (HF3.out.trans hF4)
    have HI4 := hid hri4
    have HR4 := hid (OwnR.rdR hO4)
    obtain ⟨ln2, hln2⟩ : ∃ ln2, rows2.length = ln2 := ⟨_, rfl⟩
    rw [hln2]
    have HLN2 := hid hln2
    clear hri4 hO4 hF4 hln2 p3 l3 hfm
    by_cases he : er = 0
    · have HE := hid he
      obtain ⟨rfl, rfl, rfl⟩ := RunIs.more (by have := HI3.out; rw [he] at this; exact this) HFM.out HI4.out
      subst he
      obtain rfl : ln2 = ln := HLN2.out.symm.trans HLN.out
      have hbd := HI3.out.bounds
      have HSF := hid hbd.2.1
      have g1 : ¬ ((F : Int) < (st2 : Nat)) := by omega
      have g2 : ¬ (((st2 : Nat) : Int) < 1) := by omega
      have t1 : (((st2 : Nat) : Int) != ((st2 : Nat) : Int)) = false := by simp
      clear hbd
      obtain ⟨p4, l4⟩ := HXW.out _ HF4.out
      go_wp2_with fail
      refine (HRU.out ((st2 : Nat) : Int) _ (HF1.out.trans HF4.out)).mono ?_
      rintro e w5 ⟨rows3, st3, er3, A5, cap5, hri5, rfl, hO5, hF5⟩
      obtain ⟨rfl, rfl, rfl⟩ := RunIs.just HI3.out hri5
      have HF45 := hid hF5
      have HF5 := hid (HF4.out.trans hF5)
      have HR5 := hid (OwnR.rdR hO5)
      have hl5 : rows3.length = ln2 := HLN.out
      rw [hl5]
      clear hri5 hO5 hF5 p4 l4 hl5
      obtain ⟨p5, l5⟩ := HXW.out _ HF5.out
      have hlb : ln2 ≤ 1048577 := by have := HFW.out.1; rw [HLN.out] at this; exact this
      have HLB := hid hlb
      clear hlb
      go_wp2_with fail
      refine (rows_any A3 A4 ln2 cap3 ln2 cap4 rows3 rows3 w5 (HR3.out.same (HF34.out.trans HF45.out)) (HR4.out.same HF45.out) HLN.out HLN.out (by have := HLB.out; omega) (by have := HLB.out; omega)).mono ?_
      rintro e w6 ⟨rfl, hF6⟩
      rw [show decide (rows3 = rows3) = true from decide_eq_true rfl]
      have HF56 := hid hF6
      have HF6 := hid (HF5.out.trans hF6)
      clear hF6
      go_wp2_with fail
      refine (rows_any A3 A5 ln2 cap3 ln2 cap5 rows3 rows3 w6 (HR3.out.same (HF34.out.trans (HF45.out.trans HF56.out))) (HR5.out.same HF56.out) HLN.out HLN.out (by have := HLB.out; omega) (by have := HLB.out; omega)).mono ?_
      rintro e w7 ⟨rfl, hF7⟩
      rw [show decide (rows3 = rows3) = true from decide_eq_true rfl]
      have HF67 := hid hF7
      have HF7 := hid (HF6.out.trans hF7)
      have hw1 : wrap64 ((st3 : Int) - 1) = (st3 : Int) - 1 := wrap_small (by omega) (by have := HSF.out; have := HFM.out; omega)
      clear hF7 p5 l5
      obtain ⟨p7, l7⟩ := HXW.out _ HF7.out
      go_wp2_with fail
      refine (HRU.out ((st3 : Int) - 1) _ (HF1.out.trans HF7.out)).mono ?_
      rintro e w8 ⟨rows8, st8, er8, A8, cap8, hri8, rfl, hO8, hF8⟩
      obtain rfl := RunIs.short HI3.out hri8
      have HF78 := hid hF8
      have HF8 := hid (HF7.out.trans hF8)
      have HR8 := hid (HR3.out.same (HF34.out.trans (HF45.out.trans (HF56.out.trans (HF67.out.trans HF78.out)))))
      have HPA := hid HI3.out.parents
      have HSU := hid HI3.out.sum
      clear hri8 hO8 hF8 p7 l7 hw1 g1 g2 t1
      go_wp2_with fail
      go_loopg [19, 20] (ln2 + 1) (fun d s k wr => FuRel rows3 ln2 w8 d s k wr)
      case atStart => exact ⟨0, by omega, by omega, rfl, by rw [List.take_zero]; simp [sumS, wrap64], Fr.refl _ _⟩
      case round =>
        obtain ⟨j, hj, hdj, rfl, rfl, hF⟩ := hrel
        have HF := hid hF
        have HD := hid hdj
        clear hF hdj
        obtain ⟨sj, hsj⟩ : ∃ sj, wrap64 (sumS (rows3.take j)) = sj := ⟨_, rfl⟩
        have HSJ := hid hsj
        rw [hsj]
        clear hsj
        by_cases hlt : j < ln2
        · obtain ⟨r, hr⟩ : ∃ r, rows3[j]? = some r := ⟨_, List.getElem?_eq_getElem (by rw [HLN.out]; exact hlt)⟩
          obtain ⟨gr, hg, hgl, hc⟩ := (HR8.out.same HF.out).cell hr
          subst hg
          obtain ⟨M', hM, hM1⟩ := sizeRow
          have hM0 : ¬ M' = 0 := by omega
          obtain ⟨pa, hpa⟩ : ∃ pa, r.par = pa := ⟨_, rfl⟩
          obtain ⟨sr, hsr⟩ : ∃ sr, r.st = sr := ⟨_, rfl⟩
          have g0 : wr.cell? ⟨gr, j * M', none⟩ = some (.int .i64 pa) := by rw [hM, ← hpa]; exact hc 0 _ rfl
          have g5 : wr.cell? ⟨gr, j * M' + 5, none⟩ = some (.int .i64 sr) := by rw [hM, ← hsr]; exact hc 5 _ rfl
          obtain ⟨q1, q2, q3⟩ := HPA.out j r hr
          have HR := hid hr
          have HSR := hid hsr
          rw [hpa] at q1 q2 q3
          have hj0 : (0 : Int) ≤ j ∧ (j : Int) < ln2 := by omega
          have h1 : ¬ (j : Int) ≤ pa := by omega
          have h2 : ¬ pa < -1 := by
            by_cases hj : j = 0
            · rw [q1 hj]; omega
            · have := q2 hj; omega
          have t3 : (decide (pa < 0) == ((j : Int) == 0)) = true := by
            by_cases hj : j = 0
            · rw [q1 hj, hj]; rfl
            · have := q2 hj
              simp [show ¬ pa < 0 by omega, show ¬ j = 0 from hj]
          have hlb := HLB.out
          clear q1 q2 q3 hc hpa hM hr hsr
          go_wp2_with fail
          go_roundg (ln2 + 1 - (j + 1))
          case rel => exact ⟨j + 1, by omega, rfl, by go_num, by rw [sumS_take HR.out, ← HSJ.out, wrap_add, HSR.out], HF.out⟩
          case measure => have := HD.out; omega
        · have hjl : j = ln2 := by omega
          have ts : (sj == (st3 : Int)) = true := by
            rw [beq_iff_eq, ← HSJ.out, List.take_of_length_le (by rw [HLN.out]; omega), HSU.out]
            exact wrap_small (by omega) (by have := HSF.out; have := HFM.out; omega)
          clear hjl
          go_wp2_with fail
          refine (HAW.out _ ((HF1.out.trans HF8.out).trans HF.out)).mono ?_
          rintro e w9 ⟨rfl, hF9⟩
          go_wp2_with fail
          go_ret
          exact ⟨rfl, ((HF1.out.trans HF8.out).trans HF.out).trans hF9⟩
    · obtain ⟨e1, e2, e3⟩ := RunIs.fails HFM.out HI3.out he HI4.out
      have hz : ln = 0 := by rw [← HLN.out, e1]; rfl
      have t0 : (er != 0) = true := bne_iff_ne.2 he
      by_cases h12 : er = er2
      · have t1 : (er == er2) = true := beq_iff_eq.2 h12
        clear h12 e1 e3 he
        subst hz e2
        go_wp2_with fail
        refine (HAW.out _ (HF1.out.trans HF4.out)).mono ?_
        rintro e w5 ⟨rfl, hF5⟩
        go_wp2_with fail
        go_ret
        exact ⟨rfl, (HF1.out.trans HF4.out).trans hF5⟩
      · have t1 : (er == er2) = false := beq_eq_false_iff_ne.2 h12
        have t2 : (er == 22) = true := beq_iff_eq.2 (e3.resolve_left h12)
        clear h12 e1 e3 he
        subst hz e2
        go_wp2_with fail
        refine (HAW.out _ (HF1.out.trans HF4.out)).mono ?_
        rintro e w5 ⟨rfl, hF5⟩
        go_wp2_with fail
        go_ret
        exact ⟨rfl, (HF1.out.trans HF4.out).trans hF5⟩

end Go.Proofs.YtpjcdjooiaefdaaDoor
