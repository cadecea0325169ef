/-
  CodeWhole's walk.
-/
import Derived.Test.YtecobbojbdfffaaDoorSet
namespace Go.Proofs.YtecobbojbdfffaaDoor
open Go.RowKit

theorem pack_codes {P : List Fn} (h : packErr P = 0) : P.length ≤ 32 ∧ ∀ f ∈ P, f.code.length ≤ 128 := by
  obtain ⟨h1, h2, h3⟩ := packErr_zero h
  refine ⟨h2, fun f hf => ?_⟩
  clear h1 h2 h
  induction P with
  | nil => cases hf
  | cons a r ih =>
    obtain ⟨q0, q1⟩ := prgErr_cons h3
    rw [List.mem_cons] at hf
    rcases hf with rfl | hf
    · obtain ⟨_, _, _, c1, _⟩ := fn_ok q0
      exact c1
    · exact ih q1 hf

set_option maxRecDepth 100000 in
set_option maxHeartbeats 2000000 in
theorem same_nil (A : Option Addr) (c : Nat) (P : List Fn) (w : World) :
    Calls Tryd.prog 27 #[.agg #[.slice A P.length c], .agg #[.slice none 0 0]] w fun e w' => e = .returned (.bool (decide (P = []))) ∧ Fr (fun _ => False) w w' := by
  by_cases h : P = []
  · subst h
    exact same_any A none c 0 [] [] w (fun h => absurd h (by simp)) (fun h => absurd h (by simp)) (by simp) (fun f hf => absurd hf (by simp))
  · have hd : decide (P = []) = false := by simpa using h
    rw [hd]
    obtain ⟨a, ha⟩ : ∃ a, P.length = a := ⟨_, rfl⟩
    have h0 : a ≠ 0 := by
      rintro rfl
      exact h (List.length_eq_zero_iff.1 ha)
    rw [ha]
    clear ha h hd
    have hF : Fr (fun _ => False) w ((w.alloc (.cells #[.slice A a c] 42)).alloc (.cells #[.slice none 0 0] 42)) := (Fr.alloc _ _ _).trans (Fr.alloc _ _ _)
    have HK : Calls Tryd.prog 34 #[.slice A a c, .slice none 0 0, .func (.func 35) #[] #[]] ((w.alloc (.cells #[.slice A a c] 42)).alloc (.cells #[.slice none 0 0] 42)) fun e w' => e = .returned (.bool false) ∧ Fr (fun _ => False) ((w.alloc (.cells #[.slice A a c] 42)).alloc (.cells #[.slice none 0 0] 42)) w' := by
      generalize ((w.alloc (.cells #[.slice A a c] 42)).alloc (.cells #[.slice none 0 0] 42)) = v
      have t1 : ((a : Int) != 0) = true := by simpa using (by omega : ¬ (a : Int) = 0)
      have t2 : (a != 0) = true := by simpa using h0
      go_enter Tryd.func34, Tryd.ntmps34
      go_wp2_with fail
      go_ret
      exact ⟨rfl, Fr.refl _ _⟩
    have HK := hid HK
    clear h0
    go_enter Tryd.func27, Tryd.ntmps27
    go_wp2_with fail
    refine HK.out.mono ?_
    rintro e w1 ⟨rfl, hF1⟩
    go_wp2_with fail
    go_ret
    exact ⟨rfl, hF.trans hF1⟩

set_option maxRecDepth 100000 in
set_option maxHeartbeats 20000000 in
theorem wholeWalk (A : Option Addr) (n c : Nat) (P : List Fn) (x y a : Int) (w : World) (ht : Tabs w) (hp : Prg w w.heap.size A P) (hn : P.length = n) :
    Calls Tryd.prog 9 #[.agg #[.slice A n c], .agg #[.int .i64 x, .int .i64 y], .int .i64 a] w fun e w' => e = .returned (.bool true) ∧ Fr (fun _ => False) w w' := by
  subst hn
  have HA := hid awake_ok
  have hA := (Fr.alloc (fun _ => False) w (.cells #[.slice A P.length c] 42)).trans (Fr.alloc (fun _ => False) _ (.cells #[.int .i64 x, .int .i64 y] 48))
  have hBx := (Blk.new w #[.slice A P.length c] 42).keep (Fr.alloc (fun _ => False) _ (.cells #[.int .i64 x, .int .i64 y] 48)) (fun h => h)
  have hBy := (Blk.new (w.alloc (.cells #[.slice A P.length c] 42)) #[.int .i64 x, .int .i64 y] 48).at (size_alloc _ _)
  have HP := hid (fun (W : World) (f : Fr (fun _ => False) w W) => (hp.same f (Nat.le_refl _)).more f.size)
  have HPK := hid (fun (W : World) (f : Fr (fun _ => False) w W) => pack_any A c P W (ht.same f) (HP.out W f))
  have HFW := hid (few_any A P.length c P _ (HP.out _ hA) rfl)
  have HNIL := hid (same_nil A c P)
  have HS := hid (fun (hz : packErr P = 0) (Q : List Fn) (A' : Option Addr) (c' : Nat) (W : World) (f : Fr (fun _ => False) w W) (hq : Prg W W.heap.size A' Q) => same_any A A' c c' P Q W (HP.out W f) hq (by have := (pack_codes hz).1; omega) (fun f hf => by have := (pack_codes hz).2 f hf; omega))
  have HS' := hid (fun (hz : packErr P = 0) (A' : Option Addr) (c' : Nat) (W : World) (f : Fr (fun _ => False) w W) (hq : Prg W W.heap.size A' P) => (same_any A' A c' c P P W hq (HP.out W f) (by have := (pack_codes hz).1; omega) (fun f hf => by have := (pack_codes hz).2 f hf; omega)).mono (fun e w' h => (⟨h.1.trans (by simp), h.2⟩ : e = .returned (.bool true) ∧ Fr (fun _ => False) W w')))
  obtain ⟨n, hn⟩ : ∃ n, P.length = n := ⟨_, rfl⟩
  have HN := hid hn
  rw [hn] at hA hBx hBy HPK HFW HNIL HS HS' ⊢
  clear hn hp
  go_enter Tryd.func9, Tryd.ntmps9
  go_wp2_with fail
  refine HFW.out.mono ?_
  rintro e w1 ⟨fb, rfl, hF1⟩
  cases fb with
  | false =>
    go_wp2_with fail
    refine (HA.out w1 (ht.same (hA.trans hF1))).mono ?_
    rintro e w2 ⟨rfl, hF2⟩
    go_wp2_with fail
    go_ret
    exact ⟨rfl, hA.trans (hF1.trans hF2)⟩
  | true =>
    have hB1 := hBx.keep hF1 (fun h => h)
    have q0 : w1.cell? ⟨w.heap.size, 0, none⟩ = some (.slice A n c) := hB1.cell rfl
    have ql := hB1.lt
    go_wp2_with fail
    refine (HPK.out w1 (hA.trans hF1)).mono ?_
    intro e w2 hpa
    by_cases hz : packErr P = 0
    · obtain ⟨A2, n2, c2, rfl, hn2, ho2, hF2⟩ := hpa.own
      rw [if_pos hz] at ho2
      rw [hz]
      have hall := packBytes_all hz
      have hup := unProg_pack hz
      have hF02 := hA.trans (hF1.trans hF2)
      have HU := hid (unpack_any A2 n2 c2 (packBytes P) w2 (ht.same hF02) (ho2.src hall) (by omega))
      rw [hup] at HU
      have HO2 := hid ho2
      have HZ := hid hz
      have hB2 := hB1.keep hF2 (fun h => h)
      have hC2 := (hBy.keep hF1 (fun h => h)).keep hF2 (fun h => h)
      clear hpa ho2 q0 ql hz hall hup
      go_wp2_with fail
      refine HU.out.mono ?_
      rintro e w3 ⟨A3, c3, L, rfl, hOP, hm, hF3⟩
      simp only at hm ⊢
      rw [HN.out]
      have hB3 := (hB2.keep hF3 (fun h => h)).alloc (.cells #[.slice A3 n c3] 42)
      have hC3 := (hC2.keep hF3 (fun h => h)).alloc (.cells #[.slice A3 n c3] 42)
      have hD3 := Blk.new w3 #[.slice A3 n c3] 42
      have hFq := Fr.alloc (fun _ => False) w3 (.cells #[.slice A3 n c3] 42)
      have HLT := hid (fun x hx j hj => (OwnR.lt (hOP.codes x hx) j hj).2)
      have hOP := hOP.same hFq
      have hF03 := hF02.trans (hF3.trans hFq)
      have HO3 := hid (HO2.out.same (hF3.trans hFq))
      have r0 : (w3.alloc (.cells #[.slice A3 n c3] 42)).cell? ⟨w.heap.size, 0, none⟩ = some (.slice A n c) := hB3.cell rfl
      have HQ := hid (fun (W : World) (f : Fr (fun _ => False) (w3.alloc (.cells #[.slice A3 n c3] 42)) W) => by
        have := (hOP.prg.same f (Nat.le_refl _)).more f.size
        rw [hm] at this
        exact this)
      have hs3 := hB3.lt
      have HS1 := hid (HS.out HZ.out P A3 c3 _ hF03 (HQ.out _ (Fr.refl _ _)))
      rw [HN.out, decide_eq_true (rfl : P = P)] at HS1
      go_wp2_with fail
      refine HS1.out.mono ?_
      rintro e w4 ⟨rfl, hF4⟩
      have hB4 := hB3.keep hF4 (fun h => h)
      have hD4 := hD3.keep hF4 (fun h => h)
      have HS2 := hid (HS'.out HZ.out A3 c3 _ (hF03.trans hF4) (HQ.out _ hF4))
      have s0 : w4.cell? ⟨w.heap.size, 0, none⟩ = some (.slice A n c) := hB4.cell rfl
      have s1 : w4.cell? ⟨w3.heap.size, 0, none⟩ = some (.slice A3 n c3) := hD4.cell rfl
      have sl0 := hB4.lt
      have sl1 := hD4.lt
      clear r0 HS1 hs3
      go_wp2_with fail
      refine HS2.out.mono ?_
      rintro e w5 ⟨rfl, hF5⟩
      clear s0 s1 sl0 sl1 HS2
      have hF45 := hF4.trans hF5
      have hF05 := hF03.trans hF45
      have hB5 := hB4.keep hF5 (fun h => h)
      have hC5 := hC3.keep hF45 (fun h => h)
      have hD5 := hD4.keep hF5 (fun h => h)
      have hOP5 := hOP.same hF45
      have s0 : w5.cell? ⟨w.heap.size, 0, none⟩ = some (.slice A n c) := hB5.cell rfl
      have s1 : w5.cell? ⟨w3.heap.size, 0, none⟩ = some (.slice A3 n c3) := hD5.cell rfl
      have s2 : w5.cell? ⟨w.heap.size + 1, 0, none⟩ = some (.int .i64 x) := hC5.cell rfl
      have s3 : w5.cell? ⟨w.heap.size + 1, 1, none⟩ = some (.int .i64 y) := hC5.cell rfl
      have sl0 := hB5.lt
      have sl1 := hD5.lt
      have sl2 := hC5.lt
      have HAW := hid (HA.out w5 (ht.same hF05))
      have hBx0 := hB2.lt
      clear hB2 hC2 hB3 hC3 hD3 hB4 hD4 hOP hBx hBy hB1 HNIL HFW HPK HU
      by_cases hx0 : x < 0
      · have d0 : decide (x < 0) = true := by simpa using hx0
        go_wp2_with fail
        simp only [List.append]
        go_quiet (fail)
        go_wp2_with fail
        refine (HA.out _ (ht.same (hF05.trans (Fr.drewN _ _ _)))).mono ?_
        rintro e w6 ⟨rfl, hF6⟩
        go_wp2_with fail
        go_ret
        exact ⟨rfl, hF05.trans ((Fr.drewN _ _ _).trans hF6)⟩
      · obtain ⟨j, rfl⟩ := Int.eq_ofNat_of_zero_le (show 0 ≤ x by omega)
        have d0 : decide ((j : Int) < 0) = false := by simp
        by_cases hjn : j < n
        · have d1 : decide (n ≤ j) = false := by simpa using hjn
          have d1' : (j : Int) < (n : Int) := by omega
          by_cases hy0 : y < 0
          · have d2 : decide (y < 0) = true := by simpa using hy0
            go_wp2_with fail
            simp only [List.append]
            go_quiet (fail)
            go_wp2_with fail
            refine (HA.out _ (ht.same (hF05.trans (Fr.drewN _ _ _)))).mono ?_
            rintro e w6 ⟨rfl, hF6⟩
            go_wp2_with fail
            go_ret
            exact ⟨rfl, hF05.trans ((Fr.drewN _ _ _).trans hF6)⟩
          · obtain ⟨k, rfl⟩ := Int.eq_ofNat_of_zero_le (show 0 ≤ y by omega)
            have d2 : decide ((k : Int) < 0) = false := by simp
            obtain ⟨fo, hfo⟩ : ∃ fo, L[j]? = some fo := ⟨_, List.getElem?_eq_getElem (by have h1 := congrArg List.length hm; rw [List.length_map, HN.out] at h1; omega)⟩
            have hPj : P[j]? = some fo.f := by rw [← hm, List.getElem?_map, hfo]; rfl
            have hLn : L.length = n := by have h1 := congrArg List.length hm; rw [List.length_map, HN.out] at h1; exact h1
            obtain ⟨gp, op, rfl, hgp, hcp⟩ := HP.out w5 hF05 (by rw [HN.out]; omega)
            obtain ⟨Ap, cp, p0, p1, hcod⟩ := hcp j _ hPj
            obtain ⟨gq, rfl, _, hgq, hfzq, hcq⟩ := hOP5.row.cell (by omega)
            have p3 := hcq (j * 2 + 1) _ (by rw [flat_at Fo.cells 2 Fo.cells_len hfo (by omega)]; rfl)
            obtain ⟨m, hm0⟩ : ∃ m, fo.f.code.length = m := ⟨_, rfl⟩
            have HM := hid hm0
            rw [hm0] at p1 p3
            clear hcp hcq hm0
            by_cases hkm : k < m
            · have d3 : decide (m ≤ k) = false := by simpa using hkm
              have d3' : (k : Int) < (m : Int) := by omega
              obtain ⟨i, hi⟩ : ∃ i, fo.f.code[k]? = some i := ⟨_, List.getElem?_eq_getElem (by rw [HM.out]; exact hkm)⟩
              obtain ⟨gi, oi, rfl, hgi, hci⟩ := hcod (by rw [HM.out]; omega)
              obtain ⟨_, p4, _⟩ := hci k i hi
              clear hci
              by_cases hia : i.a = a
              · have d4 : (i.a == a) = true := by simp [hia]
                go_wp2_with fail
                simp only [List.append]
                go_quiet (fail)
                go_wp2_with fail
                refine (HA.out _ (ht.same (hF05.trans (Fr.drewN _ _ _)))).mono ?_
                rintro e w6 ⟨rfl, hF6⟩
                go_wp2_with fail
                go_ret
                exact ⟨rfl, hF05.trans ((Fr.drewN _ _ _).trans hF6)⟩
              · have d4 : (i.a == a) = false := by simpa using hia
                obtain ⟨gc, hxA, hgB, hgl, hfz, ⟨cc, hT⟩, _⟩ := own_turn hOP5 hfo hi a
                have hg3 : gc < w3.heap.size := HLT.out fo (List.mem_of_getElem? hfo) gc ⟨_, hxA, rfl⟩
                have hcq := (hOP5.codes fo (List.mem_of_getElem? hfo)).cod
                rw [hxA] at hcq
                obtain ⟨gc', oc', hgc, _, hcq⟩ := hcq (by rw [HM.out]; omega)
                injection hgc with hgc
                injection hgc with hgc hoc
                subst hgc hoc
                obtain ⟨_, p5, _⟩ := hcq k i hi
                rw [Nat.zero_add] at p5
                have p6 := hfz (k * 5 + 1)
                rw [hxA] at p3
                have HXA := hid hxA
                clear hfz hcq hxA
                go_wp2_with fail
                simp only [List.append]
                go_quiet (fail)
                go_wp2_with fail
                go_region
                all_goals go_wp2_with fail
                obtain ⟨gc2, hx2, _, _, _, _, hprg⟩ := own_turn (hOP5.same (Fr.drewN (fun _ => False) w5 (nq + 1))) hfo hi a
                obtain rfl : gc2 = gc := by
                  rw [HXA.out] at hx2
                  injection hx2 with hx2
                  injection hx2 with hx2
                  exact hx2.symm
                rw [hm] at hprg
                have HNE := hid (turnP_ne hPj hi hia)
                have hgw : w.heap.size ≤ gc2 := by have := hF02.size; omega
                have hFt : Fr (fun q => q = gc2) w5 ((w5.drewN (nq + 1)).setCell ⟨gc2, k * 5 + 1, none⟩ (.int .i64 a)) := (Fr.drewN _ _ _).trans (Fr.setCell _ _ _ rfl)
                have hFV : Fr (fun _ => False) w ((w5.drewN (nq + 1)).setCell ⟨gc2, k * 5 + 1, none⟩ (.int .i64 a)) := Fr.to_none ((hF05.mono (fun _ h => h.elim)).trans (hFt.mono (fun q hq => by omega)))
                have hBV := hB5.keep hFt (by have := hF02.size; have := (hBx0 : w.heap.size < w2.heap.size); omega)
                have hDV := hD5.keep hFt (by omega)
                have HHO := hid ((HO3.out.same hF45).keep hFt (fun q hq e => by have := (HO2.out.lt q hq).2; omega))
                have hszV : w5.heap.size ≤ ((w5.drewN (nq + 1)).setCell ⟨gc2, k * 5 + 1, none⟩ (.int .i64 a)).heap.size := hFt.size
                have hprgV := hprg.more (C := ((w5.drewN (nq + 1)).setCell ⟨gc2, k * 5 + 1, none⟩ (.int .i64 a)).heap.size) hszV
                obtain ⟨V, hV⟩ : ∃ V, (w5.drewN (nq + 1)).setCell ⟨gc2, k * 5 + 1, none⟩ (.int .i64 a) = V := ⟨_, rfl⟩
                rw [hV] at hFV hBV hDV HHO hprgV ⊢
                obtain ⟨Q, hQ⟩ : ∃ Q, turnP P j k fo.f i a = Q := ⟨_, rfl⟩
                have hQn : Q.length = n := by rw [← hQ, turnP_len, HN.out]
                rw [hQ] at HNE hprgV
                have HSQ := hid (HS.out HZ.out Q _ c3 V hFV hprgV)
                rw [hQn, decide_eq_false HNE.out] at HSQ
                have HQn := hid hQn
                clear hV hFt hprg hszV hQ hQn p0 p1 p3 p4 p5 p6 s0 s1 s2 s3 sl0 sl1 sl2 HAW hT hg3 hgl hgB hi hPj hfo hx2 hcod hF45 hF05 HO3 hm hia
                refine HSQ.out.mono ?_
                rintro e w6 ⟨rfl, hF6⟩
                have hDV6 := hDV.keep hF6 (fun h => h)
                have u1 : w6.cell? ⟨w3.heap.size, 0, none⟩ = some (.slice (some ⟨gq, 0, none⟩) n c3) := hDV6.cell rfl
                have ul1 := hDV6.lt
                have HPQ := hid (pack_any (some ⟨gq, 0, none⟩) c3 Q w6 (ht.same (hFV.trans hF6)) ((hprgV.same hF6 (Nat.le_refl _)).more hF6.size))
                rw [HQn.out] at HPQ
                go_wp2_with fail
                refine HPQ.out.mono ?_
                intro e w7 hpa7
                obtain ⟨A7, n7, c7, rfl, hn7, ho7, hF7⟩ := hpa7.own
                have hFz := hFV.trans (hF6.trans hF7)
                by_cases hQz : packErr Q = 0
                · rw [if_pos hQz] at ho7
                  rw [hQz]
                  have HBB := hid (bytes_any _ _ A2 A7 n2 n7 c2 c7 _ _ w7 (HHO.out.same (hF6.trans hF7)).bys ho7.bys HO2.out.len ho7.len (by omega) (by omega))
                  rw [pack_ne HZ.out hQz HNE.out] at HBB
                  clear hpa7 ho7 hQz u1 ul1
                  go_wp2_with fail
                  refine HBB.out.mono ?_
                  rintro e w8 ⟨rfl, hF8⟩
                  go_wp2_with fail
                  refine (HA.out w8 (ht.same (hFz.trans hF8))).mono ?_
                  rintro e w9 ⟨rfl, hF9⟩
                  go_wp2_with fail
                  go_ret
                  exact ⟨rfl, (hFz.trans hF8).trans hF9⟩
                · obtain ⟨z, hzz⟩ : ∃ z, packErr Q = z := ⟨_, rfl⟩
                  rw [hzz] at hQz ⊢
                  have t1 : (z != 0) = true := by simpa using hQz
                  clear hpa7 ho7 hQz hzz u1 ul1
                  go_wp2_with fail
                  refine (HA.out w7 (ht.same hFz)).mono ?_
                  rintro e w9 ⟨rfl, hF9⟩
                  go_wp2_with fail
                  go_ret
                  exact ⟨rfl, hFz.trans hF9⟩
            · have d3 : decide (m ≤ k) = true := by simpa using hkm
              have d3' : ¬ (k : Int) < (m : Int) := by omega
              go_wp2_with fail
              simp only [List.append]
              go_quiet (fail)
              go_wp2_with fail
              refine (HA.out _ (ht.same (hF05.trans (Fr.drewN _ _ _)))).mono ?_
              rintro e w6 ⟨rfl, hF6⟩
              go_wp2_with fail
              go_ret
              exact ⟨rfl, hF05.trans ((Fr.drewN _ _ _).trans hF6)⟩
        · have d1 : decide (n ≤ j) = true := by simpa using hjn
          have d1' : ¬ (j : Int) < (n : Int) := by omega
          go_wp2_with fail
          simp only [List.append]
          go_quiet (fail)
          go_wp2_with fail
          refine (HA.out _ (ht.same (hF05.trans (Fr.drewN _ _ _)))).mono ?_
          rintro e w6 ⟨rfl, hF6⟩
          go_wp2_with fail
          go_ret
          exact ⟨rfl, hF05.trans ((Fr.drewN _ _ _).trans hF6)⟩
    · obtain ⟨A2, n2, c2, rfl, hn2, ho2, hF2⟩ := hpa.own
      obtain ⟨z, hzz⟩ : ∃ z, packErr P = z := ⟨_, rfl⟩
      rw [hzz] at hz ⊢
      have t1 : (z != 0) = true := by simpa using hz
      have hF02 := hA.trans (hF1.trans hF2)
      clear hpa ho2 hzz hz q0 ql HS HS'
      have hB2 := hB1.keep hF2 (fun h => h)
      have q0 : w2.cell? ⟨w.heap.size, 0, none⟩ = some (.slice A n c) := hB2.cell rfl
      have ql := hB2.lt
      go_wp2_with fail
      refine (HNIL.out _).mono ?_
      rintro e w3 ⟨rfl, hF3⟩
      have hB3 := hB2.keep hF3 (fun h => h)
      have r0 : w3.cell? ⟨w.heap.size, 0, none⟩ = some (.slice A n c) := hB3.cell rfl
      have rl := hB3.lt
      by_cases hP : P = []
      · have hd : decide (P = []) = true := by simpa using hP
        have hn0 : n = 0 := by rw [← HN.out, hP]; rfl
        subst hn0
        rw [hd]
        clear hd hP
        go_wp2_with fail
        refine (HA.out w3 (ht.same (hF02.trans hF3))).mono ?_
        rintro e w4 ⟨rfl, hF4⟩
        go_wp2_with fail
        go_ret
        exact ⟨rfl, (hF02.trans hF3).trans hF4⟩
      · have hd : decide (P = []) = false := by simpa using hP
        rw [hd]
        clear hd hP
        go_wp2_with fail
        refine (HA.out w3 (ht.same (hF02.trans hF3))).mono ?_
        rintro e w4 ⟨rfl, hF4⟩
        go_wp2_with fail
        go_ret
        exact ⟨rfl, (hF02.trans hF3).trans hF4⟩

end Go.Proofs.YtecobbojbdfffaaDoor
