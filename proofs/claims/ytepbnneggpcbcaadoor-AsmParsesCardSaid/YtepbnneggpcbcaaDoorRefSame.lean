/-
  The document's word on whether two programs are the same.
-/
import Derived.Test.YtepbnneggpcbcaaDoorSame
namespace Go.Proofs.YtepbnneggpcbcaaDoor
open Go.RowKit

def RsRel (w1 : World) (P Q : List Fn) (d : Nat) (s : Value) (wr : World) : Prop :=
  ∃ k : Nat, k ≤ P.length ∧ d = P.length - k ∧ s = .int .i64 k ∧ (∀ j, j < k → P[j]? = Q[j]?) ∧ Fr (fun _ => False) w1 wr

def RtRel (w1 : World) (l m : List Ins) (d : Nat) (s : Value) (wr : World) : Prop :=
  ∃ k : Nat, k ≤ l.length ∧ d = l.length - k ∧ s = .int .i64 k ∧ (∀ j, j < k → l[j]? = m[j]?) ∧ Fr (fun _ => False) w1 wr

theorem ins_diff {a0 a1 a2 a3 a4 b0 b1 b2 b3 b4 : Int} (h : (⟨a0, a1, a2, a3, a4⟩ : Ins) ≠ ⟨b0, b1, b2, b3, b4⟩) : a0 ≠ b0 ∨ (a0 = b0 ∧ a1 ≠ b1) ∨ (a0 = b0 ∧ a1 = b1 ∧ a2 ≠ b2) ∨ (a0 = b0 ∧ a1 = b1 ∧ a2 = b2 ∧ a3 ≠ b3) ∨ (a0 = b0 ∧ a1 = b1 ∧ a2 = b2 ∧ a3 = b3 ∧ a4 ≠ b4) := by
  by_cases h0 : a0 = b0
  · by_cases h1 : a1 = b1
    · by_cases h2 : a2 = b2
      · by_cases h3 : a3 = b3
        · by_cases h4 : a4 = b4
          · exact absurd (by rw [h0, h1, h2, h3, h4]) h
          · exact .inr (.inr (.inr (.inr ⟨h0, h1, h2, h3, h4⟩)))
        · exact .inr (.inr (.inr (.inl ⟨h0, h1, h2, h3⟩)))
      · exact .inr (.inr (.inl ⟨h0, h1, h2⟩))
    · exact .inr (.inl ⟨h0, h1⟩)
  · exact .inl h0

set_option maxRecDepth 100000 in
set_option maxHeartbeats 4000000 in
theorem rsame_in (A A' : Option Addr) (n c c' : Nat) (P Q : List Fn) (w : World) (hp : Prg w w.heap.size A P) (hq : Prg w w.heap.size A' Q) (hn : P.length = n) (hn' : Q.length = n) (hs : n ≤ 1000000) (hcs : ∀ f ∈ P, f.code.length ≤ 1000000) :
    Calls Tryd.prog 18 #[.agg #[.slice A n c], .agg #[.slice A' n c']] w fun e w' => e = .returned (.bool (decide (P = Q))) ∧ Fr (fun _ => False) w w' := by
  have HN := hid hn
  have HN' := hid hn'
  clear hn hn'
  have hF : Fr (fun _ => False) w ((w.alloc (.cells #[.slice A n c] 38)).alloc (.cells #[.slice A' n c'] 38)) := (Fr.alloc _ _ _).trans (Fr.alloc _ _ _)
  have hB1 := (Blk.new w #[.slice A n c] 38).alloc (.cells #[.slice A' n c'] 38)
  have hB2 := (Blk.new (w.alloc (.cells #[.slice A n c] 38)) #[.slice A' n c'] 38).at (size_alloc _ _)
  go_enter Tryd.func18, Tryd.ntmps18
  go_wp2_with fail
  go_loopg [5] n (fun d s wr => RsRel ((w.alloc (.cells #[.slice A n c] 38)).alloc (.cells #[.slice A' n c'] 38)) P Q d s wr)
  case atStart => exact ⟨0, by omega, by rw [HN.out, Nat.sub_zero], rfl, fun j hj => by omega, Fr.refl _ _⟩
  case round =>
    obtain ⟨wo, rfl⟩ : ∃ wo, wo = wr := ⟨_, rfl⟩
    obtain ⟨k, hk, hd, rfl, hg, hFo⟩ := hrel
    rw [HN.out] at hk hd
    have HG := hid hg
    have HD := hid hd
    clear hg hd
    have hC1 := hB1.keep hFo (fun h => h)
    have hC2 := hB2.keep hFo (fun h => h)
    have q1 : wo.cell? ⟨w.heap.size, 0, none⟩ = some (.slice A n c) := hC1.cell rfl
    have q2 : wo.cell? ⟨w.heap.size + 1, 0, none⟩ = some (.slice A' n c') := hC2.cell rfl
    have ql1 := hC1.lt
    have ql2 := hC2.lt
    have hFw := hF.trans hFo
    by_cases hlt : k < n
    · obtain ⟨⟨n1, l⟩, hx⟩ : ∃ x, P[k]? = some x := ⟨_, List.getElem?_eq_getElem (by rw [HN.out]; exact hlt)⟩
      obtain ⟨⟨n2, m⟩, hy⟩ : ∃ y, Q[k]? = some y := ⟨_, List.getElem?_eq_getElem (by rw [HN'.out]; exact hlt)⟩
      obtain ⟨g, o, rfl, hgb, hcx⟩ := (hp.same hFw (Nat.le_refl _)) (by rw [HN.out]; omega)
      obtain ⟨g', o', rfl, hgb', hcy⟩ := (hq.same hFw (Nat.le_refl _)) (by rw [HN'.out]; omega)
      obtain ⟨Ax, cx, p0, p1, hcodx⟩ := hcx k _ hx
      obtain ⟨Ay, cy, r0, r1, hcody⟩ := hcy k _ hy
      have hla := hcs _ (List.mem_of_getElem? hx)
      simp only at p0 p1 hcodx r0 r1 hcody hla
      have hgl : g < wo.heap.size := Nat.lt_of_lt_of_le hgb hFw.size
      have hgl' : g' < wo.heap.size := Nat.lt_of_lt_of_le hgb' hFw.size
      have HX := hid hx
      have HY := hid hy
      clear hx hy hcx hcy
      by_cases hnn : n1 = n2
      · subst hnn
        by_cases hab : l.length = m.length
        · obtain ⟨a, ha⟩ : ∃ a, l.length = a := ⟨_, rfl⟩
          have hb : m.length = a := by omega
          rw [ha] at p1 hla
          rw [hb] at r1
          have HA := hid ha
          have HB := hid hb
          clear ha hb hab
          have hFf : Fr (fun _ => False) wo ((wo.alloc (.cells #[.int .i64 n1, .slice Ax a cx] 49)).alloc (.cells #[.int .i64 n1, .slice Ay a cy] 49)) := (Fr.alloc _ _ _).trans (Fr.alloc _ _ _)
          have hD1 := (Blk.new wo #[.int .i64 n1, .slice Ax a cx] 49).alloc (.cells #[.int .i64 n1, .slice Ay a cy] 49)
          have hD2 := (Blk.new (wo.alloc (.cells #[.int .i64 n1, .slice Ax a cx] 49)) #[.int .i64 n1, .slice Ay a cy] 49).at (size_alloc _ _)
          go_wp2_with fail
          go_loopg [8] a (fun d s wq => RtRel ((wo.alloc (.cells #[.int .i64 n1, .slice Ax a cx] 49)).alloc (.cells #[.int .i64 n1, .slice Ay a cy] 49)) l m d s wq)
          case atStart => exact ⟨0, by omega, by rw [HA.out, Nat.sub_zero], rfl, fun j hj => by omega, Fr.refl _ _⟩
          case round =>
            clear q1 q2 p0 p1 r0 r1
            obtain ⟨i, hi, hdi, rfl, hgi, hFi⟩ := hrel
            rw [HA.out] at hi hdi
            have HGI := hid hgi
            have HDI := hid hdi
            clear hgi hdi
            have hE1 := hD1.keep hFi (fun h => h)
            have hE2 := hD2.keep hFi (fun h => h)
            have q1 : wr.cell? ⟨wo.heap.size, 1, none⟩ = some (.slice Ax a cx) := hE1.cell rfl
            have q2 : wr.cell? ⟨wo.heap.size + 1, 1, none⟩ = some (.slice Ay a cy) := hE2.cell rfl
            have el1 := hE1.lt
            have el2 := hE2.lt
            have hFr := hFw.trans (hFf.trans hFi)
            by_cases hlti : i < a
            · obtain ⟨⟨a0, a1, a2, a3, a4⟩, hx⟩ : ∃ x, l[i]? = some x := ⟨_, List.getElem?_eq_getElem (by rw [HA.out]; exact hlti)⟩
              obtain ⟨⟨b0, b1, b2, b3, b4⟩, hy⟩ : ∃ y, m[i]? = some y := ⟨_, List.getElem?_eq_getElem (by rw [HB.out]; exact hlti)⟩
              obtain ⟨gx, ox, rfl, hgx, hcx⟩ := (hcodx.same (hFf.trans hFi) (by have := hFw.size; omega)) (by rw [HA.out]; omega)
              obtain ⟨gy, oy, rfl, hgy, hcy⟩ := (hcody.same (hFf.trans hFi) (by have := hFw.size; omega)) (by rw [HB.out]; omega)
              obtain ⟨p0, p1, p2, p3, p4⟩ := hcx i _ hx
              obtain ⟨r0, r1, r2, r3, r4⟩ := hcy i _ hy
              simp only at p0 p1 p2 p3 p4 r0 r1 r2 r3 r4
              have hglx : gx < wr.heap.size := by have := hFr.size; omega
              have hgly : gy < wr.heap.size := by have := hFr.size; omega
              have HX2 := hid hx
              have HY2 := hid hy
              clear hx hy hcx hcy
              have z0 : (0 : Int) ≤ (i : Int) := by omega
              have z1 : (i : Int) < (a : Int) := by omega
              by_cases hxy : (⟨a0, a1, a2, a3, a4⟩ : Ins) = ⟨b0, b1, b2, b3, b4⟩
              · simp only [Ins.mk.injEq] at hxy
                obtain ⟨rfl, rfl, rfl, rfl, rfl⟩ := hxy
                go_wp2_with fail
                go_quiet (fail)
                go_wp2_with fail
                go_roundg (a - (i + 1))
                case rel => exact ⟨i + 1, by rw [HA.out]; omega, by rw [HA.out], by go_num, fun j hj => by
                  rcases Nat.lt_or_ge j i with h | h
                  · exact HGI.out j h
                  · obtain rfl : j = i := by omega
                    rw [HX2.out, HY2.out], hFi.trans (Fr.drewN _ _ _)⟩
                case measure => have := HDI.out; omega
              · have hfin : decide (P = Q) = false := same_ne HX.out HY.out (fun e => by
                  simp only [Fn.mk.injEq] at e
                  have e2 := e.2
                  subst e2
                  exact hxy (Option.some.inj (HX2.out.symm.trans HY2.out)))
                have HFIN := hid hfin
                clear hfin
                rcases ins_diff hxy with h | ⟨rfl, h⟩ | ⟨rfl, rfl, h⟩ | ⟨rfl, rfl, rfl, h⟩ | ⟨rfl, rfl, rfl, rfl, h⟩
                all_goals
                  clear hxy
                  go_wp2_with fail
                  go_quiet (fail)
                  go_wp2_with fail
                  go_ret
                  exact ⟨ret_bool HFIN.out.symm, hFr.trans (Fr.drewN _ _ _)⟩
            · have hlm : l = m := of_decide_eq_true (same_all (by rw [HA.out, HB.out]) (fun j hj => HGI.out j (by rw [HA.out] at hj; omega)))
              have HLM := hid hlm
              clear hlm
              go_wp2_with fail
              go_roundg (n - (k + 1))
              case rel => exact ⟨k + 1, by rw [HN.out]; omega, by rw [HN.out], by go_num, fun j hj => by
                rcases Nat.lt_or_ge j k with h | h
                · exact HG.out j h
                · obtain rfl : j = k := by omega
                  rw [HX.out, HY.out, HLM.out], hFo.trans (hFf.trans hFi)⟩
              case measure => have := HD.out; omega
        · have hfin : decide (P = Q) = false := same_ne HX.out HY.out (fun e => by
            simp only [Fn.mk.injEq] at e
            exact hab (by rw [e.2]))
          have HFIN := hid hfin
          obtain ⟨a, ha⟩ : ∃ a, l.length = a := ⟨_, rfl⟩
          obtain ⟨a', ha'⟩ : ∃ a', m.length = a' := ⟨_, rfl⟩
          rw [ha] at p1 hab
          rw [ha'] at r1 hab
          have t1 : ((a : Int) != (a' : Int)) = true := by simpa using (by omega : ¬ (a : Int) = a')
          have t2 : (a != a') = true := by simpa using hab
          clear hfin ha ha'
          go_wp2_with fail
          go_ret
          exact ⟨ret_bool HFIN.out.symm, hFw.trans ((Fr.alloc _ _ _).trans (Fr.alloc _ _ _))⟩
      · have hfin : decide (P = Q) = false := same_ne HX.out HY.out (fun e => by
          simp only [Fn.mk.injEq] at e
          exact hnn e.1)
        have HFIN := hid hfin
        obtain ⟨a, ha⟩ : ∃ a, l.length = a := ⟨_, rfl⟩
        obtain ⟨a', ha'⟩ : ∃ a', m.length = a' := ⟨_, rfl⟩
        rw [ha] at p1
        rw [ha'] at r1
        have t1 : (n1 != n2) = true := by simpa using hnn
        clear hfin ha ha'
        go_wp2_with fail
        go_ret
        exact ⟨ret_bool HFIN.out.symm, hFw.trans ((Fr.alloc _ _ _).trans (Fr.alloc _ _ _))⟩
    · have hfin : decide (P = Q) = true := same_all (by rw [HN.out, HN'.out]) (fun j hj => HG.out j (by rw [HN.out] at hj; omega))
      have HFIN := hid hfin
      clear hfin
      go_wp2_with fail
      go_ret
      exact ⟨ret_bool HFIN.out.symm, hFw⟩

set_option maxRecDepth 100000 in
set_option maxHeartbeats 1000000 in
theorem rsame_len (A A' : Option Addr) (n n' c c' : Nat) (w : World) (hne : n ≠ n') :
    Calls Tryd.prog 18 #[.agg #[.slice A n c], .agg #[.slice A' n' c']] w fun e w' => e = .returned (.bool false) ∧ Fr (fun _ => False) w w' := by
  have t1 : ((n : Int) != (n' : Int)) = true := by simpa using (by omega : ¬ (n : Int) = n')
  have t2 : (n != n') = true := by simpa using hne
  go_enter Tryd.func18, Tryd.ntmps18
  go_wp2_with fail
  go_ret
  exact ⟨rfl, (Fr.alloc _ _ _).trans (Fr.alloc _ _ _)⟩

theorem rsame_any (A A' : Option Addr) (c c' : Nat) (P Q : List Fn) (w : World) (hp : Prg w w.heap.size A P) (hq : Prg w w.heap.size A' Q) (hs : P.length ≤ 1000000) (hcs : ∀ f ∈ P, f.code.length ≤ 1000000) :
    Calls Tryd.prog 18 #[.agg #[.slice A P.length c], .agg #[.slice A' Q.length c']] w fun e w' => e = .returned (.bool (decide (P = Q))) ∧ Fr (fun _ => False) w w' := by
  by_cases h : P.length = Q.length
  · rw [← h]
    exact rsame_in A A' P.length c c' P Q w hp hq rfl h.symm hs hcs
  · rw [same_len h]
    exact rsame_len A A' P.length Q.length c c' w h

end Go.Proofs.YtepbnneggpcbcaaDoor
