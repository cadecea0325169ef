/-
  size, parts, root.
-/
import Derived.Test.YtpjcdjooiaefdaaDoorVSite
import Derived.Deep.LoopGhost
namespace Go.Proofs.YtpjcdjooiaefdaaDoor
open Go.RowKit

def FltPost (w : World) (x : Flt) (e : Ending) (w' : World) : Prop := e = .returned x.val ∧ Fr (fun _ => False) w w'
theorem FltPost.eq {w : World} {x y : Flt} {e : Ending} {w' : World} (h : FltPost w x e w') (he : x = y) : FltPost w y e w' := he ▸ h

theorem size_any (A : Option Addr) (n c : Nat) (P : List Fn) (w : World) (hn : P.length = n) : Calls Tryd.prog 25 #[.agg #[.slice A n c]] w (FltPost w (sizeF P)) := by
  by_cases h : n < 1 ∨ 32 < n
  · have HQ := hid (show sizeF P = ⟨-1, -1, 12⟩ by unfold sizeF; rw [hn, if_pos h])
    rcases h with h | h
    · go_enter Tryd.func25, Tryd.ntmps25
      go_wp2_with fail
      refine bodyPost_ret (v := .agg #[.int .i64 (-1), .int .i64 (-1), .int .i64 12]) (by simp [results, Tryd.results25, go_sem]; try rfl) rfl (FltPost.eq (x := ⟨-1, -1, 12⟩) ⟨rfl, (Fr.alloc _ _ _).trans (Fr.alloc _ _ _)⟩ HQ.out.symm)
    · have h0 : ¬ n < 1 := by omega
      go_enter Tryd.func25, Tryd.ntmps25
      go_wp2_with fail
      refine bodyPost_ret (v := .agg #[.int .i64 (-1), .int .i64 (-1), .int .i64 12]) (by simp [results, Tryd.results25, go_sem]; try rfl) rfl (FltPost.eq (x := ⟨-1, -1, 12⟩) ⟨rfl, (Fr.alloc _ _ _).trans (Fr.alloc _ _ _)⟩ HQ.out.symm)
  · have HQ := hid (show sizeF P = Flt.none by unfold sizeF; rw [hn, if_neg h])
    have h0 : ¬ n < 1 := by omega
    have h1 : ¬ 32 < n := by omega
    go_enter Tryd.func25, Tryd.ntmps25
    go_wp2_with fail
    refine bodyPost_ret (v := .agg #[.int .i64 0, .int .i64 0, .int .i64 0]) (by simp [results, Tryd.results25, go_sem]; try rfl) rfl (FltPost.eq (x := Flt.none) ⟨rfl, (Fr.alloc _ _ _).trans (Fr.alloc _ _ _)⟩ HQ.out.symm)

theorem root_prg (A : Option Addr) (n c : Nat) (P : List Fn) (w : World) (hp : Prg w w.heap.size A P) (hn : P.length = n) (h0 : 0 < n) : Calls Tryd.prog 27 #[.agg #[.slice A n c]] w (FltPost w (rootF P)) := by
  obtain ⟨⟨needs, l⟩, hf⟩ : ∃ f, P[0]? = some f := ⟨_, List.getElem?_eq_getElem (by omega)⟩
  obtain ⟨b, o, rfl, hb, hcell⟩ := hp (by omega)
  obtain ⟨A', c', p0, _, _⟩ := hcell 0 _ hf
  simp only [Nat.zero_mul, Nat.add_zero] at p0
  have hA := (Fr.alloc (fun _ => False) w (.cells #[.slice (some ⟨b, o, none⟩) n c] 71)).trans (Fr.alloc _ _ (.cells #[.int .i64 0, .int .i64 0, .int .i64 0] 49))
  rw [← cell_keep hA (p := ⟨b, o, none⟩) hb (fun h => h)] at p0
  have HA := hid hA
  have hr : rootF P = if needs = 0 then Flt.none else ⟨0, -1, 16⟩ := by unfold rootF; rw [hf]
  clear hA hcell hf hp hn
  by_cases hz : needs = 0
  · subst hz
    have HQ := hid (hr.trans (if_pos rfl))
    clear hr
    go_enter Tryd.func27, Tryd.ntmps27
    go_wp2_with fail
    refine bodyPost_ret (v := .agg #[.int .i64 0, .int .i64 0, .int .i64 0]) (by simp [results, Tryd.results27, go_sem]; try rfl) rfl (FltPost.eq (x := Flt.none) ⟨rfl, HA.out⟩ HQ.out.symm)
  · have HQ := hid (hr.trans (if_neg hz))
    have t1 : (needs != 0) = true := by simpa using hz
    clear hr
    go_enter Tryd.func27, Tryd.ntmps27
    go_wp2_with fail
    refine bodyPost_ret (v := .agg #[.int .i64 0, .int .i64 (-1), .int .i64 16]) (by simp [results, Tryd.results27, go_sem]; try rfl) rfl (FltPost.eq (x := ⟨0, -1, 16⟩) ⟨rfl, (Fr.alloc _ _ _).trans (Fr.alloc _ _ _)⟩ HQ.out.symm)

def PtRel (P : List Fn) (W0 : World) (d : Nat) (k : Value) (wr : World) : Prop :=
  ∃ j : Nat, j ≤ P.length ∧ d = P.length - j ∧ k = .int .i64 j ∧ firstW shapeF 0 (P.take j) = Flt.none ∧ Fr (fun _ => False) W0 wr

def PiRel (k : Nat) (l : List Ins) (W0 : World) (d : Nat) (kv : Value) (wr : World) : Prop :=
  ∃ j : Nat, j ≤ l.length ∧ d = l.length - j ∧ kv = .int .i64 j ∧ firstW (fun j i => flt k j (chk i)) 0 (l.take j) = Flt.none ∧ Fr (fun _ => False) W0 wr

set_option maxRecDepth 100000 in
set_option maxHeartbeats 2000000 in
theorem parts_any (A : Option Addr) (n c : Nat) (P : List Fn) (w : World) (ht : Tabs w) (hp : Prg w w.heap.size A P) (hn : P.length = n) (hb : n ≤ 1000) : Calls Tryd.prog 26 #[.agg #[.slice A n c]] w (FltPost w (partsF P)) := by
  have HN := hid hn
  clear hn
  obtain ⟨W0, hW0⟩ : ∃ W0, W0 = (w.alloc (.cells #[.slice A n c] 71)).alloc (.cells #[.int .i64 0, .int .i64 0, .int .i64 0] 49) := ⟨_, rfl⟩
  have HA := hid (show Fr (fun _ => False) w W0 by rw [hW0]; exact (Fr.alloc _ _ _).trans (Fr.alloc _ _ _))
  have HR0 := hid (show Blk W0 (w.heap.size + 1) #[.int .i64 0, .int .i64 0, .int .i64 0] by rw [hW0]; exact (Blk.new _ _ _).at (by simp))
  go_enter Tryd.func26, Tryd.ntmps26
  go_wp2_with fail
  rw [← hW0]
  clear hW0
  go_loopg [11] n (fun d k wr => PtRel P W0 d k wr)
  case atStart => exact ⟨0, by omega, by rw [HN.out, Nat.sub_zero], rfl, rfl, Fr.refl _ _⟩
  case round =>
    obtain ⟨wo, rfl⟩ : ∃ wo, wo = wr := ⟨_, rfl⟩
    obtain ⟨k, hk, hd, rfl, he, hF⟩ := hrel
    rw [HN.out] at hk hd
    have HE := hid he
    have HD := hid hd
    clear he hd
    have hFw := HA.out.trans hF
    have hR := HR0.out.keep hF (fun h => h)
    have HF := hid hF
    have HFw := hid hFw
    have HR := hid hR
    by_cases hlt : k < n
    · obtain ⟨⟨needs, l⟩, hfk⟩ : ∃ f, P[k]? = some f := ⟨_, List.getElem?_eq_getElem (by rw [HN.out]; exact hlt)⟩
      obtain ⟨g, o, rfl, hg, hcell⟩ := (hp.same hFw (Nat.le_refl _)) (by rw [HN.out]; omega)
      obtain ⟨A', c', p0, p1, hcod⟩ := hcell k _ hfk
      simp only at p0 p1 hcod
      have HFK := hid hfk
      have hgl : g < wo.heap.size := Nat.lt_of_lt_of_le hg hFw.size
      clear hfk hcell hF hFw
      obtain ⟨ln, hln⟩ : ∃ ln, l.length = ln := ⟨_, rfl⟩
      rw [hln] at p1
      have HLN := hid hln
      clear hln
      have hR1 := hR.alloc (.cells #[.int .i64 needs, .slice A' ln c'] 40)
      have z0 := hR1.frozen 0
      have z1 := hR1.frozen 1
      have z2 := hR1.frozen 2
      have r0 := hR1.cell (i := 0) rfl
      have r1 := hR1.cell (i := 1) rfl
      have r2 := hR1.cell (i := 2) rfl
      clear hR hR1
      by_cases hneeds : needs < 0 ∨ 255 < needs
      · have hs : shapeF k ⟨needs, l⟩ = ⟨k, -1, 10⟩ := by unfold shapeF; rw [if_pos hneeds]
        have HQ := hid (show partsF P = ⟨k, -1, 10⟩ by
          unfold partsF
          rw [firstW_stop (k := k) HE.out HFK.out (by rw [Nat.zero_add, hs]; intro h; injection h with _ _ h; exact absurd h (by decide)), Nat.zero_add, hs])
        clear hs
        rcases hneeds with h | h
        · go_wp2_with fail
          refine bodyPost_ret (v := .agg #[.int .i64 k, .int .i64 (-1), .int .i64 10]) (by simp [results, Tryd.results26, go_sem, r0, r1, r2]; try rfl) rfl (FltPost.eq (x := ⟨k, -1, 10⟩) ⟨rfl, Fr.put3 (HFw.out.trans (Fr.alloc _ _ _)) _ _ _ (by omega)⟩ HQ.out.symm)
        · have h0 : ¬ needs < 0 := by omega
          go_wp2_with fail
          refine bodyPost_ret (v := .agg #[.int .i64 k, .int .i64 (-1), .int .i64 10]) (by simp [results, Tryd.results26, go_sem, r0, r1, r2]; try rfl) rfl (FltPost.eq (x := ⟨k, -1, 10⟩) ⟨rfl, Fr.put3 (HFw.out.trans (Fr.alloc _ _ _)) _ _ _ (by omega)⟩ HQ.out.symm)
      · have n0 : ¬ needs < 0 := by omega
        have n1 : ¬ 255 < needs := by omega
        by_cases hlen : ln < 1 ∨ 128 < ln
        · have hs : shapeF k ⟨needs, l⟩ = ⟨k, -1, 12⟩ := by unfold shapeF; rw [if_neg hneeds, HLN.out, if_pos hlen]
          have HQ := hid (show partsF P = ⟨k, -1, 12⟩ by
            unfold partsF
            rw [firstW_stop (k := k) HE.out HFK.out (by rw [Nat.zero_add, hs]; intro h; injection h with _ _ h; exact absurd h (by decide)), Nat.zero_add, hs])
          clear hs hneeds
          rcases hlen with h | h
          · go_wp2_with fail
            refine bodyPost_ret (v := .agg #[.int .i64 k, .int .i64 (-1), .int .i64 12]) (by simp [results, Tryd.results26, go_sem, r0, r1, r2]; try rfl) rfl (FltPost.eq (x := ⟨k, -1, 12⟩) ⟨rfl, Fr.put3 (HFw.out.trans (Fr.alloc _ _ _)) _ _ _ (by omega)⟩ HQ.out.symm)
          · have h0 : ¬ ln < 1 := by omega
            go_wp2_with fail
            refine bodyPost_ret (v := .agg #[.int .i64 k, .int .i64 (-1), .int .i64 12]) (by simp [results, Tryd.results26, go_sem, r0, r1, r2]; try rfl) rfl (FltPost.eq (x := ⟨k, -1, 12⟩) ⟨rfl, Fr.put3 (HFw.out.trans (Fr.alloc _ _ _)) _ _ _ (by omega)⟩ HQ.out.symm)
        · have l0 : ¬ ln < 1 := by omega
          have l1 : ¬ 128 < ln := by omega
          have HS := hid (show shapeF k ⟨needs, l⟩ = firstW (fun j i => flt k j (chk i)) 0 l by unfold shapeF; rw [if_neg hneeds, HLN.out, if_neg hlen])
          clear hneeds hlen
          have hF1 := HF.out.trans (Fr.alloc _ wo (.cells #[.int .i64 needs, .slice A' ln c'] 40))
          have HF1 := hid hF1
          clear hF1
          go_wp2_with fail
          go_loopg [41] ln (fun d k' wq => PiRel k l W0 d k' wq)
          case atStart => exact ⟨0, by omega, by rw [HLN.out, Nat.sub_zero], rfl, rfl, HF1.out⟩
          case round =>
            obtain ⟨wq, rfl⟩ : ∃ wq, wq = wr := ⟨_, rfl⟩
            obtain ⟨k', hk', hd', rfl, he', hF'⟩ := hrel
            rw [HLN.out] at hk' hd'
            have HE' := hid he'
            have HD' := hid hd'
            have HF' := hid hF'
            have hFw' := HA.out.trans hF'
            have HFw' := hid hFw'
            clear he' hd' z0 z1 z2 r0 r1 r2
            by_cases hlt' : k' < ln
            · obtain ⟨⟨op, a, b, ci, m⟩, hik⟩ : ∃ i, l[k']? = some i := ⟨_, List.getElem?_eq_getElem (by rw [HLN.out]; exact hlt')⟩
              obtain ⟨Bq, hBq⟩ : ∃ Bq, Bq = w.heap.size := ⟨_, rfl⟩
              have hcodq : Cod wq w.heap.size A' l := by
                obtain ⟨g', o', e1, _, hcell'⟩ := hp (by rw [HN.out]; omega)
                obtain ⟨A'', c'', q0, q1, q2⟩ := hcell' k _ HFK.out
                injection e1 with e1
                injection e1 with e1 e2
                subst e1 e2
                have := (cell_keep HFw.out (p := ⟨g, o + k * 2 + 1, none⟩) hg (fun h => h)).trans q1
                rw [p1] at this
                injection this with this
                injection this with e3
                subst e3
                exact q2.same hFw' (Nat.le_refl _)
              obtain ⟨g2, o2, rfl, hg2, hcell2⟩ := hcodq (by rw [HLN.out]; omega)
              obtain ⟨s0, s1, s2, s3, s4⟩ := hcell2 k' _ hik
              simp only at s0 s1 s2 s3 s4
              have HIK := hid hik
              have hgl2 : g2 < wq.heap.size := Nat.lt_of_lt_of_le hg2 hFw'.size
              have hFb := Fr.alloc (fun _ => False) wq (.cells #[.int .i64 op, .int .i64 a, .int .i64 b, .int .i64 ci, .int .i64 m] 43)
              have HP := hid (check_any ⟨op, a, b, ci, m⟩ _ (ht.same (hFw'.trans hFb)))
              have HFB := hid hFb
              unfold Ins.val at HP
              simp only at HP
              obtain ⟨x, hx⟩ : ∃ x, chk ⟨op, a, b, ci, m⟩ = x := ⟨_, rfl⟩
              rw [hx] at HP
              have HX := hid hx
              clear hik hcell2 hcodq hBq hx hFb hF' hFw'
              go_wp2_with fail
              refine HP.out.mono ?_
              rintro e w4 ⟨rfl, hF4⟩
              have hF5 := HFw'.out.trans (HFB.out.trans hF4)
              have hF6 := HF'.out.trans (HFB.out.trans hF4)
              have hRR := HR0.out.keep hF6 (fun h => h)
              have HF5 := hid hF5
              have HF6 := hid hF6
              clear hF4 hF5 hF6
              by_cases hx0 : x = 0
              · subst hx0
                go_wp2_with fail
                go_roundg (ln - (k' + 1))
                case rel => exact ⟨k' + 1, by rw [HLN.out]; omega, by rw [HLN.out], by go_num, firstW_snoc HE'.out HIK.out (flt_none.2 HX.out), HF6.out⟩
                case measure => have := HD'.out; omega
              · have t1 : (x != 0) = true := by simpa using hx0
                have hin : firstW (fun j i => flt k j (chk i)) 0 l = ⟨k, k', x⟩ := by
                  have e1 : (fun (j : Nat) i => flt k j (chk i)) (0 + k') ⟨op, a, b, ci, m⟩ = ⟨k, k', x⟩ := by
                    simp only [Nat.zero_add]
                    unfold flt
                    rw [HX.out, if_neg hx0]
                  exact (firstW_stop HE'.out HIK.out (fun h => by have h2 := e1.symm.trans h; injection h2 with _ _ h2; exact hx0 h2)).trans e1
                have HQ := hid (show partsF P = ⟨k, k', x⟩ by
                  unfold partsF
                  have e1 : shapeF (0 + k) ⟨needs, l⟩ = ⟨k, k', x⟩ := by rw [Nat.zero_add, HS.out, hin]
                  exact (firstW_stop HE.out HFK.out (by rw [e1]; intro h; injection h with _ _ h; exact hx0 h)).trans e1)
                have z0 := hRR.frozen 0
                have z1 := hRR.frozen 1
                have z2 := hRR.frozen 2
                have r0 := hRR.cell (i := 0) rfl
                have r1 := hRR.cell (i := 1) rfl
                have r2 := hRR.cell (i := 2) rfl
                clear hin hRR
                go_wp2_with fail
                refine bodyPost_ret (v := .agg #[.int .i64 k, .int .i64 k', .int .i64 x]) (by simp [results, Tryd.results26, go_sem, r0, r1, r2]; try rfl) rfl (FltPost.eq (x := ⟨k, k', x⟩) ⟨rfl, Fr.put3 HF5.out _ _ _ (by omega)⟩ HQ.out.symm)
            · have HZ := hid (show shapeF k ⟨needs, l⟩ = Flt.none by
                have h := HE'.out
                rw [List.take_of_length_le (by rw [HLN.out]; omega)] at h
                rw [HS.out, h])
              go_wp2_with fail
              go_roundg (n - (k + 1))
              case rel => exact ⟨k + 1, by rw [HN.out]; omega, by rw [HN.out], by go_num, firstW_snoc HE.out HFK.out (by rw [Nat.zero_add]; exact HZ.out), HF'.out⟩
              case measure => have := HD.out; omega
    · have HQ := hid (show partsF P = Flt.none by
        have h := HE.out
        rw [List.take_of_length_le (by rw [HN.out]; omega)] at h
        exact h)
      have z0 := hR.frozen 0
      have z1 := hR.frozen 1
      have z2 := hR.frozen 2
      have r0 := hR.cell (i := 0) rfl
      have r1 := hR.cell (i := 1) rfl
      have r2 := hR.cell (i := 2) rfl
      clear hR hF hFw
      go_wp2_with fail
      refine bodyPost_ret (v := .agg #[.int .i64 0, .int .i64 0, .int .i64 0]) (by simp [results, Tryd.results26, go_sem, r0, r1, r2]; try rfl) rfl (FltPost.eq (x := Flt.none) ⟨rfl, Fr.put3 HFw.out _ _ _ (by omega)⟩ HQ.out.symm)

end Go.Proofs.YtpjcdjooiaefdaaDoor

/-
  The first fault that is told.
-/
namespace Go.Proofs.YtpjcdjooiaefdaaDoor
open Go.RowKit

/-- Who tells, and what. -/
structure Tell where
  f : Nat
  r : Value
  x : Flt

def Tell.fv (t : Tell) : Value := .func (.func t.f) #[t.r] #[]

def firstT : List Tell → Flt
  | [] => Flt.none
  | t :: r => if t.x = Flt.none then firstT r else t.x

theorem firstT_stop {L : List Tell} {k : Nat} {t : Tell} (h : ∀ (j : Nat) (t' : Tell), j < k → L[j]? = some t' → t'.x = Flt.none) (hk : L[k]? = some t) (hx : t.x ≠ Flt.none) : firstT L = t.x := by
  induction L generalizing k with
  | nil => simp at hk
  | cons a r ih =>
    cases k with
    | zero =>
      simp at hk
      subst hk
      simp [firstT, hx]
    | succ k =>
      have h0 := h 0 a (by omega) rfl
      rw [firstT, if_pos h0]
      exact ih (k := k) (fun j t' hj ht => h (j + 1) t' (by omega) (by simpa using ht)) (by simpa using hk)

theorem firstT_none {L : List Tell} (h : ∀ (j : Nat) t', L[j]? = some t' → t'.x = Flt.none) : firstT L = Flt.none := by
  induction L with
  | nil => rfl
  | cons a r ih =>
    rw [firstT, if_pos (h 0 a rfl)]
    exact ih fun j t' ht => h (j + 1) t' (by simpa using ht)

def FiRel (L : List Tell) (W0 : World) (d : Nat) (k : Value) (wr : World) : Prop :=
  ∃ j : Nat, j ≤ L.length ∧ d = L.length - j ∧ k = .int .i64 j ∧ (∀ (i : Nat) (t : Tell), i < j → L[i]? = some t → t.x = Flt.none) ∧ Fr (fun _ => False) W0 wr

set_option maxHeartbeats 1000000 in
theorem first_any (b o c : Nat) (L : List Tell) (n : Nat) (w : World) (hn : L.length = n) (hn2 : n ≤ 4) (hb : b < w.heap.size) (hcell : ∀ (k : Nat) (t : Tell), L[k]? = some t → w.cell? ⟨b, o + k, none⟩ = some t.fv)
    (hent : ∀ (k : Nat) (t : Tell), L[k]? = some t → ∀ args w, (callFunc t.f args).run Tryd.prog w = .ok (.enter t.f args) w)
    (hcall : ∀ (k : Nat) (t : Tell) (W : World), L[k]? = some t → (∀ (j : Nat) (t' : Tell), j < k → L[j]? = some t' → t'.x = Flt.none) → Fr (fun _ => False) w W → Calls Tryd.prog t.f #[t.r] W (FltPost W t.x)) :
    Calls Tryd.prog 24 #[.slice (some ⟨b, o, none⟩) n c] w (FltPost w (firstT L)) := by
  have HN := hid hn
  have HENT := hid hent
  have HCALL := hid hcall
  have HCELL := hid hcell
  clear hn hent hcall hcell
  have HA := hid (Fr.alloc (fun _ => False) w (.cells #[.int .i64 0, .int .i64 0, .int .i64 0] 49))
  have HR0 := hid (Blk.new w #[.int .i64 0, .int .i64 0, .int .i64 0] 49)
  go_enter Tryd.func24, Tryd.ntmps24
  go_wp2_with fail
  go_loopg [8] n (fun d k wr => FiRel L (w.alloc (.cells #[.int .i64 0, .int .i64 0, .int .i64 0] 49)) d k wr)
  case atStart => exact ⟨0, by omega, by rw [HN.out, Nat.sub_zero], rfl, fun i t h => by omega, Fr.refl _ _⟩
  case round =>
    obtain ⟨wo, rfl⟩ : ∃ wo, wo = wr := ⟨_, rfl⟩
    obtain ⟨k, hk, hd, rfl, he, hF⟩ := hrel
    rw [HN.out] at hk hd
    have HE := hid he
    have HD := hid hd
    have HF := hid hF
    have hR := HR0.out.keep hF (fun h => h)
    clear he hd
    by_cases hlt : k < n
    · obtain ⟨t, ht⟩ : ∃ t, L[k]? = some t := ⟨_, List.getElem?_eq_getElem (by rw [HN.out]; exact hlt)⟩
      have p0 : wo.cell? ⟨b, o + k, none⟩ = some t.fv := (cell_keep (HA.out.trans hF) (p := ⟨b, o + k, none⟩) hb (fun h => h)).trans (HCELL.out k t ht)
      have hbl : b < wo.heap.size := Nat.lt_of_lt_of_le hb (HA.out.trans hF).size
      have eg := HENT.out k t ht
      have HC := hid (HCALL.out k t wo ht HE.out (HA.out.trans hF))
      have HT := hid ht
      clear ht hF
      obtain ⟨f, r, ⟨x0, x1, x2⟩⟩ := t
      unfold Tell.fv at p0
      simp only at p0 eg HC
      go_wp2_with fail
      refine HC.out.mono ?_
      rintro e w1 ⟨rfl, hF1⟩
      unfold Flt.val
      simp only
      have hF2 := hF1.trans (Fr.alloc _ w1 (.cells #[.int .i64 x0, .int .i64 x1, .int .i64 x2] 49))
      have hR2 := hR.keep hF2 (fun h => h)
      have HF2 := hid (HF.out.trans hF2)
      clear hF1 hF2 hR p0 eg
      by_cases hx : x0 = 0 ∧ x1 = 0 ∧ x2 = 0
      · obtain ⟨rfl, rfl, rfl⟩ := hx
        go_wp2_with fail
        go_roundg (n - (k + 1))
        case rel =>
          refine ⟨k + 1, by rw [HN.out]; omega, by rw [HN.out], by go_num, fun i t hi hit => ?_, HF2.out⟩
          rcases Nat.lt_or_ge i k with h | h
          · exact HE.out i t h hit
          · obtain rfl : i = k := by omega
            have := HT.out
            rw [hit] at this
            cases this
            rfl
        case measure => have := HD.out; omega
      · have HX := hid hx
        have HQ := hid (show firstT L = ⟨x0, x1, x2⟩ from firstT_stop HE.out HT.out (by intro h; injection h with h1 h2 h3; exact hx ⟨h1, h2, h3⟩))
        have hm : ¬ x0 = 0 ∨ (x0 = 0 ∧ ¬ x1 = 0) ∨ (x0 = 0 ∧ x1 = 0 ∧ ¬ x2 = 0) := by
          by_cases h0 : x0 = 0
          · by_cases h1 : x1 = 0
            · exact .inr (.inr ⟨h0, h1, fun h2 => hx ⟨h0, h1, h2⟩⟩)
            · exact .inr (.inl ⟨h0, h1⟩)
          · exact .inl h0
        clear hx
        rcases hm with hm | ⟨rfl, hm⟩ | ⟨rfl, rfl, hm⟩
        all_goals
          have z0 := hR2.frozen 0
          have z1 := hR2.frozen 1
          have z2 := hR2.frozen 2
          have r0 := hR2.cell (i := 0) rfl
          have r1 := hR2.cell (i := 1) rfl
          have r2 := hR2.cell (i := 2) rfl
          go_wp2_with fail
          refine bodyPost_ret (by simp [results, Tryd.results24, go_sem, r0, r1, r2]; try rfl) rfl (FltPost.eq (x := firstT L) ⟨by rw [HQ.out]; rfl, Fr.put3 (HA.out.trans HF2.out) _ _ _ (by omega)⟩ rfl)
    · have HQ := hid (show firstT L = Flt.none from firstT_none fun j t hj => HE.out j t (by have := (List.getElem?_eq_some_iff.1 hj).1; rw [HN.out] at this; omega) hj)
      have z0 := hR.frozen 0
      have z1 := hR.frozen 1
      have z2 := hR.frozen 2
      have r0 := hR.cell (i := 0) rfl
      have r1 := hR.cell (i := 1) rfl
      have r2 := hR.cell (i := 2) rfl
      clear hF hR
      go_wp2_with fail
      refine bodyPost_ret (v := .agg #[.int .i64 0, .int .i64 0, .int .i64 0]) (by simp [results, Tryd.results24, go_sem, r0, r1, r2]; try rfl) rfl (FltPost.eq (x := Flt.none) ⟨rfl, Fr.put3 (HA.out.trans HF.out) _ _ _ (by omega)⟩ HQ.out.symm)

end Go.Proofs.YtpjcdjooiaefdaaDoor
