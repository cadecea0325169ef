/-
  The document's clock: Copy, Advance (walks).
-/
import Derived.Test.YtpgbhgkikpmhiaaRd
namespace Go.Proofs.Ytpgbhgkikpmhiaa
open Go.RowKit
set_option linter.unusedVariables false

def RmPost (now : Int) (T : List Due) (w : World) (e : Ending) (w' : World) : Prop := ∃ O r, e = .returned (.pointer (some ⟨r, 0, none⟩)) ∧ Rkm w' O r now T ∧ Fr (fun _ => False) w w' ∧ ∀ k, O k → w.heap.size ≤ k

theorem made_rk {w W : World} {now : Int} {T L : List Due} {A : Option Addr} {cap : Nat} (hT : L.Perm T) (F : Fr (fun _ => False) w W) (hO : OwnR W w.heap.size 60 2 A L.length cap (dues L)) :
    RmPost now T w (.returned (.pointer (some ⟨W.heap.size, 0, none⟩))) (W.alloc (.cells #[.int .i64 now, .slice A L.length cap] 28)) := by
  have FA : Fr (fun _ => False) W (W.alloc (.cells #[.int .i64 now, .slice A L.length cap] 28)) := Fr.alloc _ _ _
  have hk : Rk (W.alloc (.cells #[.int .i64 now, .slice A L.length cap] 28)) W.heap.size now A cap L := ⟨TBlk.new _ _ _, OwnR.less (OwnR.same hO FA) (Nat.zero_le _)⟩
  refine ⟨fun k => k = W.heap.size ∨ ownB A k, W.heap.size, rfl, ⟨⟨A, cap, L, hk, hT, fun _ h => h⟩, ?_⟩, F.trans FA, ?_⟩
  · rintro k (rfl | hk2)
    · exact hk.hc.lt
    · exact (OwnR.lt hk.row k hk2).2
  · rintro k (rfl | hk2)
    · exact F.size
    · exact (OwnR.lt hO k hk2).1

theorem RmPost.drew {now : Int} {T : List Due} {w : World} {e : Ending} {w' : World} (h : RmPost now T w e w') : RmPost now T w e w'.drew := by
  obtain ⟨O, r, h1, h2, h3, h4⟩ := h
  exact ⟨O, r, h1, h2.same (Fr.drew _ _), h3.trans (Fr.drew _ _), h4⟩

/-- A row is put behind an empty one. -/
theorem run_copy {w W : World} {A : Option Addr} {q cap : Nat} {L : List Due} (ty : TypeId) (h : OwnR w 0 60 2 A q cap (dues L)) (hq : L.length = q) (hqb : q < 50000) (hW : W = (w.alloc (.cells #[] 60)).drew) :
    ∃ v' w', (Builtin.append_ #[26, 26] ty #[.slice (some ⟨w.heap.size, 0, none⟩) 0 0, .slice A q cap]).run Try.prog W = .ok v' w' ∧ (∃ A' cap', v' = .slice A' q cap' ∧ OwnR w' w.heap.size 60 2 A' q cap' (dues L) ∧ Fr (fun _ => False) w w') := by
  subst hW
  have hFA : Fr (fun _ => False) w (w.alloc (.cells #[] 60)).drew := (Fr.alloc _ _ _).trans (Fr.drew _ _)
  have hE : OwnR (w.alloc (.cells #[] 60)).drew w.heap.size 60 2 (some ⟨w.heap.size, 0, none⟩) 0 0 (dues []) := OwnR.same (own_empty w) (Fr.drew _ _)
  rcases A with _ | a
  · obtain ⟨rfl, rfl⟩ : q = 0 ∧ cap = 0 := by
      rcases h.2 with ⟨h2, h3⟩ | ⟨g, c', cur, hv, _⟩
      · injection h2 with _ h4 h5; exact ⟨h4, h5⟩
      · cases hv
    have hL : L = [] := List.length_eq_zero_iff.1 hq
    subst hL
    exact ⟨_, _, run_appZ ty hE, _, _, rfl, hE, hFA⟩
  · obtain ⟨g, rfl⟩ : ∃ g, a = ⟨g, 0, none⟩ := by
      rcases h.2 with ⟨h2, h3⟩ | ⟨g, c', cur, hv, _⟩
      · cases h2
      · injection hv with hv _ _; injection hv with hv; exact ⟨g, hv⟩
    obtain ⟨v', w', hr, A', cap', rfl, h2, h3⟩ := run_appD (c2 := cap) ty hE (Y := L) ⟨g, 0, none⟩ hq (fun j u hu => by
      rw [add_none, Nat.zero_add]
      have hq0 : 0 < q := by
        rcases Nat.eq_zero_or_pos q with e | e
        · rw [← hq] at e
          rw [List.length_eq_zero_iff.1 e] at hu
          simp [dues] at hu
        · exact e
      obtain ⟨g', hA, _, _, _, hcl⟩ := OwnR.cell (OwnR.same h hFA) hq0
      injection hA with hA
      injection hA with hA
      subst hA
      exact hcl j u hu) (by omega) (by simp [World.drew])
    rw [Nat.zero_add, List.nil_append] at h2
    rw [Nat.zero_add] at hr
    refine ⟨_, w', hr, A', cap', rfl, h2, hFA.since h3 (fun j hj hl => ?_)⟩
    obtain ⟨a, ha, rfl⟩ := hj
    injection ha with ha
    subst ha
    simp only at hl
    omega

section
variable {r : Nat} {now : Int} {O : Nat → Prop} {T : List Due} (w : World)

set_option maxRecDepth 100000 in
set_option maxHeartbeats 1600000 in
theorem r_copy (h : Rkm w O r now T) (hs : T.length < 50000) :
    Calls Try.prog 11 #[.pointer (some ⟨r, 0, none⟩)] w (RmPost now T w) := by
  obtain ⟨A, cap, L, k1, k2, k3⟩ := h.ex
  obtain ⟨q, hq⟩ : ∃ q, L.length = q := ⟨_, rfl⟩
  have hqb : q < 50000 := by rw [← hq, k2.length_eq]; exact hs
  have hrow := k1.row
  have hc := k1.hc
  rw [hq] at hrow hc
  have c0 : w.cell? ⟨r, 0, none⟩ = some (.int .i64 now) := hc.cell rfl
  have c1 : w.cell? ⟨r, 1, none⟩ = some (.slice A q cap) := hc.cell rfl
  have hl := hc.lt
  have HRUN := hid (run_copy 26 hrow hq hqb rfl)
  have HC0 := hid (show ∀ W, Fr (fun _ => False) w W → W.cell? ⟨r, 0, none⟩ = some (.int .i64 now) from fun W F => (k1.same F).hc.cell rfl)
  have HMK := hid (show ∀ (A' : Option Addr) (cap' : Nat) (W : World), OwnR W w.heap.size 60 2 A' q cap' (dues L) → Fr (fun _ => False) w W → RmPost now T w (.returned (.pointer (some ⟨W.heap.size, 0, none⟩))) (W.alloc (.cells #[.int .i64 now, .slice A' q cap'] 28)) from fun A' cap' W h1 h2 => hq ▸ made_rk k2 h2 (hq.symm ▸ h1))
  clear h k1 k2 k3 hrow hc hq hs
  go_enter Try.func11, Try.ntmps11
  go_upto_region 1 with fail
  go_region_law ((refine step_app (by rfl) _ _ 26 (by rfl) _ _ (by rfl) (by rfl) _ HRUN.out ?_; rintro v6 w6 ⟨A6, cap6, rfl, hO6, hF6⟩; have HX := hid (HMK.out A6 cap6 w6 hO6 hF6); have d0 := HC0.out w6 hF6; clear hO6 hF6))
  all_goals
    go_wp2_with fail
    go_ret
    first | exact HX.out | exact HX.out.drew

/-! ### Advance -/

def RvPost (O : Nat → Prop) (r : Nat) (n now : Int) (T : List Due) (w : World) (e : Ending) (w' : World) : Prop :=
  ∃ A cap O', e = .returned (.tuple #[.slice A (advL n now T).length cap, .int .i64 (advE n now)]) ∧ OwnR w' w.heap.size 3 1 A (advL n now T).length cap (intsV (advL n now T)) ∧ Rkm w' O' r (advN n now) (advT n now T) ∧ Fr O w w' ∧ ∀ k, O' k → O k ∨ w.heap.size ≤ k

def RvRel (O : Nat → Prop) (r : Nat) (t : Int) (T : List Due) (w : World) (d : Nat) (x : Value) (wr : World) : Prop :=
  ∃ pre rest A cap O', d = rest.length ∧ T = pre ++ rest ∧ (∀ x ∈ pre, x.1 ≤ t) ∧ x = .slice A pre.length cap ∧ OwnR wr w.heap.size 3 1 A pre.length cap (intsV (idsOf pre)) ∧ Rkm wr O' r t rest ∧ Fr O w wr ∧ (∀ k, O' k → O k ∨ w.heap.size ≤ k) ∧ ∀ j, ownB A j → ¬ O' j

theorem drp_head {x : Due} {T : List Due} (h : Ids (x :: T)) : dropT x.2 (x :: T) = T := by
  have h1 : hasId x.2 (x :: T) = true := by simp [hasId]
  have h' : x.2 ∉ T.map (·.2) ∧ Ids T := List.nodup_cons.1 h
  unfold dropT
  rw [h1, cond_true]
  unfold drp
  rw [List.filter_cons_of_neg (by simp), List.filter_eq_self.2]
  intro y hy
  simp only [decide_eq_true_eq]
  exact fun e => h'.1 (List.mem_map.2 ⟨y, hy, e⟩)

theorem Rkm.setNow {w : World} (h : Rkm w O r now T) (t : Int) : Rkm (w.setCell ⟨r, 0, none⟩ (.int .i64 t)) O r t T ∧ Fr O w (w.setCell ⟨r, 0, none⟩ (.int .i64 t)) := by
  obtain ⟨A, cap, L, k1, k2, k3⟩ := h.ex
  have F : Fr (fun k => k = r) w (w.setCell ⟨r, 0, none⟩ (.int .i64 t)) := Fr.setCell _ _ _ rfl
  exact ⟨⟨⟨A, cap, L, ⟨k1.hc.set 0 (.int .i64 t), OwnR.keep k1.row F (fun j hj e => k1.rA (e ▸ hj))⟩, k2, k3⟩, fun k hk => by have := h.lt k hk; simpa using this⟩, F.mono (fun k hk => k3 k (.inl hk))⟩

set_option maxRecDepth 100000 in
set_option maxHeartbeats 1600000 in
theorem r_adv_ok (n : Int) (h : Rkm w O r now T) (hi : Ids T) (hsr : Srt T) (hn0 : 0 ≤ now) (hn1 : now ≤ 1099511627776) (g0 : 0 ≤ n) (g2 : n ≤ 1099511627776 - now) (hs : T.length < 50000) :
    Calls Try.prog 15 #[.pointer (some ⟨r, 0, none⟩), .int .i64 n] w (RvPost O r n now T w) := by
  obtain ⟨i0, hii, hz⟩ := Option.map_eq_some_iff.1 infoint
  simp only [Prod.mk.injEq] at hz
  obtain ⟨hz0, hz1, hz2⟩ := hz
  have HII := hid hii
  have HZ0 := hid hz0
  have HZ1 := hid hz1
  have HZ2 := hid hz2
  clear hii hz0 hz1 hz2
  obtain ⟨A, cap, L, k1, k2, k3⟩ := h.ex
  have c0 : w.cell? ⟨r, 0, none⟩ = some (.int .i64 now) := k1.hc.cell rfl
  have z0 := k1.hc.frozen 0
  have hl := k1.hc.lt
  have g1 : ¬ n < 0 := by omega
  have g3 : ¬ 1099511627776 - now < n := by omega
  have HC1 := hid (h.setNow (now + n)).1
  have HF1 := hid (h.setNow (now + n)).2
  have HOL := hid h.lt
  have HIDS := hid hi
  have HSRT := hid hsr
  have HS := hid hs
  have HNO := hid (show advNo n now = false from advNo_no g0 g2)
  clear h k1 k2 k3 hi hsr hs
  go_enter Try.func15, Try.ntmps15
  go_upto_region 4 with fail
  obtain ⟨t, ht⟩ : ∃ t, now + n = t := ⟨_, rfl⟩
  have HTT := hid ht
  rw [ht] at HC1 HF1 ⊢
  obtain ⟨w1, hw1⟩ : ∃ w1, w.setCell ⟨r, 0, none⟩ (.int .i64 t) = w1 := ⟨_, rfl⟩
  rw [hw1] at HC1 HF1 ⊢
  clear hw1 c0 z0 g1 g3 ht hn0 hn1 g0 g2
  go_wp2_with fail
  have hFA := Fr.alloc (fun _ => False) w1 (.cells #[] 3)
  have HC2 := hid (HC1.out.same hFA)
  have HF2 := hid (HF1.out.trans (hFA.mono (T := O) (fun _ h => h.elim)))
  have HO2 := hid (show OwnR (w1.alloc (.cells #[] 3)) w.heap.size 3 1 (some ⟨w1.heap.size, 0, none⟩) 0 0 (intsV (idsOf [])) from ⟨by simp [intsV, idsOf], .inr ⟨w1.heap.size, 0, #[], rfl, HF1.out.size, TBlk.new _ _ _, Nat.le_refl _, by unfold maxLen; omega, by simp, by simp [intsV, idsOf]⟩⟩)
  have HNO2 := hid (show ∀ j, ownB (some ⟨w1.heap.size, 0, none⟩) j → ¬ O j from fun j hj hk => by
    obtain ⟨a, ha, rfl⟩ := hj
    injection ha with ha
    subst ha
    have := HC1.out.lt _ hk
    simp only at this
    omega)
  obtain ⟨b1, hb1⟩ : ∃ b, w1.heap.size = b := ⟨_, rfl⟩
  obtain ⟨w2, hw2⟩ : ∃ w2, w1.alloc (.cells #[] 3) = w2 := ⟨_, rfl⟩
  rw [hw2] at HC2 HF2 HO2 ⊢
  rw [hb1] at HO2 HNO2 ⊢
  clear hw2 hb1 hFA
  go_loopg [6] T.length (fun d x wr => RvRel O r t T w d x wr)
  case atStart => exact ⟨[], T, _, 0, O, rfl, rfl, by simp, rfl, HO2.out, HC2.out, HF2.out, fun k hk => .inl hk, HNO2.out⟩
  case round =>
    obtain ⟨pre, rest, A, cap, O', hd, hT, hpre, rfl, hO, hC, hF, hL, hN⟩ := hrel
    have HO := hid hO
    have HC := hid hC
    have HF := hid hF
    have HD := hid hd
    have HT := hid hT
    have HPRE := hid hpre
    have HL := hid hL
    have HN := hid hN
    obtain ⟨A2, cap2, L2, k1, k2, k3⟩ := hC.ex
    have HLEN := hid (show pre.length < 50000 ∧ rest.length < 50000 from by have := HS.out; have h2 := congrArg List.length hT; simp at h2; omega)
    have hrids : Ids rest := by
      have := HIDS.out
      rw [hT] at this
      unfold Ids at this ⊢
      rw [List.map_append] at this
      exact (List.nodup_append.1 this).2.1
    have hrsrt : Srt rest := by
      have := HSRT.out
      rw [hT] at this
      exact (List.pairwise_append.1 this).2.1
    have HRI := hid hrids
    have HFG := hid (fun (W : World) (F : Fr (fun _ => False) wr W) (m : Nat) => (r_first (W.drewN m) (k1.same (F.trans (Fr.drewN _ _ _))) k2 hrsrt (hrids.perm k2.symm) (by rw [k2.length_eq]; have := HLEN.out; omega)).mono (R' := fun e w' => e = .returned (.int .i64 (firstI L2 rest)) ∧ ∃ n, w' = W.drewN n) fun e w' ⟨he, n, hn⟩ => ⟨he, m + n, by rw [hn, World.drewN_drewN]⟩)
    have HK := hid k1
    have HP2 := hid k2
    clear hO hC hF hd hT hpre hL hN hrids hrsrt k1 k2 k3
    cases rest with
    | nil =>
      obtain ⟨fi, hfi⟩ : ∃ x, firstI L2 [] = x := ⟨_, rfl⟩
      have u0 : decide ((0 : Int) ≤ fi) = false := by rw [← hfi]; rfl
      rw [hfi] at HFG
      clear hfi
      have hl := HK.out.hc.lt
      go_upto_region 5 with fail
      go_quiet ((go_at_call 25; exact (HFG.out _ (Fr.refl _ _) _)))
      go_wp2_with fail
      go_ret2
      obtain ⟨e1, e2⟩ := due_pre (rest := []) HPRE.out (.inl rfl)
      rw [← HT.out] at e1 e2
      unfold RvPost advL advE advN advT
      rw [HNO.out]
      simp only [cond_false]
      rw [HTT.out, e1, e2]
      have hll : (idsOf pre).length = pre.length := by simp [idsOf]
      exact ⟨A, cap, O', by rw [hll]; rfl, by rw [hll]; exact OwnR.same HO.out (Fr.drewN _ _ _), HC.out.same (Fr.drewN _ _ _), HF.out.trans (Fr.drewN _ _ _), HL.out⟩
    | cons x rest =>
      have hx2 : x ∈ L2 := HP2.out.symm.subset (by simp)
      obtain ⟨i, hil, hix⟩ := mem_at hx2
      have hfi : firstI L2 (x :: rest) = (i : Nat) := by
        unfold firstI
        simp only
        rw [← hix, (idx_one (HRI.out.perm HP2.out.symm) hil).1]
      rw [hfi] at HFG
      obtain ⟨g, rfl, hg, -, hc⟩ := HK.out.gt hil
      have HCL := hid (fun W (F : Fr (fun _ => False) wr W) => hc W F i hil)
      rw [hix] at HCL
      obtain ⟨n2, hn2⟩ : ∃ n, L2.length = n := ⟨_, rfl⟩
      have hin : i < n2 := by omega
      have hin2 : (i : Int) < (n2 : Int) := by omega
      have c0 : wr.cell? ⟨r, 0, none⟩ = some (.int .i64 t) := HK.out.hc.cell rfl
      have c1 : wr.cell? ⟨r, 1, none⟩ = some (.slice (some ⟨g, 0, none⟩) n2 cap2) := hn2 ▸ HK.out.hc.cell (i := 1) rfl
      have HKC := hid (show ∀ W, Fr (fun _ => False) wr W → W.cell? ⟨r, 1, none⟩ = some (.slice (some ⟨g, 0, none⟩) n2 cap2) from fun W F => hn2 ▸ (HK.out.same F).hc.cell (i := 1) rfl)
      have hl := HK.out.hc.lt
      have hdh : dropT x.2 (x :: rest) = rest := drp_head HRI.out
      have HDH := hid hdh
      obtain ⟨a, ia⟩ := x
      obtain ⟨d0, d1⟩ := HCL.out wr (Fr.refl _ _)
      simp only at d0 d1
      have u0 : decide ((0 : Int) ≤ (i : Int)) = true := decide_eq_true (by omega)
      clear hx2 hil hix hfi hc hg hn2 hdh
      rcases hle : decide (a ≤ t) with _ | _
      · go_upto_region 5 with fail
        go_quiet ((go_at_call 25; exact (HFG.out _ (Fr.refl _ _) _)))
        go_wp2_with fail
        go_ret2
        obtain ⟨e1, e2⟩ := due_pre (rest := (a, ia) :: rest) HPRE.out (.inr (by have := of_decide_eq_false hle; show t < a; omega))
        rw [← HT.out] at e1 e2
        unfold RvPost advL advE advN advT
        rw [HNO.out]
        simp only [cond_false]
        rw [HTT.out, e1, e2]
        have hll : (idsOf pre).length = pre.length := by simp [idsOf]
        exact ⟨A, cap, O', by rw [hll]; rfl, by rw [hll]; exact OwnR.same HO.out (Fr.drewN _ _ _), HC.out.same (Fr.drewN _ _ _), HF.out.trans (Fr.drewN _ _ _), HL.out⟩
      · go_upto_region 5 with fail
        go_quiet ((go_at_call 25; exact (HFG.out _ (Fr.refl _ _) _)))
        go_upto_region 6 with fail
        have HF7 := hid (Fr.drewN (fun _ => False) wr nq)
        obtain ⟨w7, hw7⟩ : ∃ w7, wr.drewN nq = w7 := ⟨_, rfl⟩
        rw [hw7] at HF7 ⊢
        clear hw7 c0 c1 d0 d1
        have c1 := HKC.out w7 HF7.out
        obtain ⟨d0, d1⟩ := HCL.out w7 HF7.out
        simp only at d0 d1
        go_quiet ((go_at_call 25; exact (HFG.out _ HF7.out _)))
        have HF8 := hid (HF7.out.trans (Fr.drewN (fun _ => False) w7 nq))
        obtain ⟨w8, hw8⟩ : ∃ w8, w7.drewN nq = w8 := ⟨_, rfl⟩
        rw [hw8] at HF8 ⊢
        clear hw8 c1 d0 d1
        have HC8 := hid (HC.out.same HF8.out)
        have HO8 := hid (OwnR.same HO.out HF8.out)
        go_wp2_with fail
        have HDR := hid (r_drop w8 ia HC8.out HRI.out (by have := HLEN.out; omega))
        rw [HDH.out] at HDR
        refine HDR.out.mono ?_
        rintro e w9 ⟨rfl, O9, hC9, hF9, hL9⟩
        have HC9 := hid hC9
        have HO9 := hid (OwnR.keep HO8.out hF9 (fun j hj hk => HN.out j hj hk))
        have HF9 := hid ((HF.out.trans (HF8.out.mono (T := O) (fun _ h => h.elim))).since hF9 (fun k hk hl => by rcases HL.out k hk with h | h; exact h; omega))
        have HL9 := hid (show ∀ k, O9 k → O k ∨ w.heap.size ≤ k from fun k hk => by
          rcases hL9 k hk with h | h
          · exact HL.out k h
          · have := HF.out.size; have := HF8.out.size; exact .inr (by omega))
        have HN9 := hid (show ∀ j, ownB A j → ¬ O9 j from fun j hj hk => by
          rcases hL9 j hk with h | h
          · exact HN.out j hj h
          · have := (OwnR.lt HO8.out j hj).2; omega)
        clear hC9 hF9 hL9
        obtain ⟨q, hq⟩ : ∃ q, pre.length = q := ⟨_, rfl⟩
        have HQ := hid hq
        have hqb : q < 50000 := by rw [← hq]; exact HLEN.out.1
        rw [hq] at HO9 ⊢
        clear hq
        have HOW := hid (OwnR.same HO9.out (Fr.alloc (fun _ => False) w9 (.cells #[.int .i64 ia] 3)))
        have HNW := hid (newk w9 3 (.int .i64 ia))
        have HSZ := hid HF9.out.size
        go_wp2_with (at_builtin; (refine wpList_append_lies _ rfl _ _ 32 rfl w.heap.size 3 i0 (.int .i64 0) 1 8 Try.underlying32 HII.out HZ0.out HZ1.out HZ2.out rfl (by decide) (.slice A q cap) q _ rfl HOW.out ⟨w9.heap.size, 0, none⟩ 1 1 [.int .i64 ia] rfl rfl HNW.out (by simp [Value.oneCell']) (by decide) (by unfold maxLen; omega) (by omega) (by have := HSZ.out; simp; omega) (w9.heap.size + 1) (by simp) ?_; intro g4 c4 w10 hown4 hgrow4 hat4 hlt4; have HO10 := hid (show OwnR w10 w.heap.size 3 1 (some ⟨g4, 0, none⟩) (q + 1) c4 _ from hown4); have HF10 := hid ((Fr.alloc (fun _ => False) w9 (.cells #[.int .i64 ia] 3)).mono (fun _ h => h.elim) |>.trans (Fr.of_grown hgrow4)); have HAT := hid hat4; clear hown4 hgrow4 hat4 hlt4))
        go_roundg rest.length
        case rel =>
          refine ⟨pre ++ [(a, ia)], rest, some ⟨g4, 0, none⟩, c4, O9, rfl, by rw [HT.out]; simp, ?_, by rw [List.length_append, HQ.out]; rfl, ?_, HC9.out.keep HF10.out (fun k hk hk2 => HN9.out k hk2 hk), HF9.out.since HF10.out (fun j hj hl => by have := (OwnR.lt HO9.out j hj).1; omega), HL9.out, ?_⟩
          · intro y hy
            rcases List.mem_append.1 hy with hy | hy
            · exact HPRE.out y hy
            · simp only [List.mem_singleton] at hy
              subst hy
              exact of_decide_eq_true hle
          · rw [List.length_append, HQ.out]
            exact OwnR.eq HO10.out (by simp [idsOf, intsV])
          · rintro j ⟨y, hy, rfl⟩
            injection hy with hy
            subst hy
            rcases HAT.out with h | h
            · exact HN9.out _ (own_of h)
            · exact fun hk => by have := HC9.out.lt _ hk; simp only at this; omega
        case measure => have := HD.out; simp at this; omega

theorem r_adv (n : Int) (h : Rkm w O r now T) (hi : Ids T) (hsr : Srt T) (hn0 : 0 ≤ now) (hn1 : now ≤ 1099511627776) (hs : T.length < 50000) :
    Calls Try.prog 15 #[.pointer (some ⟨r, 0, none⟩), .int .i64 n] w (RvPost O r n now T w) := by
  by_cases hr : n < 0 ∨ 1099511627776 - now < n
  · have hb := advNo_yes hr
    have HH := hid h
    obtain ⟨A, cap, L, k1, k2, k3⟩ := h.ex
    have c0 : w.cell? ⟨r, 0, none⟩ = some (.int .i64 now) := k1.hc.cell rfl
    have hl := k1.hc.lt
    have HE := hid (show RvPost O r n now T w (.returned (.tuple #[.slice none 0 0, .int .i64 10])) w from by
      unfold RvPost advL advE advN advT
      rw [hb]
      exact ⟨none, 0, O, rfl, OwnR.nil _ _ _ _, h, Fr.refl _ _, fun k hk => .inl hk⟩)
    clear h k1 k2 k3 hb
    by_cases g1 : n < 0
    · go_enter Try.func15, Try.ntmps15
      go_wp2_with fail
      go_ret2
      exact HE.out
    · have g2 : 1099511627776 - now < n := by omega
      go_enter Try.func15, Try.ntmps15
      go_wp2_with fail
      go_ret2
      exact HE.out
  · simp only [not_or] at hr
    exact r_adv_ok w n h hi hsr hn0 hn1 (by omega) (by omega) hs
end
end Go.Proofs.Ytpgbhgkikpmhiaa
