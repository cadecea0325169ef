/-
  Stage 7: Under, the program's.
-/
import Derived.Test.YticlnopklpaikaaDoorWrong
import Derived.Test.YticlnopklpaikaaDoorKids
import Derived.Test.YticlnopklpaikaaDoorUnd
namespace Go.Proofs.YticlnopklpaikaaDoor
open Go.RowKit
set_option linter.unusedVariables false

theorem OwnR.full {w : World} {B g : Nat} {c : Array Value} {e : TypeId} {k n : Nat} (h : w.heap[g]? = some (.cells c e (0, 0))) (hB : B ≤ g) (hn : c.size = n * k) (hl : n ≤ 4000000) : OwnR w B e k (some ⟨g, 0, none⟩) n n c.toList :=
  ⟨by simp [hn], .inr ⟨g, n, c, rfl, hB, h, Nat.le_refl _, by unfold maxLen; omega, hn, by rw [List.take_of_length_le (by simp [hn])]⟩⟩

theorem infoWz : (Tryd.prog.info? 40).map (fun i => (i.zero, i.size, i.bytes)) = some (some (.agg #[.int .i64 0, .int .i64 0, .int .i64 0, .int .i64 0, .int .i64 0, .int .i64 0, .string ⟨#[]⟩]), 7, 64) := by kernel_rfl

theorem news_cells (w : World) (e : TypeId) (xs : List Value) : ∀ j u, xs[j]? = some u → (w.alloc (.cells xs.toArray e)).cell? ((⟨w.heap.size, 0, none⟩ : Addr).add j) = some u := fun j u hu => by
  rw [add_none, Nat.zero_add]
  exact (Blk.new w xs.toArray e).cell (by simpa using hu)

theorem OwnR.rdT {w : World} {B : Nat} {A : Option Addr} {n cap : Nat} {l : List Tw} (h : OwnR w B 40 7 A n cap (flatT l)) : RdT w A l := fun hl => by
  have h1 := h.1
  have h2 : (flatT l).length = l.length * 7 := by
    unfold flatT
    induction l with
    | nil => rfl
    | cons a r ih => simp only [List.flatMap_cons, List.length_append, List.length_cons, Tw.cells_len]; rw [show (List.flatMap Tw.cells r).length = r.length * 7 from by
        clear h h1 hl ih
        induction r with
        | nil => rfl
        | cons b s ih => simp only [List.flatMap_cons, List.length_append, List.length_cons, Tw.cells_len]; omega]; omega
  obtain ⟨g, hA, _, hg, _, hc⟩ := h.cell (by omega)
  exact ⟨g, 0, hA, hg, fun j v hv => by rw [Nat.zero_add]; exact hc j v hv⟩

theorem flatT_len (l : List Tw) : (flatT l).length = l.length * 7 := by
  unfold flatT
  induction l with
  | nil => rfl
  | cons a r ih => simp only [List.flatMap_cons, List.length_append, List.length_cons, Tw.cells_len]; omega

theorem flatT_app (a b : List Tw) : flatT (a ++ b) = flatT a ++ flatT b := by unfold flatT; rw [List.flatMap_append]
theorem flatT_one (r : Tw) : flatT [r] = r.cells := by unfold flatT; simp

/-- What Under leaves. -/
def UnPost (l : List Tw) (i : Int) (w : World) (e : Ending) (w' : World) : Prop :=
  Fr (fun _ => False) w w' ∧
  ((chk l ≠ 0 ∧ e = .returned (.tuple #[.slice none 0 0, .int .i64 (chk l)])) ∨
   (chk l = 0 ∧ ¬ (0 ≤ i ∧ i < l.length) ∧ e = .returned (.tuple #[.slice none 0 0, .int .i64 10])) ∨
   (chk l = 0 ∧ (0 ≤ i ∧ i < l.length) ∧ ∃ (A' : Option Addr) (n' cap : Nat), (und l i.toNat).length = n' ∧ e = .returned (.tuple #[.slice A' n' cap, .int .i64 0]) ∧ OwnR w' w.heap.size 40 7 A' n' cap (flatT (und l i.toNat))))

/-- Where the loop stands. -/
def UnRel (l : List Tw) (i m B : Nat) (w : World) (d : Nat) (lv k : Value) (wr : World) : Prop :=
  ∃ (j nk : Nat) (A' : Option Addr) (cap : Nat), j ≤ m ∧ d = m + 1 - j ∧ k = .int .i64 j ∧ (undD l i (j + 1)).length = nk ∧ nk ≤ j + 1 ∧ lv = .slice A' nk cap ∧ OwnR wr B 40 7 A' nk cap (flatT (undD l i (j + 1))) ∧ (∀ x, x < j → (i : Int) ≤ parAt l (i + 1 + x : Nat)) ∧ Fr (fun _ => False) w wr

theorem undD_len (l : List Tw) (i : Nat) : ∀ k, (undD l i k).length ≤ k := by
  intro k
  induction k with
  | zero => exact Nat.le_refl _
  | succ k ih =>
    simp only [undD, List.length_append]
    split
    · cases l[i + k]? <;> simp <;> omega
    · simp; omega

set_option maxRecDepth 100000 in
set_option maxHeartbeats 4000000 in
theorem under_any (A : Option Addr) (n c : Nat) (l : List Tw) (i : Int) (w : World) (hA : RdT w A l) (hl : l.length = n) (hn : n ≤ 4000000) (hc : n ≤ c) (hc2 : c ≤ 9223372036854775807) (hf : FewT l) :
    Calls Tryd.prog 17 #[.slice A n c, .int .i64 i] w (UnPost l i w) := by
  have HCK := hid (check_any A n c l w hA hl hn hc hf)
  have HL := hid hl
  have HHA := hid (fun (W : World) (i : Int) => has_any A n c i W hn)
  have HCE := hid (fun (W : World) (hW : Fr (fun _ => False) w W) (j : Nat) (r : Tw) (hr : l[j]? = some r) => (hA.same hW).cell hr)
  obtain ⟨x, hx⟩ : ∃ x, chk l = x := ⟨_, rfl⟩
  unfold CkPost at HCK
  rw [hx] at HCK
  have HX := hid hx
  clear hl hf hA hx
  go_enter Tryd.func17, Tryd.ntmps17
  go_wp2_with fail
  refine HCK.out.mono ?_
  rintro e w1 ⟨rfl, hF1⟩
  by_cases hx0 : x = 0
  · have t1 : (x != 0) = false := by simp [hx0]
    have HX0 := hid (HX.out.trans hx0)
    clear hx0 HX
    go_wp2_with fail
    refine (HHA.out _ i).mono ?_
    rintro e w2 ⟨rfl, rfl⟩
    by_cases hi : 0 ≤ i ∧ i < n
    · have HI := hid (show inB n i = true from decide_eq_true hi)
      rw [HI.out]
      obtain ⟨z, rfl⟩ : ∃ z : Nat, i = z := ⟨i.toNat, by omega⟩
      have hzn : z < n := by omega
      obtain ⟨r, hr⟩ : ∃ r, l[z]? = some r := ⟨_, List.getElem?_eq_getElem (by rw [HL.out]; omega)⟩
      obtain ⟨ga, oga, rfl, hga, hcc⟩ := HCE.out _ hF1 z r hr
      have q0 : w1.cell? ⟨ga, oga + z * 7, none⟩ = some (.int .i64 r.par) := hcc 0 _ rfl
      have q1 := hcc 1 _ rfl
      have q2 := hcc 2 _ rfl
      have q3 := hcc 3 _ rfl
      have q4 := hcc 4 _ rfl
      have q5 := hcc 5 _ rfl
      have q6 := hcc 6 _ rfl
      have HR := hid hr
      have HI2 := hid hi
      have hz0 : (0 : Int) ≤ z ∧ (z : Int) < n := hi
      clear hr hi hcc
      go_upto_region 9 with fail
      obtain ⟨r0, hr0⟩ : ∃ r0 : Tw, r0 = shr z z r := ⟨_, rfl⟩
      have hF3 := ((Fr.alloc (fun _ => False) w1 (.cells #[.int .i64 (-1), .int .i64 0, .int .i64 r.fn, .int .i64 r.kind, .int .i64 r.v, .int .i64 r.st, .string r.cl] 40)).trans (Fr.alloc (fun _ => False) _ (.cells #[.int .i64 (-1), .int .i64 0, .int .i64 r.fn, .int .i64 r.kind, .int .i64 r.v, .int .i64 r.st, .string r.cl] 40)))
      have hO3 := OwnR.full (k := 7) (n := 1) (B := w1.heap.size) (TBlk.new (w1.alloc (.cells #[.int .i64 (-1), .int .i64 0, .int .i64 r.fn, .int .i64 r.kind, .int .i64 r.v, .int .i64 r.st, .string r.cl] 40)) #[.int .i64 (-1), .int .i64 0, .int .i64 r.fn, .int .i64 r.kind, .int .i64 r.v, .int .i64 r.st, .string r.cl] 40) (by simp) rfl (by omega)
      rw [World.size_alloc] at hO3
      have hO4 := OwnR.eq hO3 (show _ = flatT (undD l z 1) by
        simp only [undD, List.nil_append, Nat.add_zero]
        rw [if_pos (inn_self (by omega) (by rw [HL.out]; omega)), HR.out, Option.map_some, Option.toList_some, flatT_one, shr_a rfl]
        rfl)
      have HO4 := hid hO4
      have HF3 := hid hF3
      obtain ⟨w3, hw3⟩ : ∃ w3, w3 = (w1.alloc (.cells #[.int .i64 (-1), .int .i64 0, .int .i64 r.fn, .int .i64 r.kind, .int .i64 r.v, .int .i64 r.st, .string r.cl] 40)).alloc (.cells #[.int .i64 (-1), .int .i64 0, .int .i64 r.fn, .int .i64 r.kind, .int .i64 r.v, .int .i64 r.st, .string r.cl] 40) := ⟨_, rfl⟩
      rw [← hw3] at HO4 HF3 ⊢
      clear hw3 hO3 hO4 hF3 hr0 q0 q1 q2 q3 q4 q5 q6
      obtain ⟨i0, hii, hzz⟩ := Option.map_eq_some_iff.1 infoWz
      simp only [Prod.mk.injEq] at hzz
      obtain ⟨hy0, hy1, hy2⟩ := hzz
      have HII := hid hii
      have HZ0 := hid hy0
      have HZ1 := hid hy1
      have HZ2 := hid hy2
      have HNS := hid (nest_of_chk HX0.out)
      have HCE3 := hid (fun (W : World) (hW : Fr (fun _ => False) w1 W) (j : Nat) (r : Tw) (hr : l[j]? = some r) => HCE.out W (hF1.trans hW) j r hr)
      have HEN := hid (fun (u : List Tw) (A' : Option Addr) (nk cap : Nat) (wx : World) (hu : und l z = u) (hk : u.length = nk) (hO : OwnR wx w1.heap.size 40 7 A' nk cap (flatT u)) (hF : Fr (fun _ => False) w1 wx) => (show UnPost l z w (.returned (.tuple #[.slice A' nk cap, .int .i64 0])) wx from
        ⟨hF1.trans hF, .inr (.inr ⟨HX0.out, by rw [HL.out]; exact HI2.out, A', nk, cap, by rw [Int.toNat_natCast, hu]; exact hk, rfl, by rw [Int.toNat_natCast, hu]; exact hO.less hF1.size⟩)⟩))
      clear hii hy0 hy1 hy2
      have hz1 : (0 : Int) ≤ (z : Int) + 1 ∧ (z : Int) + 1 ≤ n ∧ (z : Int) + 1 ≤ c := by omega
      by_cases hcz : c = z + 1
      · have hnz : n = z + 1 := by omega
        have HU := hid (show und l z = undD l z 1 by unfold und; rw [HL.out, hnz, Nat.add_sub_cancel_left])
        subst hcz
        subst hnz
        go_wp2_with fail
        go_loopg [8, 33] 1 (fun d lv k wr => lv = .slice (some ⟨w1.heap.size + 1, 0, none⟩) 1 1 ∧ k = .int .i64 0 ∧ w3 = wr)
        case atStart => exact ⟨rfl, rfl, rfl⟩
        case round =>
          obtain ⟨rfl, rfl, rfl⟩ := hrel
          go_wp2_with fail
          go_ret2
          exact HEN.out _ _ _ _ _ HU.out (by
            have h7 := HO4.out.1
            rw [flatT_len] at h7
            omega) HO4.out HF3.out
      · go_wp2_with fail
        obtain ⟨m, hm⟩ : ∃ m, n - (z + 1) = m := ⟨_, rfl⟩
        rw [hm]
        have HM := hid hm
        have hmb : m ≤ 4000000 := by omega
        clear hm
        go_loopg [8, 33] (m + 1) (fun d lv k wr => UnRel l z m w1.heap.size w1 d lv k wr)
        case atStart => exact ⟨0, 1, _, _, by omega, by omega, rfl, by
          have h7 := HO4.out.1
          rw [flatT_len] at h7
          show (undD l z 1).length = 1
          omega, by omega, rfl, HO4.out, fun x hx => by omega, HF3.out⟩
        case round =>
          obtain ⟨j, nk, A', cap, hj, hd, rfl, hk, hnk, rfl, hO, hall, hF⟩ := hrel
          have HK := hid hk
          have HD := hid hd
          have HO := hid hO
          have HA' := hid hall
          have HF := hid hF
          clear hk hd hO hall hF
          by_cases hlt : j < m
          · have hzj : z + 1 + j < n := by have := HM.out; omega
            obtain ⟨s, hs⟩ : ∃ s, l[z + 1 + j]? = some s := ⟨_, List.getElem?_eq_getElem (by rw [HL.out]; omega)⟩
            obtain ⟨gb, ob, hgb, _, hcc⟩ := HCE3.out wr HF.out (z + 1 + j) s hs
            injection hgb with hgb
            injection hgb with hgb hob
            subst hgb hob
            have hoff : ∀ i v, s.cells[i]? = some v → wr.cell? ⟨ga, oga + (z + 1) * 7 + j * 7 + i, none⟩ = some v := fun i v hv => by
              rw [show oga + (z + 1) * 7 + j * 7 + i = oga + (z + 1 + j) * 7 + i by omega]
              exact hcc i v hv
            have HP := hid (parAt_of' hs)
            have HSR := hid hs
            have hpn := HNS.out.tab.2 (z + 1 + j : Nat) (by omega) (by rw [HL.out]; omega)
            rw [HP.out] at hpn
            obtain ⟨pa, hpa⟩ : ∃ x, s.par = x := ⟨_, rfl⟩
            obtain ⟨x1, hx1⟩ : ∃ x, s.in_ = x := ⟨_, rfl⟩
            obtain ⟨x2, hx2⟩ : ∃ x, s.fn = x := ⟨_, rfl⟩
            obtain ⟨x3, hx3⟩ : ∃ x, s.kind = x := ⟨_, rfl⟩
            obtain ⟨x4, hx4⟩ : ∃ x, s.v = x := ⟨_, rfl⟩
            obtain ⟨x5, hx5⟩ : ∃ x, s.st = x := ⟨_, rfl⟩
            obtain ⟨x6, hx6⟩ : ∃ x, s.cl = x := ⟨_, rfl⟩
            have HSC := hid (show s = ⟨pa, x1, x2, x3, x4, x5, x6⟩ by obtain ⟨_, _, _, _, _, _, _⟩ := s; simp only at hpa hx1 hx2 hx3 hx4 hx5 hx6; subst hpa hx1 hx2 hx3 hx4 hx5 hx6; rfl)
            have q0 : wr.cell? ⟨ga, oga + (z + 1) * 7 + j * 7, none⟩ = some (.int .i64 pa) := hoff 0 _ (by rw [HSC.out]; rfl)
            have q1 : wr.cell? ⟨ga, oga + (z + 1) * 7 + j * 7 + 1, none⟩ = some (.int .i64 x1) := hoff 1 _ (by rw [HSC.out]; rfl)
            have q2 : wr.cell? ⟨ga, oga + (z + 1) * 7 + j * 7 + 2, none⟩ = some (.int .i64 x2) := hoff 2 _ (by rw [HSC.out]; rfl)
            have q3 : wr.cell? ⟨ga, oga + (z + 1) * 7 + j * 7 + 3, none⟩ = some (.int .i64 x3) := hoff 3 _ (by rw [HSC.out]; rfl)
            have q4 : wr.cell? ⟨ga, oga + (z + 1) * 7 + j * 7 + 4, none⟩ = some (.int .i64 x4) := hoff 4 _ (by rw [HSC.out]; rfl)
            have q5 : wr.cell? ⟨ga, oga + (z + 1) * 7 + j * 7 + 5, none⟩ = some (.int .i64 x5) := hoff 5 _ (by rw [HSC.out]; rfl)
            have q6 : wr.cell? ⟨ga, oga + (z + 1) * 7 + j * 7 + 6, none⟩ = some (.string x6) := hoff 6 _ (by rw [HSC.out]; rfl)
            rw [hpa] at hpn HP
            clear hs hcc hoff hpa hx1 hx2 hx3 hx4 hx5 hx6
            by_cases hpz : pa < z
            · go_wp2_with fail
              go_ret2
              exact HEN.out _ _ _ _ _ (und_stop HNS.out (k := j) (by rw [HL.out]; omega) (by rw [HP.out]; exact hpz)) HK.out (OwnR.same HO.out (Fr.alloc _ _ _)) (HF.out.trans (Fr.alloc _ _ _))
            · have hsub : ∀ x, x < j + 1 → (z : Int) ≤ parAt l (z + 1 + x : Nat) := fun x hx => by
                rcases Nat.lt_or_ge x j with h | h
                · exact HA'.out x h
                · obtain rfl : x = j := by omega
                  rw [HP.out]; omega
              have HSB := hid hsub
              have HNX := hid (show undD l z (j + 1 + 1) = undD l z (j + 1) ++ [⟨pa - z, x1, x2, x3, x4, x5, x6⟩] by
                have h1 := inn_run HNS.out (i := z) (by rw [HL.out]; omega) (j + 1) (by rw [HL.out]; omega) hsub (j + 1) (Nat.le_refl _)
                have h2 := HSR.out
                rw [show z + 1 + j = z + (j + 1) by omega] at h2
                rw [undD, if_pos h1, h2, HSC.out]
                simp only [Option.map_some, Option.toList_some]
                rw [shr_b (by omega)])
              clear hsub
              have hps : (z : Int) ≤ pa ∧ pa ≤ 4000000 := by omega
              go_upto_region 14 with fail
              have hF4 := HF.out.trans (Fr.alloc (fun _ => False) wr (.cells #[.int .i64 (pa - z), .int .i64 x1, .int .i64 x2, .int .i64 x3, .int .i64 x4, .int .i64 x5, .string x6] 40))
              have hO4 := OwnR.same HO.out (Fr.alloc (fun _ => False) wr (.cells #[.int .i64 (pa - z), .int .i64 x1, .int .i64 x2, .int .i64 x3, .int .i64 x4, .int .i64 x5, .string x6] 40))
              have hB4 := Blk.new wr #[.int .i64 (pa - z), .int .i64 x1, .int .i64 x2, .int .i64 x3, .int .i64 x4, .int .i64 x5, .string x6] 40
              obtain ⟨w4, hw4⟩ : ∃ w4, w4 = wr.alloc (.cells #[.int .i64 (pa - z), .int .i64 x1, .int .i64 x2, .int .i64 x3, .int .i64 x4, .int .i64 x5, .string x6] 40) := ⟨_, rfl⟩
              rw [← hw4] at hF4 hO4 hB4 ⊢
              clear hw4 q0 q1 q2 q3 q4 q5 q6
              have b0 := hB4.cell (i := 0) rfl
              have b1 := hB4.cell (i := 1) rfl
              have b2 := hB4.cell (i := 2) rfl
              have b3 := hB4.cell (i := 3) rfl
              have b4 := hB4.cell (i := 4) rfl
              have b5 := hB4.cell (i := 5) rfl
              have b6 := hB4.cell (i := 6) rfl
              simp only [List.getElem_toArray, List.getElem_cons_zero, List.getElem_cons_succ] at b0 b1 b2 b3 b4 b5 b6
              have l4 := hB4.lt
              have hbs : w1.heap.size ≤ w4.heap.size := hF4.size
              obtain ⟨xs, hxs⟩ : ∃ xs, flatT (undD l z (j + 1)) = xs := ⟨_, rfl⟩
              rw [hxs] at hO4
              have HXS := hid hxs
              have HA2 := hid (Fr.alloc (fun _ => False) w4 (.cells #[.int .i64 (pa - z), .int .i64 x1, .int .i64 x2, .int .i64 x3, .int .i64 x4, .int .i64 x5, .string x6] 40))
              have HOW := hid (OwnR.same hO4 HA2.out)
              have HF4 := hid hF4
              have HNW := hid (news_cells w4 40 [.int .i64 (pa - z), .int .i64 x1, .int .i64 x2, .int .i64 x3, .int .i64 x4, .int .i64 x5, .string x6])
              clear hF4 hO4 hB4 hxs
              go_wp2_with (at_builtin; go_must (refine wpList_append_own _ rfl _ _ 22 rfl w1.heap.size 40 i0 _ 7 64 Tryd.underlying22 HII.out HZ0.out HZ1.out HZ2.out rfl (by decide) (.slice A' nk cap) nk xs rfl HOW.out ⟨w4.heap.size, 0, none⟩ 1 1 [.int .i64 (pa - z), .int .i64 x1, .int .i64 x2, .int .i64 x3, .int .i64 x4, .int .i64 x5, .string x6] rfl rfl HNW.out (by intro u hu; simp at hu; rcases hu with rfl | rfl | rfl | rfl | rfl | rfl | rfl <;> rfl) (by unfold maxLen; omega) (by omega) (by simp; omega) ?_; intro v2 w9 hown2 hgrow2 hnil2; clear hnil2; obtain ⟨A3, c3, rfl, ho2⟩ := OwnR.form hown2; have HO2 := hid ho2; have HF5 := hid (HF4.out.since ((HA2.out.mono (fun _ h => h.elim)).trans (Fr.of_grown hgrow2)) (fun i hi hlt => by have := OwnR.lt HOW.out _ hi; show False; omega)); clear hown2 hgrow2 ho2))
              go_roundg (m + 1 - (j + 1))
              case rel =>
                refine ⟨j + 1, nk + 1, A3, c3, by omega, rfl, by go_num, by rw [HNX.out, List.length_append, HK.out]; rfl, by omega, rfl, OwnR.eq HO2.out ?_, HSB.out, HF5.out⟩
                rw [HNX.out, flatT_app, flatT_one, HXS.out]
                rfl
              case measure => have := HD.out; omega
          · have HU := hid (show und l z = undD l z (j + 1) by unfold und; rw [HL.out, show n - z = j + 1 by have := HM.out; omega])
            go_wp2_with fail
            go_ret2
            exact HEN.out _ _ _ _ _ HU.out HK.out HO.out HF.out
    · have HI := hid (show inB n i = false from decide_eq_false hi)
      rw [HI.out]
      have HN := hid hi
      clear hi
      go_wp2_with fail
      go_ret2
      exact ⟨hF1, .inr (.inl ⟨HX0.out, by rw [HL.out]; exact HN.out, rfl⟩)⟩
  · have t1 : (x != 0) = true := by simpa using hx0
    have HX0 := hid hx0
    clear hx0
    go_wp2_with fail
    go_ret2
    exact ⟨hF1, .inl ⟨by rw [HX.out]; exact HX0.out, by rw [HX.out]; rfl⟩⟩

end Go.Proofs.YticlnopklpaikaaDoor
