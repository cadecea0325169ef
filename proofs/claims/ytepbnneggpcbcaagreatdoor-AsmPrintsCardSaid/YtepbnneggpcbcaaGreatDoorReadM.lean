/-
  asm.Read where there are as many words as the instruction has.
-/
import Derived.Test.YtepbnneggpcbcaaGreatDoorRead
import Derived.Deep.DeepCutAuto
namespace Go.Proofs.YtepbnneggpcbcaaGreatDoor
open Go.RowKit

theorem satI_small {x : Int} (h0 : -4294967296 < x) (h1 : x < 4294967296) : satI x = x := by
  unfold satI
  rw [if_neg (by omega), if_neg (by omega)]

theorem bad_sat {o k : Nat} (ho : o < 17) (hk : k < 4) (x : Int) : bad o k (satI x) = bad o k x := by
  obtain ⟨_, _, _, _, _, _, h7, h8⟩ := kinds_fit o ho k hk
  unfold satI
  split
  · unfold bad
    rw [decide_eq_true (show (-9223372036854775807 : Int) < lo o k by omega), decide_eq_true (show x < lo o k by omega)]
    rfl
  · split
    · unfold bad
      rw [decide_eq_true (show hi o k < (9223372036854775807 : Int) by omega), decide_eq_true (show hi o k < x by omega)]
      simp
    · rfl

theorem sat_good {o k : Nat} (ho : o < 17) (hk : k < 4) {x : Int} (h : bad o k x = false) : satI x = x := by
  obtain ⟨_, _, _, _, _, _, h7, h8⟩ := kinds_fit o ho k hk
  simp only [bad, Bool.or_eq_false_iff, decide_eq_false_iff_not] at h
  exact satI_small (by omega) (by omega)

theorem chk_set {i : Ins} {o k : Nat} (ho : o < 17) (hk : k < 4) (hi : i.op = o) (hg : ∀ j, j < 4 → bad o j (i.fld j) = false) (x : Int) : chk (i.set k x) = if bad o k x then 10 else 0 := by
  have hop : (i.set k x).op = o := by rw [set_op, hi]
  cases hb : bad o k x with
  | true =>
    rw [if_pos rfl]
    exact chk_bad hop (by omega) hk (by rw [set_fld i k k x hk hk, if_pos rfl]; exact hb)
  | false =>
    refine zero_chk ho hop (fun j hj => ?_)
    rw [set_fld i k j x hk hj]
    split
    · rename_i e; rw [e]; exact hb
    · exact hg j hj

/-- The reader of a kind. -/
theorem reader_of (kd : Nat) (h1 : 1 ≤ kd) (h4 : kd ≤ 4) (y : Bs) (hy : y.length ≤ 1000000) : ∃ F : FuncId, rdrs[kd]? = some (.func (.func F) #[] #[]) ∧ (∀ args w, (callFunc F args).run Tryz.prog w = .ok (.enter F args) w) ∧
    ∀ W, Tabs W → Calls Tryz.prog F #[.string (bs y)] W (OpPost W (opd kd y)) := by
  have hm : kd = 1 ∨ kd = 2 ∨ kd = 3 ∨ kd = 4 := by omega
  rcases hm with rfl | rfl | rfl | rfl
  · exact ⟨40, rfl, enters_of Tryz.func40 (by kernel_rfl) rfl, fun W hW => reg_any y hy W hW⟩
  · exact ⟨41, rfl, enters_of Tryz.func41 (by kernel_rfl) rfl, fun W hW => han_any y hy W hW⟩
  · exact ⟨42, rfl, enters_of Tryz.func42 (by kernel_rfl) rfl, fun W hW => fun_any y hy W hW⟩
  · exact ⟨43, rfl, enters_of Tryz.func43 (by kernel_rfl) rfl, fun W hW => number_any y hy W hW⟩

def acV (i : Ins) : Array Value := #[.int .i64 i.op, .int .i64 i.a, .int .i64 i.b, .int .i64 i.c, .int .i64 i.n]

theorem acV_set (i : Ins) (k : Nat) (hk : k < 4) (x : Int) : (acV i).setIfInBounds (k + 1) (.int .i64 x) = acV (i.set k x) := by
  have hm : k = 0 ∨ k = 1 ∨ k = 2 ∨ k = 3 := by omega
  rcases hm with rfl | rfl | rfl | rfl <;> rfl

def RmRel (W : World) (n8 o m : Nat) (r : List Bs) (s : Value) (d : Nat) (wr : World) : Prop :=
  ∃ (j : Nat) (acc : Ins), j ≤ m ∧ d = m - j ∧ s = .int .i64 j ∧ Blk wr n8 (acV acc) ∧ acc.op = o ∧ (∀ k, k < 4 → bad o k (acc.fld k) = false) ∧
    rdOps o (flds o) r ⟨o, 0, 0, 0, 0⟩ = rdOps o ((flds o).drop j) (r.drop j) acc ∧ Fr (fun k => k = n8) W wr

theorem words_short (l : Bs) : ∀ y ∈ words l, y.length ≤ l.length := by
  have key : ∀ (k : Nat) (l : Bs), ∀ y ∈ cutN 32 k l, y.length ≤ l.length := by
    intro k
    induction k with
    | zero => intro l y hy; rw [cutN_zero] at hy; simp at hy; rw [hy]; exact Nat.le_refl _
    | succ k ih =>
      intro l y hy
      by_cases hm : (32 : UInt8) ∈ l
      · obtain ⟨a, r, ha, rfl⟩ := mem_parts 32 l hm
        rw [cutN_app 32 k a ha] at hy
        rw [List.length_append, List.length_cons]
        rcases List.mem_cons.1 hy with rfl | hy
        · omega
        · have := ih r y hy
          omega
      · rw [cutN_none 32 _ l hm] at hy
        simp at hy
        rw [hy]
        exact Nat.le_refl _
  exact key _ l

set_option maxRecDepth 100000 in
set_option maxHeartbeats 8000000 in
theorem read_main (l : Bs) (hl : l.length ≤ 1000000) (w : World) (ht : Tabs w) (x : Bs) (r : List Bs) (hx : words l = x :: r) (o : Nat) (ho : o < 17) (hn : nameIx x = some o) (hc : (words l).length = 1 + (flds o).length) (hr : rd l = rdOps o (flds o) r ⟨o, 0, 0, 0, 0⟩) :
    Calls Tryz.prog 9 #[.string (bs l)] w (RdPost w (rd l)) := by
  have HRD := hid hr
  have H0 := ht.two
  have hA := Fr.alloc (fun _ => False) w (.cells #[.int .i64 0, .int .i64 0, .int .i64 0, .int .i64 0, .int .i64 0] 35)
  have hT := ht.same hA
  have hR := Blk.new w #[.int .i64 0, .int .i64 0, .int .i64 0, .int .i64 0, .int .i64 0] 35
  have HS := hid (split_any l hl _ hT)
  have hsn := store_nil Tryz.prog
  have hsf := store_fn Tryz.prog
  clear hr
  go_enter Tryz.func9, Tryz.ntmps9
  go_wp2_with fail
  refine HS.out.mono ?_
  rintro e w1 ⟨A, cap, rfl, how, hF1⟩
  obtain ⟨m, hm⟩ : ∃ m, (flds o).length = m := ⟨_, rfl⟩
  have hm3 : m ≤ 3 := by rw [← hm]; exact (show ∀ op, op < 17 → (flds op).length ≤ 3 by decide) o ho
  rw [hm] at hc
  have hln : (words l).length = m + 1 := by omega
  have HWL := hid (show ∀ y ∈ r, y.length ≤ 1000000 from fun y hy => Nat.le_trans (words_short l y (by rw [hx]; simp [hy])) hl)
  have hrl : r.length = m := by rw [hx, List.length_cons] at hln; omega
  have HRL := hid hrl
  rw [hln] at how ⊢
  obtain ⟨g, rfl, hg1, hg2, hgc⟩ := how.2.2 (by omega)
  have c0 : w1.cell? ⟨g, 0, none⟩ = some (.string (bs x)) := hgc 0 x (by rw [hx]; rfl)
  have HGC := hid (show ∀ j y, r[j]? = some y → w1.cell? ⟨g, j + 1, none⟩ = some (.string (bs y)) from fun j y hy => hgc (j + 1) y (by rw [hx]; simpa using hy))
  have hT1 := hT.same hF1
  have HNM := hid (named_any x w1 hT1)
  rw [hn] at HNM
  unfold nmV at HNM
  have HFL := hid (fields_any o ho w1 hT1)
  have hR1 := hR.keep hF1 (fun h => h)
  have HM := hid hm
  have tc : ((m : Int) + 1 != 1 + (m : Int)) = false := by simp; omega
  have tc2 : (1 + (m : Int) != 1 + (m : Int)) = false := by simp
  have hs1 := hF1.size
  simp only [size_alloc] at hs1 hg1
  clear how hgc hln hn hR hm hc hrl hx
  go_wp2_with fail
  refine HNM.out.mono ?_
  rintro e w2 ⟨rfl, rfl⟩
  go_wp2_with fail
  refine HFL.out.mono ?_
  rintro e w2 ⟨Af, cf, rfl, hfl, hF2⟩
  rw [HM.out] at hfl ⊢
  have HFD := hid hfl
  have hR2 := hR1.keep hF2 (fun h => h)
  have HR2 := hid hR2
  have HRS := hid (readers_ok w2)
  unfold rdrs at HRS
  clear hR1 hR2 hfl c0
  go_wp2_with fail
  refine HRS.out.mono ?_
  rintro e w3 ⟨rfl, hF3⟩
  go_wp2_with fail
  obtain ⟨W4, hW4⟩ : ∃ W4, W4 = ((w3.alloc (.cells (acV ⟨o, 0, 0, 0, 0⟩) 35)).alloc (.cells rdrs 62)).alloc (.cells #[.pointer (some ⟨w3.heap.size, 1, none⟩), .pointer (some ⟨w3.heap.size, 2, none⟩), .pointer (some ⟨w3.heap.size, 3, none⟩), .pointer (some ⟨w3.heap.size, 4, none⟩)] 65) := ⟨_, rfl⟩
  have h8 : Blk W4 w3.heap.size (acV ⟨o, 0, 0, 0, 0⟩) := by
    rw [hW4]
    exact ((Blk.new w3 (acV ⟨o, 0, 0, 0, 0⟩) 35).alloc _).alloc _
  have h9 : Blk W4 (w3.heap.size + 1) rdrs := by
    rw [hW4]
    exact ((Blk.new _ rdrs _).at (by simp)).alloc _
  have h10 : Blk W4 (w3.heap.size + 2) #[.pointer (some ⟨w3.heap.size, 1, none⟩), .pointer (some ⟨w3.heap.size, 2, none⟩), .pointer (some ⟨w3.heap.size, 3, none⟩), .pointer (some ⟨w3.heap.size, 4, none⟩)] := by
    rw [hW4]
    exact (Blk.new _ _ _).at (by simp)
  have hF4 : Fr (fun _ => False) w3 W4 := by
    rw [hW4]
    exact ((Fr.alloc _ _ _).trans (Fr.alloc _ _ _)).trans (Fr.alloc _ _ _)
  have hF24 := hF3.trans hF4
  have hs2 := hF2.size
  have hs3 := hF3.size
  have HR4 := hid (HR2.out.keep hF24 (fun h => h))
  have H9 := hid h9
  have H10 := hid h10
  have hF14 := hF2.trans hF24
  have hT4 := hT1.same hF14
  have HW4 := hid hW4
  unfold acV rdrs at hW4
  rw [← hW4]
  clear hW4 h9 h10
  go_loopg [47] m (fun d s wr => RmRel W4 w3.heap.size o m r s d wr)
  case atStart => exact ⟨0, ⟨o, 0, 0, 0, 0⟩, by omega, by omega, rfl, h8, rfl, zero_good o ho, rfl, Fr.refl _ _⟩
  case round =>
    obtain ⟨j, acc, hj, hd, rfl, hb8, hop, hgood, hrest, hF⟩ := hrel
    have HD := hid hd
    have HB8 := hid hb8
    have HOP := hid hop
    have HGD := hid hgood
    have HRE := hid hrest
    clear hd hb8 hop hgood hrest h8 tc tc2
    have hs4 := hF4.size
    have hs5 := hF.size
    have HRX := hid (HR4.out.keep hF (by omega))
    have hFB : Fr (fun k => w.heap.size + 1 ≤ k) w wr := by
      have q1 : Fr (fun k => w.heap.size + 1 ≤ k) w W4 := ((hA.trans hF1).trans hF14).mono (fun _ h => h.elim)
      exact q1.trans (hF.mono (fun k h => by omega))
    have hs6 : W4.heap.size = w3.heap.size + 3 := by rw [HW4.out]; simp
    by_cases hlt : j < m
    · obtain ⟨k, hk⟩ : ∃ k, (flds o)[j]? = some k := ⟨_, List.getElem?_eq_getElem (by rw [HM.out]; exact hlt)⟩
      obtain ⟨y, hy⟩ : ∃ y, r[j]? = some y := ⟨_, List.getElem?_eq_getElem (by rw [HRL.out]; exact hlt)⟩
      obtain ⟨k4, kne⟩ := flds_lt (List.mem_of_getElem? hk)
      obtain ⟨kf1, _⟩ := kinds_fit o ho k k4
      obtain ⟨gf, rfl, hgf1, hgf2, _, hgfc⟩ := OwnR.cell HFD.out (by omega)
      have hT := hT4.keep hF (fun q hq => by omega)
      have c0 : wr.cell? ⟨gf, j, none⟩ = some (.int .i64 (k : Int)) := (cell_keep ((hF24.mono (fun _ h => h.elim)).trans hF) (p := ⟨gf, j, none⟩) hgf2 (by show ¬ gf = w3.heap.size; omega)).trans (hgfc j _ (by simp [nats, hk]))
      have c1 := hT.kds o k ho k4
      have hylen : y.length ≤ 1000000 := HWL.out y (List.mem_of_getElem? hy)
      obtain ⟨F, hFd, hFe, hFc⟩ := reader_of (ak o k) (by omega) kf1 y hylen
      have c2 : wr.cell? ⟨w3.heap.size + 1, ak o k, none⟩ = some (.func (.func F) #[] #[]) := (H9.out.keep hF (by omega)).cell hFd
      have c3 : wr.cell? ⟨g, j + 1, none⟩ = some (.string (bs y)) := (cell_keep ((hF14.mono (fun _ h => h.elim)).trans hF) (p := ⟨g, j + 1, none⟩) hg2 (by show ¬ g = w3.heap.size; omega)).trans (HGC.out j y hy)
      have HC := hid (fun (W : World) (hW : Fr (fun _ => False) wr W) => hFc W (hT.same hW))
      have HDR := hid (show rdOps o ((flds o).drop j) (r.drop j) acc = match opd (ak o k) y with | none => (Ins.zero, 11) | some v => if bad o k v then (Ins.zero, 10) else rdOps o ((flds o).drop (j + 1)) (r.drop (j + 1)) (acc.set k v) by
        rw [List.drop_eq_getElem_cons (l := flds o) (by rw [HM.out]; exact hlt), List.drop_eq_getElem_cons (l := r) (by rw [HRL.out]; exact hlt)]
        rw [(List.getElem?_eq_some_iff.1 hk).2, (List.getElem?_eq_some_iff.1 hy).2]
        rfl)
      have c5 : wr.cell? ⟨w3.heap.size + 2, k, none⟩ = some (.pointer (some ⟨w3.heap.size, k + 1, none⟩)) := (H10.out.keep hF (by omega)).cell (by
        have hm : k = 0 ∨ k = 1 ∨ k = 2 ∨ k = 3 := by omega
        rcases hm with rfl | rfl | rfl | rfl <;> rfl)
      clear hFc hFd kne hk hy hgfc hylen
      obtain ⟨od, hod⟩ : ∃ od, opd (ak o k) y = od := ⟨_, rfl⟩
      rw [hod] at HC HDR
      clear hod
      generalize ak o k = kd at c1 c2 kf1
      have HKP := hid (show ∀ W, Fr (fun _ => False) wr W → W.cell? ⟨0, o * 5 + 1 + k, none⟩ = some (.int .i64 (kd : Int)) ∧ W.cell? ⟨w3.heap.size + 1, kd, none⟩ = some (.func (.func F) #[] #[]) ∧ W.cell? ⟨g, j + 1, none⟩ = some (.string (bs y)) from fun W hW =>
        ⟨(cell_keep hW (p := ⟨0, o * 5 + 1 + k, none⟩) (by show 0 < wr.heap.size; omega) (fun h => h)).trans c1, (cell_keep hW (p := ⟨w3.heap.size + 1, kd, none⟩) (by show w3.heap.size + 1 < wr.heap.size; omega) (fun h => h)).trans c2, (cell_keep hW (p := ⟨g, j + 1, none⟩) (by show g < wr.heap.size; omega) (fun h => h)).trans c3⟩)
      have HC5 := hid c5
      clear c1 c2 c3 c5
      have z0 : (0 : Int) ≤ (k : Int) := by omega
      have z1 : (k : Int) < 4 := by omega
      have z2 : (0 : Int) ≤ (kd : Int) := by omega
      have z3 : (kd : Int) < 5 := by omega
      have z4 : (o : Int) < 17 := by omega
      have z5 : IntKind.i64.wrap (1 + (j : Int)) = (j : Int) + 1 := by rw [IntKind.wrap_i64]; omega
      have z6 : (0 : Int) ≤ (j : Int) + 1 := by omega
      have z7 : (j : Int) + 1 < (m : Int) + 1 := by omega
      have z8 : ((j : Int) + 1).toNat = j + 1 := by omega
      go_wp2_with fail
      go_region_held3 (fun W => W.cell? ⟨0, o * 5 + 1 + k, none⟩ = some (.int .i64 (kd : Int)) ∧ W.cell? ⟨w3.heap.size + 1, kd, none⟩ = some (.func (.func F) #[] #[]) ∧ W.cell? ⟨g, j + 1, none⟩ = some (.string (bs y)))
        (first | exact HKP.out _ (Fr.refl _ _) | exact HKP.out _ (Fr.drew _ _) | exact HKP.out _ HF5.out)
        (first
          | (go_at_fn F; refine (HC.out _ (Fr.drew _ _)).mono ?_; rintro e w5 ⟨x5, b5, rfl, hp5⟩; have HP5 := hid hp5; have HF5 := hid ((Fr.drew (fun _ => False) wr).trans hp5.2.2); clear hp5))
      have HR5 := hid (HRX.out.keep HF5.out (fun h => h))
      have HB5 := hid (HB8.out.keep HF5.out (fun h => h))
      cases od with
      | none =>
        have hb5 := HP5.out.1
        simp only [Option.isSome_none] at hb5
        subst hb5
        have HRX2 := hid (show rd l = (Ins.zero, 11) by rw [HRD.out, HRE.out, HDR.out])
        have p0 : w5.cell? ⟨w.heap.size, 0, none⟩ = some (.int .i64 0) := HR5.out.cell rfl
        have p1 : w5.cell? ⟨w.heap.size, 1, none⟩ = some (.int .i64 0) := HR5.out.cell rfl
        have p2 : w5.cell? ⟨w.heap.size, 2, none⟩ = some (.int .i64 0) := HR5.out.cell rfl
        have p3 : w5.cell? ⟨w.heap.size, 3, none⟩ = some (.int .i64 0) := HR5.out.cell rfl
        have p4 : w5.cell? ⟨w.heap.size, 4, none⟩ = some (.int .i64 0) := HR5.out.cell rfl
        have f0 := HR5.out.frozen 0
        have f1 := HR5.out.frozen 1
        have f2 := HR5.out.frozen 2
        have f3 := HR5.out.frozen 3
        have f4 := HR5.out.frozen 4
        have pl := HR5.out.lt
        go_wp2_with fail
        have hR9 := HR5.out.set5 (.int .i64 0) (.int .i64 0) (.int .i64 0) (.int .i64 0) (.int .i64 0)
        have hF9 : Fr (fun k => k = w.heap.size) w5 _ := fr_set5 (fun k => k = w.heap.size) w5 w.heap.size rfl (.int .i64 0) (.int .i64 0) (.int .i64 0) (.int .i64 0) (.int .i64 0)
        obtain ⟨w9, hw9⟩ : ∃ w9, w9 = (((((w5.setCell ⟨w.heap.size, 0, none⟩ (.int .i64 0)).setCell ⟨w.heap.size, 1, none⟩ (.int .i64 0)).setCell ⟨w.heap.size, 2, none⟩ (.int .i64 0)).setCell ⟨w.heap.size, 3, none⟩ (.int .i64 0)).setCell ⟨w.heap.size, 4, none⟩ (.int .i64 0)) := ⟨_, rfl⟩
        rw [← hw9] at hR9 hF9 ⊢
        clear hw9 p0 p1 p2 p3 p4
        have p0 : w9.cell? ⟨w.heap.size, 0, none⟩ = some (.int .i64 0) := hR9.cell rfl
        have p1 : w9.cell? ⟨w.heap.size, 1, none⟩ = some (.int .i64 0) := hR9.cell rfl
        have p2 : w9.cell? ⟨w.heap.size, 2, none⟩ = some (.int .i64 0) := hR9.cell rfl
        have p3 : w9.cell? ⟨w.heap.size, 3, none⟩ = some (.int .i64 0) := hR9.cell rfl
        have p4 : w9.cell? ⟨w.heap.size, 4, none⟩ = some (.int .i64 0) := hR9.cell rfl
        refine bodyPost_ret (v := .tuple #[.agg #[.int .i64 0, .int .i64 0, .int .i64 0, .int .i64 0, .int .i64 0], .int .i64 11]) ?hv rfl ?hp
        case hv => (simp [results, Tryz.results9, go_sem, p0, p1, p2, p3, p4]; try rfl)
        case hp => exact ⟨by rw [HRX2.out]; rfl, (((hFB.trans (HF5.out.mono (fun _ h => h.elim))).mono (fun _ h => Nat.le_of_succ_le h)).trans (hF9.mono (fun k hk => by omega))).all⟩
      | some v =>
        have hb5 := HP5.out.1
        simp only [Option.isSome_some] at hb5
        subst hb5
        obtain rfl : x5 = satI v := HP5.out.2.1 v rfl
        have c5 : w5.cell? ⟨w3.heap.size + 2, k, none⟩ = some (.pointer (some ⟨w3.heap.size, k + 1, none⟩)) := (cell_keep HF5.out (p := ⟨w3.heap.size + 2, k, none⟩) (by show w3.heap.size + 2 < wr.heap.size; omega) (fun h => h)).trans HC5.out
        have c6 : ∃ u, w5.cell? ⟨w3.heap.size, k + 1, none⟩ = some u := by
          have hm : k = 0 ∨ k = 1 ∨ k = 2 ∨ k = 3 := by omega
          rcases hm with rfl | rfl | rfl | rfl
          · exact ⟨_, HB5.out.cell rfl⟩
          · exact ⟨_, HB5.out.cell rfl⟩
          · exact ⟨_, HB5.out.cell rfl⟩
          · exact ⟨_, HB5.out.cell rfl⟩
        obtain ⟨u, c6⟩ := c6
        have c7 := HB5.out.frozen (k + 1)
        have hl5 := HB5.out.lt
        have hs7 := HF5.out.size
        go_upto_region 17 with fail
        have hB6 := HB5.out.set (k + 1) (.int .i64 (satI v))
        rw [acV_set acc k k4] at hB6
        have hF6 : Fr (fun q => q = w3.heap.size) w5 (w5.setCell ⟨w3.heap.size, k + 1, none⟩ (.int .i64 (satI v))) := Fr.setCell _ _ _ rfl
        obtain ⟨w6, hw6⟩ : ∃ w6, w6 = w5.setCell ⟨w3.heap.size, k + 1, none⟩ (.int .i64 (satI v)) := ⟨_, rfl⟩
        rw [← hw6] at hB6 hF6 ⊢
        clear hw6 c5 c6 c7
        have hF06 : Fr (fun q => q = w3.heap.size) wr w6 := (HF5.out.mono (fun _ h => h.elim)).trans hF6
        have hT6 := hT.keep hF06 (fun q hq => by omega)
        have HR6 := hid (HR5.out.keep hF6 (by omega))
        have hck := chk_set ho k4 HOP.out HGD.out (satI v)
        rw [bad_sat ho k4 v] at hck
        have HK := hid (check_any (acc.set k (satI v)) w6 hT6)
        rw [hck] at HK
        have hop6 : (acc.set k (satI v)).op = o := by rw [set_op, HOP.out]
        have hF6B : Fr (fun k => w.heap.size + 1 ≤ k) w w6 := hFB.trans (hF06.mono (fun k hk => by omega))
        have hs8 := hF6.size
        have HSET := hid (show bad o k v = false → acc.set k (satI v) = acc.set k v from fun hb => by rw [sat_good ho k4 hb])
        clear hck
        obtain ⟨i6, hi6⟩ : ∃ i6, acc.set k (satI v) = i6 := ⟨_, rfl⟩
        rw [hi6] at hB6 HK hop6 HSET
        have HI6 := hid hi6
        clear hi6
        have HB6 := hid hB6
        have HOP6 := hid hop6
        clear hB6 hop6
        obtain ⟨o6, a6, b6, c6, n6⟩ := i6
        unfold Ins.val at HK
        have q0 : w6.cell? ⟨w3.heap.size, 0, none⟩ = some (.int .i64 o6) := HB6.out.cell rfl
        have q1 : w6.cell? ⟨w3.heap.size, 1, none⟩ = some (.int .i64 a6) := HB6.out.cell rfl
        have q2 : w6.cell? ⟨w3.heap.size, 2, none⟩ = some (.int .i64 b6) := HB6.out.cell rfl
        have q3 : w6.cell? ⟨w3.heap.size, 3, none⟩ = some (.int .i64 c6) := HB6.out.cell rfl
        have q4 : w6.cell? ⟨w3.heap.size, 4, none⟩ = some (.int .i64 n6) := HB6.out.cell rfl
        have ql := HB6.out.lt
        cases hbad : bad o k v with
        | true =>
          rw [hbad] at HK
          have HRX2 := hid (show rd l = (Ins.zero, 10) by
            rw [HRD.out, HRE.out, HDR.out]
            simp only [hbad, if_true])
          clear hbad
          go_wp2_with fail
          refine HK.out.mono ?_
          rintro e w7 ⟨rfl, hF7⟩
          have HR7 := hid (HR6.out.keep hF7 (fun h => h))
          clear q0 q1 q2 q3 q4
          simp only [if_true]
          have p0 : w7.cell? ⟨w.heap.size, 0, none⟩ = some (.int .i64 0) := HR7.out.cell rfl
          have p1 : w7.cell? ⟨w.heap.size, 1, none⟩ = some (.int .i64 0) := HR7.out.cell rfl
          have p2 : w7.cell? ⟨w.heap.size, 2, none⟩ = some (.int .i64 0) := HR7.out.cell rfl
          have p3 : w7.cell? ⟨w.heap.size, 3, none⟩ = some (.int .i64 0) := HR7.out.cell rfl
          have p4 : w7.cell? ⟨w.heap.size, 4, none⟩ = some (.int .i64 0) := HR7.out.cell rfl
          have f0 := HR7.out.frozen 0
          have f1 := HR7.out.frozen 1
          have f2 := HR7.out.frozen 2
          have f3 := HR7.out.frozen 3
          have f4 := HR7.out.frozen 4
          have pl := HR7.out.lt
          go_wp2_with fail
          have hR9 := HR7.out.set5 (.int .i64 0) (.int .i64 0) (.int .i64 0) (.int .i64 0) (.int .i64 0)
          have hF9 : Fr (fun k => k = w.heap.size) w7 _ := fr_set5 (fun k => k = w.heap.size) w7 w.heap.size rfl (.int .i64 0) (.int .i64 0) (.int .i64 0) (.int .i64 0) (.int .i64 0)
          obtain ⟨w9, hw9⟩ : ∃ w9, w9 = (((((w7.setCell ⟨w.heap.size, 0, none⟩ (.int .i64 0)).setCell ⟨w.heap.size, 1, none⟩ (.int .i64 0)).setCell ⟨w.heap.size, 2, none⟩ (.int .i64 0)).setCell ⟨w.heap.size, 3, none⟩ (.int .i64 0)).setCell ⟨w.heap.size, 4, none⟩ (.int .i64 0)) := ⟨_, rfl⟩
          rw [← hw9] at hR9 hF9 ⊢
          clear hw9 p0 p1 p2 p3 p4
          have p0 : w9.cell? ⟨w.heap.size, 0, none⟩ = some (.int .i64 0) := hR9.cell rfl
          have p1 : w9.cell? ⟨w.heap.size, 1, none⟩ = some (.int .i64 0) := hR9.cell rfl
          have p2 : w9.cell? ⟨w.heap.size, 2, none⟩ = some (.int .i64 0) := hR9.cell rfl
          have p3 : w9.cell? ⟨w.heap.size, 3, none⟩ = some (.int .i64 0) := hR9.cell rfl
          have p4 : w9.cell? ⟨w.heap.size, 4, none⟩ = some (.int .i64 0) := hR9.cell rfl
          refine bodyPost_ret (v := .tuple #[.agg #[.int .i64 0, .int .i64 0, .int .i64 0, .int .i64 0, .int .i64 0], .int .i64 10]) ?hv rfl ?hp
          case hv => (simp [results, Tryz.results9, go_sem, p0, p1, p2, p3, p4]; try rfl)
          case hp => exact ⟨by rw [HRX2.out]; rfl, (((hF6B.trans (hF7.mono (fun _ h => h.elim))).mono (fun _ h => Nat.le_of_succ_le h)).trans (hF9.mono (fun k hk => by omega))).all⟩
        | false =>
          rw [hbad] at HK
          have HE := hid (HSET.out hbad)
          have HNX := hid (show rdOps o (flds o) r ⟨o, 0, 0, 0, 0⟩ = rdOps o ((flds o).drop (j + 1)) (r.drop (j + 1)) (acc.set k v) by
            rw [HRE.out, HDR.out]
            simp only [hbad, Bool.false_eq_true, if_false])
          have HBV := hid hbad
          clear hbad
          go_wp2_with fail
          refine HK.out.mono ?_
          rintro e w7 ⟨rfl, hF7⟩
          clear q0 q1 q2 q3 q4
          simp only [Bool.false_eq_true, if_false]
          go_wp2_with fail
          go_roundg (m - (j + 1))
          case rel =>
            refine ⟨j + 1, acc.set k v, by omega, rfl, by go_num, ?_, by rw [set_op, HOP.out], fun q hq => ?_, HNX.out, hF.trans (hF06.trans (hF7.mono (fun _ h => h.elim)))⟩
            · rw [← HE.out]
              exact HB6.out.keep hF7 (fun h => h)
            · rw [set_fld acc k q v k4 hq]
              split
              · rename_i e
                rw [e]
                exact HBV.out
              · exact HGD.out q hq
          case measure => have := HD.out; omega
    · obtain rfl : j = m := by omega
      have HRX2 := hid (show rd l = (acc, 0) by
        rw [HRD.out, HRE.out, List.drop_of_length_le (by rw [HM.out]; omega)]
        rfl)
      have hB := HB8.out
      have HOPX := hid HOP.out
      clear HOP HGD HRE HB8
      obtain ⟨o6, a6, b6, c6, n6⟩ := acc
      have HB := hid hB
      clear hB
      have q0 : wr.cell? ⟨w3.heap.size, 0, none⟩ = some (.int .i64 o6) := HB.out.cell rfl
      have q1 : wr.cell? ⟨w3.heap.size, 1, none⟩ = some (.int .i64 a6) := HB.out.cell rfl
      have q2 : wr.cell? ⟨w3.heap.size, 2, none⟩ = some (.int .i64 b6) := HB.out.cell rfl
      have q3 : wr.cell? ⟨w3.heap.size, 3, none⟩ = some (.int .i64 c6) := HB.out.cell rfl
      have q4 : wr.cell? ⟨w3.heap.size, 4, none⟩ = some (.int .i64 n6) := HB.out.cell rfl
      have ql := HB.out.lt
      have p0 : wr.cell? ⟨w.heap.size, 0, none⟩ = some (.int .i64 0) := HRX.out.cell rfl
      have p1 : wr.cell? ⟨w.heap.size, 1, none⟩ = some (.int .i64 0) := HRX.out.cell rfl
      have p2 : wr.cell? ⟨w.heap.size, 2, none⟩ = some (.int .i64 0) := HRX.out.cell rfl
      have p3 : wr.cell? ⟨w.heap.size, 3, none⟩ = some (.int .i64 0) := HRX.out.cell rfl
      have p4 : wr.cell? ⟨w.heap.size, 4, none⟩ = some (.int .i64 0) := HRX.out.cell rfl
      have f0 := HRX.out.frozen 0
      have f1 := HRX.out.frozen 1
      have f2 := HRX.out.frozen 2
      have f3 := HRX.out.frozen 3
      have f4 := HRX.out.frozen 4
      have pl := HRX.out.lt
      go_wp2_with fail
      have hR9 := HRX.out.set5 (.int .i64 o6) (.int .i64 a6) (.int .i64 b6) (.int .i64 c6) (.int .i64 n6)
      have hF9 : Fr (fun k => k = w.heap.size) wr _ := fr_set5 (fun k => k = w.heap.size) wr w.heap.size rfl (.int .i64 o6) (.int .i64 a6) (.int .i64 b6) (.int .i64 c6) (.int .i64 n6)
      obtain ⟨w9, hw9⟩ : ∃ w9, w9 = (((((wr.setCell ⟨w.heap.size, 0, none⟩ (.int .i64 o6)).setCell ⟨w.heap.size, 1, none⟩ (.int .i64 a6)).setCell ⟨w.heap.size, 2, none⟩ (.int .i64 b6)).setCell ⟨w.heap.size, 3, none⟩ (.int .i64 c6)).setCell ⟨w.heap.size, 4, none⟩ (.int .i64 n6)) := ⟨_, rfl⟩
      rw [← hw9] at hR9 hF9 ⊢
      clear hw9 p0 p1 p2 p3 p4
      have p0 : w9.cell? ⟨w.heap.size, 0, none⟩ = some (.int .i64 o6) := hR9.cell rfl
      have p1 : w9.cell? ⟨w.heap.size, 1, none⟩ = some (.int .i64 a6) := hR9.cell rfl
      have p2 : w9.cell? ⟨w.heap.size, 2, none⟩ = some (.int .i64 b6) := hR9.cell rfl
      have p3 : w9.cell? ⟨w.heap.size, 3, none⟩ = some (.int .i64 c6) := hR9.cell rfl
      have p4 : w9.cell? ⟨w.heap.size, 4, none⟩ = some (.int .i64 n6) := hR9.cell rfl
      refine bodyPost_ret (v := .tuple #[.agg #[.int .i64 o6, .int .i64 a6, .int .i64 b6, .int .i64 c6, .int .i64 n6], .int .i64 0]) ?hv rfl ?hp
      case hv => (simp [results, Tryz.results9, go_sem, p0, p1, p2, p3, p4]; try rfl)
      case hp => exact ⟨by rw [HRX2.out]; rfl, ((hFB.mono (fun _ h => Nat.le_of_succ_le h)).trans (hF9.mono (fun k hk => by omega))).all⟩

theorem read_any (l : Bs) (hl : l.length ≤ 1000000) (w : World) (ht : Tabs w) : Calls Tryz.prog 9 #[.string (bs l)] w (RdPost w (rd l)) := by
  obtain ⟨x, r, hx, hh⟩ := head_words l
  cases hn : nameIx x with
  | none => exact read_name l hl w ht x r hx hn (rd_name hh hn)
  | some o =>
    obtain ⟨ho, _⟩ := nameIx_lt hn
    by_cases hc : (words l).length = 1 + (flds o).length
    · exact read_main l hl w ht x r hx o ho hn hc (by rw [rd_go hh hn hc ho, hx]; rfl)
    · exact read_form l hl w ht x r hx o ho hn hc (rd_form hh hn hc ho)

end Go.Proofs.YtepbnneggpcbcaaGreatDoor
