/-
  The next function of bytes.
-/
import Derived.Test.YtecobbojbdfffaaDoorUn
namespace Go.Proofs.YtecobbojbdfffaaDoor
open Go.RowKit

theorem UnPost.bad {w w' : World} {nb q : Nat} {y : Int} {e : Ending} (hy : y ≠ 0) (he : e = .returned (.tuple #[.agg #[.int .i64 0, .slice none 0 0], .int .i64 (q : Int), .int .i64 y])) (hF : Fr (fun k => k = nb) w w') : UnPost w nb ⟨⟨0, []⟩, q, y⟩ e w' := by
  refine ⟨none, 0, ?_, OwnR.nil _ _ _ _, fun h => absurd h hy, hF⟩
  simp only [if_neg hy]
  exact he

theorem fr_un {w w' : World} {nb : Nat} (h : Fr (fun k => k = nb ∨ w.heap.size ≤ k) w w') : Fr (fun k => k = nb) w w' :=
  ⟨h.os, h.tape, h.output, h.size, fun k hk hn => h.block k hk (by rintro (h1 | h1); exact hn h1; omega)⟩

theorem fr_set2 (w : World) (g : Nat) (a b : Value) : Fr (fun k => k = g) w ((w.setCell ⟨g, 0, none⟩ a).setCell ⟨g, 1, none⟩ b) :=
  have h : ∀ (W : World) (j : Nat) (v : Value), Fr (fun k => k = g) W (W.setCell ⟨g, j, none⟩ v) := fun W j v => Fr.setCell (S := fun k => k = g) W ⟨g, j, none⟩ v rfl
  (h _ _ _).trans (h _ _ _)

theorem tblk_set2 {w : World} {g : Nat} {x0 x1 : Value} {t : TypeId} (h : TBlk w g #[x0, x1] t) (a b : Value) : TBlk ((w.setCell ⟨g, 0, none⟩ a).setCell ⟨g, 1, none⟩ b) g #[a, b] t := (h.set 0 a).set 1 b

set_option maxRecDepth 100000 in
set_option maxHeartbeats 1000000 in
theorem unpacked_short (A : Option Addr) (n cap nb bb p : Nat) (l : List Int) (w : World) (h1 : TBlk w nb #[.int .i64 p] 3) (h2 : TBlk w bb #[.slice A n cap] 29) (hl : l.length = n) (hk : n < p + 2) (hn : n ≤ 100000) (hp : p ≤ n) :
    Calls Tryd.prog 33 #[takerV nb bb] w (UnPost w nb (unFn l p)) := by
  rw [unFn_short (by omega)]
  unfold takerV
  have hF := Fr.alloc (fun _ => False) w (.cells #[.int .i64 0, .slice none 0 0] 51)
  have hR := TBlk.new w #[.int .i64 0, .slice none 0 0] 51
  have HT := hid (take_no A n cap nb bb p 2 _ (h1.keep hF (fun h => h)).blk (h2.keep hF (fun h => h)).blk hk (by omega) (by omega))
  simp only [show ((2 : Nat) : Int) = 2 from rfl] at HT
  have n1 := nil_yes
  go_enter Tryd.func33, Tryd.ntmps33
  go_wp2_with fail
  refine HT.out.mono ?_
  rintro e w' ⟨rfl, rfl⟩
  go_wp2_with fail
  have g0 := hR.blk.cell (i := 0) rfl
  have g1 := hR.blk.cell (i := 1) rfl
  refine bodyPost_ret (v := .tuple #[.agg #[.int .i64 0, .slice none 0 0], .int .i64 p, .int .i64 11]) ?hv rfl ?hp
  case hv => (simp [results, Tryd.results33, go_sem, g0, g1]; try rfl)
  case hp => exact (UnPost.bad (by decide) rfl (hF.mono (fun _ h => h.elim)))

set_option maxRecDepth 100000 in
set_option maxHeartbeats 4000000 in
theorem unpacked_long (A : Option Addr) (n cap nb bb p : Nat) (l : List Int) (B : Nat) (w : World) (h1 : TBlk w nb #[.int .i64 p] 3) (h2 : TBlk w bb #[.slice A n cap] 29) (hs : Src w B A n cap l) (hB : B ≤ bb) (hbn : bb < nb) (hn : n ≤ 100000) (z x : Int) (hz : l.getD p 0 = z) (hx : l.getD (p + 1) 0 = x) (hk : p + 2 ≤ n) (h : x < 1 ∨ 128 < x) :
    Calls Tryd.prog 33 #[takerV nb bb] w (UnPost w nb (unFn l p)) := by
  unfold takerV
  have hsrc := hs
  obtain ⟨hl, hc, hm, hb, hall⟩ := hs
  have hF := Fr.alloc (fun _ => False) w (.cells #[.int .i64 0, .slice none 0 0] 51)
  have hR := TBlk.new w #[.int .i64 0, .slice none 0 0] 51
  have hbw := h2.blk.lt
  have hnw := h1.blk.lt
  have HT := hid (tk_yes A n cap nb bb p 2 l B _ (h1.keep hF (fun h => h)) (h2.keep hF (fun h => h)) ⟨hl, hc, hm, hb.same hF (by omega), hall⟩ (by omega) (by rw [size_alloc]; omega) (by omega) hk (by omega) (by omega))
  simp only [show ((2 : Nat) : Int) = 2 from rfl] at HT
  have hx0 : ((l.drop p).take 2)[0]? = some z := by rw [List.getElem?_take, if_pos (by omega), List.getElem?_drop, Nat.add_zero, List.getElem?_eq_getElem (by omega)]; rw [← hz, List.getD_eq_getElem?_getD, List.getElem?_eq_getElem (by omega)]; rfl
  have hx1 : ((l.drop p).take 2)[1]? = some x := by rw [List.getElem?_take, if_pos (by omega), List.getElem?_drop, List.getElem?_eq_getElem (by omega)]; rw [← hx, List.getD_eq_getElem?_getD, List.getElem?_eq_getElem (by omega)]; rfl
  have bx := hall.getD (p + 1)
  have bz := hall.getD p
  rw [hx] at bx
  rw [hz] at bz
  rw [unFn_long (by omega) hx h]
  clear hx hz hsrc
  go_enter Tryd.func33, Tryd.ntmps33
  go_wp2_with fail
  refine HT.out.mono ?_
  rintro e w1 ⟨b, o, c', rfl, hbB, hcell, hN1, hF1⟩
  have c0 := hcell 0 z hx0
  have c1 := hcell 1 x hx1
  rw [Nat.add_zero] at c0
  have nn := nil_no ⟨b, o, none⟩ 2 c'
  have bl : b < w1.heap.size := by have := hF1.size; rw [size_alloc] at this; omega
  have hR1 := hR.keep hF1 (by omega)
  clear HT hcell hx0 hx1
  go_wp2_with fail
  refine (within_no x 128 w1 (by omega)).mono ?_
  rintro e w2 ⟨rfl, rfl⟩
  have g0 := hR1.blk.cell (i := 0) rfl
  have g1 := hR1.blk.cell (i := 1) rfl
  have z0 := hR1.blk.frozen 0
  have z1 := hR1.blk.frozen 1
  have gl := hR1.blk.lt
  go_wp2_with fail
  have hR2 := tblk_set2 hR1 (.int .i64 0) (.slice none 0 0)
  have hF2 := fr_set2 w1 w.heap.size (.int .i64 0) (.slice none 0 0)
  have HR2 := hid hR2
  obtain ⟨w2, hw2⟩ : ∃ w2, w2 = (w1.setCell ⟨w.heap.size, 0, none⟩ (.int .i64 0)).setCell ⟨w.heap.size, 1, none⟩ (.slice none 0 0) := ⟨_, rfl⟩
  rw [← hw2] at hR2 hF2 ⊢
  clear hw2 g0 g1
  have g0 := hR2.blk.cell (i := 0) rfl
  have g1 := hR2.blk.cell (i := 1) rfl
  refine bodyPost_ret (v := .tuple #[.agg #[.int .i64 0, .slice none 0 0], .int .i64 ((p + 1 : Nat) : Int), .int .i64 12]) ?hv rfl ?hp
  case hv => (simp [results, Tryd.results33, go_sem, g0, g1]; try rfl)
  case hp => exact (UnPost.bad (by decide) rfl (((hF.mono (fun _ h => h.elim)).trans hF1).since hF2 (fun i hi hl => by omega)))

set_option maxRecDepth 100000 in
set_option maxHeartbeats 4000000 in
theorem unpacked_main (A : Option Addr) (n cap nb bb p : Nat) (l : List Int) (B : Nat) (w : World) (ht : Tabs w) (h1 : TBlk w nb #[.int .i64 p] 3) (h2 : TBlk w bb #[.slice A n cap] 29) (hs : Src w B A n cap l) (hB : B ≤ bb) (hbn : bb < nb) (h2B : 2 ≤ bb) (hn : n ≤ 100000) (z x : Int) (hz : l.getD p 0 = z) (hx : l.getD (p + 1) 0 = x) (hk : p + 2 ≤ n) (h : ¬ (x < 1 ∨ 128 < x)) :
    Calls Tryd.prog 33 #[takerV nb bb] w (UnPost w nb (unFn l p)) := by
  unfold takerV
  have hsrc := hs
  obtain ⟨hl, hc, hm, hb, hall⟩ := hs
  have hF := Fr.alloc (fun _ => False) w (.cells #[.int .i64 0, .slice none 0 0] 51)
  have hR := TBlk.new w #[.int .i64 0, .slice none 0 0] 51
  have hbw := h2.blk.lt
  have hnw := h1.blk.lt
  have HT := hid (tk_yes A n cap nb bb p 2 l B _ (h1.keep hF (fun h => h)) (h2.keep hF (fun h => h)) ⟨hl, hc, hm, hb.same hF (by omega), hall⟩ (by omega) (by rw [size_alloc]; omega) (by omega) hk (by omega) (by omega))
  simp only [show ((2 : Nat) : Int) = 2 from rfl] at HT
  have hx0 : ((l.drop p).take 2)[0]? = some z := by rw [List.getElem?_take, if_pos (by omega), List.getElem?_drop, Nat.add_zero, List.getElem?_eq_getElem (by omega)]; rw [← hz, List.getD_eq_getElem?_getD, List.getElem?_eq_getElem (by omega)]; rfl
  have hx1 : ((l.drop p).take 2)[1]? = some x := by rw [List.getElem?_take, if_pos (by omega), List.getElem?_drop, List.getElem?_eq_getElem (by omega)]; rw [← hx, List.getD_eq_getElem?_getD, List.getElem?_eq_getElem (by omega)]; rfl
  have bx := hall.getD (p + 1)
  have bz := hall.getD p
  rw [hx] at bx
  rw [hz] at bz
  have HBad := hid (fun (q : Nat) (y : Int) => @unFn_bad l p x (by omega) hx h q y)
  have HOk := hid (fun (q : Nat) (cs : List Ins) => fun hu => @unFn_ok l p x z (by omega) hx h q cs hu hz)
  obtain ⟨i0, hi, hzz⟩ := Option.map_eq_some_iff.1 Tryd.infoi
  simp only [Prod.mk.injEq] at hzz
  obtain ⟨hz0, hz1, hz2⟩ := hzz
  have HI := hid hi
  have HZ0 := hid hz0
  have HZ1 := hid hz1
  have HZ2 := hid hz2
  clear hi hz0 hz1 hz2
  obtain ⟨N, hN⟩ : ∃ N : Nat, x = N := ⟨x.toNat, by omega⟩
  have hNx : x.toNat = N := by omega
  rw [hNx] at HBad HOk
  subst hN
  clear hx hz hNx
  go_enter Tryd.func33, Tryd.ntmps33
  go_wp2_with fail
  refine HT.out.mono ?_
  rintro e w1 ⟨b, o, c', rfl, hbB, hcell, hN1, hF1⟩
  have c0 := hcell 0 z hx0
  have c1 := hcell 1 N hx1
  rw [Nat.add_zero] at c0
  have nn := nil_no ⟨b, o, none⟩ 2 c'
  have bl : b < w1.heap.size := by have := hF1.size; rw [size_alloc] at this; omega
  have hR1 := hR.keep hF1 (by omega)
  clear HT hcell hx0 hx1
  have hFw1 : Fr (fun k => k = nb) w w1 := (hF.mono (fun _ h => h.elim)).trans hF1
  have hs1 : w.heap.size + 1 ≤ w1.heap.size := by have := hF1.size; rwa [size_alloc] at this
  go_wp2_with fail
  refine (within_yes N 128 w1 (by omega)).mono ?_
  rintro e w2 ⟨rfl, rfl⟩
  have g0 := hR1.blk.cell (i := 0) rfl
  have g1 := hR1.blk.cell (i := 1) rfl
  go_wp2_with fail
  have hFb := Fr.alloc (fun _ => False) w1 (.cells #[.int .i64 z, .slice none 0 0] 51)
  have hTb := TBlk.new w1 #[.int .i64 z, .slice none 0 0] 51
  go_loopg [38] N (fun d s wr => UnRel w nb w1.heap.size z l N (p + 2) n d s wr)
  case atStart =>
    exact ⟨0, [], none, 0, by omega, by omega, rfl, rfl, hN1.keep hFb (fun h => h), hR1.keep hFb (fun h => h), hTb, OwnR.nil _ _ _ _, rfl, by omega, (hFw1.mono (fun _ h => .inl h)).trans (hFb.mono (fun _ h => h.elim))⟩
  case round =>
    clear g0 g1 c0 c1 nn
    obtain ⟨j, acc, Aj, cj, hj, hd, rfl, hacc, hNr, hRr, hTr, hOr, hu, hpn, hFr⟩ := hrel
    have HU := hid hu
    have HD := hid hd
    have HO := hid hOr
    have HACC := hid hacc
    clear hu hd hOr hacc
    have hnr := hNr.blk.lt
    have hrr := hRr.blk.lt
    have htr := hTr.blk.lt
    have hwr : w.heap.size ≤ wr.heap.size := hFr.size
    have hTabs := ht.keep hFr (by omega) (by omega)
    have h2r := h2.keep hFr (by omega)
    have hbr := hb.keep hFr (by omega) (fun k h1 h2 => by omega)
    by_cases hlt : j < N
    · have hNj : N - j = (N - (j + 1)) + 1 := by omega
      by_cases hk8 : p + 2 + 8 * j + 8 ≤ n
      · have HT := hid (tk_yes A n cap nb bb (p + 2 + 8 * j) 8 l B wr hNr h2r ⟨hl, hc, hm, hbr, hall⟩ (by omega) (by omega) (by omega) hk8 (by omega) (by omega))
        simp only [show ((8 : Nat) : Int) = 8 from rfl] at HT
        go_wp2_with fail
        refine HT.out.mono ?_
        rintro e w3 ⟨b3, o3, c3, rfl, hb3, hcell3, hN3, hF3⟩
        have hl8 : (sl l (p + 2 + 8 * j)).length = 8 := sl_len (by omega)
        have hby3 : Bys w3 w3.heap.size (some ⟨b3, o3, none⟩) (sl l (p + 2 + 8 * j)) := fun _ => ⟨b3, o3, rfl, by have := hF3.size; omega, hcell3⟩
        have hdc := decode_any (some ⟨b3, o3, none⟩) 8 c3 (sl l (p + 2 + 8 * j)) w3 (hTabs.keep hF3 (by omega) (by omega)) hby3 hl8 (sl_all hall _)
        have hR3 := hRr.keep hF3 (by omega)
        have hT3 := hTr.keep hF3 (by omega)
        have hO3 := OwnR.keep HO.out hF3 (fun k hk => by have := OwnR.lt HO.out k hk; omega)
        have HO3 := hid hO3
        clear hO3 hcell3 hby3 HT
        by_cases hde : decErr (sl l (p + 2 + 8 * j)) = 0
        · have hin : decIns (sl l (p + 2 + 8 * j)) = dec (sl l (p + 2 + 8 * j)) := by unfold decIns; rw [if_pos hde]
          have hstep : unCode l (N - j) (p + 2 + 8 * j) acc = unCode l (N - (j + 1)) (p + 2 + 8 * (j + 1)) (acc ++ [dec (sl l (p + 2 + 8 * j))]) := by
            rw [hNj, unCode, if_pos hde, show p + 2 + 8 * (j + 1) = p + 2 + 8 * j + 8 by omega]
          have HST := hid (HU.out.trans hstep)
          rw [hde, hin] at hdc
          obtain ⟨⟨op, a, b, c, m⟩, hjj⟩ : ∃ i, dec (sl l (p + 2 + 8 * j)) = i := ⟨_, rfl⟩
          rw [hjj] at hdc HST
          have HDC := hid hdc
          unfold Ins.val at HDC
          simp only at HDC
          clear hin hstep hdc hjj hde HU
          go_wp2_with fail
          refine HDC.out.mono ?_
          rintro e w4 ⟨rfl, hF4⟩
          have hF5 := Fr.alloc (fun _ => False) w4 (.cells #[.int .i64 op, .int .i64 a, .int .i64 b, .int .i64 c, .int .i64 m] 23)
          have hT4 := hT3.keep hF4 (fun h => h)
          have hR4 := hR3.keep hF4 (fun h => h)
          have y0 := hT4.blk.cell (i := 0) rfl
          have y1 := hT4.blk.cell (i := 1) rfl
          have yl := hT4.blk.lt
          have yz := hT4.blk.frozen 1
          have HO5 := hid ((OwnR.same HO3.out hF4).same (hF5.trans (Fr.alloc _ (w4.alloc (.cells #[.int .i64 op, .int .i64 a, .int .i64 b, .int .i64 c, .int .i64 m] 23)) (.cells #[.int .i64 op, .int .i64 a, .int .i64 b, .int .i64 c, .int .i64 m] 23))))
          have hn5 := news_cells (w4.alloc (.cells #[.int .i64 op, .int .i64 a, .int .i64 b, .int .i64 c, .int .i64 m] 23)) 23 (Ins.cells ⟨op, a, b, c, m⟩)
          rw [size_alloc] at hn5
          have HN5 := hid hn5
          have hw4 : w.heap.size ≤ w4.heap.size := by have := (hF3.size); have := hF4.size; omega
          clear hn5 HO3
          have hal : acc.length = j := HACC.out
          rw [hal] at HO5
          go_wp2_with (at_builtin; refine wpList_append_own _ rfl _ _ 49 rfl w.heap.size 23 i0 (.agg #[.int .i64 0, .int .i64 0, .int .i64 0, .int .i64 0, .int .i64 0]) 5 40 Tryd.underlying49 HI.out HZ0.out HZ1.out HZ2.out rfl (by decide) (.slice Aj j cj) j _ rfl HO5.out ⟨w4.heap.size + 1, 0, none⟩ 1 1 (Ins.cells ⟨op, a, b, c, m⟩) rfl rfl HN5.out (Ins.one _) (by unfold maxLen; omega) (by omega) (by first | omega | (simp; omega)) ?_; intro v6 w6 hown6 hgrow6 hnil6; clear hnil6; obtain ⟨A6, c6, rfl, ho6⟩ := OwnR.form hown6; have hF6 := Fr.of_grown hgrow6; have HO6 := hid ho6; clear hown6 hgrow6 ho6; have hT6 := ((hT4.keep hF5 (fun h => h)).keep (Fr.alloc (fun _ => False) (w4.alloc (.cells #[.int .i64 op, .int .i64 a, .int .i64 b, .int .i64 c, .int .i64 m] 23)) (.cells #[.int .i64 op, .int .i64 a, .int .i64 b, .int .i64 c, .int .i64 m] 23)) (fun h => h)).keep hF6 (OwnR.ne HO5.out ((hT4.keep hF5 (fun h => h)).keep (Fr.alloc (fun _ => False) (w4.alloc (.cells #[.int .i64 op, .int .i64 a, .int .i64 b, .int .i64 c, .int .i64 m] 23)) (.cells #[.int .i64 op, .int .i64 a, .int .i64 b, .int .i64 c, .int .i64 m] 23)) (fun h => h)) (by decide)); have x1 := hT6.blk.cell (i := 1) rfl; have xl := hT6.blk.lt; have xz := hT6.blk.frozen 1)
          have hFa := hF5.trans (Fr.alloc (fun _ => False) (w4.alloc (.cells #[.int .i64 op, .int .i64 a, .int .i64 b, .int .i64 c, .int .i64 m] 23)) (.cells #[.int .i64 op, .int .i64 a, .int .i64 b, .int .i64 c, .int .i64 m] 23))
          have hR5 := hR4.keep hFa (fun h => h)
          have hN5 := (hN3.keep hF4 (fun h => h)).keep hFa (fun h => h)
          have hR6 := hR5.keep hF6 (OwnR.ne HO5.out hR5 (by decide))
          have hN6 := hN5.keep hF6 (OwnR.ne HO5.out hN5 (by decide))
          have hF7 : Fr (fun k => k = w1.heap.size) w6 (w6.setCell ⟨w1.heap.size, 1, none⟩ (.slice A6 (j + 1) c6)) := Fr.setCell _ _ _ rfl
          have hlt5 := OwnR.lt HO5.out
          go_roundg (N - (j + 1))
          case rel =>
            refine ⟨j + 1, acc ++ [⟨op, a, b, c, m⟩], A6, c6, by omega, rfl, by go_num, by simp [hal], ?_, hR6.keep hF7 (by omega), hT6.set 1 _, ?_, HST.out, by omega, ?_⟩
            · have := hN6.keep hF7 (by omega)
              rwa [show p + 2 + 8 * j + 8 = p + 2 + 8 * (j + 1) by omega] at this
            · have h7 := OwnR.keep HO6.out hF7 (fun k hk e => OwnR.ne HO6.out hT6 (by decide) (e ▸ hk))
              unfold OwnI
              rw [List.length_append, hal, List.flatMap_append]
              exact h7.eq (by simp)
            · exact hFr.trans (((hF3.mono (fun _ h => .inl h)).trans ((hF4.trans hFa).mono (fun _ h => h.elim))).trans ((hF6.mono (fun k hk => .inr (hlt5 k hk).1)).trans (hF7.mono (fun k hk => .inr (by omega)))))
          case measure => have := HD.out; omega
        · obtain ⟨y, hy⟩ : ∃ y, decErr (sl l (p + 2 + 8 * j)) = y := ⟨_, rfl⟩
          have hin : decIns (sl l (p + 2 + 8 * j)) = Ins.zero := by unfold decIns; rw [if_neg hde]
          have hstep : unCode l N (p + 2) [] = ([], p + 2 + 8 * j, y) := by
            rw [HU.out, hNj, unCode, if_neg hde, hy]
          rw [hy] at hde
          have HEQ := hid (HBad.out _ _ hstep hde)
          rw [hy, hin] at hdc
          have HDC := hid hdc
          unfold Ins.val Ins.zero at HDC
          simp only at HDC
          have t1 : (y != 0) = true := by simpa using hde
          have HDE := hid hde
          clear hin hstep hdc hde HU hy HO3
          go_wp2_with fail
          refine HDC.out.mono ?_
          rintro e w4 ⟨rfl, hF4⟩
          have hF5 := Fr.alloc (fun _ => False) w4 (.cells #[.int .i64 0, .int .i64 0, .int .i64 0, .int .i64 0, .int .i64 0] 23)
          have hR4 := hR3.keep (hF4.trans hF5) (fun h => h)
          have g0 := hR4.blk.cell (i := 0) rfl
          have g1 := hR4.blk.cell (i := 1) rfl
          have z0 := hR4.blk.frozen 0
          have z1 := hR4.blk.frozen 1
          have gl := hR4.blk.lt
          go_wp2_with fail
          have hR5 := tblk_set2 hR4 (.int .i64 0) (.slice none 0 0)
          have hF5' := fr_set2 (w4.alloc (.cells #[.int .i64 0, .int .i64 0, .int .i64 0, .int .i64 0, .int .i64 0] 23)) w.heap.size (.int .i64 0) (.slice none 0 0)
          obtain ⟨w5, hw5⟩ : ∃ w5, w5 = ((w4.alloc (.cells #[.int .i64 0, .int .i64 0, .int .i64 0, .int .i64 0, .int .i64 0] 23)).setCell ⟨w.heap.size, 0, none⟩ (.int .i64 0)).setCell ⟨w.heap.size, 1, none⟩ (.slice none 0 0) := ⟨_, rfl⟩
          rw [← hw5] at hR5 hF5' ⊢
          clear hw5 g0 g1
          have g0 := hR5.blk.cell (i := 0) rfl
          have g1 := hR5.blk.cell (i := 1) rfl
          refine bodyPost_ret (v := .tuple #[.agg #[.int .i64 0, .slice none 0 0], .int .i64 ((p + 2 + 8 * j : Nat) : Int), .int .i64 y]) ?hv rfl ?hp
          case hv => (simp [results, Tryd.results33, go_sem, g0, g1]; try rfl)
          case hp =>
            rw [HEQ.out]
            exact (UnPost.bad HDE.out rfl (fr_un ((hFr.trans (hF3.mono (fun _ h => .inl h))).trans (((hF4.trans hF5).mono (fun _ h => h.elim)).trans (hF5'.mono (fun k hk => .inr (by omega)))))))
      · have HT := hid (take_no A n cap nb bb (p + 2 + 8 * j) 8 wr hNr.blk h2r.blk (by omega) (by omega) (by omega))
        simp only [show ((8 : Nat) : Int) = 8 from rfl] at HT
        have hde : decErr (sl l (p + 2 + 8 * j)) = 11 := sl_short (by omega)
        have hstep : unCode l N (p + 2) [] = ([], p + 2 + 8 * j, 11) := by
          rw [HU.out, hNj, unCode, if_neg (by rw [hde]; decide), hde]
        have HEQ := hid (HBad.out _ _ hstep (by decide))
        have HDC := hid (decode_short none 0 0 wr (by omega))
        unfold Ins.val Ins.zero at HDC
        simp only at HDC
        clear hde hstep HU
        go_wp2_with fail
        refine HT.out.mono ?_
        rintro e w3 ⟨rfl, rfl⟩
        go_wp2_with fail
        refine HDC.out.mono ?_
        rintro e w4 ⟨rfl, hF4⟩
        have hF5 := Fr.alloc (fun _ => False) w4 (.cells #[.int .i64 0, .int .i64 0, .int .i64 0, .int .i64 0, .int .i64 0] 23)
        have hR4 := hRr.keep (hF4.trans hF5) (fun h => h)
        have g0 := hR4.blk.cell (i := 0) rfl
        have g1 := hR4.blk.cell (i := 1) rfl
        have z0 := hR4.blk.frozen 0
        have z1 := hR4.blk.frozen 1
        have gl := hR4.blk.lt
        go_wp2_with fail
        have hR5 := tblk_set2 hR4 (.int .i64 0) (.slice none 0 0)
        have hF5' := fr_set2 (w4.alloc (.cells #[.int .i64 0, .int .i64 0, .int .i64 0, .int .i64 0, .int .i64 0] 23)) w.heap.size (.int .i64 0) (.slice none 0 0)
        obtain ⟨w5, hw5⟩ : ∃ w5, w5 = ((w4.alloc (.cells #[.int .i64 0, .int .i64 0, .int .i64 0, .int .i64 0, .int .i64 0] 23)).setCell ⟨w.heap.size, 0, none⟩ (.int .i64 0)).setCell ⟨w.heap.size, 1, none⟩ (.slice none 0 0) := ⟨_, rfl⟩
        rw [← hw5] at hR5 hF5' ⊢
        clear hw5 g0 g1
        have g0 := hR5.blk.cell (i := 0) rfl
        have g1 := hR5.blk.cell (i := 1) rfl
        refine bodyPost_ret (v := .tuple #[.agg #[.int .i64 0, .slice none 0 0], .int .i64 ((p + 2 + 8 * j : Nat) : Int), .int .i64 11]) ?hv rfl ?hp
        case hv => (simp [results, Tryd.results33, go_sem, g0, g1]; try rfl)
        case hp =>
          rw [HEQ.out]
          exact (UnPost.bad (by decide) rfl (fr_un (hFr.trans (((hF4.trans hF5).mono (fun _ h => h.elim)).trans (hF5'.mono (fun k hk => .inr (by omega)))))))
    · obtain rfl : j = N := by omega
      have hstep : unCode l j (p + 2) [] = (acc, p + 2 + 8 * j, 0) := by
        rw [HU.out, Nat.sub_self, unCode]
      have HEQ := hid (HOk.out _ _ hstep)
      have hal : acc.length = j := HACC.out
      have g0 := hRr.blk.cell (i := 0) rfl
      have g1 := hRr.blk.cell (i := 1) rfl
      have z0 := hRr.blk.frozen 0
      have z1 := hRr.blk.frozen 1
      have y0 := hTr.blk.cell (i := 0) rfl
      have y1 := hTr.blk.cell (i := 1) rfl
      clear hstep HU
      go_wp2_with fail
      have hR5 := tblk_set2 hRr (.int .i64 z) (.slice Aj j cj)
      have hF5 := fr_set2 wr w.heap.size (.int .i64 z) (.slice Aj j cj)
      have hN5 := hNr.keep hF5 (by omega)
      have hO5 := OwnR.keep HO.out hF5 (fun k hk e => OwnR.ne HO.out hRr (by decide) (e ▸ hk))
      obtain ⟨w5, hw5⟩ : ∃ w5, w5 = (wr.setCell ⟨w.heap.size, 0, none⟩ (.int .i64 z)).setCell ⟨w.heap.size, 1, none⟩ (.slice Aj j cj) := ⟨_, rfl⟩
      rw [← hw5] at hR5 hF5 hN5 hO5 ⊢
      clear hw5 g0 g1
      have g0 := hR5.blk.cell (i := 0) rfl
      have g1 := hR5.blk.cell (i := 1) rfl
      refine bodyPost_ret (v := .tuple #[.agg #[.int .i64 z, .slice Aj j cj], .int .i64 0, .int .i64 0]) ?hv rfl ?hp
      case hv => (simp [results, Tryd.results33, go_sem, g0, g1]; try rfl)
      case hp =>
        rw [HEQ.out]
        exact ⟨Aj, cj, by simp [hal], hO5, fun _ => hN5, fr_un (hFr.trans (hF5.mono (fun k hk => .inr (by omega))))⟩

end Go.Proofs.YtecobbojbdfffaaDoor
