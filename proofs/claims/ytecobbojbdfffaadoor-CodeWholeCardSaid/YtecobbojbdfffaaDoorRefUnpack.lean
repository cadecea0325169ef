/-
  The document's program of bytes.
-/
import Derived.Test.YtecobbojbdfffaaDoorUnpack
namespace Go.Proofs.YtecobbojbdfffaaDoor
open Go.RowKit

def RoRel (w : World) (n : Nat) (l : List Int) (N : Nat) (d : Nat) (s7 s8 : Value) (wr : World) : Prop :=
  ∃ (j at_ : Nat) (L : List Fo) (Aj : Option Addr) (cj : Nat), j ≤ N ∧ d = N - j ∧ s7 = .int .i64 at_ ∧ s8 = .int .i64 j ∧ L.length = j ∧ at_ ≤ n ∧ TBlk wr w.heap.size #[.slice none 0 0] 42 ∧ TBlk wr (w.heap.size + 1) #[.slice none 0 0] 42 ∧
    TBlk wr (w.heap.size + 2) #[.slice Aj j cj] 42 ∧ OwnP wr w.heap.size Aj cj L ∧ unFns l N 1 [] = unFns l (N - j) at_ (L.map (·.f)) ∧ Fr (fun k => w.heap.size ≤ k) w wr

def RiRel (wo : World) (fb : Nat) (needs : Int) (l : List Int) (M p2 n : Nat) (d : Nat) (s7 s11 : Value) (wr : World) : Prop :=
  ∃ (j : Nat) (acc : List Ins) (Aj : Option Addr) (cj : Nat), j ≤ M ∧ d = M - j ∧ s7 = .int .i64 ((p2 + 8 * j : Nat) : Int) ∧ s11 = .int .i64 j ∧ acc.length = j ∧
    TBlk wr fb #[.int .i64 needs, .slice Aj j cj] 51 ∧ OwnI wr wo.heap.size Aj cj acc ∧ unCode l M p2 [] = unCode l (M - j) (p2 + 8 * j) acc ∧ p2 + 8 * j ≤ n ∧ Fr (fun k => wo.heap.size ≤ k) wo wr

set_option maxRecDepth 100000 in
set_option maxHeartbeats 8000000 in
theorem runpack_nil (A : Option Addr) (n cap : Nat) (l : List Int) (w : World) (hl : l.length = n) (h0 : n = 0) :
    Calls Tryd.prog 25 #[.slice A n cap] w (UpPost w (unProg l)) := by
  have hF : Fr (fun _ => False) w ((w.alloc (.cells #[.slice none 0 0] 42)).alloc (.cells #[.slice none 0 0] 42)) := (Fr.alloc _ _ _).trans (Fr.alloc _ _ _)
  have hR : TBlk ((w.alloc (.cells #[.slice none 0 0] 42)).alloc (.cells #[.slice none 0 0] 42)) w.heap.size #[.slice none 0 0] 42 := (TBlk.new w #[.slice none 0 0] 42).keep (Fr.alloc (fun _ => False) _ _) (fun h => h)
  have hQ : TBlk ((w.alloc (.cells #[.slice none 0 0] 42)).alloc (.cells #[.slice none 0 0] 42)) (w.heap.size + 1) #[.slice none 0 0] 42 := (TBlk.new (w.alloc (.cells #[.slice none 0 0] 42)) #[.slice none 0 0] 42).at (size_alloc _ _)
  have HEQ := hid (unProg_nil (l := l) (by omega))
  subst h0
  clear hl
  go_enter Tryd.func25, Tryd.ntmps25
  have k0 := hQ.blk.cell (i := 0) rfl
  have kl := hQ.blk.lt
  go_wp2_with fail
  have g0 := hR.blk.cell (i := 0) rfl
  refine bodyPost_ret (v := .tuple #[.agg #[.slice none 0 0], .int .i64 0, .int .i64 11]) ?hv rfl ?hp
  case hv => (simp [results, Tryd.results25, go_sem, g0]; try rfl)
  case hp =>
    rw [HEQ.out]
    exact UpPost.bad rfl (hF.mono (fun _ h => h.elim))

set_option maxRecDepth 100000 in
set_option maxHeartbeats 8000000 in
theorem runpack_long (A : Option Addr) (n cap : Nat) (l : List Int) (w : World) (hs : Src w w.heap.size A n cap l) (hn : n ≤ 100000) (x : Int) (hx : l.getD 0 0 = x) (h0 : n ≠ 0) (h : x < 1 ∨ 32 < x) :
    Calls Tryd.prog 25 #[.slice A n cap] w (UpPost w (unProg l)) := by
  obtain ⟨hl, hc, hm, hb, hall⟩ := hs
  have hF : Fr (fun _ => False) w ((w.alloc (.cells #[.slice none 0 0] 42)).alloc (.cells #[.slice none 0 0] 42)) := (Fr.alloc _ _ _).trans (Fr.alloc _ _ _)
  have hR : TBlk ((w.alloc (.cells #[.slice none 0 0] 42)).alloc (.cells #[.slice none 0 0] 42)) w.heap.size #[.slice none 0 0] 42 := (TBlk.new w #[.slice none 0 0] 42).keep (Fr.alloc (fun _ => False) _ _) (fun h => h)
  have hQ : TBlk ((w.alloc (.cells #[.slice none 0 0] 42)).alloc (.cells #[.slice none 0 0] 42)) (w.heap.size + 1) #[.slice none 0 0] 42 := (TBlk.new (w.alloc (.cells #[.slice none 0 0] 42)) #[.slice none 0 0] 42).at (size_alloc _ _)
  obtain ⟨bk, o, rfl, hbl, hcell⟩ := hb (by omega)
  have hbw := hcell 0 x (by rw [get_some (by omega), hx])
  have hb0 := (cell_keep hF (p := ⟨bk, o + 0, none⟩) hbl (fun h => h)).trans hbw
  rw [Nat.add_zero] at hb0
  have bx := hall.getD 0
  rw [hx] at bx
  have bl1 : bk < w.heap.size + 2 := by omega
  have e0 : ¬ (n : Int) = 0 := by omega
  have e1 : ((n : Int) == 0) = false := by simpa using e0
  have HEQ := hid (unProg_long (l := l) (by omega) hx h)
  clear hx hbw
  rcases h with h | h
  · skip
    go_enter Tryd.func25, Tryd.ntmps25
    have k0 := hQ.blk.cell (i := 0) rfl
    have kl := hQ.blk.lt
    go_wp2_with fail
    have g0 := hR.blk.cell (i := 0) rfl
    refine bodyPost_ret (v := .tuple #[.agg #[.slice none 0 0], .int .i64 0, .int .i64 12]) ?hv rfl ?hp
    case hv => (simp [results, Tryd.results25, go_sem, g0]; try rfl)
    case hp =>
      rw [HEQ.out]
      exact UpPost.bad rfl (hF.mono (fun _ h => h.elim))
  · have h1 : ¬ x < 1 := by omega
    go_enter Tryd.func25, Tryd.ntmps25
    have k0 := hQ.blk.cell (i := 0) rfl
    have kl := hQ.blk.lt
    go_wp2_with fail
    have g0 := hR.blk.cell (i := 0) rfl
    refine bodyPost_ret (v := .tuple #[.agg #[.slice none 0 0], .int .i64 0, .int .i64 12]) ?hv rfl ?hp
    case hv => (simp [results, Tryd.results25, go_sem, g0]; try rfl)
    case hp =>
      rw [HEQ.out]
      exact UpPost.bad rfl (hF.mono (fun _ h => h.elim))

set_option maxRecDepth 100000 in
set_option maxHeartbeats 8000000 in
theorem runpack_main (A : Option Addr) (n cap : Nat) (l : List Int) (w : World) (hs : Src w w.heap.size A n cap l) (hn : n ≤ 100000) (x : Int) (hx : l.getD 0 0 = x) (h0 : n ≠ 0) (h : ¬ (x < 1 ∨ 32 < x)) :
    Calls Tryd.prog 25 #[.slice A n cap] w (UpPost w (unProg l)) := by
  obtain ⟨hl, hc, hm, hb, hall⟩ := hs
  have hF : Fr (fun _ => False) w ((w.alloc (.cells #[.slice none 0 0] 42)).alloc (.cells #[.slice none 0 0] 42)) := (Fr.alloc _ _ _).trans (Fr.alloc _ _ _)
  have hR : TBlk ((w.alloc (.cells #[.slice none 0 0] 42)).alloc (.cells #[.slice none 0 0] 42)) w.heap.size #[.slice none 0 0] 42 := (TBlk.new w #[.slice none 0 0] 42).keep (Fr.alloc (fun _ => False) _ _) (fun h => h)
  have hQ : TBlk ((w.alloc (.cells #[.slice none 0 0] 42)).alloc (.cells #[.slice none 0 0] 42)) (w.heap.size + 1) #[.slice none 0 0] 42 := (TBlk.new (w.alloc (.cells #[.slice none 0 0] 42)) #[.slice none 0 0] 42).at (size_alloc _ _)
  obtain ⟨bk, o, rfl, hbl, hcell⟩ := hb (by omega)
  have hbw := hcell 0 x (by rw [get_some (by omega), hx])
  have hb0 := (cell_keep hF (p := ⟨bk, o + 0, none⟩) hbl (fun h => h)).trans hbw
  rw [Nat.add_zero] at hb0
  have bx := hall.getD 0
  rw [hx] at bx
  have bl1 : bk < w.heap.size + 2 := by omega
  have e0 : ¬ (n : Int) = 0 := by omega
  have e1 : ((n : Int) == 0) = false := by simpa using e0
  have HBad := hid (fun (q : Nat) (y : Int) (cs : List Fn) => @unProg_bad l x (by omega) hx h q y cs)
  have HMore := hid (fun (q : Nat) (cs : List Fn) => @unProg_more l x (by omega) hx h q cs)
  have HOk := hid (fun (q : Nat) (cs : List Fn) => @unProg_ok l x (by omega) hx h q cs)
  obtain ⟨i0, hi, hzz⟩ := Option.map_eq_some_iff.1 Tryd.infof
  simp only [Prod.mk.injEq] at hzz
  obtain ⟨hz0, hz1, hz2⟩ := hzz
  have HI := hid hi
  have HZ0 := hid hz0
  have HZ1 := hid hz1
  have HZ2 := hid hz2
  clear hi hz0 hz1 hz2
  obtain ⟨i1, hi, hzz⟩ := Option.map_eq_some_iff.1 Tryd.infoi
  simp only [Prod.mk.injEq] at hzz
  obtain ⟨hz0, hz1, hz2⟩ := hzz
  have HJ := hid hi
  have HY0 := hid hz0
  have HY1 := hid hz1
  have HY2 := hid hz2
  clear hi hz0 hz1 hz2
  obtain ⟨N, hN⟩ : ∃ N : Nat, x = N := ⟨x.toNat, by omega⟩
  have hNx : x.toNat = N := by omega
  rw [hNx] at HBad HMore HOk
  subst hN
  have u1 : ¬ (N : Int) < 1 := by omega
  have u2 : ¬ (32 : Int) < N := by omega
  have HCELL := hid hcell
  clear hx hNx hcell
  go_enter Tryd.func25, Tryd.ntmps25
  go_wp2_with fail
  have hFp := Fr.alloc (fun _ => False) ((w.alloc (.cells #[.slice none 0 0] 42)).alloc (.cells #[.slice none 0 0] 42)) (.cells #[.slice none 0 0] 42)
  have hP0 : TBlk (((w.alloc (.cells #[.slice none 0 0] 42)).alloc (.cells #[.slice none 0 0] 42)).alloc (.cells #[.slice none 0 0] 42)) (w.heap.size + 2) #[.slice none 0 0] 42 := (TBlk.new ((w.alloc (.cells #[.slice none 0 0] 42)).alloc (.cells #[.slice none 0 0] 42)) #[.slice none 0 0] 42).at (by simp)
  clear hb0
  go_loopg [7, 8] N (fun d s7 s8 wr => RoRel w n l N d s7 s8 wr)
  case atStart =>
    exact ⟨0, 1, [], none, 0, by omega, by omega, rfl, rfl, rfl, by omega, hR.keep hFp (fun h => h), hQ.keep hFp (fun h => h), hP0, OwnP.nil _ _, rfl, (hF.trans hFp).mono (fun _ h => h.elim)⟩
  case round =>
    clear hP0 hFp hR hQ hF
    obtain ⟨wo, rfl⟩ : ∃ wo, wo = wr := ⟨_, rfl⟩
    obtain ⟨j, at_, L, Aj, cj, hj, hd, rfl, rfl, hL, hat, hRr, hQr, hTr, hOr, hu, hFr⟩ := hrel
    have HU := hid hu
    have HD := hid hd
    have HO := hid hOr
    have HL := hid hL
    clear hu hd hOr hL
    have hrr := hRr.blk.lt
    have hqr := hQr.blk.lt
    have htr := hTr.blk.lt
    have hwo : w.heap.size + 3 ≤ wo.heap.size := by omega
    have hkc : ∀ (W : World), Fr (fun k => w.heap.size ≤ k) w W → ∀ (k : Nat) (v : Int), l[k]? = some v → W.cell? ⟨bk, o + k, none⟩ = some (.int .u8 v) := fun W f k v hv => (cell_keep f (p := ⟨bk, o + k, none⟩) hbl (by show ¬ _ ≤ bk; omega)).trans (HCELL.out k v hv)
    have HKC := hid hkc
    clear hkc
    have b0 : wo.cell? ⟨bk, o, none⟩ = some (.int .u8 N) := (cell_keep hFr (p := ⟨bk, o, none⟩) hbl (by show ¬ _ ≤ bk; omega)).trans (by rw [← hbw, Nat.add_zero])
    have bl2 : bk < wo.heap.size := by omega
    by_cases hlt : j < N
    · have hNj : N - j = (N - (j + 1)) + 1 := by omega
      by_cases hk2 : n < at_ + 2
      · have HEQ := hid (HBad.out at_ 11 [] (by rw [HU.out, hNj, unFns, unFn_short (by omega)]; rfl) (by decide))
        have v1 : (n : Int) - (at_ : Int) < 2 := by omega
        clear HU
        have g0 := hRr.blk.cell (i := 0) rfl
        have z0 := hRr.blk.frozen 0
        have gl := hRr.blk.lt
        have k0 := hQr.blk.cell (i := 0) rfl
        have kl := hQr.blk.lt
        go_wp2_with fail
        have hR5 := hRr.set 0 (.slice none 0 0)
        have hF5 : Fr (fun k => k = w.heap.size) wo (wo.setCell ⟨w.heap.size, 0, none⟩ (.slice none 0 0)) := Fr.setCell _ _ _ rfl
        obtain ⟨w5, hw5⟩ : ∃ w5, w5 = wo.setCell ⟨w.heap.size, 0, none⟩ (.slice none 0 0) := ⟨_, rfl⟩
        rw [← hw5] at hR5 hF5 ⊢
        clear hw5 g0 k0
        have g0 : w5.cell? ⟨w.heap.size, 0, none⟩ = some (.slice none 0 0) := hR5.blk.cell (i := 0) rfl
        refine bodyPost_ret (v := .tuple #[.agg #[.slice none 0 0], .int .i64 (at_ : Int), .int .i64 11]) ?hv rfl ?hp
        case hv => (simp [results, Tryd.results25, go_sem, g0]; try rfl)
        case hp =>
          rw [HEQ.out]
          exact UpPost.bad rfl (hFr.trans (hF5.mono (fun k hk => by omega)))
      · have v1 : ¬ (n : Int) - (at_ : Int) < 2 := by omega
        obtain ⟨needs, hneeds⟩ : ∃ z, l.getD at_ 0 = z := ⟨_, rfl⟩
        obtain ⟨y, hy⟩ : ∃ z, l.getD (at_ + 1) 0 = z := ⟨_, rfl⟩
        have b1 := HKC.out wo hFr at_ needs (by rw [get_some (by omega), hneeds])
        have b2 := HKC.out wo hFr (at_ + 1) y (by rw [get_some (by omega), hy])
        have by1 := hall.getD at_
        have by2 := hall.getD (at_ + 1)
        rw [hneeds] at by1
        rw [hy] at by2
        have hFf := Fr.alloc (fun _ => False) wo (.cells #[.int .i64 needs, .slice none 0 0] 51)
        by_cases hlong : y < 1 ∨ 128 < y
        · have HEQ := hid (HBad.out (at_ + 1) 12 [] (by rw [HU.out, hNj, unFns, unFn_long (by omega) hy hlong]; rfl) (by decide))
          clear HU
          clear hFf
          rcases hlong with hlong | hlong
          · skip
            have g0 := hRr.blk.cell (i := 0) rfl
            have z0 := hRr.blk.frozen 0
            have gl := hRr.blk.lt
            have k0 := hQr.blk.cell (i := 0) rfl
            have kl := hQr.blk.lt
            go_wp2_with fail
            have hR5 := (hRr.set 0 (.slice none 0 0)).keep (Fr.alloc (fun _ => False) _ (.cells #[.int .i64 needs, .slice none 0 0] 51)) (fun h => h)
            have hF5 : Fr (fun k => k = w.heap.size) wo ((wo.setCell ⟨w.heap.size, 0, none⟩ (.slice none 0 0)).alloc (.cells #[.int .i64 needs, .slice none 0 0] 51)) := (Fr.setCell (S := fun k => k = w.heap.size) _ _ _ rfl).trans (Fr.alloc _ _ _)
            obtain ⟨w5, hw5⟩ : ∃ w5, w5 = (wo.setCell ⟨w.heap.size, 0, none⟩ (.slice none 0 0)).alloc (.cells #[.int .i64 needs, .slice none 0 0] 51) := ⟨_, rfl⟩
            rw [← hw5] at hR5 hF5 ⊢
            clear hw5 g0 k0
            have g0 : w5.cell? ⟨w.heap.size, 0, none⟩ = some (.slice none 0 0) := hR5.blk.cell (i := 0) rfl
            refine bodyPost_ret (v := .tuple #[.agg #[.slice none 0 0], .int .i64 ((at_ + 1 : Nat) : Int), .int .i64 12]) ?hv rfl ?hp
            case hv => (simp [results, Tryd.results25, go_sem, g0]; try rfl)
            case hp =>
              rw [HEQ.out]
              exact UpPost.bad rfl (hFr.trans (hF5.mono (fun k hk => by omega)))
          · have v3 : ¬ y < 1 := by omega
            have g0 := hRr.blk.cell (i := 0) rfl
            have z0 := hRr.blk.frozen 0
            have gl := hRr.blk.lt
            have k0 := hQr.blk.cell (i := 0) rfl
            have kl := hQr.blk.lt
            go_wp2_with fail
            have hR5 := (hRr.set 0 (.slice none 0 0)).keep (Fr.alloc (fun _ => False) _ (.cells #[.int .i64 needs, .slice none 0 0] 51)) (fun h => h)
            have hF5 : Fr (fun k => k = w.heap.size) wo ((wo.setCell ⟨w.heap.size, 0, none⟩ (.slice none 0 0)).alloc (.cells #[.int .i64 needs, .slice none 0 0] 51)) := (Fr.setCell (S := fun k => k = w.heap.size) _ _ _ rfl).trans (Fr.alloc _ _ _)
            obtain ⟨w5, hw5⟩ : ∃ w5, w5 = (wo.setCell ⟨w.heap.size, 0, none⟩ (.slice none 0 0)).alloc (.cells #[.int .i64 needs, .slice none 0 0] 51) := ⟨_, rfl⟩
            rw [← hw5] at hR5 hF5 ⊢
            clear hw5 g0 k0
            have g0 : w5.cell? ⟨w.heap.size, 0, none⟩ = some (.slice none 0 0) := hR5.blk.cell (i := 0) rfl
            refine bodyPost_ret (v := .tuple #[.agg #[.slice none 0 0], .int .i64 ((at_ + 1 : Nat) : Int), .int .i64 12]) ?hv rfl ?hp
            case hv => (simp [results, Tryd.results25, go_sem, g0]; try rfl)
            case hp =>
              rw [HEQ.out]
              exact UpPost.bad rfl (hFr.trans (hF5.mono (fun k hk => by omega)))
        · have v3 : ¬ y < 1 := by omega
          have v4 : ¬ 128 < y := by omega
          have HFB := hid (fun (q : Nat) (e : Int) => @unFn_bad l at_ y (by omega) hy hlong q e)
          have HFO := hid (fun (q : Nat) (cs : List Ins) (hu : unCode l y.toNat (at_ + 2) [] = (cs, q, 0)) => @unFn_ok l at_ y needs (by omega) hy hlong q cs hu hneeds)
          obtain ⟨M, hM⟩ : ∃ M : Nat, y = M := ⟨y.toNat, by omega⟩
          have hMx : y.toNat = M := by omega
          rw [hMx] at HFB HFO
          subst hM
          clear hy hMx hneeds
          go_wp2_with fail
          have hTf := TBlk.new wo #[.int .i64 needs, .slice none 0 0] 51
          go_loopg [7, 11] M (fun d s7 s11 wq => RiRel wo wo.heap.size needs l M (at_ + 2) n d s7 s11 wq)
          case atStart =>
            exact ⟨0, [], none, 0, by omega, by omega, by go_num, rfl, rfl, hTf, OwnR.nil _ _ _ _, rfl, by omega, hFf.mono (fun _ h => h.elim)⟩
          case round =>
            clear hTf hFf b0 b1 b2
            obtain ⟨i, acc, Ai, ci, hi, hdi, rfl, rfl, hacc, hTi, hOi, hui, hpn, hFi⟩ := hrel
            have HUI := hid hui
            have HDI := hid hdi
            have HOI := hid hOi
            have HACC := hid hacc
            clear hui hdi hOi hacc
            have hti := hTi.blk.lt
            have hwi : wo.heap.size ≤ wr.heap.size := hFi.size
            have hFw : Fr (fun k => w.heap.size ≤ k) w wr := hFr.trans (hFi.mono (fun k hk => by omega))
            have hRi := hRr.keep hFi (by omega)
            have hQi := hQr.keep hFi (by omega)
            have hPi := hTr.keep hFi (by omega)
            by_cases hlti : i < M
            · have hMi : M - i = (M - (i + 1)) + 1 := by omega
              by_cases hk8 : n < at_ + 2 + 8 * i + 8
              · have hde : decErr (sl l (at_ + 2 + 8 * i)) = 11 := sl_short (by omega)
                have hst : unCode l M (at_ + 2) [] = ([], at_ + 2 + 8 * i, 11) := by rw [HUI.out, hMi, unCode, if_neg (by rw [hde]; decide), hde]
                have HEQ := hid (HBad.out (at_ + 2 + 8 * i) 11 [] (by rw [HU.out, hNj, unFns, HFB.out _ _ hst (by decide)]; rfl) (by decide))
                have v5 : (n : Int) - ((at_ + 2 + 8 * i : Nat) : Int) < 8 := by omega
                clear hst hde HU HUI
                have g0 := hRi.blk.cell (i := 0) rfl
                have z0 := hRi.blk.frozen 0
                have gl := hRi.blk.lt
                have k0 := hQi.blk.cell (i := 0) rfl
                have kl := hQi.blk.lt
                go_wp2_with fail
                have hR5 := hRi.set 0 (.slice none 0 0)
                have hF5 : Fr (fun k => k = w.heap.size) wr (wr.setCell ⟨w.heap.size, 0, none⟩ (.slice none 0 0)) := Fr.setCell _ _ _ rfl
                obtain ⟨w5, hw5⟩ : ∃ w5, w5 = wr.setCell ⟨w.heap.size, 0, none⟩ (.slice none 0 0) := ⟨_, rfl⟩
                rw [← hw5] at hR5 hF5 ⊢
                clear hw5 g0 k0
                have g0 : w5.cell? ⟨w.heap.size, 0, none⟩ = some (.slice none 0 0) := hR5.blk.cell (i := 0) rfl
                refine bodyPost_ret (v := .tuple #[.agg #[.slice none 0 0], .int .i64 ((at_ + 2 + 8 * i : Nat) : Int), .int .i64 11]) ?hv rfl ?hp
                case hv => (simp [results, Tryd.results25, go_sem, g0]; try rfl)
                case hp =>
                  rw [HEQ.out]
                  exact UpPost.bad rfl (hFw.trans (hF5.mono (fun k hk => by omega)))
              · have v5 : ¬ (n : Int) - ((at_ + 2 + 8 * i : Nat) : Int) < 8 := by omega
                have hbi : Bys wr wr.heap.size (some ⟨bk, o, none⟩) l := fun _ => ⟨bk, o, rfl, by omega, fun k v hv => HKC.out wr hFw k v hv⟩
                have hdc := rdecode_any (some ⟨bk, o, none⟩) n (at_ + 2 + 8 * i) cap l wr hbi hl hall (by omega) (by omega)
                rw [show (l.drop (at_ + 2 + 8 * i)).take 8 = sl l (at_ + 2 + 8 * i) from rfl] at hdc
                by_cases hde : decErr (sl l (at_ + 2 + 8 * i)) = 0
                · have hin : decIns (sl l (at_ + 2 + 8 * i)) = dec (sl l (at_ + 2 + 8 * i)) := by unfold decIns; rw [if_pos hde]
                  have hstep : unCode l (M - i) (at_ + 2 + 8 * i) acc = unCode l (M - (i + 1)) (at_ + 2 + 8 * (i + 1)) (acc ++ [dec (sl l (at_ + 2 + 8 * i))]) := by
                    rw [hMi, unCode, if_pos hde, show at_ + 2 + 8 * (i + 1) = at_ + 2 + 8 * i + 8 by omega]
                  have HST := hid (HUI.out.trans hstep)
                  rw [hde, hin] at hdc
                  obtain ⟨⟨op, a, b, c, m⟩, hjj⟩ : ∃ q, dec (sl l (at_ + 2 + 8 * i)) = q := ⟨_, rfl⟩
                  rw [hjj] at hdc HST
                  have HDC := hid hdc
                  unfold Ins.val at HDC
                  simp only at HDC
                  clear hin hstep hdc hjj hde HUI hbi
                  go_wp2_with fail
                  refine HDC.out.mono ?_
                  rintro e w4 ⟨rfl, hF4⟩
                  have hF5 := Fr.alloc (fun _ => False) w4 (.cells #[.int .i64 op, .int .i64 a, .int .i64 b, .int .i64 c, .int .i64 m] 23)
                  have hT4 := hTi.keep hF4 (fun h => h)
                  have y0 := hT4.blk.cell (i := 0) rfl
                  have y1 := hT4.blk.cell (i := 1) rfl
                  have yl := hT4.blk.lt
                  have yz := hT4.blk.frozen 1
                  have hFa := hF5.trans (Fr.alloc (fun _ => False) (w4.alloc (.cells #[.int .i64 op, .int .i64 a, .int .i64 b, .int .i64 c, .int .i64 m] 23)) (.cells #[.int .i64 op, .int .i64 a, .int .i64 b, .int .i64 c, .int .i64 m] 23))
                  have hal : acc.length = i := HACC.out
                  have ho5 := (OwnR.same HOI.out hF4).same hFa
                  rw [hal] at ho5
                  have HO5 := hid ho5
                  have hn5 := news_cells (w4.alloc (.cells #[.int .i64 op, .int .i64 a, .int .i64 b, .int .i64 c, .int .i64 m] 23)) 23 (Ins.cells ⟨op, a, b, c, m⟩)
                  rw [size_alloc] at hn5
                  have HN5 := hid hn5
                  have hw4 : wo.heap.size ≤ w4.heap.size := by have := hF4.size; omega
                  have hT5 := hT4.keep hFa (fun h => h)
                  clear hn5 ho5
                  go_wp2_with (at_builtin; refine wpList_append_own _ rfl _ _ 49 rfl wo.heap.size 23 i1 (.agg #[.int .i64 0, .int .i64 0, .int .i64 0, .int .i64 0, .int .i64 0]) 5 40 Tryd.underlying49 HJ.out HY0.out HY1.out HY2.out rfl (by decide) (.slice Ai i ci) i _ rfl HO5.out ⟨w4.heap.size + 1, 0, none⟩ 1 1 (Ins.cells ⟨op, a, b, c, m⟩) rfl rfl HN5.out (Ins.one _) (by unfold maxLen; omega) (by omega) (by first | omega | (simp; omega)) ?_; intro v6 w6 hown6 hgrow6 hnil6; clear hnil6; obtain ⟨A6, c6, rfl, ho6⟩ := OwnR.form hown6; have hF6 := Fr.of_grown hgrow6; have HO6 := hid ho6; clear hown6 hgrow6 ho6; have hT6 := hT5.keep hF6 (OwnR.ne HO5.out hT5 (by decide)); have x1 := hT6.blk.cell (i := 1) rfl; have xl := hT6.blk.lt; have xz := hT6.blk.frozen 1)
                  have hF7 : Fr (fun k => k = wo.heap.size) w6 (w6.setCell ⟨wo.heap.size, 1, none⟩ (.slice A6 (i + 1) c6)) := Fr.setCell _ _ _ rfl
                  have hlt5 := OwnR.lt HO5.out
                  go_roundg (M - (i + 1))
                  case rel =>
                    refine ⟨i + 1, acc ++ [⟨op, a, b, c, m⟩], A6, c6, by omega, rfl, by go_num, by go_num, by simp [hal], hT6.set 1 _, ?_, HST.out, by omega, ?_⟩
                    · have h7 := OwnR.keep HO6.out hF7 (fun k hk e => OwnR.ne HO6.out hT6 (by decide) (e ▸ hk))
                      unfold OwnI
                      rw [List.length_append, hal, List.flatMap_append]
                      exact h7.eq (by simp)
                    · exact hFi.trans (((hF4.trans hFa).mono (fun _ h => h.elim)).trans ((hF6.mono (fun k hk => (hlt5 k hk).1)).trans (hF7.mono (fun k hk => by omega))))
                  case measure => have := HDI.out; omega
                · obtain ⟨y, hy⟩ : ∃ y, decErr (sl l (at_ + 2 + 8 * i)) = y := ⟨_, rfl⟩
                  have hin : decIns (sl l (at_ + 2 + 8 * i)) = Ins.zero := by unfold decIns; rw [if_neg hde]
                  have hst : unCode l M (at_ + 2) [] = ([], at_ + 2 + 8 * i, y) := by rw [HUI.out, hMi, unCode, if_neg hde, hy]
                  rw [hy] at hde
                  have HEQ := hid (HBad.out (at_ + 2 + 8 * i) y [] (by rw [HU.out, hNj, unFns, HFB.out _ _ hst hde, if_neg hde]) hde)
                  rw [hy, hin] at hdc
                  have HDC := hid hdc
                  unfold Ins.val Ins.zero at HDC
                  simp only at HDC
                  have t1 : (y != 0) = true := by simpa using hde
                  clear hin hst hdc hde HU HUI hy hbi
                  go_wp2_with fail
                  refine HDC.out.mono ?_
                  rintro e w4 ⟨rfl, hF4⟩
                  have hF6 := Fr.alloc (fun _ => False) w4 (.cells #[.int .i64 0, .int .i64 0, .int .i64 0, .int .i64 0, .int .i64 0] 23)
                  have hR4 := hRi.keep (hF4.trans hF6) (fun h => h)
                  have hQ4 := hQi.keep (hF4.trans hF6) (fun h => h)
                  have g0 := hR4.blk.cell (i := 0) rfl
                  have z0 := hR4.blk.frozen 0
                  have gl := hR4.blk.lt
                  have k0 := hQ4.blk.cell (i := 0) rfl
                  have kl := hQ4.blk.lt
                  go_wp2_with fail
                  have hR5 := hR4.set 0 (.slice none 0 0)
                  have hF5 : Fr (fun k => k = w.heap.size) (w4.alloc (.cells #[.int .i64 0, .int .i64 0, .int .i64 0, .int .i64 0, .int .i64 0] 23)) ((w4.alloc (.cells #[.int .i64 0, .int .i64 0, .int .i64 0, .int .i64 0, .int .i64 0] 23)).setCell ⟨w.heap.size, 0, none⟩ (.slice none 0 0)) := Fr.setCell _ _ _ rfl
                  obtain ⟨w5, hw5⟩ : ∃ w5, w5 = (w4.alloc (.cells #[.int .i64 0, .int .i64 0, .int .i64 0, .int .i64 0, .int .i64 0] 23)).setCell ⟨w.heap.size, 0, none⟩ (.slice none 0 0) := ⟨_, rfl⟩
                  rw [← hw5] at hR5 hF5 ⊢
                  clear hw5 g0 k0
                  have g0 : w5.cell? ⟨w.heap.size, 0, none⟩ = some (.slice none 0 0) := hR5.blk.cell (i := 0) rfl
                  refine bodyPost_ret (v := .tuple #[.agg #[.slice none 0 0], .int .i64 ((at_ + 2 + 8 * i : Nat) : Int), .int .i64 y]) ?hv rfl ?hp
                  case hv => (simp [results, Tryd.results25, go_sem, g0]; try rfl)
                  case hp =>
                    rw [HEQ.out]
                    exact UpPost.bad rfl (hFw.trans (((hF4.trans hF6).mono (fun _ h => h.elim)).trans (hF5.mono (fun k hk => by omega))))
            · obtain rfl : i = M := by omega
              have hst : unCode l i (at_ + 2) [] = (acc, at_ + 2 + 8 * i, 0) := by rw [HUI.out, Nat.sub_self, unCode]
              have hfo := HFO.out _ _ hst
              have HST : Hid (unFns l N 1 [] = unFns l (N - (j + 1)) (at_ + 2 + 8 * i) (L.map (·.f) ++ [⟨needs, acc⟩])) := hid (by rw [HU.out, hNj, unFns, hfo, if_pos rfl])
              have hal : acc.length = i := HACC.out
              have y0 := hTi.blk.cell (i := 0) rfl
              have y1 := hTi.blk.cell (i := 1) rfl
              have q0 := hPi.blk.cell (i := 0) rfl
              have ql := hPi.blk.lt
              clear hst hfo HU HUI
              have hFa := Fr.alloc (fun _ => False) wr (.cells #[.int .i64 needs, .slice Ai i ci] 51)
              have hP1 := HO.out.keep hFi (fun k h1 h2 => by omega)
              have HP5 := hid (hP1.same hFa)
              have hrow := HP5.out.row
              rw [HL.out] at hrow
              have HO5 := hid hrow
              have HN5 := hid (news_cells wr 51 [.int .i64 needs, .slice Ai i ci])
              clear hrow hP1
              have hT5 := hPi.keep hFa (fun h => h)
              go_wp2_with (at_builtin; refine wpList_append_own _ rfl _ _ 40 rfl w.heap.size 51 i0 (.agg #[.int .i64 0, .slice none 0 0]) 2 32 Tryd.underlying40 HI.out HZ0.out HZ1.out HZ2.out rfl (by decide) (.slice Aj j cj) j _ rfl HO5.out ⟨wr.heap.size, 0, none⟩ 1 1 [.int .i64 needs, .slice Ai i ci] rfl rfl HN5.out (fo_one _ _ _ _) (by unfold maxLen; omega) (by omega) (by first | omega | (simp; omega)) ?_; intro v6 w6 hown6 hgrow6 hnil6; clear hnil6; obtain ⟨A6, c6, rfl, ho6⟩ := OwnR.form hown6; have hF6 := Fr.of_grown hgrow6; have HO6 := hid ho6; clear hown6 hgrow6 ho6; have hT6 := hT5.keep hF6 (OwnR.ne HO5.out hT5 (by decide)); have x0 := hT6.blk.cell (i := 0) rfl; have xl := hT6.blk.lt; have xz := hT6.blk.frozen 0)
              have hR5 := hRi.keep hFa (fun h => h)
              have hQ5 := hQi.keep hFa (fun h => h)
              have hR6 := hR5.keep hF6 (OwnR.ne HO5.out hR5 (by decide))
              have hQ6 := hQ5.keep hF6 (OwnR.ne HO5.out hQ5 (by decide))
              have hP6 : OwnP w6 w.heap.size A6 c6 (L ++ [⟨⟨needs, acc⟩, Ai, ci⟩]) := HP5.out.snoc (C := wo.heap.size) (OwnR.same HOI.out hFa) (by omega) (fun q hq k hk => (OwnR.lt (HO.out.codes q hq) k hk).2) (by
                rw [HL.out]
                refine OwnR.eq HO6.out ?_
                simp only [Fo.cells, hal]) hF6
              have hF7 : Fr (fun k => k = w.heap.size + 2) w6 (w6.setCell ⟨w.heap.size + 2, 0, none⟩ (.slice A6 (j + 1) c6)) := Fr.setCell _ _ _ rfl
              have hlt5 := OwnR.lt HO5.out
              have hP7 := hP6.keepAt hT6 (by decide) (by decide) hF7
              go_roundg (N - (j + 1))
              case rel =>
                refine ⟨j + 1, at_ + 2 + 8 * i, L ++ [⟨⟨needs, acc⟩, Ai, ci⟩], A6, c6, by omega, rfl, rfl, by go_num, by simp [HL.out], hpn, hR6.keep hF7 (by omega), hQ6.keep hF7 (by omega), hT6.set 0 _, hP7, ?_, ?_⟩
                · rw [List.map_append]
                  exact HST.out
                · exact hFw.trans ((hFa.mono (fun _ h => h.elim)).trans ((hF6.mono (fun k hk => (hlt5 k hk).1)).trans (hF7.mono (fun k hk => by omega))))
              case measure => have := HD.out; omega
    · obtain rfl : j = N := by omega
      have hstep : unFns l j 1 [] = (L.map (·.f), at_, 0) := by
        rw [HU.out, Nat.sub_self, unFns]
      by_cases hmore : at_ < n
      · have HEQ := hid (HMore.out _ _ hstep (by omega))
        clear hstep HU
        have g0 := hRr.blk.cell (i := 0) rfl
        have z0 := hRr.blk.frozen 0
        have gl := hRr.blk.lt
        have k0 := hQr.blk.cell (i := 0) rfl
        have kl := hQr.blk.lt
        go_wp2_with fail
        have hR5 := hRr.set 0 (.slice none 0 0)
        have hF5 : Fr (fun k => k = w.heap.size) wo (wo.setCell ⟨w.heap.size, 0, none⟩ (.slice none 0 0)) := Fr.setCell _ _ _ rfl
        obtain ⟨w5, hw5⟩ : ∃ w5, w5 = wo.setCell ⟨w.heap.size, 0, none⟩ (.slice none 0 0) := ⟨_, rfl⟩
        rw [← hw5] at hR5 hF5 ⊢
        clear hw5 g0 k0
        have g0 : w5.cell? ⟨w.heap.size, 0, none⟩ = some (.slice none 0 0) := hR5.blk.cell (i := 0) rfl
        refine bodyPost_ret (v := .tuple #[.agg #[.slice none 0 0], .int .i64 (at_ : Int), .int .i64 11]) ?hv rfl ?hp
        case hv => (simp [results, Tryd.results25, go_sem, g0]; try rfl)
        case hp =>
          rw [HEQ.out]
          exact UpPost.bad rfl (hFr.trans (hF5.mono (fun k hk => by omega)))
      · have HEQ := hid (HOk.out _ _ hstep (by omega))
        clear hstep HU
        have g0 := hRr.blk.cell (i := 0) rfl
        have z0 := hRr.blk.frozen 0
        have gl := hRr.blk.lt
        have k0 := hTr.blk.cell (i := 0) rfl
        have kl := hTr.blk.lt
        go_wp2_with fail
        have hR5 := hRr.set 0 (.slice Aj j cj)
        have hF5 : Fr (fun k => k = w.heap.size) wo (wo.setCell ⟨w.heap.size, 0, none⟩ (.slice Aj j cj)) := Fr.setCell _ _ _ rfl
        obtain ⟨w5, hw5⟩ : ∃ w5, w5 = wo.setCell ⟨w.heap.size, 0, none⟩ (.slice Aj j cj) := ⟨_, rfl⟩
        rw [← hw5] at hR5 hF5 ⊢
        clear hw5 g0 k0
        have g0 : w5.cell? ⟨w.heap.size, 0, none⟩ = some (.slice Aj j cj) := hR5.blk.cell (i := 0) rfl
        have hP5 := HO.out.keepAt hRr (by decide) (by decide) hF5
        have hLm : (L.map (·.f)).length = j := by rw [List.length_map, HL.out]
        refine bodyPost_ret (v := .tuple #[.agg #[.slice Aj j cj], .int .i64 0, .int .i64 0]) ?hv rfl ?hp
        case hv => (simp [results, Tryd.results25, go_sem, g0]; try rfl)
        case hp =>
          rw [HEQ.out]
          exact ⟨Aj, cj, L, by simp [hLm], hP5, rfl, Fr.to_none (hFr.trans (hF5.mono (fun k hk => by omega)))⟩

theorem runpack_any (A : Option Addr) (n cap : Nat) (l : List Int) (w : World) (hs : Src w w.heap.size A n cap l) (hn : n ≤ 100000) :
    Calls Tryd.prog 25 #[.slice A n cap] w (UpPost w (unProg l)) := by
  by_cases h0 : n = 0
  · exact runpack_nil A n cap l w hs.1 h0
  · by_cases h : l.getD 0 0 < 1 ∨ 32 < l.getD 0 0
    · exact runpack_long A n cap l w hs hn _ rfl h0 h
    · exact runpack_main A n cap l w hs hn _ rfl h0 h

end Go.Proofs.YtecobbojbdfffaaDoor
