/-
  The program of bytes.
-/
import Derived.Test.YtecobbojbdfffaaDoorUnpacked
namespace Go.Proofs.YtecobbojbdfffaaDoor
open Go.RowKit

theorem unpacked_any (A : Option Addr) (n cap nb bb p : Nat) (l : List Int) (B : Nat) (w : World) (ht : Tabs w) (h1 : TBlk w nb #[.int .i64 p] 3) (h2 : TBlk w bb #[.slice A n cap] 29) (hs : Src w B A n cap l) (hB : B ≤ bb) (hbn : bb < nb) (h2B : 2 ≤ bb) (hn : n ≤ 100000) (hp : p ≤ n) :
    Calls Tryd.prog 33 #[takerV nb bb] w (UnPost w nb (unFn l p)) := by
  by_cases hk : p + 2 ≤ n
  · by_cases h : l.getD (p + 1) 0 < 1 ∨ 128 < l.getD (p + 1) 0
    · exact unpacked_long A n cap nb bb p l B w h1 h2 hs hB hbn hn _ _ rfl rfl hk h
    · exact unpacked_main A n cap nb bb p l B w ht h1 h2 hs hB hbn h2B hn _ _ rfl rfl hk h
  · exact unpacked_short A n cap nb bb p l w h1 h2 hs.1 (by omega) hn hp

theorem get_some {l : List Int} {k : Nat} (h : k < l.length) : l[k]? = some (l.getD k 0) := by
  rw [List.getD_eq_getElem?_getD, List.getElem?_eq_getElem h]
  rfl

theorem unCode_at {l : List Int} {n p : Nat} {acc : List Ins} (h : (unCode l n p acc).2.2 = 0) (hp : p ≤ l.length) : (unCode l n p acc).2.1 ≤ l.length := by
  induction n generalizing p acc with
  | zero => exact hp
  | succ n ih =>
    unfold unCode at h ⊢
    split at h
    · rename_i hd
      rw [if_pos hd]
      exact ih h (by have := sl_ok hd; omega)
    · rename_i hd
      exact absurd h hd

theorem unFn_at {l : List Int} {p : Nat} (h : (unFn l p).err = 0) : (unFn l p).at_ ≤ l.length := by
  unfold unFn at h ⊢
  split at h
  · cases h
  · rename_i h1
    rw [if_neg h1]
    split at h
    · cases h
    · rename_i h2
      rw [if_neg h2]
      split at h
      · rename_i h3
        rw [if_pos h3]
        exact unCode_at h3 (by omega)
      · rename_i h3
        exact absurd h h3

/-- A write to a block of another kind leaves an own program. -/
theorem OwnP.keepAt {w w' : World} {B : Nat} {A : Option Addr} {cap : Nat} {L : List Fo} (h : OwnP w B A cap L) {g : Nat} {c : Array Value} {t : TypeId} (hg : TBlk w g c t) (h1 : t ≠ 51) (h2 : t ≠ 23) (f : Fr (fun k => k = g) w w') : OwnP w' B A cap L :=
  ⟨h.row.keep f (fun _ hj e => h.row.ne hg h1 (e ▸ hj)), fun x hx => OwnR.keep (h.codes x hx) f (fun _ hj e => OwnR.ne (h.codes x hx) hg h2 (e ▸ hj)), h.apart⟩

/-- One function more. -/
theorem OwnP.snoc {w w' : World} {B C : Nat} {A A' : Option Addr} {cap cap' : Nat} {L : List Fo} {x : Fo} (h : OwnP w B A cap L) (hx : OwnI w C x.A x.c x.f.code) (hBC : B ≤ C) (hC : ∀ y ∈ L, ∀ j, ownB y.A j → j < C)
    (hr : OwnR w' B 51 2 A' (L.length + 1) cap' (L.flatMap Fo.cells ++ x.cells)) (f : Fr (ownB A) w w') : OwnP w' B A' cap' (L ++ [x]) := by
  have hk : ∀ {D : Nat} {A2 : Option Addr} {c2 : Nat} {l2 : List Ins}, OwnI w D A2 c2 l2 → OwnI w' D A2 c2 l2 := fun {D A2 c2 l2} hi => OwnR.keep hi f (fun j hj => OwnR.apart hi h.row (by decide) j hj)
  refine ⟨?_, fun y hy => ?_, ?_⟩
  · rw [List.length_append, List.flatMap_append]
    exact hr.eq (by simp)
  · rw [List.mem_append] at hy
    rcases hy with hy | hy
    · exact hk (h.codes y hy)
    · simp at hy
      subst hy
      exact OwnR.less (hk hx) hBC
  · rw [List.pairwise_append]
    refine ⟨h.apart, List.pairwise_singleton _ _, fun y hy z hz j hj hj' => ?_⟩
    simp at hz
    subst hz
    have h1 := hC y hy j hj
    have h2 := (OwnR.lt hx j hj').1
    omega

/-- What Unpack leaves. -/
def UpPost (w : World) (r : UP) (e : Ending) (w' : World) : Prop :=
  ∃ A' c' L, e = .returned (.tuple #[.agg #[.slice A' r.p.length c'], .int .i64 (r.at_ : Int), .int .i64 r.err]) ∧ OwnP w' w.heap.size A' c' L ∧ L.map (·.f) = r.p ∧ Fr (fun _ => False) w w'

theorem UpPost.bad {w w' : World} {q : Nat} {y : Int} {e : Ending} (he : e = .returned (.tuple #[.agg #[.slice none 0 0], .int .i64 (q : Int), .int .i64 y])) (hF : Fr (fun k => w.heap.size ≤ k) w w') : UpPost w ⟨[], q, y⟩ e w' :=
  ⟨none, 0, [], he, OwnP.nil _ _, rfl, Fr.to_none hF⟩

theorem fo_one (needs : Int) (A : Option Addr) (n c : Nat) : ∀ u ∈ [Value.int .i64 needs, .slice A n c], u.oneCell' = true := by
  intro u hu
  simp only [List.mem_cons, List.not_mem_nil, or_false] at hu
  rcases hu with rfl | rfl <;> rfl

def UpRel (w : World) (nb bb pb B1 n cap : Nat) (A : Option Addr) (l : List Int) (N : Nat) (d : Nat) (s : Value) (wr : World) : Prop :=
  ∃ (j at_ : Nat) (L : List Fo) (Aj : Option Addr) (cj : Nat), j ≤ N ∧ d = N - j ∧ s = .int .u8 j ∧ L.length = j ∧ at_ ≤ n ∧ TBlk wr nb #[.int .i64 (at_ : Int)] 3 ∧ TBlk wr bb #[.slice A n cap] 29 ∧ TBlk wr w.heap.size #[.slice none 0 0] 42 ∧
    TBlk wr pb #[.slice Aj j cj] 42 ∧ OwnP wr B1 Aj cj L ∧ unFns l N 1 [] = unFns l (N - j) at_ (L.map (·.f)) ∧ Fr (fun k => w.heap.size ≤ k) w wr

theorem unProg_nil {l : List Int} (h : l.length = 0) : unProg l = ⟨[], 0, 11⟩ := by
  unfold unProg
  rw [if_pos h]
theorem unProg_long {l : List Int} {x : Int} (h : l.length ≠ 0) (hx : l.getD 0 0 = x) (h2 : x < 1 ∨ 32 < x) : unProg l = ⟨[], 0, 12⟩ := by
  unfold unProg
  rw [if_neg h, if_pos (by rw [hx]; exact h2)]
theorem unProg_bad {l : List Int} {x : Int} (h : l.length ≠ 0) (hx : l.getD 0 0 = x) (h2 : ¬ (x < 1 ∨ 32 < x)) {q : Nat} {y : Int} {c : List Fn} (hu : unFns l x.toNat 1 [] = (c, q, y)) (hy : y ≠ 0) : unProg l = ⟨[], q, y⟩ := by
  unfold unProg
  rw [if_neg h, hx, if_neg h2, hu, if_pos hy]
theorem unProg_more {l : List Int} {x : Int} (h : l.length ≠ 0) (hx : l.getD 0 0 = x) (h2 : ¬ (x < 1 ∨ 32 < x)) {q : Nat} {c : List Fn} (hu : unFns l x.toNat 1 [] = (c, q, 0)) (hq : q < l.length) : unProg l = ⟨[], q, 11⟩ := by
  unfold unProg
  rw [if_neg h, hx, if_neg h2, hu, if_neg (by simp), if_pos hq]
theorem unProg_ok {l : List Int} {x : Int} (h : l.length ≠ 0) (hx : l.getD 0 0 = x) (h2 : ¬ (x < 1 ∨ 32 < x)) {q : Nat} {c : List Fn} (hu : unFns l x.toNat 1 [] = (c, q, 0)) (hq : ¬ q < l.length) : unProg l = ⟨c, 0, 0⟩ := by
  unfold unProg
  rw [if_neg h, hx, if_neg h2, hu, if_neg (by simp), if_neg hq]

set_option maxRecDepth 100000 in
set_option maxHeartbeats 4000000 in
theorem unpack_nil (A : Option Addr) (n cap : Nat) (l : List Int) (w : World) (hs : Src w w.heap.size A n cap l) (h0 : n = 0) :
    Calls Tryd.prog 24 #[.slice A n cap] w (UpPost w (unProg l)) := by
  have hl := hs.1
  have hF := Fr.alloc (fun _ => False) w (.cells #[.slice none 0 0] 42)
  have hR := TBlk.new w #[.slice none 0 0] 42
  have HFR := hid (from_ok A n cap (w.alloc (.cells #[.slice none 0 0] 42)))
  rw [size_alloc] at HFR
  obtain ⟨nb, hnb⟩ : ∃ nb, w.heap.size + 1 + 1 = nb := ⟨_, rfl⟩
  obtain ⟨bb, hbb⟩ : ∃ bb, w.heap.size + 1 = bb := ⟨_, rfl⟩
  rw [hnb, hbb] at HFR
  unfold takerV at HFR
  have HEQ := hid (unProg_nil (l := l) (by omega))
  subst h0
  have n1 := nil_yes
  clear hs hl
  go_enter Tryd.func24, Tryd.ntmps24
  go_wp2_with fail
  refine HFR.out.mono ?_
  rintro e w1 ⟨rfl, hN1, hb1, hF1⟩
  have HT := hid (take_no A 0 cap nb bb 0 1 w1 hN1.blk hb1.blk (by omega) (by omega) (by omega))
  simp only [show ((1 : Nat) : Int) = 1 from rfl] at HT
  go_wp2_with fail
  refine HT.out.mono ?_
  rintro e w2 ⟨rfl, rfl⟩
  have hR1 := hR.keep hF1 (fun h => h)
  have g0 := hR1.blk.cell (i := 0) rfl
  have z0 := hR1.blk.frozen 0
  have gl := hR1.blk.lt
  go_wp2_with fail
  have hR5 := hR1.set 0 (.slice none 0 0)
  have hF5 : Fr (fun k => k = w.heap.size) w1 (w1.setCell ⟨w.heap.size, 0, none⟩ (.slice none 0 0)) := Fr.setCell _ _ _ rfl
  obtain ⟨w5, hw5⟩ : ∃ w5, w5 = w1.setCell ⟨w.heap.size, 0, none⟩ (.slice none 0 0) := ⟨_, rfl⟩
  rw [← hw5] at hR5 hF5 ⊢
  clear hw5 g0
  have g0 : w5.cell? ⟨w.heap.size, 0, none⟩ = some (.slice none 0 0) := hR5.blk.cell (i := 0) rfl
  refine bodyPost_ret (v := .tuple #[.agg #[.slice none 0 0], .int .i64 0, .int .i64 11]) ?hv rfl ?hp
  case hv => (simp [results, Tryd.results24, go_sem, g0]; try rfl)
  case hp =>
    rw [HEQ.out]
    exact UpPost.bad rfl (((hF.trans hF1).mono (fun _ h => h.elim)).trans (hF5.mono (fun k hk => by omega)))

set_option maxRecDepth 100000 in
set_option maxHeartbeats 4000000 in
theorem unpack_long (A : Option Addr) (n cap : Nat) (l : List Int) (w : World) (ht : Tabs w) (hs : Src w w.heap.size A n cap l) (hn : n ≤ 100000) (x : Int) (hx : l.getD 0 0 = x) (h0 : n ≠ 0) (h : x < 1 ∨ 32 < x) :
    Calls Tryd.prog 24 #[.slice A n cap] w (UpPost w (unProg l)) := by
  have hsrc := hs
  obtain ⟨hl, hc, hm, hb, hall⟩ := hs
  have h2w := ht.two
  have hF := Fr.alloc (fun _ => False) w (.cells #[.slice none 0 0] 42)
  have hR := TBlk.new w #[.slice none 0 0] 42
  have HFR := hid (from_ok A n cap (w.alloc (.cells #[.slice none 0 0] 42)))
  rw [size_alloc] at HFR
  obtain ⟨nb, hnb⟩ : ∃ nb, w.heap.size + 1 + 1 = nb := ⟨_, rfl⟩
  obtain ⟨bb, hbb⟩ : ∃ bb, w.heap.size + 1 = bb := ⟨_, rfl⟩
  rw [hnb, hbb] at HFR
  unfold takerV at HFR
  have hx0 : ((l.drop 0).take 1)[0]? = some x := by rw [List.drop_zero, List.getElem?_take, if_pos (by omega), get_some (by omega), hx]
  have bx := hall.getD 0
  rw [hx] at bx
  have HEQ := hid (unProg_long (l := l) (by omega) hx h)
  clear hx
  go_enter Tryd.func24, Tryd.ntmps24
  go_wp2_with fail
  refine HFR.out.mono ?_
  rintro e w1 ⟨rfl, hN1, hb1, hF1⟩
  have s1 := hN1.blk.lt
  have HT := hid (tk_yes A n cap nb bb 0 1 l w.heap.size w1 hN1 hb1 ⟨hl, hc, hm, hb.same (hF.trans hF1) (Nat.le_refl _), hall⟩ (by omega) (by omega) (by omega) (by omega) (by omega) (by omega))
  simp only [show ((1 : Nat) : Int) = 1 from rfl] at HT
  go_wp2_with fail
  refine HT.out.mono ?_
  rintro e w2 ⟨b, o, c', rfl, hbB, hcell, hN2, hF2⟩
  have c0 := hcell 0 x hx0
  rw [Nat.add_zero] at c0
  have hs2 := hF2.size
  have bl : b < w2.heap.size := by omega
  have hR2 := (hR.keep hF1 (fun h => h)).keep hF2 (by omega)
  have hb2 := hb1.keep hF2 (by omega)
  have nn := nil_no ⟨b, o, none⟩ 1 c'
  have hFw2 : Fr (fun k => w.heap.size ≤ k) w w2 := ((hF.trans hF1).mono (fun _ h => h.elim)).trans (hF2.mono (fun k hk => by omega))
  clear HT hcell hx0
  go_wp2_with fail
  refine (within_no x 32 w2 (by omega)).mono ?_
  rintro e w3 ⟨rfl, rfl⟩
  have g0 := hR2.blk.cell (i := 0) rfl
  have z0 := hR2.blk.frozen 0
  have gl := hR2.blk.lt
  go_wp2_with fail
  have hR5 := hR2.set 0 (.slice none 0 0)
  have hF5 : Fr (fun k => k = w.heap.size) w2 (w2.setCell ⟨w.heap.size, 0, none⟩ (.slice none 0 0)) := Fr.setCell _ _ _ rfl
  obtain ⟨w5, hw5⟩ : ∃ w5, w5 = w2.setCell ⟨w.heap.size, 0, none⟩ (.slice none 0 0) := ⟨_, rfl⟩
  rw [← hw5] at hR5 hF5 ⊢
  clear hw5 g0
  have g0 : w5.cell? ⟨w.heap.size, 0, none⟩ = some (.slice none 0 0) := hR5.blk.cell (i := 0) rfl
  refine bodyPost_ret (v := .tuple #[.agg #[.slice none 0 0], .int .i64 0, .int .i64 12]) ?hv rfl ?hp
  case hv => (simp [results, Tryd.results24, go_sem, g0]; try rfl)
  case hp =>
    rw [HEQ.out]
    exact UpPost.bad rfl (hFw2.trans (hF5.mono (fun k hk => by omega)))

set_option maxRecDepth 100000 in
set_option maxHeartbeats 4000000 in
theorem unpack_main (A : Option Addr) (n cap : Nat) (l : List Int) (w : World) (ht : Tabs w) (hs : Src w w.heap.size A n cap l) (hn : n ≤ 100000) (x : Int) (hx : l.getD 0 0 = x) (h0 : n ≠ 0) (h : ¬ (x < 1 ∨ 32 < x)) :
    Calls Tryd.prog 24 #[.slice A n cap] w (UpPost w (unProg l)) := by
  have hsrc := hs
  obtain ⟨hl, hc, hm, hb, hall⟩ := hs
  have h2w := ht.two
  have hF := Fr.alloc (fun _ => False) w (.cells #[.slice none 0 0] 42)
  have hR := TBlk.new w #[.slice none 0 0] 42
  have HFR := hid (from_ok A n cap (w.alloc (.cells #[.slice none 0 0] 42)))
  rw [size_alloc] at HFR
  obtain ⟨nb, hnb⟩ : ∃ nb, w.heap.size + 1 + 1 = nb := ⟨_, rfl⟩
  obtain ⟨bb, hbb⟩ : ∃ bb, w.heap.size + 1 = bb := ⟨_, rfl⟩
  rw [hnb, hbb] at HFR
  unfold takerV at HFR
  have hx0 : ((l.drop 0).take 1)[0]? = some x := by rw [List.drop_zero, List.getElem?_take, if_pos (by omega), get_some (by omega), hx]
  have bx := hall.getD 0
  rw [hx] at bx
  have HBad := hid (fun (q : Nat) (y : Int) (cs : List Fn) => @unProg_bad l x (by omega) hx h q y cs)
  have HMore := hid (fun (q : Nat) (cs : List Fn) => @unProg_more l x (by omega) hx h q cs)
  have HOk := hid (fun (q : Nat) (cs : List Fn) => @unProg_ok l x (by omega) hx h q cs)
  obtain ⟨i0, hi, hzz⟩ := Option.map_eq_some_iff.1 Tryd.infof
  simp only [Prod.mk.injEq] at hzz
  obtain ⟨hz0, hz1, hz2⟩ := hzz
  have HI := hid hi
  have HZ0 := hid hz0
  have HZ1 := hid hz1
  have HZ2 := hid hz2
  clear hi hz0 hz1 hz2
  obtain ⟨N, hN⟩ : ∃ N : Nat, x = N := ⟨x.toNat, by omega⟩
  have hNx : x.toNat = N := by omega
  rw [hNx] at HBad HMore HOk
  subst hN
  clear hx hNx
  go_enter Tryd.func24, Tryd.ntmps24
  go_wp2_with fail
  refine HFR.out.mono ?_
  rintro e w1 ⟨rfl, hN1, hb1, hF1⟩
  have s1 := hN1.blk.lt
  have HT := hid (tk_yes A n cap nb bb 0 1 l w.heap.size w1 hN1 hb1 ⟨hl, hc, hm, hb.same (hF.trans hF1) (Nat.le_refl _), hall⟩ (by omega) (by omega) (by omega) (by omega) (by omega) (by omega))
  simp only [show ((1 : Nat) : Int) = 1 from rfl] at HT
  go_wp2_with fail
  refine HT.out.mono ?_
  rintro e w2 ⟨b, o, c', rfl, hbB, hcell, hN2, hF2⟩
  have c0 := hcell 0 N hx0
  rw [Nat.add_zero] at c0
  have hs2 := hF2.size
  have bl : b < w2.heap.size := by omega
  have hR2 := (hR.keep hF1 (fun h => h)).keep hF2 (by omega)
  have hb2 := hb1.keep hF2 (by omega)
  have nn := nil_no ⟨b, o, none⟩ 1 c'
  have hFw2 : Fr (fun k => w.heap.size ≤ k) w w2 := ((hF.trans hF1).mono (fun _ h => h.elim)).trans (hF2.mono (fun k hk => by omega))
  clear HT hcell hx0
  go_wp2_with fail
  refine (within_yes N 32 w2 (by omega)).mono ?_
  rintro e w3 ⟨rfl, rfl⟩
  go_wp2_with fail
  have hFb := Fr.alloc (fun _ => False) w2 (.cells #[.slice none 0 0] 42)
  have hTb := TBlk.new w2 #[.slice none 0 0] 42
  go_loopg [37] N (fun d s wr => UpRel w nb bb w2.heap.size (w.heap.size + 3) n cap A l N d s wr)
  case atStart =>
    exact ⟨0, 1, [], none, 0, by omega, by omega, rfl, rfl, by omega, hN2.keep hFb (fun h => h), hb2.keep hFb (fun h => h), hR2.keep hFb (fun h => h), hTb, OwnP.nil _ _, rfl, hFw2.trans (hFb.mono (fun _ h => h.elim))⟩
  case round =>
    clear c0 nn hTb hFb hN2 hb2 hR2 hb1 hN1
    obtain ⟨j, at_, L, Aj, cj, hj, hd, rfl, hL, hat, hNr, hbr, hRr, hTr, hOr, hu, hFr⟩ := hrel
    have HU := hid hu
    have HD := hid hd
    have HO := hid hOr
    have HL := hid hL
    clear hu hd hOr hL
    have hnr := hNr.blk.lt
    have hrr := hRr.blk.lt
    have htr := hTr.blk.lt
    have hwr : w.heap.size ≤ wr.heap.size := hFr.size
    have hTabs := ht.keep hFr (by omega) (by omega)
    have hyr := hb.keep hFr (Nat.le_refl _) (fun k h1 h2 => by omega)
    by_cases hlt : j < N
    · have hNj : N - j = (N - (j + 1)) + 1 := by omega
      have hun := unpacked_any A n cap nb bb at_ l w.heap.size wr hTabs hNr hbr ⟨hl, hc, hm, hyr, hall⟩ (by omega) (by omega) (by omega) hn hat
      unfold takerV at hun
      obtain ⟨r, hr⟩ : ∃ r, unFn l at_ = r := ⟨_, rfl⟩
      have HST : Hid (r.err = 0 → unFns l N 1 [] = unFns l (N - (j + 1)) r.at_ (L.map (·.f) ++ [r.f])) := hid (fun he => by rw [HU.out, hNj, unFns, hr, if_pos he])
      have HSB : Hid (r.err ≠ 0 → unFns l N 1 [] = ([], r.at_, r.err)) := hid (fun he => by rw [HU.out, hNj, unFns, hr, if_neg he])
      have HAT : Hid (r.err = 0 → r.at_ ≤ n) := hid (fun he => by rw [← hr] at he ⊢; have := unFn_at he; omega)
      rw [hr] at hun
      have HUN := hid hun
      clear hun hr HU
      obtain ⟨⟨needs, code⟩, at2, y⟩ := r
      simp only at HST HSB HAT
      go_wp2_with fail
      refine HUN.out.mono ?_
      rintro e w3 ⟨A3, c3, rfl, hO3, hN3, hF3⟩
      simp only at hO3 hN3
      obtain ⟨ln, hln⟩ : ∃ ln, code.length = ln := ⟨_, rfl⟩
      simp only [hln]
      have hs3 := hF3.size
      have hR3 := hRr.keep hF3 (by omega)
      have hT3 := hTr.keep hF3 (by omega)
      have hb3 := hbr.keep hF3 (by omega)
      have hP3 := HO.out.keep hF3 (fun k h1 h2 => by omega)
      have HP3 := hid hP3
      have HO3 := hid hO3
      clear hP3 hO3
      have hF4 := Fr.alloc (fun _ => False) w3 (.cells #[.int .i64 needs, .slice A3 ln c3] 51)
      by_cases hy : y = 0
      · subst hy
        rw [if_pos rfl]
        have hN4 := hN3 rfl
        have hst := HST.out rfl
        have HST2 := hid hst
        have hat2 := HAT.out rfl
        have y0 := (hT3.keep hF4 (fun h => h)).blk.cell (i := 0) rfl
        have yl := hT3.blk.lt
        clear hst HST HSB HAT hN3
        have hFa := hF4.trans (Fr.alloc (fun _ => False) (w3.alloc (.cells #[.int .i64 needs, .slice A3 ln c3] 51)) (.cells #[.int .i64 needs, .slice A3 ln c3] 51))
        have HP5 := hid (HP3.out.same hFa)
        have hrow := HP5.out.row
        rw [HL.out] at hrow
        have HO5 := hid hrow
        have hn5 := news_cells (w3.alloc (.cells #[.int .i64 needs, .slice A3 ln c3] 51)) 51 [.int .i64 needs, .slice A3 ln c3]
        rw [size_alloc] at hn5
        have HN5 := hid hn5
        clear hn5 hrow
        have hT5 := hT3.keep hFa (fun h => h)
        have hT3b := hT3.blk.cell (i := 0) rfl
        go_wp2_with (at_builtin; refine wpList_append_own _ rfl _ _ 40 rfl (w.heap.size + 3) 51 i0 (.agg #[.int .i64 0, .slice none 0 0]) 2 32 Tryd.underlying40 HI.out HZ0.out HZ1.out HZ2.out rfl (by decide) (.slice Aj j cj) j _ rfl HO5.out ⟨w3.heap.size + 1, 0, none⟩ 1 1 [.int .i64 needs, .slice A3 ln c3] rfl rfl HN5.out (fo_one _ _ _ _) (by unfold maxLen; omega) (by omega) (by first | omega | (simp; omega)) ?_; intro v6 w6 hown6 hgrow6 hnil6; clear hnil6; obtain ⟨A6, c6, rfl, ho6⟩ := OwnR.form hown6; have hF6 := Fr.of_grown hgrow6; have HO6 := hid ho6; clear hown6 hgrow6 ho6; have hT6 := hT5.keep hF6 (OwnR.ne HO5.out hT5 (by decide)); have x0 := hT6.blk.cell (i := 0) rfl; have xl := hT6.blk.lt; have xz := hT6.blk.frozen 0)
        have hR5 := hR3.keep hFa (fun h => h)
        have hN5 := hN4.keep hFa (fun h => h)
        have hb5 := hb3.keep hFa (fun h => h)
        have hR6 := hR5.keep hF6 (OwnR.ne HO5.out hR5 (by decide))
        have hN6 := hN5.keep hF6 (OwnR.ne HO5.out hN5 (by decide))
        have hb6 := hb5.keep hF6 (OwnR.ne HO5.out hb5 (by decide))
        have hP6 : OwnP w6 (w.heap.size + 3) A6 c6 (L ++ [⟨⟨needs, code⟩, A3, c3⟩]) := HP5.out.snoc (C := wr.heap.size) (OwnR.same HO3.out hFa) (by omega) (fun q hq k hk => (OwnR.lt (HO.out.codes q hq) k hk).2) (by
          rw [HL.out]
          refine OwnR.eq HO6.out ?_
          simp only [Fo.cells, hln]) hF6
        have hF7 : Fr (fun k => k = w2.heap.size) w6 (w6.setCell ⟨w2.heap.size, 0, none⟩ (.slice A6 (j + 1) c6)) := Fr.setCell _ _ _ rfl
        have hlt5 := OwnR.lt HO5.out
        have hP7 := hP6.keepAt hT6 (by decide) (by decide) hF7
        go_roundg (N - (j + 1))
        case rel =>
          refine ⟨j + 1, at2, L ++ [⟨⟨needs, code⟩, A3, c3⟩], A6, c6, by omega, rfl, by go_num, by simp [HL.out], hat2, hN6.keep hF7 (by omega), hb6.keep hF7 (by omega), hR6.keep hF7 (by omega), hT6.set 0 _, hP7, ?_, ?_⟩
          · rw [List.map_append]
            exact HST2.out
          · exact hFr.trans (((hF3.mono (fun k hk => by omega)).trans (hFa.mono (fun _ h => h.elim))).trans ((hF6.mono (fun k hk => by have := (hlt5 k hk).1; omega)).trans (hF7.mono (fun k hk => by omega))))
        case measure => have := HD.out; omega
      · have hsb := HSB.out hy
        have HEQ := hid (HBad.out _ _ _ hsb hy)
        rw [if_neg hy]
        have t1 : (y != 0) = true := by simpa using hy
        clear HST HSB HAT hsb hN3 HP3 HO3
        have hR4 := hR3.keep hF4 (fun h => h)
        have g0 := hR4.blk.cell (i := 0) rfl
        have z0 := hR4.blk.frozen 0
        have gl := hR4.blk.lt
        go_wp2_with fail
        have hR5 := hR4.set 0 (.slice none 0 0)
        have hF5 : Fr (fun k => k = w.heap.size) (w3.alloc (.cells #[.int .i64 needs, .slice A3 ln c3] 51)) ((w3.alloc (.cells #[.int .i64 needs, .slice A3 ln c3] 51)).setCell ⟨w.heap.size, 0, none⟩ (.slice none 0 0)) := Fr.setCell _ _ _ rfl
        obtain ⟨w5, hw5⟩ : ∃ w5, w5 = (w3.alloc (.cells #[.int .i64 needs, .slice A3 ln c3] 51)).setCell ⟨w.heap.size, 0, none⟩ (.slice none 0 0) := ⟨_, rfl⟩
        rw [← hw5] at hR5 hF5 ⊢
        clear hw5 g0
        have g0 : w5.cell? ⟨w.heap.size, 0, none⟩ = some (.slice none 0 0) := hR5.blk.cell (i := 0) rfl
        refine bodyPost_ret (v := .tuple #[.agg #[.slice none 0 0], .int .i64 (at2 : Int), .int .i64 y]) ?hv rfl ?hp
        case hv => (simp [results, Tryd.results24, go_sem, g0]; try rfl)
        case hp =>
          rw [HEQ.out]
          exact UpPost.bad rfl (hFr.trans ((hF3.mono (fun k hk => by omega)).trans ((hF4.mono (fun _ h => h.elim)).trans (hF5.mono (fun k hk => by omega)))))
    · obtain rfl : j = N := by omega
      have hstep : unFns l j 1 [] = (L.map (·.f), at_, 0) := by
        rw [HU.out, Nat.sub_self, unFns]
      by_cases hmore : at_ + 1 ≤ n
      · have HEQ := hid (HMore.out _ _ hstep (by omega))
        have HT := hid (tk_yes A n cap nb bb at_ 1 l w.heap.size wr hNr hbr ⟨hl, hc, hm, hyr, hall⟩ (by omega) (by omega) (by omega) hmore (by omega) (by omega))
        simp only [show ((1 : Nat) : Int) = 1 from rfl] at HT
        clear hstep HU
        go_wp2_with fail
        refine HT.out.mono ?_
        rintro e w3 ⟨b3, o3, c3, rfl, hb3, hcell3, hN3, hF3⟩
        have nn := nil_no' ⟨b3, o3, none⟩ 1 c3
        have hR3 := hRr.keep hF3 (by omega)
        have g0 := hR3.blk.cell (i := 0) rfl
        have z0 := hR3.blk.frozen 0
        have gl := hR3.blk.lt
        go_wp2_with fail
        have hR5 := hR3.set 0 (.slice none 0 0)
        have hF5 : Fr (fun k => k = w.heap.size) w3 (w3.setCell ⟨w.heap.size, 0, none⟩ (.slice none 0 0)) := Fr.setCell _ _ _ rfl
        obtain ⟨w5, hw5⟩ : ∃ w5, w5 = w3.setCell ⟨w.heap.size, 0, none⟩ (.slice none 0 0) := ⟨_, rfl⟩
        rw [← hw5] at hR5 hF5 ⊢
        clear hw5 g0
        have g0 : w5.cell? ⟨w.heap.size, 0, none⟩ = some (.slice none 0 0) := hR5.blk.cell (i := 0) rfl
        refine bodyPost_ret (v := .tuple #[.agg #[.slice none 0 0], .int .i64 (at_ : Int), .int .i64 11]) ?hv rfl ?hp
        case hv => (simp [results, Tryd.results24, go_sem, g0]; try rfl)
        case hp =>
          rw [HEQ.out]
          exact UpPost.bad rfl (hFr.trans ((hF3.mono (fun k hk => by omega)).trans (hF5.mono (fun k hk => by omega))))
      · have HEQ := hid (HOk.out _ _ hstep (by omega))
        have HT := hid (take_no A n cap nb bb at_ 1 wr hNr.blk hbr.blk (by omega) (by omega) (by omega))
        simp only [show ((1 : Nat) : Int) = 1 from rfl] at HT
        clear hstep HU
        have n1 := nil_yes'
        go_wp2_with fail
        refine HT.out.mono ?_
        rintro e w3 ⟨rfl, rfl⟩
        have y0 := hTr.blk.cell (i := 0) rfl
        have g0 := hRr.blk.cell (i := 0) rfl
        have z0 := hRr.blk.frozen 0
        have gl := hRr.blk.lt
        go_wp2_with fail
        have hR5 := hRr.set 0 (.slice Aj j cj)
        have hF5 : Fr (fun k => k = w.heap.size) wr (wr.setCell ⟨w.heap.size, 0, none⟩ (.slice Aj j cj)) := Fr.setCell _ _ _ rfl
        obtain ⟨w5, hw5⟩ : ∃ w5, w5 = wr.setCell ⟨w.heap.size, 0, none⟩ (.slice Aj j cj) := ⟨_, rfl⟩
        rw [← hw5] at hR5 hF5 ⊢
        clear hw5 g0
        have g0 : w5.cell? ⟨w.heap.size, 0, none⟩ = some (.slice Aj j cj) := hR5.blk.cell (i := 0) rfl
        have hP5 := HO.out.keepAt hRr (by decide) (by decide) hF5
        have hLm : (L.map (·.f)).length = j := by rw [List.length_map, HL.out]
        refine bodyPost_ret (v := .tuple #[.agg #[.slice Aj j cj], .int .i64 0, .int .i64 0]) ?hv rfl ?hp
        case hv => (simp [results, Tryd.results24, go_sem, g0]; try rfl)
        case hp =>
          rw [HEQ.out]
          exact ⟨Aj, cj, L, by simp [hLm], hP5.less (by omega), rfl, Fr.to_none (hFr.trans (hF5.mono (fun k hk => by omega)))⟩

theorem unpack_any (A : Option Addr) (n cap : Nat) (l : List Int) (w : World) (ht : Tabs w) (hs : Src w w.heap.size A n cap l) (hn : n ≤ 100000) :
    Calls Tryd.prog 24 #[.slice A n cap] w (UpPost w (unProg l)) := by
  by_cases h0 : n = 0
  · exact unpack_nil A n cap l w hs h0
  · by_cases h : l.getD 0 0 < 1 ∨ 32 < l.getD 0 0
    · exact unpack_long A n cap l w ht hs hn _ rfl h0 h
    · exact unpack_main A n cap l w ht hs hn _ rfl h0 h

end Go.Proofs.YtecobbojbdfffaaDoor
