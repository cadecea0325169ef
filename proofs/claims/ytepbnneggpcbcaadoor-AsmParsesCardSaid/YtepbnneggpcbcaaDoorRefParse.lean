/-
  The reference's Parse.
-/
import Derived.Test.YtepbnneggpcbcaaDoorRefHead
import Derived.Deep.AppendLies
namespace Go.Proofs.YtepbnneggpcbcaaDoor
open Go.RowKit

theorem cut_within (c : UInt8) (l : Bs) : ∀ y ∈ cut c l, y.length ≤ l.length := by
  induction l with
  | nil => intro y hy; simp [cut] at hy; subst hy; simp
  | cons b t ih =>
    obtain ⟨h, r, e⟩ := cut_form c t
    rw [e] at ih
    intro y hy
    unfold cut at hy
    rw [e] at hy
    split at hy
    · rcases List.mem_cons.1 hy with rfl | hy
      · simp
      · exact Nat.le_succ_of_le (ih y hy)
    · simp only [List.headD_cons, List.tail_cons] at hy
      rcases List.mem_cons.1 hy with rfl | hy
      · rw [List.length_cons, List.length_cons]
        have := ih h (by simp)
        omega
      · exact Nat.le_succ_of_le (ih y (by simp [hy]))

theorem run_bounds {a : List Bs} {fs : List Fn} {n : Nat} (h : runC a [] 0 = (fs, n, 0)) : fs.length ≤ 32 ∧ ∀ f ∈ fs, f.code.length ≤ 128 := by
  rw [← runL_map] at h
  exact okS_bounds (run_ok (show okS [] from .inl rfl) h).1

def PqRel (W3 : World) (pb : Nat) (a : List Bs) (d : Nat) (s8 : Value) (wr : World) : Prop :=
  ∃ (k : Nat) (A : Option Addr) (c : Nat) (L : List Fo), k ≤ a.length ∧ d = a.length - k ∧ s8 = .int .i64 k ∧ Blk wr pb #[.slice A L.length c] ∧ OwnP wr (pb + 1) A c L ∧ runC (a.take k) [] 0 = (L.map (·.f), k, 0) ∧ Fr (fun j => pb ≤ j) W3 wr

theorem take_snoc {a : List Bs} {k : Nat} {x : Bs} (h : a[k]? = some x) : a.take (k + 1) = a.take k ++ [x] := by
  rw [List.take_succ_eq_append_getElem (List.getElem?_eq_some_iff.1 h).1, (List.getElem?_eq_some_iff.1 h).2]

theorem split_at {a : List Bs} {k : Nat} {x : Bs} (h : a[k]? = some x) : a = a.take k ++ x :: a.drop (k + 1) := by
  have h1 := (List.getElem?_eq_some_iff.1 h).1
  have := List.take_append_drop k a
  rw [List.drop_eq_getElem_cons h1, (List.getElem?_eq_some_iff.1 h).2] at this
  exact this.symm

/-- One function more, in memory. -/
theorem state_func {W3 wr W6 w7 : World} {pb n c c7 g7 k : Nat} {A : Option Addr} {L : List Fo} {a : List Bs} {x : Bs} {q : Int} (hF : Fr (fun j => pb ≤ j) W3 wr) (hb : Blk W6 pb #[.slice A n c]) (ho : OwnP wr (pb + 1) A c L) (hn : L.length = n)
    (hrun : runC (a.take k) [] 0 = (L.map (·.f), k, 0)) (hx : a[k]? = some x) (hl : lineF (L.map (·.f)) x = (L.map (·.f) ++ [⟨q, []⟩], 0)) (hk : k < a.length)
    (h6 : Fr (fun _ => False) wr W6) (h7 : Fr (ownB A) W6 w7)
    (hown : OwnR w7 (pb + 1) 49 2 (some ⟨g7, 0, none⟩) (n + 1) c7 (L.flatMap Fo.cells ++ [.int .i64 q, .slice none 0 0])) :
    PqRel W3 pb a (a.length - (k + 1)) (.int .i64 ((k : Int) + 1)) (w7.setCell ⟨pb, 0, none⟩ (.slice (some ⟨g7, 0, none⟩) (n + 1) c7)) := by
  have hP := ho.same h6
  have hap : ∀ j, ownB A j → pb + 1 ≤ j := fun j hj => (hP.row.lt j hj).1
  have hF8 : Fr (fun j => j = pb) w7 (w7.setCell ⟨pb, 0, none⟩ (.slice (some ⟨g7, 0, none⟩) (n + 1) c7)) := Fr.setCell _ _ _ rfl
  have hb7 : Blk w7 pb #[.slice A n c] := hb.keep h7 (fun h => by have := hap _ h; omega)
  have hS : OwnP w7 (pb + 1) (some ⟨g7, 0, none⟩) c7 (L ++ [⟨⟨q, []⟩, none, 0⟩]) := by
    refine OwnP.snoc (C := W6.heap.size) hP (OwnR.nil _ _ _ _) (by have := hb.lt; omega) (fun y hy j hj => (OwnR.lt (hP.codes y hy) j hj).2) ?_ h7
    rw [hn]
    exact hown
  refine ⟨k + 1, some ⟨g7, 0, none⟩, c7, L ++ [⟨⟨q, []⟩, none, 0⟩], by omega, rfl, by go_num, ?_, ?_, ?_, ?_⟩
  · have := hb7.set 0 (.slice (some ⟨g7, 0, none⟩) (n + 1) c7)
    rw [List.length_append, hn]
    exact this
  · exact hS.keep hF8 (fun j hj _ h => by have h : j = pb := h; omega)
  · rw [take_snoc hx, runC_snoc hrun, hl, if_pos rfl]
    simp
  · exact ((hF.trans (h6.mono (fun _ h => h.elim))).trans (h7.mono (fun j hj => by have := hap j hj; show pb ≤ j; omega))).trans (hF8.mono (fun j hj => by have hj : j = pb := hj; show pb ≤ j; omega))

/-- One instruction more, in memory. -/
theorem state_ins {W3 wr W6 w7 : World} {pb m c g gg cl cp k : Nat} {L : List Fo} {y : Fo} {i : Ins} {a : List Bs} {x : Bs} (hF : Fr (fun j => pb ≤ j) W3 wr) (hb : Blk W6 pb #[.slice (some ⟨g, 0, none⟩) (m + 1) c]) (ho : OwnP wr (pb + 1) (some ⟨g, 0, none⟩) c (L ++ [y])) (hm : L.length = m)
    (hrun : runC (a.take k) [] 0 = ((L ++ [y]).map (·.f), k, 0)) (hx : a[k]? = some x) (hl : lineF ((L ++ [y]).map (·.f)) x = (pushI ((L ++ [y]).map (·.f)) i, 0)) (hk : k < a.length) (hcl : y.f.code.length = cl)
    (h6 : Fr (fun _ => False) wr W6) (h7 : Fr (ownB y.A) W6 w7) (hat : (Value.slice y.A cl y.c).ownBlock = some gg ∨ gg = W6.heap.size + 1)
    (hown : OwnR w7 (pb + 1) 23 5 (some ⟨gg, 0, none⟩) (cl + 1) cp (y.f.code.flatMap Ins.cells ++ i.cells)) :
    PqRel W3 pb a (a.length - (k + 1)) (.int .i64 ((k : Int) + 1)) (w7.setCell ⟨g, m * 2 + 1, none⟩ (.slice (some ⟨gg, 0, none⟩) (cl + 1) cp)) := by
  have hbl := hb.lt
  obtain ⟨A', cap', L', he, hL, hO, hFr, _⟩ := ext_post (w := wr) (e := .returned (.tuple #[.slice (some ⟨g, 0, none⟩) (m + 1) c, .int .i64 0])) ho h6 hown hcl h7 hat hm rfl
  have he := (Ending.returned.inj he)
  have hA : A' = some ⟨g, 0, none⟩ ∧ L'.length = m + 1 ∧ cap' = c := by
    injection he with he
    have := congrArg (fun z : Array Value => z[0]?) he
    simp at this
    exact ⟨this.1.symm, this.2.1.symm, this.2.2.symm⟩
  obtain ⟨rfl, hL1, rfl⟩ := hA
  have hnb : ∀ j, progB (some ⟨g, 0, none⟩) (L ++ [y]) j → pb + 1 ≤ j := fun j hj => (ho.len j hj).1
  refine ⟨k + 1, some ⟨g, 0, none⟩, cap', L', by omega, rfl, by go_num, ?_, hO, ?_, ?_⟩
  · rw [hL1]
    have h1 : Blk w7 pb #[.slice (some ⟨g, 0, none⟩) (m + 1) cap'] := hb.keep h7 (fun h => by have := hnb pb (.inr ⟨y, by simp, h⟩); omega)
    exact h1.keep (S := fun j => j = g) (Fr.setCell _ _ _ rfl) (fun h => by have h : pb = g := h; have := hnb g (.inl ⟨_, rfl, rfl⟩); omega)
  · rw [take_snoc hx, runC_snoc hrun, hl, if_pos rfl]
    rw [hL]
  · exact hF.trans (hFr.mono (fun j hj => by have := hnb j hj; show pb ≤ j; omega))

set_option maxRecDepth 100000 in
set_option maxHeartbeats 1000000 in
theorem rparse_long (s : Bs) (hs : 131072 < s.length) (hs2 : s.length ≤ 1000000) (w : World) : Calls Tryd.prog 17 #[.string (bs s)] w (PsPost w (prs s)) := by
  have HQ := hid (show prs s = ([], 0, 12) by unfold prs; rw [if_pos hs])
  have h1 : 131072 < (bs s).size := by rw [bs_size]; exact hs
  have h2 : (bs s).size ≤ 1000000 := by rw [bs_size]; exact hs2
  obtain ⟨W1, hW1⟩ : ∃ W1, W1 = (w.alloc (.cells #[.slice none 0 0] 38)).alloc (.cells #[.slice none 0 0] 38) := ⟨_, rfl⟩
  have hF1 : Fr (fun _ => False) w W1 := by rw [hW1]; exact (Fr.alloc _ _ _).trans (Fr.alloc _ _ _)
  have HR1 := hid (show Blk W1 w.heap.size #[.slice none 0 0] by rw [hW1]; exact (Blk.new _ _ _).alloc _)
  have HN1 := hid (show Blk W1 (w.heap.size + 1) #[.slice none 0 0] by rw [hW1]; exact (Blk.new _ _ _).at (by simp))
  have hFB1 := hF1.mono (T := fun j => w.heap.size ≤ j) (fun _ h => h.elim)
  generalize bs s = S at h1 h2
  clear hs hs2
  go_enter Tryd.func17, Tryd.ntmps17
  go_upto_region 2 with fail
  rw [← hW1]
  clear hW1
  have p0 : W1.cell? ⟨w.heap.size, 0, none⟩ = some (.slice none 0 0) := HR1.out.cell rfl
  have n0 : W1.cell? ⟨w.heap.size + 1, 0, none⟩ = some (.slice none 0 0) := HN1.out.cell rfl
  have f0 := HR1.out.frozen 0
  have pl := HR1.out.lt
  have pn := HN1.out.lt
  go_wp2_with fail
  have hR9 := HR1.out.set 0 (.slice none 0 0)
  have hF9 : Fr (fun k => k = w.heap.size) W1 _ := Fr.setCell (S := fun k => k = w.heap.size) W1 ⟨w.heap.size, 0, none⟩ (.slice none 0 0) rfl
  obtain ⟨w9, hw9⟩ : ∃ w9, w9 = W1.setCell ⟨w.heap.size, 0, none⟩ (.slice none 0 0) := ⟨_, rfl⟩
  rw [← hw9] at hR9 hF9 ⊢
  clear hw9 p0
  have p0 : w9.cell? ⟨w.heap.size, 0, none⟩ = some (.slice none 0 0) := hR9.cell rfl
  refine bodyPost_ret (v := .tuple #[.agg #[.slice none 0 0], .int .i64 ((0 : Nat) : Int), .int .i64 12]) ?hv rfl ?hp
  case hv => (simp [results, Tryd.results17, go_sem, p0]; try rfl)
  case hp => exact (PsPost.bad rfl ((hFB1).trans (hF9.mono (fun k hk => by show w.heap.size ≤ k; omega))).all).eq HQ.out

set_option maxRecDepth 100000 in
set_option maxHeartbeats 16000000 in
theorem rparse_main (s : Bs) (hs : s.length ≤ 131072) (w : World) : Calls Tryd.prog 17 #[.string (bs s)] w (PsPost w (prs s)) := by
  obtain ⟨i0, hi, hz⟩ := Option.map_eq_some_iff.1 Tryd.infof
  simp only [Prod.mk.injEq] at hz
  obtain ⟨hz0, hz1, hz2⟩ := hz
  have HI := hid hi
  have HZ0 := hid hz0
  have HZ1 := hid hz1
  have HZ2 := hid hz2
  clear hi hz0 hz1 hz2
  obtain ⟨j0, hi, hz⟩ := Option.map_eq_some_iff.1 Tryd.infoi
  simp only [Prod.mk.injEq] at hz
  obtain ⟨hz0, hz1, hz2⟩ := hz
  have HJ := hid hi
  have HY0 := hid hz0
  have HY1 := hid hz1
  have HY2 := hid hz2
  clear hi hz0 hz1 hz2
  obtain ⟨a, b, hc, _⟩ := lns_cut s
  have hal := cut_len_le 10 s
  rw [hc, List.length_append, List.length_singleton] at hal
  have HXL := hid (show ∀ x ∈ a, x.length ≤ 131072 from fun x hx => Nat.le_trans (cut_within 10 s x (by rw [hc]; simp [hx])) hs)
  have HBL := hid (show b.length ≤ 131072 from Nat.le_trans (cut_within 10 s b (by rw [hc]; simp)) hs)
  have hCUT := cut_any 10 10 rfl s (by omega)
  unfold CuPost at hCUT
  rw [hc] at hCUT
  have HCUT := hid hCUT
  have h1 : ¬ 131072 < (bs s).size := by rw [bs_size]; omega
  have h2 : (bs s).size ≤ 131072 := by rw [bs_size]; exact hs
  have HC := hid hc
  have HS := hid hs
  obtain ⟨na, hna⟩ : ∃ na, a.length = na := ⟨_, rfl⟩
  rw [hna] at hal
  have hna2 : na ≤ 131072 := by omega
  clear hal
  have HNA := hid hna
  obtain ⟨S, hS⟩ : ∃ S, bs s = S := ⟨_, rfl⟩
  rw [hS] at HCUT h1 h2 ⊢
  obtain ⟨W1, hW1⟩ : ∃ W1, W1 = (w.alloc (.cells #[.slice none 0 0] 38)).alloc (.cells #[.slice none 0 0] 38) := ⟨_, rfl⟩
  have hF1 : Fr (fun _ => False) w W1 := by rw [hW1]; exact (Fr.alloc _ _ _).trans (Fr.alloc _ _ _)
  have HR1 := hid (show Blk W1 w.heap.size #[.slice none 0 0] by rw [hW1]; exact (Blk.new _ _ _).alloc _)
  have HN1 := hid (show Blk W1 (w.heap.size + 1) #[.slice none 0 0] by rw [hW1]; exact (Blk.new _ _ _).at (by simp))
  have hsz1 : W1.heap.size = w.heap.size + 2 := by rw [hW1]; simp
  have HSZ1 := hid hsz1
  clear hCUT hc hs hna hS hsz1
  go_enter Tryd.func17, Tryd.ntmps17
  go_upto_region 2 with fail
  rw [← hW1]
  clear hW1
  go_wp2_with fail
  refine (HCUT.out _).mono ?_
  rintro e w2 ⟨Al, cl0, rfl, how, hF2⟩
  rw [List.length_append, List.length_singleton, HNA.out] at how ⊢
  obtain ⟨g, rfl, hg1, hg2, _, hgc⟩ := OwnR.cell how (by omega)
  have HGA := hid (show ∀ j x, a[j]? = some x → w2.cell? ⟨g, j, none⟩ = some (.string (bs x)) from fun j x hx => hgc j _ (by
    unfold strs
    rw [List.getElem?_map, List.getElem?_append_left (List.getElem?_eq_some_iff.1 hx).1, hx]
    rfl))
  have HGB := hid (show w2.cell? ⟨g, na, none⟩ = some (.string (bs b)) from hgc na _ (by
    unfold strs
    rw [List.getElem?_map, List.getElem?_append_right (by rw [HNA.out]; exact Nat.le_refl _), HNA.out]
    simp))
  clear how hgc
  have HR2 := hid (HR1.out.keep hF2 (fun h => h))
  have HN2 := hid (HN1.out.keep hF2 (fun h => h))
  have hs2 := hF2.size
  have hw2 : w.heap.size + 2 ≤ w2.heap.size := by have := HSZ1.out; omega
  go_wp2_with fail
  obtain ⟨W3, hW3⟩ : ∃ W3, W3 = w2.alloc (.cells #[.slice none 0 0] 38) := ⟨_, rfl⟩
  have hF3 : Fr (fun _ => False) w2 W3 := by rw [hW3]; exact Fr.alloc _ _ _
  have hpb : Blk W3 w2.heap.size #[.slice none 0 0] := by rw [hW3]; exact Blk.new _ _ _
  have HPB := hid hpb
  have hFB3 : Fr (fun j => w.heap.size ≤ j) w W3 := ((hF1.trans hF2).trans hF3).mono (fun _ h => h.elim)
  have HR3 := hid (HR2.out.keep hF3 (fun h => h))
  have HN3 := hid (HN2.out.keep hF3 (fun h => h))
  rw [← hW3]
  clear hW3 hpb
  go_loopg [8] na (fun d s8 wr => PqRel W3 w2.heap.size a d s8 wr)
  case atStart => exact ⟨0, none, 0, [], by omega, by rw [HNA.out]; rfl, rfl, HPB.out, OwnP.nil _ _, rfl, Fr.refl _ _⟩
  case round =>
    obtain ⟨k, A, c, L, hk, hd, rfl, hpb, hown, hrun, hF⟩ := hrel
    rw [HNA.out] at hk
    obtain ⟨n, hn⟩ : ∃ n, L.length = n := ⟨_, rfl⟩
    rw [hn] at hpb
    have hbo := run_bounds hrun
    have hn32 : n ≤ 32 := by have := hbo.1; rw [List.length_map, hn] at this; exact this
    have HBO := hid hbo
    have HLN := hid hn
    have HD := hid hd
    have HPBr := hid hpb
    have HO := hid hown
    have HRUN := hid hrun
    have hsr := hF.size
    have hs3 := hF3.size
    have hpl := hpb.lt
    have HRr := hid (HR3.out.keep hF (show ¬ w2.heap.size ≤ w.heap.size by omega))
    have HNr := hid (HN3.out.keep hF (show ¬ w2.heap.size ≤ w.heap.size + 1 by omega))
    have hFBr : Fr (fun j => w.heap.size ≤ j) w wr := hFB3.trans (hF.mono (fun j (hj : w2.heap.size ≤ j) => by show w.heap.size ≤ j; omega))
    have cp : wr.cell? ⟨w2.heap.size, 0, none⟩ = some (.slice A n c) := hpb.cell rfl
    clear hd hpb hown hrun hn hbo
    by_cases hlt : k < na
    · obtain ⟨x, hx⟩ : ∃ x, a[k]? = some x := ⟨_, List.getElem?_eq_getElem (by rw [HNA.out]; exact hlt)⟩
      have HX := hid hx
      have hxl := HXL.out x (List.mem_of_getElem? hx)
      have cx : wr.cell? ⟨g, k, none⟩ = some (.string (bs x)) := (cell_keep (hF3.mono (fun _ h => h.elim) |>.trans hF) (p := ⟨g, k, none⟩) hg2 (show ¬ w2.heap.size ≤ g by omega)).trans (HGA.out k x hx)
      have z1 : (k : Int) + 1 < (na : Int) + 1 := by omega
      have z2 : (k : Int) < (na : Int) + 1 := by omega
      have z3 : (0 : Int) ≤ (k : Int) := by omega
      have HCW := hid (cut_any 32 32 rfl x (by omega))
      have hgr : g < wr.heap.size := by omega
      have HCX := hid cx
      clear hx
      go_wp2_with fail
      refine (HCW.out _).mono ?_
      rintro e w4 ⟨Aw, cw, rfl, how, hF4⟩
      have hs4 := hF4.size
      have cp4 : w4.cell? ⟨w2.heap.size, 0, none⟩ = some (.slice A n c) := (HPBr.out.keep hF4 (fun h => h)).cell rfl
      have cx4 : w4.cell? ⟨g, k, none⟩ = some (.string (bs x)) := (cell_keep hF4 (p := ⟨g, k, none⟩) hgr (fun h => h)).trans HCX.out
      have HR4 := hid (HRr.out.keep hF4 (fun h => h))
      have HN4 := hid (HNr.out.keep hF4 (fun h => h))
      have hFB4 := hFBr.trans (hF4.mono (fun _ h => h.elim))
      obtain ⟨h0, rt, hwx⟩ := cut_form 32 x
      have hw1 : 1 ≤ (cut 32 x).length := cut_pos 32 x
      obtain ⟨gw, rfl, hgw1, hgw2, _, hgwc⟩ := OwnR.cell how hw1
      have cw0 : w4.cell? ⟨gw, 0, none⟩ = some (.string (bs h0)) := hgwc 0 _ (by rw [hwx]; rfl)
      have HOW := hid how
      have hHD : (cut 32 x).headD [] = h0 := by rw [hwx]; rfl
      have HWL := hid (show ∀ y ∈ cut 32 x, y.length ≤ 1000000 from fun y hy => Nat.le_trans (cut_within 32 x y hy) (by omega))
      have hwn : (cut 32 x).length ≤ 1000000 := by have := cut_len_le 32 x; omega
      clear cp cx hgwc how hwx
      by_cases hfn : h0 = wFunc
      · have t : ((bs h0).toList == [102, 117, 110, 99]) = true := by rw [bs_toList, hfn]; rfl
        have HLF := hid (show lineF (L.map (·.f)) x = begF (L.map (·.f)) (cut 32 x) by unfold lineF; rw [hHD, if_pos hfn])
        clear hHD hfn
        obtain ⟨ll, hll⟩ : ∃ ll, lastLen (L.map (·.f)) = ll := ⟨_, rfl⟩
        have hbh := begF_hd (L.map (·.f)) (cut 32 x) (by rw [List.length_map, HLN.out]; exact hn32)
        rw [List.length_map, HLN.out, hll] at hbh
        have hHH := head_any w4 wr.heap.size (some ⟨gw, 0, none⟩) cw n ll (cut 32 x) HOW.out (by omega) HWL.out
        obtain ⟨⟨q1, q2⟩, hq⟩ : ∃ q, hdF n ll (cut 32 x) = q := ⟨_, rfl⟩
        rw [hq] at hHH hbh
        unfold HdPost at hHH
        have HHH := hid hHH
        have HBH := hid hbh
        have HLL := hid hll
        clear hll hbh hHH hq
        obtain ⟨nw, hnw⟩ : ∃ nw, (cut 32 x).length = nw := ⟨_, rfl⟩
        rw [hnw] at HHH hw1 hwn ⊢
        clear hnw
        go_upto_if 43 with fail
        go_cut [11] (fun u wx => u = .int .i64 (ll : Int) ∧ w4 = wx)
        case first =>
          rcases last_cases L with hL | ⟨L', y, hL⟩
          · obtain rfl : n = 0 := by rw [← HLN.out, hL]; rfl
            have HL0 := hid (show ll = 0 by rw [← HLL.out, hL]; rfl)
            clear hL
            go_wp2_with fail
            go_meet
            exact ⟨by rw [HL0.out]; rfl, rfl⟩
          · obtain ⟨m, rfl⟩ : ∃ m, n = m + 1 := ⟨L'.length, by rw [← HLN.out, hL]; simp⟩
            have hLm : L'.length = m := by have := HLN.out; rw [hL, List.length_append, List.length_singleton] at this; omega
            obtain ⟨gp, rfl, hgp1, hgp2, _, _, cy⟩ := (HO.out.same hF4).at_ (k := m) (x := y) (by rw [hL, ← hLm]; simp)
            have hL1 : y.f.code.length = ll := by rw [← HLL.out, hL, List.map_append]; exact (lastLen_snoc _ _).symm
            rw [hL1] at cy
            have zz : (0 : Int) < (m : Int) + 1 := by omega
            clear hL hLm hL1
            go_wp2_with fail
            go_meet
            exact ⟨rfl, rfl⟩
        case rest =>
          obtain ⟨rfl, rfl⟩ := hcut
          clear cw0 t
          go_wp2_with fail
          refine HHH.out.mono ?_
          rintro e w5 ⟨rfl, hF5⟩
          go_upto_region 16 with fail
          obtain ⟨W6, hW6⟩ : ∃ W6, W6 = w5.alloc (.cells #[.int .i64 q1, .slice none 0 0] 49) := ⟨_, rfl⟩
          have hF6 : Fr (fun _ => False) w5 W6 := by rw [hW6]; exact Fr.alloc _ _ _
          have hb6 : Blk W6 w5.heap.size #[.int .i64 q1, .slice none 0 0] := by rw [hW6]; exact Blk.new _ _ _
          rw [← hW6]
          clear hW6
          have h46 := hF5.trans hF6
          have hr6 := hF4.trans h46
          have HR6 := hid (HR4.out.keep h46 (fun h => h))
          have HN6 := hid (HN4.out.keep h46 (fun h => h))
          have hFB6 := hFB4.trans (h46.mono (fun _ h => h.elim))
          have HB6 := hid (HPBr.out.keep hr6 (fun h => h))
          have e0 : W6.cell? ⟨w5.heap.size, 0, none⟩ = some (.int .i64 q1) := hb6.cell rfl
          have e1 : W6.cell? ⟨w5.heap.size, 1, none⟩ = some (.slice none 0 0) := hb6.cell rfl
          have el := hb6.lt
          have hs5 := hF5.size
          clear hb6 cp4 cx4
          by_cases hq2 : q2 = 0
          · subst hq2
            have HLQ := hid (show lineF (L.map (·.f)) x = (L.map (·.f) ++ [⟨q1, []⟩], 0) by rw [HLF.out, HBH.out]; rfl)
            have cp6 : W6.cell? ⟨w2.heap.size, 0, none⟩ = some (.slice A n c) := HB6.out.cell rfl
            have zp6 := HB6.out.frozen 0
            have hP6 := HO.out.same hr6
            have hrow := hP6.row
            rw [HLN.out] at hrow
            have hAlloc := Fr.alloc (fun _ => False) W6 (.cells #[.int .i64 q1, .slice none 0 0] 49)
            have HRW := hid (OwnR.same hrow hAlloc)
            have HNW := hid (news8 W6 49 [.int .i64 q1, .slice none 0 0])
            have HNO := hid (show ¬ ownB A w2.heap.size from fun h => by have := (hP6.row.lt _ h).1; omega)
            have hs6 := hF6.size
            clear hP6 hrow
            go_wp2_with (at_builtin; refine wpList_append_lies _ rfl _ _ 36 rfl (w2.heap.size + 1) 49 i0 (.agg #[.int .i64 0, .slice none 0 0]) 2 32 Tryd.underlying36 HI.out HZ0.out HZ1.out HZ2.out rfl (by decide) (.slice A n c) n _ rfl HRW.out ⟨W6.heap.size, 0, none⟩ 1 1 [.int .i64 q1, .slice none 0 0] rfl rfl HNW.out (fo_one _ _ _ _) (by omega) (by unfold maxLen; omega) (by omega) (by simp; omega) (W6.heap.size + 1) (by simp) ?_; intro g7 c7 w7 hown7 hgrow7 hat7 hlt7; have HO7 := hid hown7; have HF7 := hid ((hAlloc.mono (fun _ h => h.elim)).trans (Fr.of_grown' hgrow7)); have r0 : w7.cell? ⟨w2.heap.size, 0, none⟩ = some (.slice A n c) := (HB6.out.keep HF7.out HNO.out).cell rfl; have r1 := (HB6.out.keep HF7.out HNO.out).frozen 0; have r2 := (HB6.out.keep HF7.out HNO.out).lt; clear hown7 hgrow7 hat7)
            go_roundg (na - (k + 1))
            case rel =>
              have := state_func hF HB6.out HO.out HLN.out HRUN.out HX.out HLQ.out (by rw [HNA.out]; exact hlt) hr6 HF7.out HO7.out
              rw [HNA.out] at this
              exact this
            case measure => have := HD.out; have := HNA.out; omega
          · have hLQ : lineF (L.map (·.f)) x = ([], q2) := by rw [HLF.out, HBH.out]; exact if_neg hq2
            have HQ := hid (show prs s = ([], k + 1, q2) by
              have := prs_stop HS.out HC.out (split_at HX.out) HRUN.out (by rw [hLQ]; exact hq2)
              rw [hLQ] at this
              exact this)
            have t3 : (q2 != 0) = true := by simpa using hq2
            clear hLQ hq2
            have p0 : W6.cell? ⟨w.heap.size, 0, none⟩ = some (.slice none 0 0) := HR6.out.cell rfl
            have n0 : W6.cell? ⟨w.heap.size + 1, 0, none⟩ = some (.slice none 0 0) := HN6.out.cell rfl
            have f0 := HR6.out.frozen 0
            have pl := HR6.out.lt
            have pn := HN6.out.lt
            go_wp2_with fail
            have hR9 := HR6.out.set 0 (.slice none 0 0)
            have hF9 : Fr (fun k => k = w.heap.size) W6 _ := Fr.setCell (S := fun k => k = w.heap.size) W6 ⟨w.heap.size, 0, none⟩ (.slice none 0 0) rfl
            obtain ⟨w9, hw9⟩ : ∃ w9, w9 = W6.setCell ⟨w.heap.size, 0, none⟩ (.slice none 0 0) := ⟨_, rfl⟩
            rw [← hw9] at hR9 hF9 ⊢
            clear hw9 p0
            have p0 : w9.cell? ⟨w.heap.size, 0, none⟩ = some (.slice none 0 0) := hR9.cell rfl
            refine bodyPost_ret (v := .tuple #[.agg #[.slice none 0 0], .int .i64 ((k + 1 : Nat) : Int), .int .i64 q2]) ?hv rfl ?hp
            case hv => (simp [results, Tryd.results17, go_sem, p0]; try rfl)
            case hp => exact (PsPost.bad rfl ((hFB6).trans (hF9.mono (fun k hk => by show w.heap.size ≤ k; omega))).all).eq HQ.out
      · have t : ((bs h0).toList == [102, 117, 110, 99]) = false := by rw [bs_toList]; exact beq_eq_false_iff_ne.2 hfn
        have HLF := hid (show lineF (L.map (·.f)) x = extF (L.map (·.f)) x by unfold lineF; rw [hHD, if_neg hfn])
        clear hHD hfn
        obtain ⟨nw, hnw⟩ : ∃ nw, (cut 32 x).length = nw := ⟨_, rfl⟩
        rw [hnw] at hw1 hwn ⊢
        clear hnw
        rcases last_cases L with hL | ⟨L', y, hL⟩
        · obtain rfl : n = 0 := by rw [← HLN.out, hL]; rfl
          have hLQ : lineF (L.map (·.f)) x = ([], 11) := by rw [HLF.out, hL]; rfl
          have HQ := hid (show prs s = ([], k + 1, 11) by
            have := prs_stop HS.out HC.out (split_at HX.out) HRUN.out (by rw [hLQ]; decide)
            rw [hLQ] at this
            exact this)
          clear hLQ hL
          have p0 : w4.cell? ⟨w.heap.size, 0, none⟩ = some (.slice none 0 0) := HR4.out.cell rfl
          have n0 : w4.cell? ⟨w.heap.size + 1, 0, none⟩ = some (.slice none 0 0) := HN4.out.cell rfl
          have f0 := HR4.out.frozen 0
          have pl := HR4.out.lt
          have pn := HN4.out.lt
          go_wp2_with fail
          have hR9 := HR4.out.set 0 (.slice none 0 0)
          have hF9 : Fr (fun k => k = w.heap.size) w4 _ := Fr.setCell (S := fun k => k = w.heap.size) w4 ⟨w.heap.size, 0, none⟩ (.slice none 0 0) rfl
          obtain ⟨w9, hw9⟩ : ∃ w9, w9 = w4.setCell ⟨w.heap.size, 0, none⟩ (.slice none 0 0) := ⟨_, rfl⟩
          rw [← hw9] at hR9 hF9 ⊢
          clear hw9 p0
          have p0 : w9.cell? ⟨w.heap.size, 0, none⟩ = some (.slice none 0 0) := hR9.cell rfl
          refine bodyPost_ret (v := .tuple #[.agg #[.slice none 0 0], .int .i64 ((k + 1 : Nat) : Int), .int .i64 11]) ?hv rfl ?hp
          case hv => (simp [results, Tryd.results17, go_sem, p0]; try rfl)
          case hp => exact (PsPost.bad rfl ((hFB4).trans (hF9.mono (fun k hk => by show w.heap.size ≤ k; omega))).all).eq HQ.out
        · subst hL
          obtain ⟨m, rfl⟩ : ∃ m, n = m + 1 := ⟨L'.length, by rw [← HLN.out]; simp⟩
          have hLm : L'.length = m := by have := HLN.out; rw [List.length_append, List.length_singleton] at this; omega
          obtain ⟨gp, rfl, hgp1, hgp2, _, _, _⟩ := HO.out.at_ (k := m) (x := y) (by rw [← hLm]; simp)
          have hne : (L' ++ [y]).map (·.f) ≠ [] := by simp
          obtain ⟨cl, hcl⟩ : ∃ cl, y.f.code.length = cl := ⟨_, rfl⟩
          have hll : lastLen ((L' ++ [y]).map (·.f)) = cl := by rw [← hcl, List.map_append]; exact lastLen_snoc _ _
          have hcl2 : cl ≤ 128 := by
            have := HBO.out.2 y.f (by simp)
            omega
          have zz : (0 : Int) < (m : Int) + 1 := by omega
          have tn : ((m : Int) + 1 == 0) = false := beq_eq_false_iff_ne.2 (by omega)
          have HLM := hid hLm
          have HCL := hid hcl
          have hRD := rread_any x (by omega) w4
          obtain ⟨⟨⟨io, ia, ib, ic, iN⟩, er⟩, hrd⟩ : ∃ q, rd x = q := ⟨_, rfl⟩
          rw [hrd] at hRD
          unfold RdPost Ins.val at hRD
          have HRD := hid hRD
          have HRDX := hid hrd
          have HNE := hid hne
          have HLL := hid hll
          clear hRD hrd hLm hne hll hcl
          go_wp2_with fail
          refine HRD.out.mono ?_
          rintro e w5 ⟨rfl, hF5⟩
          go_upto_region 22 with fail
          obtain ⟨W6, hW6⟩ : ∃ W6, W6 = w5.alloc (.cells #[.int .i64 io, .int .i64 ia, .int .i64 ib, .int .i64 ic, .int .i64 iN] 23) := ⟨_, rfl⟩
          have hF6 : Fr (fun _ => False) w5 W6 := by rw [hW6]; exact Fr.alloc _ _ _
          have hb6 : Blk W6 w5.heap.size #[.int .i64 io, .int .i64 ia, .int .i64 ib, .int .i64 ic, .int .i64 iN] := by rw [hW6]; exact Blk.new _ _ _
          rw [← hW6]
          clear hW6
          have h46 := hF5.trans hF6
          have hr6 := hF4.trans h46
          have HR6 := hid (HR4.out.keep h46 (fun h => h))
          have HN6 := hid (HN4.out.keep h46 (fun h => h))
          have hFB6 := hFB4.trans (h46.mono (fun _ h => h.elim))
          have HB6 := hid (HPBr.out.keep hr6 (fun h => h))
          have hs5 := hF5.size
          have hs6 := hF6.size
          have HI6 := hid hb6
          clear hb6 cp4 cx4 cw0 t
          by_cases he : er = 0
          · subst he
            have hP6 := HO.out.same hr6
            obtain ⟨gp', hgp', _, hgp6, hfz, _, cy⟩ := hP6.at_ (k := m) (x := y) (by rw [← HLM.out]; simp)
            obtain rfl : gp = gp' := by injection hgp' with h; injection h
            rw [HCL.out] at cy
            have cp6 : W6.cell? ⟨w2.heap.size, 0, none⟩ = some (.slice (some ⟨gp, 0, none⟩) (m + 1) c) := HB6.out.cell rfl
            have lp6 := HB6.out.lt
            have HCY := hid cy
            by_cases h128 : cl = 128
            · have hLQ : lineF ((L' ++ [y]).map (·.f)) x = ([], 12) := by rw [HLF.out]; exact extF_long HNE.out HRDX.out (by rw [HLL.out, h128])
              have HQ := hid (show prs s = ([], k + 1, 12) by
                have := prs_stop HS.out HC.out (split_at HX.out) HRUN.out (by rw [hLQ]; decide)
                rw [hLQ] at this
                exact this)
              have zc : (128 : Int) ≤ (cl : Int) := by omega
              clear hLQ h128 hP6 hfz hgp'
              have p0 : W6.cell? ⟨w.heap.size, 0, none⟩ = some (.slice none 0 0) := HR6.out.cell rfl
              have n0 : W6.cell? ⟨w.heap.size + 1, 0, none⟩ = some (.slice none 0 0) := HN6.out.cell rfl
              have f0 := HR6.out.frozen 0
              have pl := HR6.out.lt
              have pn := HN6.out.lt
              go_wp2_with fail
              have hR9 := HR6.out.set 0 (.slice none 0 0)
              have hF9 : Fr (fun k => k = w.heap.size) W6 _ := Fr.setCell (S := fun k => k = w.heap.size) W6 ⟨w.heap.size, 0, none⟩ (.slice none 0 0) rfl
              obtain ⟨w9, hw9⟩ : ∃ w9, w9 = W6.setCell ⟨w.heap.size, 0, none⟩ (.slice none 0 0) := ⟨_, rfl⟩
              rw [← hw9] at hR9 hF9 ⊢
              clear hw9 p0
              have p0 : w9.cell? ⟨w.heap.size, 0, none⟩ = some (.slice none 0 0) := hR9.cell rfl
              refine bodyPost_ret (v := .tuple #[.agg #[.slice none 0 0], .int .i64 ((k + 1 : Nat) : Int), .int .i64 12]) ?hv rfl ?hp
              case hv => (simp [results, Tryd.results17, go_sem, p0]; try rfl)
              case hp => exact (PsPost.bad rfl ((hFB6).trans (hF9.mono (fun k hk => by show w.heap.size ≤ k; omega))).all).eq HQ.out
            · have HLQ := hid (show lineF ((L' ++ [y]).map (·.f)) x = (pushI ((L' ++ [y]).map (·.f)) ⟨io, ia, ib, ic, iN⟩, 0) by rw [HLF.out]; exact extF_ok HNE.out HRDX.out (by rw [HLL.out]; exact h128))
              have zc : ¬ (128 : Int) ≤ (cl : Int) := by omega
              have hc127 : cl ≤ 127 := by omega
              have hox : OwnR W6 (w2.heap.size + 1) 23 5 y.A cl y.c (y.f.code.flatMap Ins.cells) := by
                have := hP6.codes y (by simp)
                unfold OwnI at this
                rwa [HCL.out] at this
              have hap : ¬ ownB y.A gp := fun h => OwnR.apart (hP6.codes y (by simp)) hP6.row (by decide) gp h ⟨_, rfl, rfl⟩
              have hnp : ¬ ownB y.A w2.heap.size := fun h => by have := (OwnR.lt hox _ h).1; omega
              have hdr5 : Fr (fun _ => False) W6 ((W6.alloc (.cells #[.int .i64 io, .int .i64 ia, .int .i64 ib, .int .i64 ic, .int .i64 iN] 23)).drew) := (Fr.alloc _ _ _).trans (Fr.drew _ _)
              have HOW6 := hid (OwnR.same hox hdr5)
              have HNW := hid (news8 W6 23 [.int .i64 io, .int .i64 ia, .int .i64 ib, .int .i64 ic, .int .i64 iN])
              have hb5 := hid ((HO.out.same (hF4.trans hF5)).codes y (by simp))
              have hb6x : ¬ ownB y.A w5.heap.size := fun h => by have := OwnR.lt hb5.out _ h; omega
              have hfz1 := hfz (m * 2 + 1)
              have HKP := hid (show ∀ W, Fr (ownB y.A) W6 W → W.cell? ⟨gp, m * 2 + 1, none⟩ = some (.slice y.A cl y.c) ∧ W.frozen? ⟨gp, m * 2 + 1, none⟩ = false ∧ W.cell? ⟨w2.heap.size, 0, none⟩ = some (.slice (some ⟨gp, 0, none⟩) (m + 1) c) ∧ gp < W.heap.size ∧ w2.heap.size < W.heap.size from fun W hW =>
                ⟨(cell_keep hW (p := ⟨gp, m * 2 + 1, none⟩) (by show gp < W6.heap.size; omega) hap).trans HCY.out, (World.frozen?_of_block (a := ⟨gp, m * 2 + 1, none⟩) (hW.block gp (by omega) hap)).trans hfz1, (HB6.out.keep hW hnp).cell rfl, by have := hW.size; omega, by have := hW.size; omega⟩)
              obtain ⟨q0, q1, q2, q3, q4⟩ := Blk.five (i := ⟨io, ia, ib, ic, iN⟩) HI6.out
              have ql := HI6.out.lt
              clear hP6 hfz hox hap hnp hb6x h128 hgp' hb5
              go_upto_region 26 with fail
              have c1 : W6.cell? ⟨gp, m * 2 + 1, none⟩ = some (.slice y.A cl y.c) := HCY.out
              have HML := hid (show cl + 1 ≤ maxLen by unfold maxLen; omega)
              have HBY := hid (show (cl + 1) * 40 ≤ 140737488355328 by omega)
              have HBS := hid (show w2.heap.size + 1 ≤ ((W6.alloc (.cells #[.int .i64 io, .int .i64 ia, .int .i64 ib, .int .i64 ic, .int .i64 iN] 23)).drew).heap.size by simp; omega)
              have zi0 : (0 : Int) ≤ (m : Int) := by omega
              have zi1 : (m : Int) < (m : Int) + 1 := by omega
              have zi2 : IntKind.i64.wrap ((m : Int) + 1 - 1) = (m : Int) := by rw [show (m : Int) + 1 - 1 = (m : Int) by omega]; exact wrap_small _ (by omega) (by omega)
              have zi3 : IntKind.i64.wrap (m : Int) = (m : Int) := wrap_small _ (by omega) (by omega)
              go_region_law ((refine step_append_lies _ (by rfl) _ _ _ (by rfl) (w2.heap.size + 1) 23 j0 _ 5 40 Tryd.underlying47 HJ.out HY0.out HY1.out HY2.out rfl (by decide) (.slice y.A cl y.c) cl _ (by rfl) HOW6.out ⟨W6.heap.size, 0, none⟩ 1 1 [.int .i64 io, .int .i64 ia, .int .i64 ib, .int .i64 ic, .int .i64 iN] (by rfl) (by rfl) HNW.out (by simp [Value.oneCell']) (by decide) HML.out HBY.out HBS.out (W6.heap.size + 1) (by simp) ?_; intro gg cpp w7 hown7 hgrow7 hat7 hlt7; have HO7 := hid hown7; have HF7 := hid ((hdr5.mono (fun _ h => h.elim)).trans (Fr.of_grown' hgrow7)); have HAT := hid hat7; have r1 := (HKP.out w7 HF7.out).1; have r2 := (HKP.out w7 HF7.out).2.1; have r3 := (HKP.out w7 HF7.out).2.2.1; have r4 := (HKP.out w7 HF7.out).2.2.2.1; have r5 := (HKP.out w7 HF7.out).2.2.2.2; clear hown7 hgrow7 hat7))
              all_goals
                clear zi2 zi3
                have hst := state_ins hF HB6.out HO.out HLM.out HRUN.out HX.out HLQ.out (by rw [HNA.out]; exact hlt) HCL.out hr6 HF7.out HAT.out HO7.out
                rw [HNA.out] at hst
                have HST := hid hst
                clear hst
                go_wp2_with fail
                go_roundg (na - (k + 1))
                case rel => exact HST.out
                case measure => have := HD.out; have := HNA.out; omega
          · have hLQ : lineF ((L' ++ [y]).map (·.f)) x = ([], er) := by rw [HLF.out]; exact extF_bad HNE.out HRDX.out he
            have HQ := hid (show prs s = ([], k + 1, er) by
              have := prs_stop HS.out HC.out (split_at HX.out) HRUN.out (by rw [hLQ]; exact he)
              rw [hLQ] at this
              exact this)
            have t3 : (er != 0) = true := by simpa using he
            clear hLQ he
            have p0 : W6.cell? ⟨w.heap.size, 0, none⟩ = some (.slice none 0 0) := HR6.out.cell rfl
            have n0 : W6.cell? ⟨w.heap.size + 1, 0, none⟩ = some (.slice none 0 0) := HN6.out.cell rfl
            have f0 := HR6.out.frozen 0
            have pl := HR6.out.lt
            have pn := HN6.out.lt
            go_wp2_with fail
            have hR9 := HR6.out.set 0 (.slice none 0 0)
            have hF9 : Fr (fun k => k = w.heap.size) W6 _ := Fr.setCell (S := fun k => k = w.heap.size) W6 ⟨w.heap.size, 0, none⟩ (.slice none 0 0) rfl
            obtain ⟨w9, hw9⟩ : ∃ w9, w9 = W6.setCell ⟨w.heap.size, 0, none⟩ (.slice none 0 0) := ⟨_, rfl⟩
            rw [← hw9] at hR9 hF9 ⊢
            clear hw9 p0
            have p0 : w9.cell? ⟨w.heap.size, 0, none⟩ = some (.slice none 0 0) := hR9.cell rfl
            refine bodyPost_ret (v := .tuple #[.agg #[.slice none 0 0], .int .i64 ((k + 1 : Nat) : Int), .int .i64 er]) ?hv rfl ?hp
            case hv => (simp [results, Tryd.results17, go_sem, p0]; try rfl)
            case hp => exact (PsPost.bad rfl ((hFB6).trans (hF9.mono (fun k hk => by show w.heap.size ≤ k; omega))).all).eq HQ.out
    · obtain rfl : k = na := by omega
      have cb : wr.cell? ⟨g, k, none⟩ = some (.string (bs b)) := (cell_keep (hF3.mono (fun _ h => h.elim) |>.trans hF) (p := ⟨g, k, none⟩) hg2 (show ¬ w2.heap.size ≤ g by omega)).trans HGB.out
      have hgr : g < wr.heap.size := by omega
      have HRN := hid (show runC a [] 0 = (L.map (·.f), k, 0) by have := HRUN.out; rw [List.take_of_length_le (by rw [HNA.out]; exact Nat.le_refl _)] at this; exact this)
      have hbl := HBL.out
      rw [← bs_size] at hbl
      by_cases hb : b = []
      · have hb0 : (bs b).size = 0 := by rw [hb]; rfl
        have HB := hid hb
        obtain ⟨Sb, hSb⟩ : ∃ Sb, bs b = Sb := ⟨_, rfl⟩
        rw [hSb] at cb hb0
        clear hb hSb hbl
        rcases last_cases L with hL | ⟨L', y, hL⟩
        · obtain rfl : n = 0 := by rw [← HLN.out, hL]; rfl
          have HQ := hid (show prs s = ([], k + 1, 12) by
            have := prs_none HS.out (by rw [HC.out, HB.out]) HRN.out (.inl (by rw [hL]; rfl))
            rw [HNA.out] at this
            exact this)
          clear hL
          have p0 : wr.cell? ⟨w.heap.size, 0, none⟩ = some (.slice none 0 0) := HRr.out.cell rfl
          have n0 : wr.cell? ⟨w.heap.size + 1, 0, none⟩ = some (.slice none 0 0) := HNr.out.cell rfl
          have f0 := HRr.out.frozen 0
          have pl := HRr.out.lt
          have pn := HNr.out.lt
          go_wp2_with fail
          have hR9 := HRr.out.set 0 (.slice none 0 0)
          have hF9 : Fr (fun k => k = w.heap.size) wr _ := Fr.setCell (S := fun k => k = w.heap.size) wr ⟨w.heap.size, 0, none⟩ (.slice none 0 0) rfl
          obtain ⟨w9, hw9⟩ : ∃ w9, w9 = wr.setCell ⟨w.heap.size, 0, none⟩ (.slice none 0 0) := ⟨_, rfl⟩
          rw [← hw9] at hR9 hF9 ⊢
          clear hw9 p0
          have p0 : w9.cell? ⟨w.heap.size, 0, none⟩ = some (.slice none 0 0) := hR9.cell rfl
          refine bodyPost_ret (v := .tuple #[.agg #[.slice none 0 0], .int .i64 ((k + 1 : Nat) : Int), .int .i64 12]) ?hv rfl ?hp
          case hv => (simp [results, Tryd.results17, go_sem, p0]; try rfl)
          case hp => exact (PsPost.bad rfl ((hFBr).trans (hF9.mono (fun k hk => by show w.heap.size ≤ k; omega))).all).eq HQ.out
        · obtain ⟨m, rfl⟩ : ∃ m, n = m + 1 := ⟨L'.length, by rw [← HLN.out, hL]; simp⟩
          have hLm : L'.length = m := by have := HLN.out; rw [hL, List.length_append, List.length_singleton] at this; omega
          obtain ⟨gp, rfl, hgp1, hgp2, _, _, cy⟩ := HO.out.at_ (k := m) (x := y) (by rw [hL, ← hLm]; simp)
          obtain ⟨cl, hcl⟩ : ∃ cl, y.f.code.length = cl := ⟨_, rfl⟩
          rw [hcl] at cy
          have hbr : bare (L.map (·.f)) = y.f.code.isEmpty := by rw [hL, List.map_append]; exact bare_snoc _ _
          have hcl2 : cl ≤ 128 := by
            have := HBO.out.2 y.f (by rw [hL]; simp)
            omega
          have z1 : (0 : Int) < (m : Int) + 1 := by omega
          have hLne : L.map (·.f) ≠ [] := by rw [hL]; simp
          by_cases h0 : cl = 0
          · have HQ := hid (show prs s = ([], k + 1, 12) by
              have := prs_none HS.out (by rw [HC.out, HB.out]) HRN.out (.inr (by rw [hbr, List.isEmpty_iff]; exact List.eq_nil_of_length_eq_zero (by omega)))
              rw [HNA.out] at this
              exact this)
            subst h0
            clear hL hLm hcl hbr hLne
            have p0 : wr.cell? ⟨w.heap.size, 0, none⟩ = some (.slice none 0 0) := HRr.out.cell rfl
            have n0 : wr.cell? ⟨w.heap.size + 1, 0, none⟩ = some (.slice none 0 0) := HNr.out.cell rfl
            have f0 := HRr.out.frozen 0
            have pl := HRr.out.lt
            have pn := HNr.out.lt
            go_wp2_with fail
            have hR9 := HRr.out.set 0 (.slice none 0 0)
            have hF9 : Fr (fun k => k = w.heap.size) wr _ := Fr.setCell (S := fun k => k = w.heap.size) wr ⟨w.heap.size, 0, none⟩ (.slice none 0 0) rfl
            obtain ⟨w9, hw9⟩ : ∃ w9, w9 = wr.setCell ⟨w.heap.size, 0, none⟩ (.slice none 0 0) := ⟨_, rfl⟩
            rw [← hw9] at hR9 hF9 ⊢
            clear hw9 p0
            have p0 : w9.cell? ⟨w.heap.size, 0, none⟩ = some (.slice none 0 0) := hR9.cell rfl
            refine bodyPost_ret (v := .tuple #[.agg #[.slice none 0 0], .int .i64 ((k + 1 : Nat) : Int), .int .i64 12]) ?hv rfl ?hp
            case hv => (simp [results, Tryd.results17, go_sem, p0]; try rfl)
            case hp => exact (PsPost.bad rfl ((hFBr).trans (hF9.mono (fun k hk => by show w.heap.size ≤ k; omega))).all).eq HQ.out
          · have HQ := hid (show prs s = (L.map (·.f), 0, 0) from prs_all HS.out (by rw [HC.out, HB.out]) HRN.out (by
              rintro (h | h)
              · exact hLne h
              · rw [hbr, List.isEmpty_iff] at h
                rw [h] at hcl
                exact h0 hcl.symm))
            have t2 : ((cl : Int) == 0) = false := beq_eq_false_iff_ne.2 (by omega)
            clear hL hLm hcl hbr hLne h0
            have p0 : wr.cell? ⟨w.heap.size, 0, none⟩ = some (.slice none 0 0) := HRr.out.cell rfl
            have f0 := HRr.out.frozen 0
            have pl := HRr.out.lt
            go_wp2_with fail
            have hR9 := HRr.out.set 0 (.slice (some ⟨gp, 0, none⟩) (m + 1) c)
            have hF9 : Fr (fun k => k = w.heap.size) wr _ := Fr.setCell (S := fun k => k = w.heap.size) wr ⟨w.heap.size, 0, none⟩ (.slice (some ⟨gp, 0, none⟩) (m + 1) c) rfl
            obtain ⟨w9, hw9⟩ : ∃ w9, w9 = wr.setCell ⟨w.heap.size, 0, none⟩ (.slice (some ⟨gp, 0, none⟩) (m + 1) c) := ⟨_, rfl⟩
            rw [← hw9] at hR9 hF9 ⊢
            clear hw9 p0
            have p0 : w9.cell? ⟨w.heap.size, 0, none⟩ = some (.slice (some ⟨gp, 0, none⟩) (m + 1) c) := hR9.cell rfl
            refine bodyPost_ret (v := .tuple #[.agg #[.slice (some ⟨gp, 0, none⟩) (m + 1) c], .int .i64 0, .int .i64 0]) ?hv rfl ?hp
            case hv => (simp [results, Tryd.results17, go_sem, p0]; try rfl)
            case hp => exact PsPost.eq ⟨some ⟨gp, 0, none⟩, c, L, by rw [HLN.out]; rfl, rfl, (HO.out.keep hF9 (fun j hj _ h => by have h : j = w.heap.size := h; omega)).less (by omega), (hFBr.trans (hF9.mono (fun k hk => by show w.heap.size ≤ k; omega))).all⟩ HQ.out
      · have hb0 : 0 < (bs b).size := by rw [bs_size]; exact List.length_pos_iff.2 hb
        have HQ := hid (show prs s = ([], k + 1, 11) by
          have := prs_open HS.out HC.out HRN.out hb
          rw [HNA.out] at this
          exact this)
        obtain ⟨Sb, hSb⟩ : ∃ Sb, bs b = Sb := ⟨_, rfl⟩
        rw [hSb] at cb hb0 hbl
        clear hb hSb
        have p0 : wr.cell? ⟨w.heap.size, 0, none⟩ = some (.slice none 0 0) := HRr.out.cell rfl
        have n0 : wr.cell? ⟨w.heap.size + 1, 0, none⟩ = some (.slice none 0 0) := HNr.out.cell rfl
        have f0 := HRr.out.frozen 0
        have pl := HRr.out.lt
        have pn := HNr.out.lt
        go_wp2_with fail
        have hR9 := HRr.out.set 0 (.slice none 0 0)
        have hF9 : Fr (fun k => k = w.heap.size) wr _ := Fr.setCell (S := fun k => k = w.heap.size) wr ⟨w.heap.size, 0, none⟩ (.slice none 0 0) rfl
        obtain ⟨w9, hw9⟩ : ∃ w9, w9 = wr.setCell ⟨w.heap.size, 0, none⟩ (.slice none 0 0) := ⟨_, rfl⟩
        rw [← hw9] at hR9 hF9 ⊢
        clear hw9 p0
        have p0 : w9.cell? ⟨w.heap.size, 0, none⟩ = some (.slice none 0 0) := hR9.cell rfl
        refine bodyPost_ret (v := .tuple #[.agg #[.slice none 0 0], .int .i64 ((k + 1 : Nat) : Int), .int .i64 11]) ?hv rfl ?hp
        case hv => (simp [results, Tryd.results17, go_sem, p0]; try rfl)
        case hp => exact (PsPost.bad rfl ((hFBr).trans (hF9.mono (fun k hk => by show w.heap.size ≤ k; omega))).all).eq HQ.out

/-- The document's parse, at every text of at most a million bytes. -/
theorem rparse_any (s : Bs) (hs : s.length ≤ 1000000) (w : World) : Calls Tryd.prog 17 #[.string (bs s)] w (PsPost w (prs s)) := by
  by_cases h : 131072 < s.length
  · exact rparse_long s h hs w
  · exact rparse_main s (by omega) w

end Go.Proofs.YtepbnneggpcbcaaDoor
