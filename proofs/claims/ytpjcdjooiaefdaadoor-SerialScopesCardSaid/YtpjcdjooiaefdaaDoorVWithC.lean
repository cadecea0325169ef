/-
  A program with another first function, made.
-/
import Derived.Test.YtpjcdjooiaefdaaDoorVCopy
import Derived.Test.YtpjcdjooiaefdaaDoorVSerT
import Derived.Test.YtpjcdjooiaefdaaDoorVPlainW
import Derived.Laws.AppendOwnNone
namespace Go.Proofs.YtpjcdjooiaefdaaDoor
open Go.RowKit
set_option linter.unusedVariables false

theorem own_nil_fr {w w' : World} (h : w.grownBy w' (Value.slice none 0 0).ownBlock) : Fr (fun _ => False) w w' :=
  (Fr.of_grown h).mono (fun k hk => by obtain ⟨a, ha, _⟩ := hk; cases ha)

/-- A row of functions whose k-th one is put anew. -/
theorem prg_put2 {w w1 w' : World} {B g n cap k : Nat} {L : List Fo} {x : Fo} (h : OwnR w B 40 2 (some ⟨g, 0, none⟩) n cap (L.flatMap Fo.cells)) (hk : k < n)
    (hw : w1 = (w.setCell ⟨g, k * 2, none⟩ (.int .i64 x.f.needs)).setCell ⟨g, k * 2 + 1, none⟩ (.slice x.A x.f.code.length x.c)) {q : Nat} (hF : Fr (fun j => j = q) w1 w') (hgq : ¬ g = q) (hc : ∀ y ∈ L, Cod w' w'.heap.size y.A y.f.code) (hx : Cod w' w'.heap.size x.A x.f.code) :
    Prg w' w'.heap.size (some ⟨g, 0, none⟩) ((L.map Fo.f).set k x.f) := by
  have hlen := h.1
  rw [flat_len Fo.cells 2 Fo.cells_len] at hlen
  obtain ⟨_, h2⟩ := h
  rcases h2 with ⟨h2, _⟩ | ⟨g', c', cur, hv, hb, hh, hnc, hcm, hcs, htk⟩
  · cases h2
  · injection hv with hv
    injection hv with hv
    injection hv with hv
    subst hv
    have hbl : Blk w g cur := ⟨_, hh⟩
    have hbl' : Blk w' g ((cur.setIfInBounds (k * 2) (.int .i64 x.f.needs)).setIfInBounds (k * 2 + 1) (.slice x.A x.f.code.length x.c)) := by
      refine Blk.keep ?_ hF hgq
      rw [hw]
      exact (hbl.set _ _).set _ _
    intro _
    refine ⟨g, 0, rfl, hbl'.lt, fun i f hf => ?_⟩
    have hcell : ∀ j u, j < n * 2 → (L.flatMap Fo.cells)[j]? = some u → cur[j]? = some u := fun j u hj hu => by
      rw [← htk, List.getElem?_take, if_pos hj] at hu
      simpa using hu
    by_cases e : i = k
    · subst e
      rw [List.getElem?_set, if_pos rfl, if_pos (by rw [List.length_map]; omega)] at hf
      cases hf
      refine ⟨x.A, x.c, ?_, ?_, hx⟩
      · rw [Nat.zero_add]
        refine hbl'.cell ?_
        rw [Array.getElem?_setIfInBounds_ne (by omega), Array.getElem?_setIfInBounds_self_of_lt (by omega)]
      · rw [Nat.zero_add]
        refine hbl'.cell ?_
        rw [Array.getElem?_setIfInBounds_self_of_lt (by simp; omega)]
    · rw [List.getElem?_set, if_neg (fun h => e h.symm), List.getElem?_map] at hf
      obtain ⟨y, hy, rfl⟩ := Option.map_eq_some_iff.1 hf
      have hil : i < n := by have := (List.getElem?_eq_some_iff.1 hy).1; omega
      refine ⟨y.A, y.c, ?_, ?_, hc y (List.mem_of_getElem? hy)⟩
      · rw [Nat.zero_add]
        refine hbl'.cell ?_
        rw [Array.getElem?_setIfInBounds_ne (by omega), Array.getElem?_setIfInBounds_ne (by omega)]
        exact hcell _ _ (by omega) (by rw [← Nat.add_zero (i * 2), flat_at Fo.cells 2 Fo.cells_len hy (by omega)]; rfl)
      · rw [Nat.zero_add]
        refine hbl'.cell ?_
        rw [Array.getElem?_setIfInBounds_ne (by omega), Array.getElem?_setIfInBounds_ne (by omega)]
        exact hcell _ _ (by omega) (by rw [flat_at Fo.cells 2 Fo.cells_len hy (by omega)]; rfl)

theorem infoP : (Tryd.prog.info? 24).map (·.size) = some 1 := by kernel_rfl

/-- A program that is made anew. -/
def WithPost (P : List Fn) (code : List Ins) (n : Nat) (w : World) (e : Ending) (w' : World) : Prop :=
  ∃ g c, e = .returned (.agg #[.slice (some ⟨g, 0, none⟩) n c]) ∧ Prg w' w'.heap.size (some ⟨g, 0, none⟩) (P.set 0 ⟨0, code⟩) ∧ Fr (fun _ => False) w w'

set_option maxRecDepth 100000 in
set_option maxHeartbeats 2000000 in
theorem withP_any (A : Option Addr) (c : Nat) (P : List Fn) (n : Nat) (code : List Ins) (g0 cap0 m : Nat) (w : World) (hp : Prg w w.heap.size A P) (hn : P.length = n) (h1 : 1 ≤ n) (h40 : n ≤ 40) (hc : Cod w w.heap.size (some ⟨g0, 0, none⟩) code) (hm : code.length = m) :
    Calls Tryd.prog 13 #[.agg #[.slice A n c], .slice (some ⟨g0, 0, none⟩) m cap0] w (WithPost P code n w) := by
  obtain ⟨g, o, L, rfl, hg, hLm, hLc, hLd⟩ := prg_fos hp (by omega)
  have HLM := hid hLm
  have HLC := hid hLc
  have HLL := hid (show L.length = n by have := congrArg List.length hLm; rw [List.length_map, hn] at this; exact this)
  obtain ⟨i0, hi, hz⟩ := Option.map_eq_some_iff.1 Tryd.infof
  simp only [Prod.mk.injEq] at hz
  obtain ⟨hz0, hz1, hz2⟩ := hz
  have HI := hid hi
  have HZ0 := hid hz0
  have HZ1 := hid hz1
  have HZ2 := hid hz2
  obtain ⟨w3, hw3⟩ : ∃ w3, w3 = ((w.alloc (.cells #[.slice (some ⟨g, o, none⟩) n c] 24)).alloc (.cells #[.slice none 0 0] 24)).alloc (.cells #[.slice none 0 0] 24) := ⟨_, rfl⟩
  have HF3 := hid (show Fr (fun _ => False) w w3 by rw [hw3]; exact ((Fr.alloc _ _ _).trans (Fr.alloc _ _ _)).trans (Fr.alloc _ _ _))
  obtain ⟨bp, hbp⟩ : ∃ b, w.heap.size = b := ⟨_, rfl⟩
  have HBP := hid (show TBlk w3 bp #[.slice (some ⟨g, o, none⟩) n c] 24 by rw [hw3, ← hbp]; exact ((TBlk.new _ _ _).alloc _).alloc _)
  have HBO := hid (show TBlk w3 (bp + 1) #[.slice none 0 0] 24 by rw [hw3, ← hbp]; exact ((TBlk.new _ _ _).at (by simp)).alloc _)
  have HBQ := hid (show TBlk w3 (bp + 1 + 1) #[.slice none 0 0] 24 by rw [hw3, ← hbp]; exact (TBlk.new _ _ _).at (by simp))
  have HLD := hid (show ∀ (j : Nat) (u : Value), (L.flatMap Fo.cells)[j]? = some u → w3.cell? ((⟨g, o, none⟩ : Addr).add j) = some u from fun j u hu => by
    rw [add_none]
    exact (cell_keep HF3.out (p := ⟨g, o + j, none⟩) hg (fun h => h)).trans (hLd j u hu))
  have HC := hid hc
  have HM := hid hm
  have HN := hid hn
  have HBS := hid hbp
  have p0 := (TBlk.blk HBP.out).cell (i := 0) rfl
  have q0 := (TBlk.blk HBQ.out).cell (i := 0) rfl
  simp only [List.getElem_toArray, List.getElem_cons_zero] at p0 q0
  have lp := (TBlk.blk HBP.out).lt
  have lo := (TBlk.blk HBO.out).lt
  have lq := (TBlk.blk HBQ.out).lt
  have zq := (TBlk.blk HBQ.out).frozen 0
  clear hLm hLc hLd hi hz0 hz1 hz2 hc hm hn hg hp
  go_enter Tryd.func13, Tryd.ntmps13
  go_upto_region 2 with fail
  rw [← hw3]
  clear hw3 hbp
  go_upto_region 3 with (at_builtin; (refine wpList_append_own _ rfl _ _ 22 rfl bp 40 i0 _ 2 32 Tryd.underlying22 HI.out HZ0.out HZ1.out HZ2.out rfl (by decide) (.slice none 0 0) 0 [] rfl (OwnR.nil _ _ _ _) ⟨g, o, none⟩ n c (L.flatMap Fo.cells) rfl (by rw [flat_len Fo.cells 2 Fo.cells_len, HLL.out]) HLD.out (Fo.ones L) (by unfold maxLen; omega) (by omega) (by omega) ?_; intro v2 w4 hown2 hgrow2 hnil2; clear hnil2; rw [Nat.zero_add] at hown2; obtain ⟨A2, c2, rfl, ho2⟩ := OwnR.form hown2; rw [List.nil_append] at ho2; have HO2 := hid ho2; have HF4 := hid (own_nil_fr hgrow2); clear hown2 hgrow2 ho2; have hb4 := TBlk.blk (HBQ.out.keep HF4.out (fun h => h)); have b0 := hb4.cell (i := 0) rfl; have z0 := hb4.frozen 0; have bl := hb4.lt; clear hb4))
  obtain ⟨w5, hw5⟩ : ∃ w5, w5 = w4.setCell ⟨bp + 1 + 1, 0, none⟩ (.slice A2 n c2) := ⟨_, rfl⟩
  have hF5 : Fr (fun k => k = bp + 1 + 1) w4 w5 := by rw [hw5]; exact Fr.setCell _ _ _ rfl
  have hbq5 : Blk w5 (bp + 1 + 1) #[.slice A2 n c2] := by rw [hw5]; exact (TBlk.blk (HBQ.out.keep HF4.out (fun h => h))).set 0 _
  have hne := OwnR.ne HO2.out (HBQ.out.keep HF4.out (fun h => h)) (by decide)
  have hno := OwnR.ne HO2.out (HBO.out.keep HF4.out (fun h => h)) (by decide)
  have ho5 := OwnR.keep HO2.out hF5 (fun j hj e => hne (e ▸ hj))
  have hbo5 : TBlk w5 (bp + 1) #[.slice none 0 0] 24 := (HBO.out.keep HF4.out (fun h => h)).keep hF5 (by omega)
  have hW5 : Fr (fun _ => False) w w5 := Fr.since (HF3.out.trans HF4.out) hF5 (fun i hi hl => by have := HBS.out; omega)
  rw [← hw5]
  clear hw5 b0 z0 bl q0 p0 lp lo lq zq
  obtain ⟨g2, rfl, hg2, hg2l, hfz, hcl⟩ := OwnR.cell ho5 (by omega)
  have HO5 := hid ho5
  have HQ5 := hid hbq5
  have HBO5 := hid hbo5
  have HW5 := hid hW5
  obtain ⟨x, hx⟩ : ∃ x, L[0]? = some x := ⟨_, List.getElem?_eq_getElem (by rw [HLL.out]; omega)⟩
  have z0 := hfz 0
  have z1 := hfz 1
  have r0 := hcl 0 (.int .i64 x.f.needs) (by rw [show (0 : Nat) = 0 * 2 + 0 from rfl, flat_at Fo.cells 2 Fo.cells_len hx (by omega)]; rfl)
  have r1 := hcl 1 (.slice x.A x.f.code.length x.c) (by rw [show (1 : Nat) = 0 * 2 + 1 from rfl, flat_at Fo.cells 2 Fo.cells_len hx (by omega)]; rfl)
  have b0 := hbq5.cell (i := 0) rfl
  simp only [List.getElem_toArray, List.getElem_cons_zero] at b0
  have bl := hbq5.lt
  have o0 := (TBlk.blk hbo5).cell (i := 0) rfl
  simp only [List.getElem_toArray, List.getElem_cons_zero] at o0
  have ol := (TBlk.blk hbo5).lt
  have oz := (TBlk.blk hbo5).frozen 0
  have v1 : (0 : Int) < (n : Int) := by omega
  have hqg : ¬ g2 = bp + 1 + 1 := fun e => hne ⟨_, rfl, e⟩
  have hog : ¬ g2 = bp + 1 := fun e => hno ⟨_, rfl, e⟩
  have hqg' : ¬ bp + 1 + 1 = g2 := fun e => hqg e.symm
  have hog' : ¬ bp + 1 = g2 := fun e => hog e.symm
  have HGB := hid hg2
  clear hF5 hbq5 hne hno ho5 hW5 hbo5 hfz hcl hx hg2
  go_wp2_with fail
  obtain ⟨w7, hw7⟩ : ∃ w7, w7 = (w5.setCell ⟨g2, 0 * 2, none⟩ (.int .i64 0)).setCell ⟨g2, 0 * 2 + 1, none⟩ (.slice (some ⟨g0, 0, none⟩) m cap0) := ⟨_, rfl⟩
  obtain ⟨w8, hw8⟩ : ∃ w8, w8 = w7.setCell ⟨bp + 1, 0, none⟩ (.slice (some ⟨g2, 0, none⟩) n c2) := ⟨_, rfl⟩
  have hF7 : Fr (fun k => k = g2) w5 w7 := by rw [hw7]; exact (Fr.setCell (S := fun k => k = g2) _ _ _ rfl).trans (Fr.setCell (S := fun k => k = g2) _ _ _ rfl)
  have hF8 : Fr (fun k => k = bp + 1) w7 w8 := by rw [hw8]; exact Fr.setCell _ _ _ rfl
  have hbo7 := HBO5.out.keep hF7 hog'
  have hbo8 : Blk w8 (bp + 1) #[.slice (some ⟨g2, 0, none⟩) n c2] := by rw [hw8]; exact (TBlk.blk hbo7).set 0 _
  have hW7 : Fr (fun _ => False) w w7 := Fr.since HW5.out hF7 (fun i hi hl => by have := HGB.out; have := HBS.out; omega)
  have hW8 : Fr (fun _ => False) w w8 := Fr.since hW7 hF8 (fun i hi hl => by have := HBS.out; omega)
  have hcy : ∀ A f, Cod w w.heap.size A f → Cod w8 w8.heap.size A f := fun A f h => (h.same hW8 (Nat.le_refl _)).more hW8.size
  have hQ : Prg w8 w8.heap.size (some ⟨g2, 0, none⟩) (P.set 0 ⟨0, code⟩) := by
    have h := prg_put2 (x := ⟨⟨0, code⟩, some ⟨g0, 0, none⟩, cap0⟩) (k := 0) HO5.out (by omega) (by rw [hw7]; show _ = (w5.setCell _ _).setCell _ (.slice (some ⟨g0, 0, none⟩) code.length cap0); rw [HM.out]) hF8 hog (fun y hy => hcy _ _ (HLC.out y hy)) (hcy _ _ HC.out)
    rw [HLM.out] at h
    exact h
  have e8 : ((w5.setCell ⟨g2, 0, none⟩ (.int .i64 0)).setCell ⟨g2, 1, none⟩ (.slice (some ⟨g0, 0, none⟩) m cap0)).setCell ⟨bp + 1, 0, none⟩ (.slice (some ⟨g2, 0, none⟩) n c2) = w8 := by rw [hw8, hw7]
  rw [e8]
  exact bodyPost_ret (res_one rfl rfl hbo8 Tryd.underlying24 rfl infoP rfl) rfl ⟨g2, c2, rfl, hQ, hW8⟩

end Go.Proofs.YtpjcdjooiaefdaaDoor
