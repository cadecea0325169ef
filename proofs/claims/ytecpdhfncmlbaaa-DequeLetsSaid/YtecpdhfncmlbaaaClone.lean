/-
  A clone of a machine.
-/
import Derived.Test.YtecpdhfncmlbaaaReads
import Derived.Test.YtecpdhfncmlbaaaNew
import Derived.Laws.CopyOwn
import Derived.Deep.RegionHeld3
namespace Go.Proofs.Ytecpdhfncmlbaaa
open Go.RowKit
set_option linter.unusedVariables false

def SClonePost (w : World) (l : List Int) (e : Ending) (w' : World) : Prop :=
  ∃ (g cap : Nat) (ex : Array Value), e = .returned (.slice (some ⟨g, 0, none⟩) l.length cap) ∧ w.heap.size ≤ g ∧ Blk w' g (ints l ++ ex) ∧ Fr (fun _ => False) w w'

theorem empty_own1 (w : World) (e : TypeId) : (w.alloc (.cells #[] e)).ownsRow w.heap.size e 1 (.slice (some ⟨w.heap.size, 0, none⟩) 0 0) 0 [] :=
  ⟨rfl, .inr ⟨w.heap.size, 0, #[], rfl, Nat.le_refl _, by show (w.heap.push _)[w.heap.size]? = _; simp, Nat.le_refl _, Nat.zero_le _, rfl, rfl⟩⟩

theorem row_cells {w : World} {bs : Nat} {l : List Int} {ex : Array Value} (h : Blk w bs (ints l ++ ex)) : ∀ j u, (l.map (Value.int .i64))[j]? = some u → w.cell? ((⟨bs, 0, none⟩ : Addr).add j) = some u := by
  intro j u hj
  have hl : j < l.length := by
    have := (List.getElem?_eq_some_iff.1 hj).1
    simpa using this
  have e : (⟨bs, 0, none⟩ : Addr).add j = ⟨bs, j, none⟩ := by
    unfold Addr.add
    split
    · subst_vars; rfl
    · simp
  rw [e, h.cell (ints_ex l ex j hl)]
  rw [← hj]
  simp [hl]

theorem own_blk {w : World} {base : Nat} {e : TypeId} {v : Value} {l : List Int} (h0 : 0 < l.length) (h : w.ownsRow base e 1 v l.length (l.map (Value.int .i64))) :
    ∃ (g cap : Nat) (ex : Array Value), v = .slice (some ⟨g, 0, none⟩) l.length cap ∧ base ≤ g ∧ Blk w g (ints l ++ ex) := by
  obtain ⟨_, h2⟩ := h
  rcases h2 with ⟨_, hn⟩ | ⟨g, cap, cur, hv, hg, hh, hc, _, hs, ht⟩
  · omega
  · refine ⟨g, cap, (cur.toList.drop l.length).toArray, hv, hg, e, ?_⟩
    rw [hh]
    congr 2
    apply Array.ext'
    rw [Nat.mul_one] at ht
    simp only [ints, Array.toList_append]
    rw [← ht, List.take_append_drop]

theorem ints_one (l : List Int) : ∀ u ∈ l.map (Value.int .i64), u.oneCell' = true := by
  intro u hu
  obtain ⟨x, _, rfl⟩ := List.mem_map.1 hu
  rfl

theorem Fr.grown {w w' : World} {row : Option Nat} {S : Nat → Prop} (h : w.grownBy w' row) (hr : ∀ k, row = some k → S k) : Fr S w w' :=
  ⟨h.os, h.tape, h.output, h.size, fun k hk hn => h.block k hk (fun e => hn (hr k e.symm))⟩

set_option maxHeartbeats 400000 in
theorem sclone_ok (bs cap : Nat) (l : List Int) (ex : Array Value) (w : World) (h : Blk w bs (ints l ++ ex)) (h0 : 0 < l.length) (h17 : l.length ≤ 17) :
    Calls Try.prog 59 #[.slice (some ⟨bs, 0, none⟩) l.length cap] w (SClonePost w l) := by
  have hnil := fun (W : World) => Lib.run_eql_slice_nil (P := Try.prog) W 71 3 (some ⟨bs, 0, none⟩) l.length cap 0 0 Try.underlying71
  obtain ⟨i0, hi, hz⟩ := Option.map_eq_some_iff.1 Try.infoi
  simp only [Prod.mk.injEq] at hz
  obtain ⟨hz0, hz1, hz2⟩ := hz
  have HS := hid (row_cells (h.alloc (.cells #[] 3)))
  go_enter Try.func59, Try.ntmps59
  go_wp2_with (at_builtin; refine wpList_append_own _ rfl _ _ 71 rfl w.heap.size 3 i0 (.int .i64 0) 1 8 Try.underlying71 hi hz0 hz1 hz2 rfl (by decide) _ 0 [] rfl (empty_own1 w 3) ⟨bs, 0, none⟩ l.length cap (l.map (Value.int .i64)) rfl (by simp) HS.out (ints_one l) (by unfold maxLen; omega) (by omega) (by simp) ?_; intro v' w3 hown hgrow hnil3)
  go_ret
  rw [Nat.zero_add, List.nil_append] at hown
  obtain ⟨g, cap', ex', rfl, hg, hB⟩ := own_blk h0 hown
  exact ⟨g, cap', ex', rfl, hg, hB, (Fr.alloc _ _ _).since (Fr.grown (S := fun k => k = w.heap.size) hgrow (fun k hk => (Option.some.inj (show some w.heap.size = some k from hk)).symm)) (fun i hi hl => by omega)⟩

theorem Blk.setRow {w : World} {g : Nat} {c : Array Value} (h : Blk w g c) (c' : Array Value) : Blk (w.setRow g c') g c' := by
  obtain ⟨t, h⟩ := h
  exact ⟨t, by simp [World.setRow, Array.getElem?_modify, h]⟩
theorem Fr.setRow {S : Nat → Prop} (w : World) (g : Nat) (c : Array Value) (h : S g) : Fr S w (w.setRow g c) :=
  ⟨rfl, rfl, rfl, by simp [World.setRow], fun k _ hn => setRow_other w g k c (fun e => hn (e ▸ h))⟩

def ClonePost (w : World) (M : Mach) (e : Ending) (w' : World) : Prop :=
  ∃ b : MB, e = .returned (.pointer (some ⟨b.m, 0, none⟩)) ∧ IsM w' b M ∧ Fr (fun _ => False) w w' ∧ ∀ i, b.own i → w.heap.size ≤ i

theorem clone_row (M : Mach) (hle : M.used ≤ M.all.length) (hfree : ∀ i, M.used ≤ i → M.all.getD i 0 = 0) :
    ((madeCells #[.int .i64 0] M.all.length).toList.take 0 ++ ((M.all.take M.used).map (Value.int .i64) ++ (madeCells #[.int .i64 0] M.all.length).toList.drop (0 + ((M.all.take M.used).map (Value.int .i64)).length))).toArray = ints M.all := by
  rw [made_ints]
  unfold ints
  congr 1
  simp only [List.take_zero, List.nil_append, List.length_map, List.length_take, Nat.zero_add, Nat.min_eq_left hle]
  rw [← List.map_drop, ← List.map_append]
  congr 1
  apply List.ext_getElem
  · simp; omega
  · intro i h1 h2
    by_cases hi : i < M.used
    · rw [List.getElem_append_left (by simp; omega)]
      simp
    · rw [List.getElem_append_right (by simp; omega)]
      have := hfree i (by omega)
      simp [h2] at this
      simp [this]

theorem clone_src {w : World} {b : MB} {M : Mach} (h : IsM w b M) : ∀ j u, ((M.all.take M.used).map (Value.int .i64))[j]? = some u → w.cell? ((⟨b.g, 0, none⟩ : Addr).add j) = some u := by
  intro j u hj
  have hB : Blk w b.g (ints M.all ++ #[]) := by simpa using h.hg
  refine row_cells hB j u ?_
  have hl : j < (M.all.take M.used).length := by
    have := (List.getElem?_eq_some_iff.1 hj).1
    simpa using this
  rw [← hj]
  simp only [List.length_take] at hl
  simp [show j < M.used by omega]

set_option maxHeartbeats 1000000 in
set_option maxRecDepth 100000 in
theorem clone_ok (b : MB) (M : Mach) (w : World) (h : IsM w b M) (h1 : 1 ≤ M.all.length) (h0 : 0 < M.steps.length) :
    Calls Try.prog 32 #[.pointer (some ⟨b.m, 0, none⟩)] w (ClonePost w M) := by
  have c0 := h.c0
  have c1 := h.c1
  have q1 := h.le
  have q2 := h.small
  have m1 := run_make_row' (P := Try.prog) 30 2 (.int .i64 0) 8 Try.underlying30 Try.infol rfl .i64 .i64 M.all.length (by omega) (by omega)
  have hlt := h.hm.lt
  have HG := hid (show (w.alloc (.cells (madeCells #[.int .i64 0] M.all.length) 2)).heap[w.heap.size]? = some (.cells (madeCells #[.int .i64 0] M.all.length) 2 (0, 0)) by show (w.heap.push _)[w.heap.size]? = _; simp)
  have HS := hid (clone_src (h.same (Fr.alloc _ _ (.cells (madeCells #[.int .i64 0] M.all.length) 2))))
  have hinf : (Try.prog.info? 2).map (·.size) = some 1 := by kernel_rfl
  have HI := hid hinf
  clear hinf
  go_enter Try.func32, Try.ntmps32
  go_wp2_with (refine wpList_copy_own (o := ⟨some 16, _, _, _, _, _⟩) rfl (.tmp 11) (.tmp 15) 30 30 rfl 2 Try.underlying30 HI.out w.heap.size 0 M.all.length M.all.length ⟨b.g, 0, none⟩ M.used M.all.length rfl rfl (madeCells #[.int .i64 0] M.all.length) 2 HG.out ((M.all.take M.used).map (Value.int .i64)) (by simp) HS.out (by simp [size_madeCells]; omega) (ints_one _) ?_)
  rw [clone_row M h.le h.free]
  obtain ⟨w2, hw2⟩ : ∃ w2, (w.alloc (.cells (madeCells #[.int .i64 0] M.all.length) 2)).setRow w.heap.size (ints M.all) = w2 := ⟨_, rfl⟩
  have hF2 : Fr (fun _ => False) w w2 := by
    rw [← hw2]
    exact (Fr.alloc _ _ _).since (Fr.setRow (S := fun k => k = w.heap.size) _ _ _ rfl) (fun i hi hl => by omega)
  have hB2 : Blk w2 w.heap.size (ints M.all) := by
    rw [← hw2]
    exact (Blk.new _ _ _).setRow _
  rw [hw2]
  clear hw2 HG HS HI c0 c1 hlt
  have hM2 := h.same hF2
  have k0 := hM2.c0
  have k1 := hM2.c1
  have k2 := hM2.c2
  go_region_held3 (fun w' => w'.cell? ⟨b.m, 0, none⟩ = some (.slice (some ⟨b.g, 0, none⟩) M.used M.all.length) ∧ w'.cell? ⟨b.m, 1, none⟩ = some (.int .i64 M.all.length) ∧ w'.cell? ⟨b.m, 2, none⟩ = some (.slice (some ⟨b.s, 0, none⟩) M.steps.length b.cap))
    (first | exact ⟨k0, k1, k2⟩ | exact ⟨hM3.c0, hM3.c1, hM3.c2⟩ | exact ⟨(hM3.same (Fr.alloc _ _ _)).c0, (hM3.same (Fr.alloc _ _ _)).c1, (hM3.same (Fr.alloc _ _ _)).c2⟩)
    (first | (go_at_call 59; refine (sclone_ok b.s b.cap M.steps b.ex _ (hM2.same (Fr.drew _ _)).hs h0 hM2.few).mono ?_; rintro e w3 ⟨g, cp, ex', rfl, hg3, hB3, hF3⟩; have hM3 := (hM2.same (Fr.drew _ _)).same hF3))
  go_wp2_with fail
  go_ret
  have s1 := hB2.lt
  have s2 : w2.heap.size ≤ w3.heap.size := hF3.size
  have s3 := hB3.lt
  have s4 : w2.heap.size ≤ g := hg3
  have hBg : Blk w3 w.heap.size (ints M.all) := (hB2.drew).keep hF3 id
  refine ⟨⟨w3.heap.size, w.heap.size, g, cp, ex'⟩, rfl, ⟨Blk.new _ _ _, hBg.alloc _, hB3.alloc _, ?_, ?_, ?_, h.le, h.free, h.small, h.few⟩, hF2.trans (((Fr.drew _ _).trans hF3).trans (Fr.alloc _ _ _)), ?_⟩
  · show w3.heap.size ≠ w.heap.size
    omega
  · show w3.heap.size ≠ g
    omega
  · show w.heap.size ≠ g
    omega
  · rintro i (hh | hh | hh)
    · rw [hh]
      show w.heap.size ≤ w3.heap.size
      omega
    · rw [hh]
      exact Nat.le_refl _
    · rw [hh]
      show w.heap.size ≤ g
      omega

set_option maxHeartbeats 400000 in
theorem clone_nil (w : World) : Calls Try.prog 32 #[.pointer none] w fun e w' => e = .returned (.pointer none) ∧ w = w' := by
  go_enter Try.func32, Try.ntmps32
  go_wp2
  go_ret
  exact ⟨rfl, rfl⟩
end Go.Proofs.Ytecpdhfncmlbaaa
