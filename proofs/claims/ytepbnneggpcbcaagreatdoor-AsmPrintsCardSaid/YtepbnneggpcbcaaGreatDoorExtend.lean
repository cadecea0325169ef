/-
  asm.extend.
-/
import Derived.Test.YtepbnneggpcbcaaGreatDoorBegin
namespace Go.Proofs.YtepbnneggpcbcaaGreatDoor
open Go.RowKit

theorem Blk.five {w : World} {b : Nat} {i : Ins} (h : Blk w b #[.int .i64 i.op, .int .i64 i.a, .int .i64 i.b, .int .i64 i.c, .int .i64 i.n]) :
    w.cell? ⟨b, 0, none⟩ = some (.int .i64 i.op) ∧ w.cell? ⟨b, 1, none⟩ = some (.int .i64 i.a) ∧ w.cell? ⟨b, 2, none⟩ = some (.int .i64 i.b) ∧ w.cell? ⟨b, 3, none⟩ = some (.int .i64 i.c) ∧ w.cell? ⟨b, 4, none⟩ = some (.int .i64 i.n) :=
  ⟨h.cell rfl, h.cell rfl, h.cell rfl, h.cell rfl, h.cell rfl⟩

theorem OwnR.set {w : World} {B : Nat} {e : TypeId} {k : Nat} {g n cap : Nat} {xs : List Value} (h : OwnR w B e k (some ⟨g, 0, none⟩) n cap xs) (i : Nat) (v : Value) : OwnR (w.setCell ⟨g, i, none⟩ v) B e k (some ⟨g, 0, none⟩) n cap (xs.set i v) := by
  obtain ⟨h1, h2⟩ := h
  refine ⟨by rw [List.length_set]; exact h1, ?_⟩
  rcases h2 with ⟨h2, _⟩ | ⟨g', c, cur, hv, hb, hh, h3, h4, h5, htk⟩
  · cases h2
  · refine .inr ⟨g', c, cur.setIfInBounds i v, hv, hb, ?_, h3, h4, by simpa using h5, ?_⟩
    · injection hv with hv _ _
      injection hv with hv
      injection hv with hv _ _
      subst hv
      simp [World.setCell, Array.getElem?_modify, hh]
    · rw [← htk, Array.toList_setIfInBounds, List.take_set]

theorem set_last (L : List Fo) (x y : Fo) (hy : y.f.needs = x.f.needs) : ((L ++ [x]).flatMap Fo.cells).set (L.length * 2 + 1) (.slice y.A y.f.code.length y.c) = (L ++ [y]).flatMap Fo.cells := by
  rw [List.flatMap_append, List.flatMap_append, List.set_append_right _ _ (by rw [flat_len Fo.cells 2 Fo.cells_len]; omega), flat_len Fo.cells 2 Fo.cells_len]
  congr 1
  rw [show L.length * 2 + 1 - L.length * 2 = 1 by omega]
  simp [Fo.cells, hy]

theorem extF_nil {l : Bs} : extF [] l = ([], 11) := rfl
theorem extF_bad {fs : List Fn} {l : Bs} {i : Ins} {e : Int} (h : fs ≠ []) (hr : rd l = (i, e)) (he : e ≠ 0) : extF fs l = ([], e) := by unfold extF; rw [if_neg h, hr, if_pos he]
theorem extF_long {fs : List Fn} {l : Bs} {i : Ins} (h : fs ≠ []) (hr : rd l = (i, 0)) (hl : lastLen fs = 128) : extF fs l = ([], 12) := by unfold extF; rw [if_neg h, hr, if_neg (by simp), if_pos hl]
theorem extF_ok {fs : List Fn} {l : Bs} {i : Ins} (h : fs ≠ []) (hr : rd l = (i, 0)) (hl : lastLen fs ≠ 128) : extF fs l = (pushI fs i, 0) := by unfold extF; rw [if_neg h, hr, if_neg (by simp), if_neg hl]

theorem ext_post {w W2 w3 : World} {B g cap m cl gg cp : Nat} {L : List Fo} {x : Fo} {i : Ins} {e : Ending} (HO : OwnP w B (some ⟨g, 0, none⟩) cap (L ++ [x])) (hF : Fr (fun _ => False) w W2)
    (HO3 : OwnR w3 B 35 5 (some ⟨gg, 0, none⟩) (cl + 1) cp (x.f.code.flatMap Ins.cells ++ i.cells)) (hcl : x.f.code.length = cl) (HF3 : Fr (ownB x.A) W2 w3) (hat : (Value.slice x.A cl x.c).ownBlock = some gg ∨ gg = W2.heap.size + 1) (hm : L.length = m)
    (he : e = .returned (.tuple #[.slice (some ⟨g, 0, none⟩) (m + 1) cap, .int .i64 0])) :
    PgPost w B (some ⟨g, 0, none⟩) (L ++ [x]) (pushI ((L ++ [x]).map (·.f)) i, 0) e (w3.setCell ⟨g, m * 2 + 1, none⟩ (.slice (some ⟨gg, 0, none⟩) (cl + 1) cp)) := by
  have hP := HO.same hF
  have hx : OwnI W2 B x.A x.c x.f.code := hP.codes x (by simp)
  have hgg : ∀ j, gg = j → ownB x.A j ∨ W2.heap.size ≤ j := by
    rintro j rfl
    rcases hat with h | h
    · left
      obtain ⟨f, A, c⟩ := x
      cases A with
      | none => simp [Value.ownBlock] at h
      | some a0 => exact ⟨a0, rfl, by simpa [Value.ownBlock] using h⟩
    · right; omega
  have hrow3 : OwnR w3 B 32 2 (some ⟨g, 0, none⟩) (L ++ [x]).length cap ((L ++ [x]).flatMap Fo.cells) := OwnR.keep hP.row HF3 (fun j hj hjx => OwnR.apart hx hP.row (by decide) j hjx hj)
  have hFs : Fr (fun k => k = g) w3 (w3.setCell ⟨g, m * 2 + 1, none⟩ (.slice (some ⟨gg, 0, none⟩) (cl + 1) cp)) := Fr.setCell _ _ _ rfl
  have hap := List.pairwise_append.1 HO.apart
  refine ⟨some ⟨g, 0, none⟩, cap, L ++ [⟨⟨x.f.needs, x.f.code ++ [i]⟩, some ⟨gg, 0, none⟩, cp⟩], ?_, ?_, ⟨?_, fun y hy => ?_, ?_⟩, ?_, ?_⟩
  · rw [he, List.length_append, hm]
    rfl
  · rw [List.map_append, List.map_append]
    exact (push_snoc _ _ _).symm
  · have h := hrow3.set (m * 2 + 1) (.slice (some ⟨gg, 0, none⟩) (cl + 1) cp)
    rw [List.length_append, List.length_singleton] at h ⊢
    refine h.eq ?_
    rw [← hm, ← hcl]
    have := set_last L x ⟨⟨x.f.needs, x.f.code ++ [i]⟩, some ⟨gg, 0, none⟩, cp⟩ rfl
    rw [← this]
    simp
  · rw [List.mem_append] at hy
    rcases hy with hy | hy
    · have h2 : OwnI w3 B y.A y.c y.f.code := OwnR.keep (hP.codes y (by simp [hy])) HF3 (fun j hj hjx => hap.2.2 y hy x (by simp) j hj hjx)
      exact OwnR.keep h2 hFs (fun j hj e => OwnR.apart h2 hrow3 (by decide) j hj ⟨_, rfl, e.symm⟩)
    · simp at hy
      subst hy
      have h2 : OwnI w3 B (some ⟨gg, 0, none⟩) cp (x.f.code ++ [i]) := by
        unfold OwnI
        rw [List.length_append, hcl, List.flatMap_append]
        exact OwnR.eq HO3 (by simp)
      exact OwnR.keep h2 hFs (fun j hj e => OwnR.apart h2 hrow3 (by decide) j hj ⟨_, rfl, e.symm⟩)
  · rw [List.pairwise_append]
    refine ⟨hap.1, List.pairwise_singleton _ _, fun y hy z hz j hj hj' => ?_⟩
    simp at hz
    subst hz
    obtain ⟨a', e1, e2⟩ := hj'
    injection e1 with e1
    subst e1
    rcases hgg j e2 with h | h
    · exact hap.2.2 y hy x (by simp) j hj h
    · have := (OwnR.lt (hP.codes y (by simp [hy])) j hj).2
      omega
  · exact (hF.mono (fun _ h => h.elim)).trans ((HF3.mono (fun j hj => .inr ⟨x, by simp, hj⟩)).trans (hFs.mono (fun j hj => .inl ⟨_, rfl, hj.symm⟩)))
  · rintro j (hj | ⟨y, hy, hj⟩)
    · exact .inl (.inl hj)
    · rw [List.mem_append] at hy
      rcases hy with hy | hy
      · exact .inl (.inr ⟨y, by simp [hy], hj⟩)
      · simp at hy
        subst hy
        obtain ⟨a', e1, e2⟩ := hj
        injection e1 with e1
        subst e1
        rcases hgg j e2 with h | h
        · exact .inl (.inr ⟨x, by simp, h⟩)
        · right
          have := hF.size
          omega

set_option maxRecDepth 100000 in
set_option maxHeartbeats 4000000 in
theorem extend_go (w : World) (ht : Tabs w) (B : Nat) (A : Option Addr) (cap m : Nat) (L : List Fo) (x : Fo) (l : Bs) (hl : l.length ≤ 1000000) (ho : OwnP w B A cap (L ++ [x])) (hB : B ≤ w.heap.size) (hm : L.length = m) (h32 : m + 1 ≤ 32) (hx128 : x.f.code.length ≤ 128) :
    Calls Tryz.prog 48 #[.slice A (m + 1) cap, .string (bs l)] w (PgPost w B A (L ++ [x]) (extF ((L ++ [x]).map (·.f)) l)) := by
  obtain ⟨i0, hi, hz⟩ := Option.map_eq_some_iff.1 Tryz.infoi
  simp only [Prod.mk.injEq] at hz
  obtain ⟨hz0, hz1, hz2⟩ := hz
  have HI := hid hi
  have HZ0 := hid hz0
  have HZ1 := hid hz1
  have HZ2 := hid hz2
  clear hi hz0 hz1 hz2
  have hne : (L ++ [x]).map (·.f) ≠ [] := by simp
  have hll : lastLen ((L ++ [x]).map (·.f)) = x.f.code.length := by rw [List.map_append]; exact lastLen_snoc _ _
  have HRD := hid (read_any l hl w ht)
  have HM := hid hm
  have HO := hid ho
  obtain ⟨⟨i, er⟩, hrd⟩ : ∃ q, rd l = q := ⟨_, rfl⟩
  rw [hrd] at HRD
  unfold RdPost at HRD
  have hk : (L ++ [x])[m]? = some x := by rw [← hm]; simp
  obtain ⟨g, rfl, hg1, hg2, _, c0, c1⟩ := ho.at_ hk
  obtain ⟨cl, hcl⟩ : ∃ cl, x.f.code.length = cl := ⟨_, rfl⟩
  rw [hcl] at c1 hll hx128
  have HC1 := hid c1
  have HCL := hid hcl
  clear ho hm hk c0 c1 hcl
  have z1 : (0 : Int) < (m : Int) + 1 := by omega
  by_cases he : er = 0
  · subst he
    by_cases h128 : cl = 128
    · have HQ := hid (extF_long (l := l) hne hrd (by rw [hll, h128]))
      clear hne hrd hll
      have t : ((cl : Int) == 128) = true := by simp; omega
      clear h128
      obtain ⟨op, a, b, c, n⟩ := i
      unfold Ins.val at HRD
      go_enter Tryz.func48, Tryz.ntmps48
      go_wp2_with fail
      refine HRD.out.mono ?_
      rintro e w1 ⟨rfl, hF1⟩
      have c1 : w1.cell? ⟨g, m * 2 + 1, none⟩ = some (.slice x.A cl x.c) := (cell_keep hF1 (p := ⟨g, m * 2 + 1, none⟩) hg2 (fun h => h)).trans HC1.out
      have hs1 := hF1.size
      have hg3 : g < w1.heap.size := by omega
      go_wp2_with fail
      go_ret2
      exact (PgPost.bad rfl (hF1.trans (Fr.alloc _ _ _))).eq HQ.out
    · have HQ := hid (extF_ok (l := l) hne hrd (by rw [hll]; exact h128))
      clear hne hrd hll
      have t : ((cl : Int) == 128) = false := by simp; omega
      have hc128 : cl ≤ 127 := by omega
      clear h128
      obtain ⟨op, a, b, c, n⟩ := i
      unfold Ins.val at HRD
      go_enter Tryz.func48, Tryz.ntmps48
      go_wp2_with fail
      refine HRD.out.mono ?_
      rintro e w1 ⟨rfl, hF1⟩
      have c1 : w1.cell? ⟨g, m * 2 + 1, none⟩ = some (.slice x.A cl x.c) := (cell_keep hF1 (p := ⟨g, m * 2 + 1, none⟩) hg2 (fun h => h)).trans HC1.out
      have hs1 := hF1.size
      have hg3 : g < w1.heap.size := by omega
      go_upto_region 9 with fail
      have hFA := Fr.alloc (fun _ => False) w1 (.cells #[.int .i64 op, .int .i64 a, .int .i64 b, .int .i64 c, .int .i64 n] 35)
      obtain ⟨W2, hW2⟩ : ∃ W2, W2 = w1.alloc (.cells #[.int .i64 op, .int .i64 a, .int .i64 b, .int .i64 c, .int .i64 n] 35) := ⟨_, rfl⟩
      have hs2 : W2.heap.size = w1.heap.size + 1 := by rw [hW2]; simp
      have hb6 : Blk W2 w1.heap.size #[.int .i64 op, .int .i64 a, .int .i64 b, .int .i64 c, .int .i64 n] := by rw [hW2]; exact Blk.new _ _ _
      rw [← hW2] at hFA ⊢
      clear hW2
      have hP := HO.out.same (hF1.trans hFA)
      have HP := hid hP
      have hox : OwnR W2 B 35 5 x.A cl x.c (x.f.code.flatMap Ins.cells) := by
        have := hP.codes x (by simp)
        unfold OwnI at this
        rwa [HCL.out] at this
      have hap : ¬ ownB x.A g := fun h => OwnR.apart (hP.codes x (by simp)) hP.row (by decide) g h ⟨_, rfl, rfl⟩
      have hdr5 : Fr (fun _ => False) W2 ((W2.alloc (.cells #[.int .i64 op, .int .i64 a, .int .i64 b, .int .i64 c, .int .i64 n] 35)).drew) := (Fr.alloc _ _ _).trans (Fr.drew _ _)
      have HOW := hid (OwnR.same hox hdr5)
      have HNW := hid (news8 W2 35 [.int .i64 op, .int .i64 a, .int .i64 b, .int .i64 c, .int .i64 n])
      have hb6x : ¬ ownB x.A w1.heap.size := by
        intro h
        have hb := OwnR.lt ((HO.out.same hF1).codes x (by simp)) _ h
        omega
      have hfz : ∀ q, W2.frozen? ⟨g, q, none⟩ = false := by
        obtain ⟨g', hg', _, _, hfz, _, _⟩ := hP.at_ (x := x) (k := m) (by rw [← HM.out]; simp)
        injection hg' with hg'
        injection hg' with hg' _ _
        subst hg'
        exact hfz
      have c1 : W2.cell? ⟨g, m * 2 + 1, none⟩ = some (.slice x.A cl x.c) := (cell_keep hFA (p := ⟨g, m * 2 + 1, none⟩) hg3 (fun h => h)).trans c1
      have hfz1 := hfz (m * 2 + 1)
      have HKP := hid (show ∀ W, Fr (ownB x.A) W2 W → W.cell? ⟨g, m * 2 + 1, none⟩ = some (.slice x.A cl x.c) ∧ W.frozen? ⟨g, m * 2 + 1, none⟩ = false ∧ W.cell? ⟨w1.heap.size, 0, none⟩ = some (.int .i64 op) ∧ W.cell? ⟨w1.heap.size, 1, none⟩ = some (.int .i64 a) ∧ W.cell? ⟨w1.heap.size, 2, none⟩ = some (.int .i64 b) ∧ W.cell? ⟨w1.heap.size, 3, none⟩ = some (.int .i64 c) ∧ W.cell? ⟨w1.heap.size, 4, none⟩ = some (.int .i64 n) from fun W hW =>
        ⟨(cell_keep hW (p := ⟨g, m * 2 + 1, none⟩) (by show g < W2.heap.size; omega) hap).trans c1, (World.frozen?_of_block (a := ⟨g, m * 2 + 1, none⟩) (hW.block g (by omega) hap)).trans hfz1, Blk.five (hb6.keep hW hb6x) (i := ⟨op, a, b, c, n⟩)⟩)
      have q0 : W2.cell? ⟨w1.heap.size, 0, none⟩ = some (.int .i64 op) := hb6.cell rfl
      have q1 : W2.cell? ⟨w1.heap.size, 1, none⟩ = some (.int .i64 a) := hb6.cell rfl
      have q2 : W2.cell? ⟨w1.heap.size, 2, none⟩ = some (.int .i64 b) := hb6.cell rfl
      have q3 : W2.cell? ⟨w1.heap.size, 3, none⟩ = some (.int .i64 c) := hb6.cell rfl
      have q4 : W2.cell? ⟨w1.heap.size, 4, none⟩ = some (.int .i64 n) := hb6.cell rfl
      have ql := hb6.lt
      have hg4 : g < W2.heap.size := by omega
      have HS2 := hid hs2
      clear hfz hfz1 hb6 hP hox hs2
      go_region_law ((refine step_append_lies _ (by rfl) _ _ _ (by rfl) B 35 i0 _ 5 40 Tryz.underlying30 HI.out HZ0.out HZ1.out HZ2.out rfl (by omega) (.slice x.A cl x.c) cl _ (by rfl) HOW.out ⟨W2.heap.size, 0, none⟩ 1 1 [.int .i64 op, .int .i64 a, .int .i64 b, .int .i64 c, .int .i64 n] (by rfl) (by rfl) HNW.out (by simp [Value.oneCell']) (by omega) (by unfold maxLen; omega) (by omega) (by simp; omega) (W2.heap.size + 1) (by simp) ?_; intro gg cp w3 hown3 hgrow3 hat3 hlt3; have HO3 := hid hown3; have HF3 := hid ((hdr5.mono (fun _ h => h.elim)).trans (Fr.of_grown' hgrow3)); have HAT := hid hat3; have r1 := (HKP.out w3 HF3.out).1; have r2 := (HKP.out w3 HF3.out).2.1; clear hown3 hgrow3 hat3))
      all_goals
        go_wp2_with fail
        go_ret2
        exact (ext_post (i := ⟨op, a, b, c, n⟩) HO.out (hF1.trans hFA) HO3.out HCL.out HF3.out HAT.out HM.out rfl).eq HQ.out
  · have HQ := hid (extF_bad (l := l) hne hrd he)
    clear hne hrd hll
    have t : (er != 0) = true := by simpa using he
    clear he
    obtain ⟨op, a, b, c, n⟩ := i
    unfold Ins.val at HRD
    go_enter Tryz.func48, Tryz.ntmps48
    go_wp2_with fail
    refine HRD.out.mono ?_
    rintro e w1 ⟨rfl, hF1⟩
    go_wp2_with fail
    go_ret2
    exact (PgPost.bad rfl (hF1.trans (Fr.alloc _ _ _))).eq HQ.out

set_option maxHeartbeats 400000 in
theorem extend_nil (w : World) (B : Nat) (cap : Nat) (A : Option Addr) (l : Bs) : Calls Tryz.prog 48 #[.slice A 0 cap, .string (bs l)] w (PgPost w B A [] (extF [] l)) := by
  go_enter Tryz.func48, Tryz.ntmps48
  go_wp2_with fail
  go_ret2
  exact (PgPost.bad rfl (Fr.refl _ _)).eq extF_nil

theorem extend_any (w : World) (ht : Tabs w) (B : Nat) (A : Option Addr) (cap : Nat) (L : List Fo) (l : Bs) (hl : l.length ≤ 1000000) (ho : OwnP w B A cap L) (hB : B ≤ w.heap.size) (h32 : L.length ≤ 32) (h128 : ∀ x ∈ L, x.f.code.length ≤ 128) :
    Calls Tryz.prog 48 #[.slice A L.length cap, .string (bs l)] w (PgPost w B A L (extF (L.map (·.f)) l)) := by
  rcases last_cases L with rfl | ⟨L', x, rfl⟩
  · exact extend_nil w B cap A l
  · rw [List.length_append, List.length_singleton] at h32 ⊢
    exact extend_go w ht B A cap L'.length L' x l hl ho hB rfl h32 (h128 x (by simp))

end Go.Proofs.YtepbnneggpcbcaaGreatDoor
