/-
  Three events, a wait for each, and the document's: what lies in memory; the document's calls.
-/
import Derived.Test.YtlhpngoplmccjaaWakeP
namespace Go.Proofs.Ytlhpngoplmccjaa
open Go.RowKit
set_option linter.unusedVariables false

set_option maxHeartbeats 400000 in
theorem rready_ok (y : Nat) (a s t : Int) (w : World) (h : Blk w y #[.int .i64 a, .int .i64 s]) :
    Calls Try.prog 37 #[.pointer (some ⟨y, 0, none⟩), .int .i64 t] w fun e w' => e = .returned (.tuple #[]) ∧ Blk w' y #[.int .i64 1, .int .i64 t] ∧ Fr (fun k => k = y) w w' := by
  have H := hid h
  have x0 := h.cell (i := 0) rfl
  have x1 := h.cell (i := 1) rfl
  have f0 := h.frozen 0
  have f1 := h.frozen 1
  clear h
  go_enter Try.func37, Try.ntmps37
  go_wp2_with fail
  refine bodyPost_end (v := .tuple #[]) (by simp [results, Try.results37, go_sem]) rfl ?_
  exact ⟨rfl, by simpa using H.out.set2 (.int .i64 1) (.int .i64 t), fr_set2 _ _ _ _⟩

set_option maxHeartbeats 400000 in
theorem rpark_ok (y : Nat) (s : Int) (w : World) (h : Blk w y #[.int .i64 1, .int .i64 s]) :
    Calls Try.prog 39 #[.pointer (some ⟨y, 0, none⟩)] w fun e w' => e = .returned (.int .i64 0) ∧ Blk w' y #[.int .i64 2, .int .i64 s] ∧ Fr (fun k => k = y) w w' := by
  have H := hid h
  have x0 := h.cell (i := 0) rfl
  have f0 := h.frozen 0
  clear h
  go_enter Try.func39, Try.ntmps39
  go_wp2_with fail
  go_ret
  exact ⟨rfl, by simpa using H.out.set 0 (.int .i64 2), Fr.setCell _ _ _ rfl⟩

set_option maxHeartbeats 400000 in
theorem rpark_no (y : Nat) (a s : Int) (w : World) (h : Blk w y #[.int .i64 a, .int .i64 s]) (ha : a ≠ 1) :
    Calls Try.prog 39 #[.pointer (some ⟨y, 0, none⟩)] w fun e w' => e = .returned (.int .i64 19) ∧ w = w' := by
  have t1 : (a != 1) = true := by simpa using ha
  have x0 := h.cell (i := 0) rfl
  clear h ha
  go_enter Try.func39, Try.ntmps39
  go_wp2_with fail
  go_ret
  exact ⟨rfl, rfl⟩

set_option maxHeartbeats 400000 in
theorem rparked_ok (y : Nat) (a s t : Int) (v : Bool) (w : World) (h : Blk w y #[.int .i64 a, .int .i64 s]) (hv : ((a == 2) && (t == s)) = v) :
    Calls Try.prog 42 #[.pointer (some ⟨y, 0, none⟩), .int .i64 t] w fun e w' => e = .returned (.bool v) ∧ Fr (fun _ => False) w w' := by
  have x0 := h.cell (i := 0) rfl
  have x1 := h.cell (i := 1) rfl
  have hb : (t == s) = (s == t) := by rw [Bool.eq_iff_iff]; simp; omega
  rw [hb] at hv
  clear hb h
  rcases t1 : (a == 2) with _ | _
  · have HV := hid (show v = false from by rw [← hv, t1]; rfl)
    clear hv
    go_enter Try.func42, Try.ntmps42
    go_wp2_with fail
    try go_quiet (fail)
    try go_wp2_with fail
    go_ret
    exact ⟨by rw [HV.out]; rfl, by first | exact Fr.drewN _ _ _ | exact Fr.refl _ _⟩
  · have HV := hid (show v = (s == t) from by rw [← hv, t1]; rfl)
    clear hv
    go_enter Try.func42, Try.ntmps42
    go_wp2_with fail
    try go_quiet (fail)
    try go_wp2_with fail
    go_ret
    exact ⟨by rw [HV.out]; rfl, by first | exact Fr.drewN _ _ _ | exact Fr.refl _ _⟩

/-- The three callers' steps. -/
structure Three (s : List Int) (did : Nat) : Prop where
  eq : ∃ a b c : Nat, s = [(a : Int), b, c] ∧ a + b + c = did

theorem Three.step {s : List Int} {did : Nat} (h : Three s did) (hd : did ≤ 1000) {j : Nat} (hj : j < 3) : Three (stp s j) (did + 1) := by
  obtain ⟨a, b, c, rfl, he⟩ := h.eq
  have key : ∀ n : Nat, n ≤ 1000 → wrap64 ((n : Int) + 1) = ((n + 1 : Nat) : Int) := by
    intro n hn
    unfold wrap64
    omega
  match j, hj with
  | 0, _ => exact ⟨⟨a + 1, b, c, by simp [stp, key a (by omega)], by omega⟩⟩
  | 1, _ => exact ⟨⟨a, b + 1, c, by simp [stp, key b (by omega)], by omega⟩⟩
  | 2, _ => exact ⟨⟨a, b, c + 1, by simp [stp, key c (by omega)], by omega⟩⟩

theorem Three.len {s : List Int} {did : Nat} (h : Three s did) : s.length = 3 := by
  obtain ⟨a, b, c, rfl, he⟩ := h.eq
  rfl

/-- Rows of three pointers, the first k of them given. -/
def pt (x : Nat → Nat) (k : Nat) : Array Value := ((List.range 3).map fun j => if j < k then Value.pointer (some ⟨x j, 0, none⟩) else Value.pointer none).toArray

theorem pt_at (x : Nat → Nat) (k j : Nat) (h : j < 3) (hk : j < k) : (pt x k)[j]? = some (.pointer (some ⟨x j, 0, none⟩)) := by
  simp [pt, h, hk]

theorem pt_set (x : Nat → Nat) (k y : Nat) (h : k < 3) : (pt x k).setIfInBounds k (.pointer (some ⟨y, 0, none⟩)) = pt (updn x k y) (k + 1) := by
  match k, h with
  | 0, _ => rfl
  | 1, _ => rfl
  | 2, _ => rfl

theorem made_pt (x : Nat → Nat) : madeCells #[.pointer none] 3 = pt x 0 := by
  apply Array.ext
  · simp [pt, size_madeCells]
  · intro j h1 h2
    simp [madeCells, pt, Nat.mod_one]

/-- The cells of the first k events. -/
def evl : Nat → List Int
  | 0 => [0, 0, 0]
  | 1 => [0, 0, 0]
  | 2 => [0, 1, 0]
  | _ => [0, 1, 2]

theorem evl_len (k : Nat) : (evl k).length = 3 := by unfold evl; split <;> rfl

theorem evl_set (k : Nat) (h : k < 3) : (evl k).set k k = evl (k + 1) := by
  match k, h with
  | 0, _ => rfl
  | 1, _ => rfl
  | 2, _ => rfl

theorem evl_at (k : Nat) (h : k < 3) : (evl 3).getD k 0 = k := by
  match k, h with
  | 0, _ => rfl
  | 1, _ => rfl
  | 2, _ => rfl

/-- Where all lies. -/
structure Env3 (B0 : Nat) (b : MB) (bE bW bR bT : Nat) : Prop where
  ob : ∀ k, b.own k → B0 ≤ k ∧ k < bE
  b0 : B0 ≤ bE
  e1 : bE < bW
  e2 : bW < bR
  e3 : bR < bT

structure Mem3 (w0 : World) (b : MB) (bE bW bR bT : Nat) (x y : Nat → Nat) (n u : Nat) (T D : List Int) (a s ra rs : Nat → Int) (st : List Int) (w : World) : Prop where
  intro ::
  hM : IsM w b (mk T u st)
  hE : Blk w bE (ints (evl n))
  hW : Blk w bW (pt x n)
  hR : Blk w bR (pt y n)
  hT : Blk w bT (ints D)
  hx : ∀ j, j < n → WT w (x j) j (a j) (s j) ∧ bT < x j
  hy : ∀ j, j < n → Blk w (y j) #[.int .i64 (ra j), .int .i64 (rs j)] ∧ bT < y j
  xx : ∀ i j, i < n → j < n → x i = x j → i = j
  yy : ∀ i j, i < n → j < n → y i = y j → i = j
  xy : ∀ i j, i < n → j < n → x i ≠ y j
  hF : Fr (fun _ => False) w0 w

section
variable {w0 w w' : World} {b : MB} {bE bW bR bT : Nat} {x y : Nat → Nat} {n u : Nat} {T D : List Int} {a s ra rs : Nat → Int} {st : List Int}

theorem Mem3.same (h : Mem3 w0 b bE bW bR bT x y n u T D a s ra rs st w) (F : Fr (fun _ => False) w w') : Mem3 w0 b bE bW bR bT x y n u T D a s ra rs st w' :=
  ⟨h.hM.same F, h.hE.same F, h.hW.same F, h.hR.same F, h.hT.same F, fun j hj => ⟨(h.hx j hj).1.same F, (h.hx j hj).2⟩, fun j hj => ⟨(h.hy j hj).1.same F, (h.hy j hj).2⟩, h.xx, h.yy, h.xy, h.hF.trans F⟩

theorem Mem3.mach (E : Env3 w0.heap.size b bE bW bR bT) (h : Mem3 w0 b bE bW bR bT x y n u T D a s ra rs st w) {T' : List Int} {u' : Nat} {st' : List Int} (hM : IsM w' b (mk T' u' st')) (F : Fr b.own w w') : Mem3 w0 b bE bW bR bT x y n u' T' D a s ra rs st' w' := by
  have := E.e1; have := E.e2; have := E.e3; have := E.b0
  exact ⟨hM, h.hE.keep F (fun hh => by have := E.ob _ hh; omega), h.hW.keep F (fun hh => by have := E.ob _ hh; omega), h.hR.keep F (fun hh => by have := E.ob _ hh; omega), h.hT.keep F (fun hh => by have := E.ob _ hh; omega),
    fun j hj => ⟨(h.hx j hj).1.keep F (fun hh => by have := E.ob _ hh; have := (h.hx j hj).2; omega), (h.hx j hj).2⟩, fun j hj => ⟨(h.hy j hj).1.keep F (fun hh => by have := E.ob _ hh; have := (h.hy j hj).2; omega), (h.hy j hj).2⟩,
    h.xx, h.yy, h.xy, h.hF.since F (fun i hi hl => by have := E.ob _ hi; omega)⟩

theorem Mem3.wait (E : Env3 w0.heap.size b bE bW bR bT) (h : Mem3 w0 b bE bW bR bT x y n u T D a s ra rs st w) {v : Nat} (hv : v < n) {a' s' : Int} (hX : WT w' (x v) v a' s') (F : Fr (fun i => i = x v) w w') : Mem3 w0 b bE bW bR bT x y n u T D (updi a v a') (updi s v s') ra rs st w' := by
  have hl := (h.hx v hv).2
  have := E.e1; have := E.e2; have := E.e3; have := E.b0
  refine ⟨h.hM.keep F (fun k hk hh => by have := E.ob _ hk; have hh2 : k = x v := hh; omega), h.hE.keep F (fun hh => by have hh2 : bE = x v := hh; omega), h.hW.keep F (fun hh => by have hh2 : bW = x v := hh; omega), h.hR.keep F (fun hh => by have hh2 : bR = x v := hh; omega),
    h.hT.keep F (fun hh => by have hh2 : bT = x v := hh; omega), fun j hj => ?_, fun j hj => ⟨(h.hy j hj).1.keep F (fun hh => h.xy v j hv hj (Eq.symm hh)), (h.hy j hj).2⟩, h.xx, h.yy, h.xy, h.hF.since F (fun i hi hl2 => by have hh2 : i = x v := hi; omega)⟩
  unfold updi
  by_cases hj2 : j = v
  · subst hj2
    rw [if_pos rfl, if_pos rfl]
    exact ⟨hX, hl⟩
  · rw [if_neg hj2, if_neg hj2]
    exact ⟨(h.hx j hj).1.keep F (fun hh => hj2 (h.xx j v hj hv hh)), (h.hx j hj).2⟩

theorem Mem3.ready (E : Env3 w0.heap.size b bE bW bR bT) (h : Mem3 w0 b bE bW bR bT x y n u T D a s ra rs st w) {v : Nat} (hv : v < n) {a' s' : Int} {st' : List Int} (hM : IsM w' b (mk T u st')) (hX : WT w' (x v) v a' s') (F : Fr (fun i => b.own i ∨ i = x v) w w') : Mem3 w0 b bE bW bR bT x y n u T D (updi a v a') (updi s v s') ra rs st' w' := by
  have hl := (h.hx v hv).2
  have := E.e1; have := E.e2; have := E.e3; have := E.b0
  refine ⟨hM, h.hE.keep F (fun hh => by rcases hh with hh | hh; (have := E.ob _ hh; omega); omega), h.hW.keep F (fun hh => by rcases hh with hh | hh; (have := E.ob _ hh; omega); omega), h.hR.keep F (fun hh => by rcases hh with hh | hh; (have := E.ob _ hh; omega); omega),
    h.hT.keep F (fun hh => by rcases hh with hh | hh; (have := E.ob _ hh; omega); omega), fun j hj => ?_, fun j hj => ⟨(h.hy j hj).1.keep F (fun hh => by
      have := (h.hy j hj).2
      rcases hh with hh | hh
      · have := E.ob _ hh; omega
      · exact h.xy v j hv hj hh.symm), (h.hy j hj).2⟩, h.xx, h.yy, h.xy, h.hF.since F (fun i hi hl2 => by rcases hi with hh | hh; (have := E.ob _ hh; omega); omega)⟩
  unfold updi
  by_cases hj2 : j = v
  · subst hj2
    rw [if_pos rfl, if_pos rfl]
    exact ⟨hX, hl⟩
  · rw [if_neg hj2, if_neg hj2]
    exact ⟨(h.hx j hj).1.keep F (fun hh => by
      have := (h.hx j hj).2
      rcases hh with hh | hh
      · have := E.ob _ hh; omega
      · exact hj2 (h.xx j v hj hv hh)), (h.hx j hj).2⟩

theorem Mem3.ref (E : Env3 w0.heap.size b bE bW bR bT) (h : Mem3 w0 b bE bW bR bT x y n u T D a s ra rs st w) {v : Nat} (hv : v < n) {a' s' : Int} (hY : Blk w' (y v) #[.int .i64 a', .int .i64 s']) (F : Fr (fun i => i = y v) w w') : Mem3 w0 b bE bW bR bT x y n u T D a s (updi ra v a') (updi rs v s') st w' := by
  have hl := (h.hy v hv).2
  have := E.e1; have := E.e2; have := E.e3; have := E.b0
  refine ⟨h.hM.keep F (fun k hk hh => by have := E.ob _ hk; have hh2 : k = y v := hh; omega), h.hE.keep F (fun hh => by have hh2 : bE = y v := hh; omega), h.hW.keep F (fun hh => by have hh2 : bW = y v := hh; omega), h.hR.keep F (fun hh => by have hh2 : bR = y v := hh; omega),
    h.hT.keep F (fun hh => by have hh2 : bT = y v := hh; omega), fun j hj => ⟨(h.hx j hj).1.keep F (fun hh => h.xy j v hj hv hh), (h.hx j hj).2⟩, fun j hj => ?_, h.xx, h.yy, h.xy, h.hF.since F (fun i hi hl2 => by have hh2 : i = y v := hi; omega)⟩
  unfold updi
  by_cases hj2 : j = v
  · subst hj2
    rw [if_pos rfl, if_pos rfl]
    exact ⟨hY, hl⟩
  · rw [if_neg hj2, if_neg hj2]
    exact ⟨(h.hy j hj).1.keep F (fun hh => hj2 (h.yy j v hj hv hh)), (h.hy j hj).2⟩

theorem Mem3.told (E : Env3 w0.heap.size b bE bW bR bT) (h : Mem3 w0 b bE bW bR bT x y n u T D a s ra rs st w) (v : Nat) (z : Int) : Mem3 w0 b bE bW bR bT x y n u T (D.set v z) a s ra rs st (w.setCell ⟨bT, v, none⟩ (.int .i64 z)) := by
  have F : Fr (fun i => i = bT) w (w.setCell ⟨bT, v, none⟩ (.int .i64 z)) := Fr.setCell _ _ _ rfl
  have := E.e1; have := E.e2; have := E.e3; have := E.b0
  exact ⟨h.hM.keep F (fun k hk hh => by have := E.ob _ hk; have hh2 : k = bT := hh; omega), h.hE.keep F (fun hh => by have hh2 : bE = bT := hh; omega), h.hW.keep F (fun hh => by have hh2 : bW = bT := hh; omega), h.hR.keep F (fun hh => by have hh2 : bR = bT := hh; omega),
    by rw [← ints_set]; exact h.hT.set v _, fun j hj => ⟨(h.hx j hj).1.keep F (fun hh => by have hh2 : x j = bT := hh; have := (h.hx j hj).2; omega), (h.hx j hj).2⟩, fun j hj => ⟨(h.hy j hj).1.keep F (fun hh => by have hh2 : y j = bT := hh; have := (h.hy j hj).2; omega), (h.hy j hj).2⟩, h.xx, h.yy, h.xy, h.hF.since F (fun i hi hl2 => by have hh2 : i = bT := hi; omega)⟩

/-- One event more. -/
theorem Mem3.more {u' : Nat} {st' : List Int} {X Y : Nat} (E : Env3 w0.heap.size b bE bW bR bT) (h : Mem3 w0 b bE bW bR bT x y n u T D (fun _ => 0) (fun _ => 0) (fun _ => 0) (fun _ => 0) st w)
    (hM : IsM w' b (mk T u' st')) (hE : Blk w' bE (ints (evl (n + 1)))) (hW : Blk w' bW (pt (updn x n X) (n + 1))) (hR : Blk w' bR (pt (updn y n Y) (n + 1))) (F : Fr (fun i => b.own i ∨ i = bE ∨ i = bW ∨ i = bR) w w')
    (hX : WT w' X n 0 0) (hY : Blk w' Y #[.int .i64 0, .int .i64 0]) (lX : w.heap.size ≤ X) (lY : w.heap.size ≤ Y) (nXY : X ≠ Y) :
    Mem3 w0 b bE bW bR bT (updn x n X) (updn y n Y) (n + 1) u' T D (fun _ => 0) (fun _ => 0) (fun _ => 0) (fun _ => 0) st' w' := by
  have := E.e1; have := E.e2; have := E.e3; have := E.b0
  have hTl := h.hT.lt
  have nS : ∀ k, bT ≤ k → ¬ (b.own k ∨ k = bE ∨ k = bW ∨ k = bR) := fun k hk hh => by
    rcases hh with hh | hh | hh | hh
    · have := E.ob _ hh; omega
    · omega
    · omega
    · omega
  have lx : ∀ j, j < n → x j < w.heap.size := fun j hj => Blk.lt (h.hx j hj).1
  have ly : ∀ j, j < n → y j < w.heap.size := fun j hj => Blk.lt (h.hy j hj).1
  refine ⟨hM, hE, hW, hR, h.hT.keep F (nS _ (Nat.le_refl _)), ?_, ?_, ?_, ?_, ?_, h.hF.since F (fun i hi hl => by
    rcases hi with hi | hi | hi | hi
    · have := E.ob _ hi; omega
    · omega
    · omega
    · omega)⟩
  · intro j hj
    unfold updn
    by_cases hj2 : j = n
    · subst hj2
      rw [if_pos rfl]
      exact ⟨hX, by omega⟩
    · rw [if_neg hj2]
      have h1 := h.hx j (by omega)
      exact ⟨h1.1.keep F (nS _ (by omega)), h1.2⟩
  · intro j hj
    unfold updn
    by_cases hj2 : j = n
    · rw [if_pos hj2]
      exact ⟨hY, by omega⟩
    · rw [if_neg hj2]
      have h1 := h.hy j (by omega)
      exact ⟨h1.1.keep F (nS _ (by omega)), h1.2⟩
  · intro i j hi hj
    unfold updn
    by_cases hi2 : i = n
    · by_cases hj2 : j = n
      · intro _; omega
      · rw [if_pos hi2, if_neg hj2]
        intro hh
        have := lx j (by omega)
        omega
    · by_cases hj2 : j = n
      · rw [if_neg hi2, if_pos hj2]
        intro hh
        have := lx i (by omega)
        omega
      · rw [if_neg hi2, if_neg hj2]
        exact h.xx i j (by omega) (by omega)
  · intro i j hi hj
    unfold updn
    by_cases hi2 : i = n
    · by_cases hj2 : j = n
      · intro _; omega
      · rw [if_pos hi2, if_neg hj2]
        intro hh
        have := ly j (by omega)
        omega
    · by_cases hj2 : j = n
      · rw [if_neg hi2, if_pos hj2]
        intro hh
        have := ly i (by omega)
        omega
      · rw [if_neg hi2, if_neg hj2]
        exact h.yy i j (by omega) (by omega)
  · intro i j hi hj
    unfold updn
    by_cases hi2 : i = n
    · by_cases hj2 : j = n
      · rw [if_pos hi2, if_pos hj2]; exact nXY
      · rw [if_pos hi2, if_neg hj2]
        intro hh
        have := ly j (by omega)
        omega
    · by_cases hj2 : j = n
      · rw [if_neg hi2, if_pos hj2]
        intro hh
        have := lx i (by omega)
        omega
      · rw [if_neg hi2, if_neg hj2]
        exact h.xy i j (by omega) (by omega)

theorem Mem3.cE (h : Mem3 w0 b bE bW bR bT x y 3 u T D a s ra rs st w) (v : Nat) (hv : v < 3) : w.cell? ⟨bE, v, none⟩ = some (.int .i64 v) := by
  have := h.hE.cell (i := v) (ints_at _ _ (by rw [evl_len]; exact hv))
  rwa [evl_at v hv] at this
theorem Mem3.cW (h : Mem3 w0 b bE bW bR bT x y 3 u T D a s ra rs st w) (v : Nat) (hv : v < 3) : w.cell? ⟨bW, v, none⟩ = some (.pointer (some ⟨x v, 0, none⟩)) := h.hW.cell (pt_at _ _ _ hv hv)
theorem Mem3.cR (h : Mem3 w0 b bE bW bR bT x y 3 u T D a s ra rs st w) (v : Nat) (hv : v < 3) : w.cell? ⟨bR, v, none⟩ = some (.pointer (some ⟨y v, 0, none⟩)) := h.hR.cell (pt_at _ _ _ hv hv)
theorem Mem3.cT (h : Mem3 w0 b bE bW bR bT x y 3 u T D a s ra rs st w) (v : Nat) (hv : v < D.length) : w.cell? ⟨bT, v, none⟩ = some (.int .i64 (D.getD v 0)) := h.hT.cell (ints_at _ _ hv)
end
end Go.Proofs.Ytlhpngoplmccjaa
