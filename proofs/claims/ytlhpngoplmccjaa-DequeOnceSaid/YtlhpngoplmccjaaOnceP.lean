/-
  What lies in memory while an owner and three thieves are at work; what a step of any of them comes to.
-/
import Derived.Test.YtlhpngoplmccjaaOnceC
namespace Go.Proofs.Ytlhpngoplmccjaa
open Go.RowKit
set_option linter.unusedVariables false

/-! ### Plain: a step of any of the four -/

def LIX (most : Int) (M : Mach) (ops : Nat → DOp) (busy : Nat → Bool) (top : Nat → Int) (pushes : Bool) (had : Nat) (inn : List Bool) (nxt : Nat) : Prop :=
  ∃ g R lb hi a, LI most M ops busy top pushes had inn nxt g R lb hi a

section
variable {most : Int} {M : Mach} {ops : Nat → DOp} {busy : Nat → Bool} {top : Nat → Int} {pushes : Bool} {had : Nat} {inn : List Bool} {nxt : Nat}

/-- What a step may come to. -/
def Out (most : Int) (M : Mach) (ops : Nat → DOp) (busy : Nat → Bool) (top : Nat → Int) (pushes : Bool) (had : Nat) (inn : List Bool) (nxt : Nat) (w : Nat) (r : DOp × Mach) : Prop :=
  (r.1.how = 0 ∧ LIX most r.2 (upd ops w r.1) busy top pushes had inn nxt)
  ∨ (r.1.how = 2 ∧ w ≠ 0 ∧ LIX most r.2 (upd ops w r.1) busy top pushes had inn nxt ∧ LIX most r.2 (upd ops w r.1) (upd busy w false) top pushes had inn nxt)
  ∨ (r.1.how = 3 ∧ (w = 0 → pushes = false ∧ cb inn inn.length = 0) ∧ LIX most r.2 (upd ops w r.1) (upd busy w false) top pushes had inn nxt)
  ∨ (r.1.how = 4 ∧ w = 0 ∧ pushes = true ∧ (had : Int) = pow most ∧ LIX most r.2 (upd ops w r.1) (upd busy w false) top pushes had inn nxt)
  ∨ (r.1.how = 5 ∧ w ≠ 0 ∧ top w < rd r.2 0 ∧ LIX most r.2 (upd ops w r.1) (upd busy w false) top pushes had inn nxt)
  ∨ (r.1.how = 1 ∧ w = 0 ∧ pushes = true ∧ (pow most ≤ had → top 0 < rd r.2 0) ∧ LIX most r.2 (upd ops w r.1) (upd busy w false) top pushes had (inn.set nxt true) (nxt + 1))
  ∨ (r.1.how = 1 ∧ (w = 0 → pushes = false) ∧ ∃ n : Nat, r.1.got = n ∧ 1 ≤ n ∧ n < nxt ∧ inn.getD n false = true ∧ (w = 0 → cb (inn.set n false) (inn.set n false).length = cb (inn.set n false) n) ∧ (w ≠ 0 → cb (inn.set n false) n = 0) ∧ LIX most r.2 (upd ops w r.1) (upd busy w false) top pushes had (inn.set n false) nxt)

theorem LIX.out (h : LIX most M ops busy top pushes had inn nxt) (w : Nat) (h4 : w < 4) (hb : busy w = true) (hn : nxt + 1 < inn.length) : Out most M ops busy top pushes had inn nxt w ((ops w).act most M) := by
  obtain ⟨g, R, lb, hi, a, h⟩ := h
  by_cases hw : w = 0
  · subst hw
    cases hp : pushes
    · subst hp
      rcases h.pop hb rfl with ⟨h1, lb', h2⟩ | ⟨h1, h2, lb', a', h3⟩ | ⟨h1, n, h2, h3, h5, h6, h7, lb', hi', a', h8⟩
      · exact .inl ⟨h1, _, _, _, _, _, h2⟩
      · exact .inr (.inr (.inl ⟨h1, fun _ => ⟨rfl, h2⟩, _, _, _, _, _, h3⟩))
      · exact .inr (.inr (.inr (.inr (.inr (.inr ⟨h1, fun _ => rfl, n, h2, h3, h5, h6, fun _ => h7, fun hh => absurd rfl hh, _, _, _, _, _, h8⟩)))))
    · subst hp
      rcases h.push hb rfl hn with ⟨h1, R', h2⟩ | ⟨h1, h2, h3⟩ | ⟨h1, h2, h3⟩
      · exact .inl ⟨h1, _, _, _, _, _, h2⟩
      · exact .inr (.inr (.inr (.inl ⟨h1, rfl, rfl, h2, _, _, _, _, _, h3⟩)))
      · exact .inr (.inr (.inr (.inr (.inr (.inl ⟨h1, rfl, rfl, h2, _, _, _, _, _, h3⟩)))))
  · have w1 : 1 ≤ w := by omega
    rcases h.thief w w1 h4 hb with ⟨h1, h2, h3⟩ | ⟨h1, h2, h3⟩ | ⟨h1, h2⟩ | ⟨h1, h2, h3⟩ | ⟨h1, n, h2, h3, h5, h6, h7, h8⟩
    · exact .inl ⟨h1, g, R, lb, hi, a, by rw [h2]; exact h3⟩
    · exact .inr (.inl ⟨h1, hw, ⟨g, R, lb, hi, a, by rw [h2]; exact h3⟩, g, R, lb, hi, a, by rw [h2]; exact h.quit w w1 _⟩)
    · exact .inr (.inr (.inl ⟨h1, fun hh => absurd hh hw, g, R, lb, hi, a, by rw [h2]; exact h.quit w w1 _⟩))
    · exact .inr (.inr (.inr (.inr (.inl ⟨h1, hw, by rw [h2]; exact h3, g, R, lb, hi, a, by rw [h2]; exact h.quit w w1 _⟩))))
    · exact .inr (.inr (.inr (.inr (.inr (.inr ⟨h1, fun hh => absurd hh hw, n, h2, h3, h5, h6, fun hh => absurd hh hw, fun _ => h7, _, _, _, _, _, h8⟩)))))

theorem LIX.safe (h : LIX most M ops busy top pushes had inn nxt) (w : Nat) (h4 : w < 4) (hb : busy w = true) : (ops w).safe M := by
  obtain ⟨g, R, lb, hi, a, h⟩ := h
  by_cases hw : w = 0
  · subst hw
    cases hp : pushes
    · exact (h.po hb hp).1.safe h.d
    · exact (h.pu hb hp).1.safe h.d
  · exact (h.th w (by omega) h4 hb).safe h.d

theorem LIX.used (h : LIX most M ops busy top pushes had inn nxt) : 3 ≤ M.used := by
  obtain ⟨g, R, lb, hi, a, h⟩ := h
  exact h.d.u3

theorem LIX.nl (h : LIX most M ops busy top pushes had inn nxt) : nxt < inn.length := by
  obtain ⟨g, R, lb, hi, a, h⟩ := h
  exact h.nl

/-- What lies there, while the owner has nothing under way. -/
theorem LIX.lies (h : LIX most M ops busy top pushes had inn nxt) (hb : busy 0 = false) : ∃ R : Rg, dqL M R = tl inn inn.length ∧ rd M 2 = R.word ∧ R.Right ∧ R.a + pow R.l ≤ M.used ∧ rd M 1 - rd M 0 ≤ pow R.l := by
  obtain ⟨g, R, lb, hi, a, h⟩ := h
  obtain ⟨h1, h2, h3, h4, h5⟩ := h.lies hb
  exact ⟨R, dqL_tl h1 h2 h3, h4, h5, h.d.ru, by have := h.d.hs; omega⟩

theorem LIX.room (h : LIX most M ops busy top pushes had inn nxt) : 0 ≤ most ∧ most ≤ 8 := by
  obtain ⟨g, R, lb, hi, a, h⟩ := h
  have := h.d.rl
  have := h.d.rt.1
  have := h.d.m8
  omega

theorem LIX.steal (h : LIX most M ops busy top pushes had inn nxt) (w : Nat) (h1 : w ≠ 0) : LIX most M (upd ops w (beginOp 2 0)) (upd busy w true) (upd top w (rd M 0)) pushes had inn nxt := by
  obtain ⟨g, R, lb, hi, a, h⟩ := h
  exact ⟨_, _, _, _, _, h.begin2 w (by omega)⟩
theorem LIX.push (h : LIX most M ops busy top pushes had inn nxt) (hb : busy 0 = false) : LIX most M (upd ops 0 (beginOp 0 nxt)) (upd busy 0 true) (upd top 0 (rd M 0)) true (cb inn inn.length) inn nxt := by
  obtain ⟨g, R, lb, hi, a, h⟩ := h
  exact ⟨_, _, _, _, _, h.begin0 hb⟩
theorem LIX.pop (h : LIX most M ops busy top pushes had inn nxt) (hb : busy 0 = false) (t : Int) (k : Nat) : LIX most M (upd ops 0 (beginOp 1 0)) (upd busy 0 true) (upd top 0 t) false k inn nxt := by
  obtain ⟨g, R, lb, hi, a, h⟩ := h
  exact ⟨_, _, _, _, _, h.begin1 hb t k⟩
end

/-! ### Memory -/

def bls (l : List Bool) : Array Value := (l.map Value.bool).toArray
theorem bls_at (l : List Bool) (i : Nat) (h : i < l.length) : (bls l)[i]? = some (.bool (l.getD i false)) := by simp [bls, h]
theorem bls_set (l : List Bool) (i : Nat) (x : Bool) : (bls l).setIfInBounds i (.bool x) = bls (l.set i x) := by simp [bls, List.map_set]

theorem BoolR.of {w : World} {g : Nat} {l : List Bool} (h : Blk w g (bls l)) : BoolR w g l := ⟨h.lt, fun k hk => h.cell (bls_at l k hk)⟩

/-- A block for a push's copying that is not wanted any more may be any other one. -/
theorem IsOp.recp2 {w : World} {b : MB} {o q cp cp2 : Nat} {most : Int} {op : DOp} (h : IsOp w b o q cp most op) (hs : Sep b o q cp2) (hn : ∀ wa wl cv f, Blk w q (pushC most op wa wl cv f) → op.kind = 0 → op.how = 0 → op.nx = 5 → fresh op = false → False) : IsOp w b o q cp2 most op := by
  refine ⟨hs, h.kk, h.ob, ?_⟩
  rcases h.rep with ⟨h1, h2⟩ | h1
  · refine .inl ⟨h1, ?_⟩
    rcases h2 with ⟨k, wa, wl, cv, f, h2, h3, h4, h5⟩ | ⟨k, h2⟩ | ⟨k, h2⟩
    · exact .inl ⟨k, wa, wl, cv, f, h2, h3, h4, fun hh => ⟨(h5 hh).1, (h5 hh).2.1, fun a c => (hn _ _ _ _ h2 k hh a c).elim, (h5 hh).2.2.2⟩⟩
    · exact .inr (.inl ⟨k, h2⟩)
    · exact .inr (.inr ⟨k, h2⟩)
  · exact .inr h1

theorem IsOp.tight {w : World} {b : MB} {o q cp cp' : Nat} {most : Int} {op : DOp} {N : Nat} (h : IsOp w b o q cp' most op) (hs : Sep b o q cp) (hc : cp' = cp ∨ N ≤ cp') : ∃ cp2, (cp2 = cp ∨ (N ≤ cp2 ∧ cp2 < w.heap.size)) ∧ IsOp w b o q cp2 most op := by
  by_cases hn : op.kind = 0 ∧ op.how = 0 ∧ op.nx = 5 ∧ fresh op = false
  · obtain ⟨k0, h0, n5, f0⟩ := hn
    refine ⟨cp', ?_, h⟩
    rcases hc with hc | hc
    · exact .inl hc
    · refine .inr ⟨hc, ?_⟩
      rcases h.rep with ⟨h1, h2⟩ | ⟨h1, _⟩
      · rcases h2 with ⟨k, wa, wl, cv, f, h2, h3, h4, h5⟩ | ⟨k, h2⟩ | ⟨k, h2⟩
        · exact Blk.lt (show Blk w cp' _ from ((h5 h0).2.2.1 n5 f0).2)
        · omega
        · omega
      · omega
  · exact ⟨cp, .inl rfl, h.recp2 hs (fun _ _ _ _ _ a c d e => hn ⟨a, c, d, e⟩)⟩

/-- Blocks of two operations lie apart. -/
def ApB (o q c o' q' c' : Nat) : Prop := ∀ z, (z = o ∨ z = q ∨ z = c) → ¬ (z = o' ∨ z = q' ∨ z = c')

theorem ApB.symm {o q c o' q' c' : Nat} (h : ApB o q c o' q' c') : ApB o' q' c' o q c := fun z h1 h2 => h z h2 h1

structure Env5 (B0 : Nat) (b : MB) (bd bi bo bb bt : Nat) : Prop where
  ob : ∀ k, b.own k → B0 ≤ k ∧ k < bd
  b0 : B0 ≤ bd
  e1 : bd < bi
  e2 : bi < bo
  e3 : bo < bb
  e4 : bb < bt

structure OnM (w0 : World) (b : MB) (bd bi bo bb bt : Nat) (q : Int) (K : Int) (M : Mach) (s : List Int) (inn B : List Bool) (T : List Int) (A : Nat → Bool) (O Q C : Nat → Nat) (ops : Nat → DOp) (w : World) : Prop where
  intro ::
  hM : IsM w b (MO M s)
  hd : Blk w bd #[.int .i64 0, .int .i64 q]
  hi : Blk w bi (bls inn)
  ho : ∃ c : Array Value, Blk w bo c ∧ c.size = 4 ∧ ∀ v, v < 4 → A v = true → c[v]? = some (.pointer (some ⟨O v, 0, none⟩))
  hb : Blk w bb (bls B)
  ht : Blk w bt (ints T)
  bl : B.length = 4
  tl : T.length = 4
  sl : s.length = 5
  k0 : 0 ≤ K
  sb : ∀ j, j < 4 → 0 ≤ s.getD j 0 ∧ s.getD j 0 ≤ K
  cB : CellB K M
  ml : 1 < M.all.length
  io : ∀ v, v < 4 → A v = true → IsOp w b (O v) (Q v) (C v) q (ops v) ∧ (ops v).Live ∧ OpB K (ops v)
  il : ∀ v, v < 4 → A v = true → bt < O v ∧ bt < Q v ∧ bt < C v ∧ C v < w.heap.size
  ap : ∀ u v, u < 4 → v < 4 → u ≠ v → A u = true → A v = true → ApB (O u) (Q u) (C u) (O v) (Q v) (C v)
  hF : Fr (fun _ => False) w0 w

section
variable {w0 w w' : World} {b : MB} {bd bi bo bb bt : Nat} {q K : Int} {M : Mach} {s : List Int} {inn B : List Bool} {T : List Int} {A : Nat → Bool} {O Q C : Nat → Nat} {ops : Nat → DOp}

/-- A frame of one block among the five, or of those of the machine. -/
theorem OnM.base (E : Env5 w0.heap.size b bd bi bo bb bt) (h : OnM w0 b bd bi bo bb bt q K M s inn B T A O Q C ops w) {S : Nat → Prop} (F : Fr S w w') (hS : ∀ k, S k → w0.heap.size ≤ k ∧ k ≤ bt) :
    (∀ v, v < 4 → A v = true → IsOp w' b (O v) (Q v) (C v) q (ops v) ∧ (ops v).Live ∧ OpB K (ops v)) ∧ (∀ v, v < 4 → A v = true → bt < O v ∧ bt < Q v ∧ bt < C v ∧ C v < w'.heap.size) ∧ Fr (fun _ => False) w0 w' := by
  refine ⟨fun v hv ha => ?_, fun v hv ha => ?_, h.hF.since F (fun i hi hl => by have := (hS i hi).1; omega)⟩
  · obtain ⟨h1, h2, h3⟩ := h.io v hv ha
    obtain ⟨l1, l2, l3, _⟩ := h.il v hv ha
    exact ⟨h1.keep F (fun hh => by have := (hS _ hh).2; omega) (fun hh => by have := (hS _ hh).2; omega) (fun hh => by have := (hS _ hh).2; omega), h2, h3⟩
  · obtain ⟨l1, l2, l3, l4⟩ := h.il v hv ha
    exact ⟨l1, l2, l3, Nat.lt_of_lt_of_le l4 F.size⟩

theorem OnM.same (h : OnM w0 b bd bi bo bb bt q K M s inn B T A O Q C ops w) (F : Fr (fun _ => False) w w') : OnM w0 b bd bi bo bb bt q K M s inn B T A O Q C ops w' := by
  obtain ⟨c, h1, h2, h3⟩ := h.ho
  exact ⟨h.hM.same F, h.hd.same F, h.hi.same F, ⟨c, h1.same F, h2, h3⟩, h.hb.same F, h.ht.same F, h.bl, h.tl, h.sl, h.k0, h.sb, h.cB, h.ml, fun v hv ha => ⟨(h.io v hv ha).1.same F, (h.io v hv ha).2⟩,
    fun v hv ha => by have := h.il v hv ha; have := F.size; omega, h.ap, h.hF.trans F⟩

theorem OnM.setB (E : Env5 w0.heap.size b bd bi bo bb bt) (h : OnM w0 b bd bi bo bb bt q K M s inn B T A O Q C ops w) (u : Nat) (x : Bool) : OnM w0 b bd bi bo bb bt q K M s inn (B.set u x) T A O Q C ops (w.setCell ⟨bb, u, none⟩ (.bool x)) := by
  have F : Fr (fun i => i = bb) w (w.setCell ⟨bb, u, none⟩ (.bool x)) := Fr.setCell _ _ _ rfl
  have := E.b0; have := E.e1; have := E.e2; have := E.e3; have := E.e4
  obtain ⟨h1, h2, h3⟩ := h.base E F (fun k hk => by have hk2 : k = bb := hk; omega)
  obtain ⟨c, c1, c2, c3⟩ := h.ho
  exact ⟨h.hM.keep F (fun k hk hh => by have := E.ob _ hk; have hk2 : k = bb := hh; omega), h.hd.keep F (fun hh => by have hk2 : bd = bb := hh; omega), h.hi.keep F (fun hh => by have hk2 : bi = bb := hh; omega), ⟨c, c1.keep F (fun hh => by have hk2 : bo = bb := hh; omega), c2, c3⟩,
    by rw [← bls_set]; exact h.hb.set u _, h.ht.keep F (fun hh => by have hk2 : bt = bb := hh; omega), by simpa using h.bl, h.tl, h.sl, h.k0, h.sb, h.cB, h.ml, h1, h2, h.ap, h3⟩

theorem OnM.setT (E : Env5 w0.heap.size b bd bi bo bb bt) (h : OnM w0 b bd bi bo bb bt q K M s inn B T A O Q C ops w) (u : Nat) (x : Int) : OnM w0 b bd bi bo bb bt q K M s inn B (T.set u x) A O Q C ops (w.setCell ⟨bt, u, none⟩ (.int .i64 x)) := by
  have F : Fr (fun i => i = bt) w (w.setCell ⟨bt, u, none⟩ (.int .i64 x)) := Fr.setCell _ _ _ rfl
  have := E.b0; have := E.e1; have := E.e2; have := E.e3; have := E.e4
  obtain ⟨h1, h2, h3⟩ := h.base E F (fun k hk => by have hk2 : k = bt := hk; omega)
  obtain ⟨c, c1, c2, c3⟩ := h.ho
  exact ⟨h.hM.keep F (fun k hk hh => by have := E.ob _ hk; have hk2 : k = bt := hh; omega), h.hd.keep F (fun hh => by have hk2 : bd = bt := hh; omega), h.hi.keep F (fun hh => by have hk2 : bi = bt := hh; omega), ⟨c, c1.keep F (fun hh => by have hk2 : bo = bt := hh; omega), c2, c3⟩,
    h.hb.keep F (fun hh => by have hk2 : bb = bt := hh; omega), by rw [← ints_set]; exact h.ht.set u _, h.bl, by simpa using h.tl, h.sl, h.k0, h.sb, h.cB, h.ml, h1, h2, h.ap, h3⟩

theorem OnM.setI (E : Env5 w0.heap.size b bd bi bo bb bt) (h : OnM w0 b bd bi bo bb bt q K M s inn B T A O Q C ops w) (u : Nat) (x : Bool) : OnM w0 b bd bi bo bb bt q K M s (inn.set u x) B T A O Q C ops (w.setCell ⟨bi, u, none⟩ (.bool x)) := by
  have F : Fr (fun i => i = bi) w (w.setCell ⟨bi, u, none⟩ (.bool x)) := Fr.setCell _ _ _ rfl
  have := E.b0; have := E.e1; have := E.e2; have := E.e3; have := E.e4
  obtain ⟨h1, h2, h3⟩ := h.base E F (fun k hk => by have hk2 : k = bi := hk; omega)
  obtain ⟨c, c1, c2, c3⟩ := h.ho
  exact ⟨h.hM.keep F (fun k hk hh => by have := E.ob _ hk; have hk2 : k = bi := hh; omega), h.hd.keep F (fun hh => by have hk2 : bd = bi := hh; omega), by rw [← bls_set]; exact h.hi.set u _, ⟨c, c1.keep F (fun hh => by have hk2 : bo = bi := hh; omega), c2, c3⟩,
    h.hb.keep F (fun hh => by have hk2 : bb = bi := hh; omega), h.ht.keep F (fun hh => by have hk2 : bt = bi := hh; omega), h.bl, h.tl, h.sl, h.k0, h.sb, h.cB, h.ml, h1, h2, h.ap, h3⟩

/-- An operation ends. -/
theorem OnM.drop (h : OnM w0 b bd bi bo bb bt q K M s inn B T A O Q C ops w) (u : Nat) : OnM w0 b bd bi bo bb bt q K M s inn B T (upd A u false) O Q C ops w := by
  have key : ∀ v, upd A u false v = true → A v = true := fun v hv => by
    unfold upd at hv
    split at hv
    · cases hv
    · exact hv
  obtain ⟨c, c1, c2, c3⟩ := h.ho
  exact ⟨h.hM, h.hd, h.hi, ⟨c, c1, c2, fun v hv ha => c3 v hv (key v ha)⟩, h.hb, h.ht, h.bl, h.tl, h.sl, h.k0, h.sb, h.cB, h.ml, fun v hv ha => h.io v hv (key v ha), fun v hv ha => h.il v hv (key v ha), fun x y hx hy hn ha hb => h.ap x y hx hy hn (key x ha) (key y hb), h.hF⟩

theorem OnM.up (h : OnM w0 b bd bi bo bb bt q K M s inn B T A O Q C ops w) {K' : Int} (hk : K ≤ K') : OnM w0 b bd bi bo bb bt q K' M s inn B T A O Q C ops w :=
  { h with k0 := by have := h.k0; omega, sb := fun j hj => by have := h.sb j hj; omega, cB := h.cB.more hk, io := fun v hv ha => ⟨(h.io v hv ha).1, (h.io v hv ha).2.1, (h.io v hv ha).2.2.more hk⟩ }

/-- An operation is born, and laid into its place. -/
theorem OnM.born (E : Env5 w0.heap.size b bd bi bo bb bt) (h : OnM w0 b bd bi bo bb bt q K M s inn B T A O Q C ops w) (u : Nat) (hu : u < 4) {o q1 c1 kind : Nat} {x : Int} (hI : IsOp w' b o q1 c1 q (beginOp kind x)) (F : Fr (fun _ => False) w w') (hl : w.heap.size ≤ o ∧ w.heap.size ≤ q1 ∧ w.heap.size ≤ c1) (hc : c1 < w'.heap.size) :
    OnM w0 b bd bi bo bb bt q K M s inn B T (upd A u true) (upd O u o) (upd Q u q1) (upd C u c1) (upd ops u (beginOp kind x)) (w'.setCell ⟨bo, u, none⟩ (.pointer (some ⟨o, 0, none⟩))) := by
  have hlt := h.ht.lt
  have H := h.same F
  have F2 : Fr (fun i => i = bo) w' (w'.setCell ⟨bo, u, none⟩ (.pointer (some ⟨o, 0, none⟩))) := Fr.setCell _ _ _ rfl
  have := E.b0; have := E.e1; have := E.e2; have := E.e3; have := E.e4
  obtain ⟨h1, h2, h3⟩ := H.base E F2 (fun k hk => by have hk2 : k = bo := hk; omega)
  obtain ⟨c, c1', c2, c3⟩ := H.ho
  have old : ∀ v, v < 4 → A v = true → O v < w.heap.size ∧ Q v < w.heap.size ∧ C v < w.heap.size := fun v hv ha => by
    obtain ⟨i1, _⟩ := h.io v hv ha
    refine ⟨i1.ob.lt, ?_, (h.il v hv ha).2.2.2⟩
    rcases i1.rep with ⟨_, h2⟩ | ⟨_, c, h2, _⟩
    · rcases h2 with ⟨_, _, _, _, _, h2, _⟩ | ⟨_, _, h2, _⟩ | ⟨_, _, _, h2, _⟩
      · exact h2.lt
      · exact h2.lt
      · exact h2.lt
    · exact h2.lt
  refine ⟨H.hM.keep F2 (fun k hk hh => by have := E.ob _ hk; have hk2 : k = bo := hh; omega), H.hd.keep F2 (fun hh => by have hk2 : bd = bo := hh; omega), H.hi.keep F2 (fun hh => by have hk2 : bi = bo := hh; omega), ?_,
    H.hb.keep F2 (fun hh => by have hk2 : bb = bo := hh; omega), H.ht.keep F2 (fun hh => by have hk2 : bt = bo := hh; omega), H.bl, H.tl, H.sl, H.k0, H.sb, H.cB, H.ml, ?_, ?_, ?_, h3⟩
  · refine ⟨c.setIfInBounds u (.pointer (some ⟨o, 0, none⟩)), c1'.set u _, by simpa using c2, fun v hv ha => ?_⟩
    unfold upd at ha ⊢
    by_cases hvu : v = u
    · subst hvu
      rw [if_pos rfl, Array.getElem?_setIfInBounds_self_of_lt (by omega)]
    · rw [if_neg hvu] at ha ⊢
      rw [Array.getElem?_setIfInBounds_ne (fun hh => hvu hh.symm)]
      exact c3 v hv ha
  · intro v hv ha
    unfold upd at ha ⊢
    by_cases hvu : v = u
    · rw [if_pos hvu, if_pos hvu, if_pos hvu, if_pos hvu]
      exact ⟨hI.keep F2 (fun hh => by have hk2 : o = bo := hh; omega) (fun hh => by have hk2 : q1 = bo := hh; omega) (fun hh => by have hk2 : c1 = bo := hh; omega), live_begin kind x, OpB.begin_ _ _ H.k0⟩
    · rw [if_neg hvu] at ha
      rw [if_neg hvu, if_neg hvu, if_neg hvu, if_neg hvu]
      exact h1 v hv ha
  · intro v hv ha
    unfold upd at ha ⊢
    by_cases hvu : v = u
    · rw [if_pos hvu, if_pos hvu, if_pos hvu]
      exact ⟨by omega, by omega, by omega, Nat.lt_of_lt_of_le hc F2.size⟩
    · rw [if_neg hvu] at ha
      rw [if_neg hvu, if_neg hvu, if_neg hvu]
      exact h2 v hv ha
  · intro x y hx hy hn ha hb
    unfold upd at ha hb ⊢
    by_cases hxu : x = u
    · by_cases hyu : y = u
      · omega
      · rw [if_neg hyu] at hb
        rw [if_pos hxu, if_pos hxu, if_pos hxu, if_neg hyu, if_neg hyu, if_neg hyu]
        have := old y hy hb
        intro z hz hz2
        omega
    · rw [if_neg hxu] at ha
      by_cases hyu : y = u
      · rw [if_neg hxu, if_neg hxu, if_neg hxu, if_pos hyu, if_pos hyu, if_pos hyu]
        have := old x hx ha
        intro z hz hz2
        omega
      · rw [if_neg hyu] at hb
        rw [if_neg hxu, if_neg hxu, if_neg hxu, if_neg hyu, if_neg hyu, if_neg hyu]
        exact h.ap x y hx hy hn ha hb

theorem stp_at (s : List Int) (u j : Nat) (hu : u < s.length) : (stp s u).getD j 0 = if u = j then wrap64 (s.getD u 0 + 1) else s.getD j 0 := by
  unfold stp
  rw [List.getD_eq_getElem?_getD, List.getElem?_set]
  split
  · rename_i e
    subst e
    simp [hu]
  · rw [← List.getD_eq_getElem?_getD]

/-- A step of one of them. -/
theorem OnM.step (E : Env5 w0.heap.size b bd bi bo bb bt) (h : OnM w0 b bd bi bo bb bt q K M s inn B T A O Q C ops w) (u : Nat) (hu : u < 4) (ha : A u = true) (hK : K ≤ 90000) (hs : (ops u).safe M) {e : Ending}
    (P : OKPost b M s (O u) (Q u) (C u) q (ops u) u w e w') :
    e = .returned (.int .i64 (((ops u).act q M).1.how : Nat)) ∧ (∃ c2, IsOp w' b (O u) (Q u) c2 q ((ops u).act q M).1)
      ∧ w'.cell? ⟨bo, u, none⟩ = some (.pointer (some ⟨O u, 0, none⟩))
      ∧ ((((ops u).act q M).1.how = 0 ∨ ((ops u).act q M).1.how = 2) → ∃ C', OnM w0 b bd bi bo bb bt q (K + 1) ((ops u).act q M).2 (stp s u) inn B T A O Q C' (upd ops u ((ops u).act q M).1) w')
      ∧ (∃ C', OnM w0 b bd bi bo bb bt q (K + 1) ((ops u).act q M).2 (stp s u) inn B T (upd A u false) O Q C' (upd ops u ((ops u).act q M).1) w') := by
  obtain ⟨cp1, hcp, he, hI, hM, F⟩ := P
  obtain ⟨hi0, hl0, hb0⟩ := h.io u hu ha
  obtain ⟨l1, l2, l3, l4⟩ := h.il u hu ha
  obtain ⟨c2, hc2, hI2⟩ := hI.tight hi0.sep hcp
  have hbt := h.ht.lt
  have E1 := E.b0; have E2 := E.e1; have E3 := E.e2; have E4 := E.e3; have E5 := E.e4
  have nS : ∀ k, bd ≤ k → k ≤ bt → ¬ OM b (Q u) (C u) k := by
    rintro k k1 k2 ((hh | hh) | hh)
    · have := E.ob _ hh; omega
    · omega
    · omega
  obtain ⟨c, d1, d2, d3⟩ := h.ho
  have hact := act_bd (most := q) h.ml hs h.k0 h.cB hb0
  have hsu : u < s.length := by rw [h.sl]; omega
  have hst : (stp s u).length = 5 := by rw [stp_len]; exact h.sl
  have hsb : ∀ j, j < 4 → 0 ≤ (stp s u).getD j 0 ∧ (stp s u).getD j 0 ≤ K + 1 := fun j hj => by
    have h1 := h.sb j hj
    have h2 := h.sb u hu
    rw [stp_at s u j hsu]
    split
    · unfold wrap64; omega
    · omega
  have sep : ∀ v, v < 4 → v ≠ u → A v = true → ¬ OM b (Q u) (C u) (O v) ∧ ¬ OM b (Q u) (C u) (Q v) ∧ ¬ OM b (Q u) (C u) (C v) := fun v hv hvu hav => by
    have hap := h.ap u v hu hv (fun e => hvu e.symm) ha hav
    obtain ⟨m1, m2, m3, _⟩ := h.il v hv hav
    have q1 := hap (Q u) (.inr (.inl rfl))
    have q2 := hap (C u) (.inr (.inr rfl))
    refine ⟨?_, ?_, ?_⟩
    · rintro ((hh | hh) | hh)
      · have := E.ob _ hh; omega
      · exact q2 (.inl hh.symm)
      · exact q1 (.inl hh.symm)
    · rintro ((hh | hh) | hh)
      · have := E.ob _ hh; omega
      · exact q2 (.inr (.inl hh.symm))
      · exact q1 (.inr (.inl hh.symm))
    · rintro ((hh | hh) | hh)
      · have := E.ob _ hh; omega
      · exact q2 (.inr (.inr hh.symm))
      · exact q1 (.inr (.inr hh.symm))
  have old : ∀ v, v < 4 → A v = true → O v < w.heap.size ∧ Q v < w.heap.size ∧ C v < w.heap.size := fun v hv ha => by
    obtain ⟨i1, _⟩ := h.io v hv ha
    refine ⟨i1.ob.lt, ?_, (h.il v hv ha).2.2.2⟩
    rcases i1.rep with ⟨_, h2⟩ | ⟨_, c, h2, _⟩
    · rcases h2 with ⟨_, _, _, _, _, h2, _⟩ | ⟨_, _, h2, _⟩ | ⟨_, _, _, h2, _⟩
      · exact h2.lt
      · exact h2.lt
      · exact h2.lt
    · exact h2.lt
  have hFF : Fr (fun _ => False) w0 w' := h.hF.since F (fun i hi hlt => by
    rcases hi with (hh | hh) | hh
    · have := E.ob _ hh; omega
    · omega
    · omega)
  have mk : ∀ A' : Nat → Bool, (∀ v, A' v = true → A v = true) → (A' u = true → ((ops u).act q M).1.Live) → OnM w0 b bd bi bo bb bt q (K + 1) ((ops u).act q M).2 (stp s u) inn B T A' O Q (upd C u c2) (upd ops u ((ops u).act q M).1) w' := by
    intro A' hA hL
    refine ⟨hM, h.hd.keep F (nS _ (by omega) (by omega)), h.hi.keep F (nS _ (by omega) (by omega)), ⟨c, d1.keep F (nS _ (by omega) (by omega)), d2, fun v hv hav => d3 v hv (hA v hav)⟩, h.hb.keep F (nS _ (by omega) (by omega)), h.ht.keep F (nS _ (by omega) (by omega)),
      h.bl, h.tl, hst, by have := h.k0; omega, hsb, hact.1, by rw [act_len]; exact h.ml, ?_, ?_, ?_, hFF⟩
    · intro v hv hav
      unfold upd
      by_cases hvu : v = u
      · subst hvu
        rw [if_pos rfl, if_pos rfl]
        exact ⟨hI2, hL hav, hact.2⟩
      · rw [if_neg hvu, if_neg hvu]
        obtain ⟨i1, i2, i3⟩ := h.io v hv (hA v hav)
        obtain ⟨s1, s2, s3⟩ := sep v hv hvu (hA v hav)
        exact ⟨i1.keep F s1 s2 s3, i2, i3.more (by omega)⟩
    · intro v hv hav
      unfold upd
      obtain ⟨m1, m2, m3, m4⟩ := h.il v hv (hA v hav)
      have := F.size
      by_cases hvu : v = u
      · rw [if_pos hvu]
        refine ⟨m1, m2, ?_, ?_⟩
        · rcases hc2 with hc2 | hc2 <;> omega
        · rcases hc2 with hc2 | hc2 <;> omega
      · rw [if_neg hvu]
        exact ⟨m1, m2, m3, by omega⟩
    · intro x y hx hy hn hax hay
      have hap := h.ap x y hx hy hn (hA x hax) (hA y hay)
      unfold upd
      by_cases hxu : x = u
      · have hyu : y ≠ u := by omega
        rw [if_pos hxu, if_neg hyu]
        rcases hc2 with hc2 | hc2
        · rw [hc2, ← hxu]; exact hap
        · have := old y hy (hA y hay)
          intro z hz hz2
          rcases hz with hz | hz | hz
          · exact hap z (.inl hz) hz2
          · exact hap z (.inr (.inl hz)) hz2
          · omega
      · by_cases hyu : y = u
        · rw [if_neg hxu, if_pos hyu]
          rcases hc2 with hc2 | hc2
          · rw [hc2, ← hyu]; exact hap
          · have := old x hx (hA x hax)
            intro z hz hz2
            rcases hz2 with hz2 | hz2 | hz2
            · exact hap z hz (.inl hz2)
            · exact hap z hz (.inr (.inl hz2))
            · omega
        · rw [if_neg hxu, if_neg hyu]
          exact hap
  refine ⟨he, ⟨c2, hI2⟩, (d1.keep F (nS _ (by omega) (by omega))).cell (d3 u hu ha), fun hh => ⟨_, mk A (fun _ h => h) (fun _ => act_live hl0 hs.2.1 hh)⟩, ⟨_, mk (upd A u false) (fun v hv => by
    unfold upd at hv
    split at hv
    · cases hv
    · exact hv) (fun hh => by rw [upd_same] at hh; cases hh)⟩⟩
end
end Go.Proofs.Ytlhpngoplmccjaa
