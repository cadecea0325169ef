/-
  Functions and programs as plain data and as they stand in memory; what is wrong with a function.
-/
import Derived.Test.YthpkhcompkfcaaaDoorCheck
import Derived.Test.YthpkhcompkfcaaaDoorSearch
import Derived.Laws.AppendOwn
import Derived.OwnWalk
import Derived.Laws.MakeOwn
namespace Go.Proofs.YthpkhcompkfcaaaDoor
open Go.RowKit

/-- A row of instructions. -/
def Cod (w : World) (B : Nat) (A : Option Addr) (l : List Ins) : Prop :=
  0 < l.length → ∃ b o, A = some ⟨b, o, none⟩ ∧ b < B ∧ ∀ k i, l[k]? = some i →
    w.cell? ⟨b, o + k * 5, none⟩ = some (.int .i64 i.op) ∧ w.cell? ⟨b, o + k * 5 + 1, none⟩ = some (.int .i64 i.a) ∧ w.cell? ⟨b, o + k * 5 + 2, none⟩ = some (.int .i64 i.b) ∧
    w.cell? ⟨b, o + k * 5 + 3, none⟩ = some (.int .i64 i.c) ∧ w.cell? ⟨b, o + k * 5 + 4, none⟩ = some (.int .i64 i.n)

theorem Cod.keep {w w' : World} {B : Nat} {A : Option Addr} {l : List Ins} (h : Cod w B A l) {S : Nat → Prop} (f : Fr S w w') (hB : B ≤ w.heap.size) (hs : ∀ k, k < B → ¬ S k) : Cod w' B A l := fun hl => by
  obtain ⟨b, o, rfl, hb, hc⟩ := h hl
  have hk : ∀ j, w'.cell? ⟨b, j, none⟩ = w.cell? ⟨b, j, none⟩ := fun j => cell_keep f (p := ⟨b, j, none⟩) (Nat.lt_of_lt_of_le hb hB) (hs b hb)
  refine ⟨b, o, rfl, hb, fun k i hi => ?_⟩
  rw [hk, hk, hk, hk, hk]
  exact hc k i hi

theorem Cod.same {w w' : World} {B : Nat} {A : Option Addr} {l : List Ins} (h : Cod w B A l) (f : Fr (fun _ => False) w w') (hB : B ≤ w.heap.size) : Cod w' B A l := h.keep f hB (fun _ _ hh => hh)

theorem Cod.more {w : World} {B C : Nat} {A : Option Addr} {l : List Ins} (h : Cod w B A l) (hB : B ≤ C) : Cod w C A l := fun hl => by
  obtain ⟨b, o, rfl, hb, hc⟩ := h hl
  exact ⟨b, o, rfl, Nat.lt_of_lt_of_le hb hB, hc⟩

/-- A row of functions. -/
def Prg (w : World) (B : Nat) (A : Option Addr) (l : List Fn) : Prop :=
  0 < l.length → ∃ b o, A = some ⟨b, o, none⟩ ∧ b < B ∧ ∀ k f, l[k]? = some f →
    ∃ A' c, w.cell? ⟨b, o + k * 2, none⟩ = some (.int .i64 f.needs) ∧ w.cell? ⟨b, o + k * 2 + 1, none⟩ = some (.slice A' f.code.length c) ∧ Cod w B A' f.code

theorem Prg.keep {w w' : World} {B : Nat} {A : Option Addr} {l : List Fn} (h : Prg w B A l) {S : Nat → Prop} (f : Fr S w w') (hB : B ≤ w.heap.size) (hs : ∀ k, k < B → ¬ S k) : Prg w' B A l := fun hl => by
  obtain ⟨b, o, rfl, hb, hc⟩ := h hl
  have hk : ∀ j, w'.cell? ⟨b, j, none⟩ = w.cell? ⟨b, j, none⟩ := fun j => cell_keep f (p := ⟨b, j, none⟩) (Nat.lt_of_lt_of_le hb hB) (hs b hb)
  refine ⟨b, o, rfl, hb, fun k i hi => ?_⟩
  obtain ⟨A', c, h1, h2, h3⟩ := hc k i hi
  exact ⟨A', c, (hk _).trans h1, (hk _).trans h2, h3.keep f hB hs⟩

theorem Prg.same {w w' : World} {B : Nat} {A : Option Addr} {l : List Fn} (h : Prg w B A l) (f : Fr (fun _ => False) w w') (hB : B ≤ w.heap.size) : Prg w' B A l := h.keep f hB (fun _ _ hh => hh)

theorem Prg.more {w : World} {B C : Nat} {A : Option Addr} {l : List Fn} (h : Prg w B A l) (hB : B ≤ C) : Prg w C A l := fun hl => by
  obtain ⟨b, o, rfl, hb, hc⟩ := h hl
  refine ⟨b, o, rfl, Nat.lt_of_lt_of_le hb hB, fun k i hi => ?_⟩
  obtain ⟨A', c, h1, h2, h3⟩ := hc k i hi
  exact ⟨A', c, h1, h2, h3.more hB⟩


theorem ret_bool {a b : Bool} (h : a = b) : Ending.returned (.bool a) = .returned (.bool b) := by rw [h]

/-- A block is that of an address. -/
def ownB (A : Option Addr) (k : Nat) : Prop := ∃ a, A = some a ∧ a.block = k

theorem Fr.of_grown {w w' : World} {A : Option Addr} {n c : Nat} (h : w.grownBy w' (Value.slice A n c).ownBlock) : Fr (ownB A) w w' :=
  ⟨h.os, h.tape, h.output, h.size, fun k hk hn => h.block k hk (fun e => hn (by
    rcases A with _ | a
    · simp [Value.ownBlock] at e
    · simp only [Value.ownBlock, Option.some.injEq] at e
      exact ⟨a, rfl, e.symm⟩))⟩

/-- A row of items of k cells each that is the call's own. -/
def OwnR (w : World) (B : Nat) (e : TypeId) (k : Nat) (A : Option Addr) (n cap : Nat) (xs : List Value) : Prop := w.ownsRow B e k (.slice A n cap) n xs

theorem OwnR.nil (w : World) (B : Nat) (e : TypeId) (k : Nat) : OwnR w B e k none 0 0 [] := ⟨by simp, .inl ⟨rfl, rfl⟩⟩

theorem OwnR.lt {w : World} {B : Nat} {e : TypeId} {k : Nat} {A : Option Addr} {n cap : Nat} {xs : List Value} (h : OwnR w B e k A n cap xs) : ∀ j, ownB A j → B ≤ j ∧ j < w.heap.size := by
  rintro j ⟨a, rfl, rfl⟩
  exact World.ownsRow.lt h _ rfl

theorem OwnR.keep {w w' : World} {B : Nat} {e : TypeId} {k : Nat} {A : Option Addr} {n cap : Nat} {xs : List Value} (h : OwnR w B e k A n cap xs) {S : Nat → Prop} (f : Fr S w w') (hs : ∀ j, ownB A j → ¬ S j) : OwnR w' B e k A n cap xs := by
  have hlt := h.lt
  obtain ⟨h1, h2⟩ := h
  refine ⟨h1, ?_⟩
  rcases h2 with h2 | ⟨g, c, cur, hv, hb, hh, r⟩
  · exact .inl h2
  · refine .inr ⟨g, c, cur, hv, hb, ?_, r⟩
    have hA : A = some ⟨g, 0, none⟩ := by injection hv
    have ho : ownB A g := ⟨_, hA, rfl⟩
    rw [f.block g (hlt g ho).2 (hs g ho)]
    exact hh

theorem OwnR.same {w w' : World} {B : Nat} {e : TypeId} {k : Nat} {A : Option Addr} {n cap : Nat} {xs : List Value} (h : OwnR w B e k A n cap xs) (f : Fr (fun _ => False) w w') : OwnR w' B e k A n cap xs := h.keep f (fun _ _ hh => hh)

theorem OwnR.less {w : World} {B C : Nat} {e : TypeId} {k : Nat} {A : Option Addr} {n cap : Nat} {xs : List Value} (h : OwnR w B e k A n cap xs) (hC : C ≤ B) : OwnR w C e k A n cap xs := by
  obtain ⟨h1, h2⟩ := h
  refine ⟨h1, ?_⟩
  rcases h2 with h2 | ⟨g, c, cur, hv, hb, r⟩
  · exact .inl h2
  · exact .inr ⟨g, c, cur, hv, Nat.le_trans hC hb, r⟩

theorem OwnR.eq {w : World} {B : Nat} {e : TypeId} {k : Nat} {A : Option Addr} {n cap : Nat} {xs ys : List Value} (h : OwnR w B e k A n cap xs) (he : xs = ys) : OwnR w B e k A n cap ys := he ▸ h

theorem OwnR.form {w : World} {B : Nat} {e : TypeId} {k : Nat} {v : Value} {n : Nat} {xs : List Value} (h : w.ownsRow B e k v n xs) : ∃ A cap, v = .slice A n cap ∧ OwnR w B e k A n cap xs := by
  have h' := h
  obtain ⟨h1, h2⟩ := h
  rcases h2 with ⟨rfl, rfl⟩ | ⟨g, c, cur, rfl, _⟩
  · exact ⟨_, _, rfl, h'⟩
  · exact ⟨_, _, rfl, h'⟩

theorem OwnR.ne {w : World} {B : Nat} {e : TypeId} {k : Nat} {A : Option Addr} {n cap : Nat} {xs : List Value} (h : OwnR w B e k A n cap xs) {g : Nat} {c : Array Value} {t : TypeId} (hg : TBlk w g c t) (ht : t ≠ e) : ¬ ownB A g := by
  rintro ⟨a, rfl, rfl⟩
  obtain ⟨h1, h2⟩ := h
  rcases h2 with ⟨h2, _⟩ | ⟨g', c', cur, hv, hb, hh, _⟩
  · cases h2
  · injection hv with hv _ _
    injection hv with hv
    subst hv
    unfold TBlk at hg
    rw [hh] at hg
    injection hg with hg
    injection hg with _ hg _
    exact ht hg.symm

/-- Rows of different types lie apart. -/
theorem OwnR.apart {w : World} {B C : Nat} {e e' : TypeId} {k k' : Nat} {A A' : Option Addr} {n cap n' cap' : Nat} {xs xs' : List Value} (h : OwnR w B e k A n cap xs) (h' : OwnR w C e' k' A' n' cap' xs') (ht : e ≠ e') : ∀ j, ownB A j → ¬ ownB A' j := by
  rintro j ⟨a, rfl, rfl⟩ ha'
  obtain ⟨h1, h2⟩ := h
  rcases h2 with ⟨h2, _⟩ | ⟨g', c', cur, hv, hb, hh, _⟩
  · cases h2
  · injection hv with hv _ _
    injection hv with hv
    subst hv
    exact h'.ne (t := e) hh ht ha'

theorem OwnR.cell {w : World} {B : Nat} {e : TypeId} {k : Nat} {A : Option Addr} {n cap : Nat} {xs : List Value} (h : OwnR w B e k A n cap xs) (hn : 0 < n) : ∃ g, A = some ⟨g, 0, none⟩ ∧ B ≤ g ∧ g < w.heap.size ∧ (∀ j, w.frozen? ⟨g, j, none⟩ = false) ∧ ∀ (j : Nat) (u : Value), xs[j]? = some u → w.cell? ⟨g, j, none⟩ = some u := by
  have hlt := h.lt
  obtain ⟨h1, h2⟩ := h
  rcases h2 with ⟨_, h2⟩ | ⟨g, c, cur, hv, hb, hh, _, _, _, htk⟩
  · omega
  · have hA : A = some ⟨g, 0, none⟩ := by injection hv
    refine ⟨g, hA, hb, (hlt g ⟨_, hA, rfl⟩).2, fun j => Blk.frozen (c := cur) ⟨_, hh⟩ j, fun j u hu => ?_⟩
    rw [← htk, List.getElem?_take] at hu
    split at hu
    · exact Blk.cell (c := cur) ⟨_, hh⟩ (by simpa using hu)
    · cases hu

theorem flat_at {α : Type} (g : α → List Value) (k : Nat) (hg : ∀ x, (g x).length = k) {l : List α} {i : Nat} {x : α} (hi : l[i]? = some x) {j : Nat} (hj : j < k) : (l.flatMap g)[i * k + j]? = (g x)[j]? := by
  induction l generalizing i with
  | nil => simp at hi
  | cons a r ih =>
    rw [List.flatMap_cons]
    cases i with
    | zero =>
      simp at hi
      subst hi
      rw [Nat.zero_mul, Nat.zero_add, List.getElem?_append_left (by rw [hg]; exact hj)]
    | succ i =>
      simp only [List.getElem?_cons_succ] at hi
      rw [List.getElem?_append_right (by rw [hg, Nat.succ_mul]; omega), hg, show (i + 1) * k + j - k = i * k + j by rw [Nat.succ_mul]; omega]
      exact ih hi

theorem flat_len {α : Type} (g : α → List Value) (k : Nat) (hg : ∀ x, (g x).length = k) (l : List α) : (l.flatMap g).length = l.length * k := by
  induction l with
  | nil => simp
  | cons a r ih =>
    rw [List.flatMap_cons, List.length_append, hg, ih, List.length_cons, Nat.succ_mul]
    omega


/-! ### Rows of numbers -/

/-- Numbers that are read. -/
def Nums (w : World) (B : Nat) (A : Option Addr) (l : List Int) : Prop :=
  0 < l.length → ∃ b o, A = some ⟨b, o, none⟩ ∧ b < B ∧ ∀ k x, l[k]? = some x → w.cell? ⟨b, o + k, none⟩ = some (.int .i64 x)

theorem Nums.keep {w w' : World} {B : Nat} {A : Option Addr} {l : List Int} (h : Nums w B A l) {S : Nat → Prop} (f : Fr S w w') (hB : B ≤ w.heap.size) (hs : ∀ k, k < B → ¬ S k) : Nums w' B A l := fun hl => by
  obtain ⟨b, o, rfl, hb, hc⟩ := h hl
  exact ⟨b, o, rfl, hb, fun k x hx => (cell_keep f (p := ⟨b, o + k, none⟩) (Nat.lt_of_lt_of_le hb hB) (hs b hb)).trans (hc k x hx)⟩

theorem Nums.same {w w' : World} {B : Nat} {A : Option Addr} {l : List Int} (h : Nums w B A l) (f : Fr (fun _ => False) w w') (hB : B ≤ w.heap.size) : Nums w' B A l := h.keep f hB (fun _ _ hh => hh)

theorem Nums.more {w : World} {B C : Nat} {A : Option Addr} {l : List Int} (h : Nums w B A l) (hB : B ≤ C) : Nums w C A l := fun hl => by
  obtain ⟨b, o, rfl, hb, hc⟩ := h hl
  exact ⟨b, o, rfl, Nat.lt_of_lt_of_le hb hB, hc⟩

theorem Nums.eq {w : World} {B : Nat} {A : Option Addr} {l l' : List Int} (h : Nums w B A l) (e : l = l') : Nums w B A l' := e ▸ h

def ints (l : List Int) : List Value := l.map (Value.int .i64)
theorem ints_len (l : List Int) : (ints l).length = l.length := by simp [ints]
theorem ints_one (l : List Int) : ∀ u ∈ ints l, u.oneCell' = true := by
  intro u hu
  obtain ⟨x, _, rfl⟩ := List.mem_map.1 hu
  rfl

/-- Numbers that are the call's own. -/
def OwnN (w : World) (B : Nat) (A : Option Addr) (n cap : Nat) (l : List Int) : Prop := OwnR w B 3 1 A n cap (ints l)

theorem OwnN.len {w : World} {B : Nat} {A : Option Addr} {n cap : Nat} {l : List Int} (h : OwnN w B A n cap l) : l.length = n := by
  have := h.1
  simpa [ints] using this

theorem OwnN.nums {w : World} {B : Nat} {A : Option Addr} {n cap : Nat} {l : List Int} (h : OwnN w B A n cap l) : Nums w w.heap.size A l := fun hl => by
  obtain ⟨g, rfl, _, hg, _, hc⟩ := OwnR.cell h (by rw [← h.len]; exact hl)
  refine ⟨g, 0, rfl, hg, fun k x hx => ?_⟩
  rw [Nat.zero_add]
  exact hc k _ (by simp [ints, hx])

theorem Tryd.infon : (Tryd.prog.info? 3).map (fun i => (i.zero, i.size, i.bytes)) = some (some (.int .i64 0), 1, 8) := by kernel_rfl

/-- Instructions that are the call's own. -/
def OwnI (w : World) (B : Nat) (A : Option Addr) (cap : Nat) (l : List Ins) : Prop := OwnR w B 44 5 A l.length cap (l.flatMap Ins.cells)

theorem Ins.cells_len (i : Ins) : i.cells.length = 5 := rfl

theorem OwnI.cod {w : World} {B : Nat} {A : Option Addr} {cap : Nat} {l : List Ins} (h : OwnI w B A cap l) : Cod w w.heap.size A l := fun hl => by
  obtain ⟨g, rfl, _, hg, _, hc⟩ := OwnR.cell h hl
  refine ⟨g, 0, rfl, hg, fun k i hi => ?_⟩
  have hh : ∀ j, j < 5 → w.cell? ⟨g, 0 + k * 5 + j, none⟩ = i.cells[j]? := fun j hj => by
    obtain ⟨u, hu⟩ : ∃ u, i.cells[j]? = some u := ⟨_, List.getElem?_eq_getElem (by rw [Ins.cells_len]; exact hj)⟩
    rw [Nat.zero_add, hu]
    exact hc _ _ (by rw [flat_at Ins.cells 5 Ins.cells_len hi hj, hu])
  exact ⟨hh 0 (by omega), hh 1 (by omega), hh 2 (by omega), hh 3 (by omega), hh 4 (by omega)⟩

/-- A function, and where its instructions lie. -/
structure Fo where
  f : Fn
  A : Option Addr
  c : Nat

def Fo.cells (x : Fo) : List Value := [.int .i64 x.f.needs, .slice x.A x.f.code.length x.c]
theorem Fo.cells_len (x : Fo) : x.cells.length = 2 := rfl

/-- A program that is the call's own. -/
structure OwnP (w : World) (B : Nat) (A : Option Addr) (cap : Nat) (L : List Fo) : Prop where
  row : OwnR w B 29 2 A L.length cap (L.flatMap Fo.cells)
  codes : ∀ x ∈ L, OwnI w B x.A x.c x.f.code
  apart : L.Pairwise fun x y => ∀ j, ownB x.A j → ¬ ownB y.A j

theorem OwnP.nil (w : World) (B : Nat) : OwnP w B none 0 [] := ⟨OwnR.nil _ _ _ _, fun x hx => absurd hx (by simp), List.Pairwise.nil⟩

theorem OwnP.keep {w w' : World} {B : Nat} {A : Option Addr} {cap : Nat} {L : List Fo} (h : OwnP w B A cap L) {S : Nat → Prop} (f : Fr S w w') (hs : ∀ j, B ≤ j → j < w.heap.size → ¬ S j) : OwnP w' B A cap L :=
  ⟨h.row.keep f (fun j hj => hs j (h.row.lt j hj).1 (h.row.lt j hj).2), fun x hx => OwnR.keep (h.codes x hx) f (fun j hj => hs j (OwnR.lt (h.codes x hx) j hj).1 (OwnR.lt (h.codes x hx) j hj).2), h.apart⟩

theorem OwnP.same {w w' : World} {B : Nat} {A : Option Addr} {cap : Nat} {L : List Fo} (h : OwnP w B A cap L) (f : Fr (fun _ => False) w w') : OwnP w' B A cap L := h.keep f (fun _ _ _ hh => hh)

theorem OwnP.less {w : World} {B C : Nat} {A : Option Addr} {cap : Nat} {L : List Fo} (h : OwnP w B A cap L) (hC : C ≤ B) : OwnP w C A cap L :=
  ⟨h.row.less hC, fun x hx => OwnR.less (h.codes x hx) hC, h.apart⟩

theorem OwnP.prg {w : World} {B : Nat} {A : Option Addr} {cap : Nat} {L : List Fo} (h : OwnP w B A cap L) : Prg w w.heap.size A (L.map (·.f)) := fun hl => by
  rw [List.length_map] at hl
  obtain ⟨g, rfl, _, hg, _, hc⟩ := h.row.cell hl
  refine ⟨g, 0, rfl, hg, fun k f hf => ?_⟩
  rw [List.getElem?_map] at hf
  obtain ⟨x, hx, rfl⟩ := Option.map_eq_some_iff.1 hf
  refine ⟨x.A, x.c, ?_, ?_, (h.codes x (List.mem_of_getElem? hx)).cod⟩
  · rw [Nat.zero_add]
    exact hc (k * 2 + 0) _ (by rw [flat_at Fo.cells 2 Fo.cells_len hx (by omega)]; rfl)
  · rw [Nat.zero_add]
    exact hc (k * 2 + 1) _ (by rw [flat_at Fo.cells 2 Fo.cells_len hx (by omega)]; rfl)

theorem Tryd.infoi : (Tryd.prog.info? 44).map (fun i => (i.zero, i.size, i.bytes)) = some (some (.agg #[.int .i64 0, .int .i64 0, .int .i64 0, .int .i64 0, .int .i64 0]), 5, 40) := by kernel_rfl
theorem Tryd.infof : (Tryd.prog.info? 29).map (fun i => (i.zero, i.size, i.bytes)) = some (some (.agg #[.int .i64 0, .slice none 0 0]), 2, 32) := by kernel_rfl

theorem Ins.one (i : Ins) : ∀ u ∈ i.cells, u.oneCell' = true := by
  intro u hu
  simp only [Ins.cells, List.mem_cons, List.not_mem_nil, or_false] at hu
  rcases hu with rfl | rfl | rfl | rfl | rfl <;> rfl

theorem Fo.one (x : Fo) : ∀ u ∈ x.cells, u.oneCell' = true := by
  intro u hu
  simp only [Fo.cells, List.mem_cons, List.not_mem_nil, or_false] at hu
  rcases hu with rfl | rfl <;> rfl

theorem news_cells (w : World) (e : TypeId) (l : List Value) : ∀ j u, l[j]? = some u → (w.alloc (.cells l.toArray e)).cell? ((⟨w.heap.size, 0, none⟩ : Addr).add j) = some u := fun j u hu => by
  rw [add_none, Nat.zero_add]
  exact (Blk.new w l.toArray e).cell (by simpa using hu)

theorem news_int (w : World) (x : Int) {b : Nat} (hb : w.heap.size = b) : ∀ j u, (ints [x])[j]? = some u → (w.alloc (.cells #[.int .i64 x] 3)).cell? ((⟨b, 0, none⟩ : Addr).add j) = some u := by
  subst hb
  exact news_cells w 3 (ints [x])

end Go.Proofs.YthpkhcompkfcaaaDoor
