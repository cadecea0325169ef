/-
  Functions and programs as plain data and as they stand in memory; what is wrong with a function.
-/
import Derived.Test.YtpjcdjooiaefdaaDoorVHeap
import Derived.Test.YtpjcdjooiaefdaaDoorVPlain
import Derived.Laws.AppendOwn
import Derived.OwnWalk
import Derived.Laws.MakeOwn
import Derived.Deep.LoopGhost
namespace Go.Proofs.YtpjcdjooiaefdaaDoor
open Go.RowKit

/-- A row of instructions. -/
def Cod (w : World) (B : Nat) (A : Option Addr) (l : List Ins) : Prop :=
  0 < l.length → ∃ b o, A = some ⟨b, o, none⟩ ∧ b < B ∧ ∀ k i, l[k]? = some i →
    w.cell? ⟨b, o + k * 5, none⟩ = some (.int .i64 i.op) ∧ w.cell? ⟨b, o + k * 5 + 1, none⟩ = some (.int .i64 i.a) ∧ w.cell? ⟨b, o + k * 5 + 2, none⟩ = some (.int .i64 i.b) ∧
    w.cell? ⟨b, o + k * 5 + 3, none⟩ = some (.int .i64 i.c) ∧ w.cell? ⟨b, o + k * 5 + 4, none⟩ = some (.int .i64 i.n)

theorem Cod.keep {w w' : World} {B : Nat} {A : Option Addr} {l : List Ins} (h : Cod w B A l) {S : Nat → Prop} (f : Fr S w w') (hB : B ≤ w.heap.size) (hs : ∀ k, k < B → ¬ S k) : Cod w' B A l := fun hl => by
  obtain ⟨b, o, rfl, hb, hc⟩ := h hl
  have hk : ∀ j, w'.cell? ⟨b, j, none⟩ = w.cell? ⟨b, j, none⟩ := fun j => cell_keep f (p := ⟨b, j, none⟩) (Nat.lt_of_lt_of_le hb hB) (hs b hb)
  refine ⟨b, o, rfl, hb, fun k i hi => ?_⟩
  rw [hk, hk, hk, hk, hk]
  exact hc k i hi

theorem Cod.same {w w' : World} {B : Nat} {A : Option Addr} {l : List Ins} (h : Cod w B A l) (f : Fr (fun _ => False) w w') (hB : B ≤ w.heap.size) : Cod w' B A l := h.keep f hB (fun _ _ hh => hh)

theorem Cod.more {w : World} {B C : Nat} {A : Option Addr} {l : List Ins} (h : Cod w B A l) (hB : B ≤ C) : Cod w C A l := fun hl => by
  obtain ⟨b, o, rfl, hb, hc⟩ := h hl
  exact ⟨b, o, rfl, Nat.lt_of_lt_of_le hb hB, hc⟩

/-- A row of functions. -/
def Prg (w : World) (B : Nat) (A : Option Addr) (l : List Fn) : Prop :=
  0 < l.length → ∃ b o, A = some ⟨b, o, none⟩ ∧ b < B ∧ ∀ k f, l[k]? = some f →
    ∃ A' c, w.cell? ⟨b, o + k * 2, none⟩ = some (.int .i64 f.needs) ∧ w.cell? ⟨b, o + k * 2 + 1, none⟩ = some (.slice A' f.code.length c) ∧ Cod w B A' f.code

theorem Prg.keep {w w' : World} {B : Nat} {A : Option Addr} {l : List Fn} (h : Prg w B A l) {S : Nat → Prop} (f : Fr S w w') (hB : B ≤ w.heap.size) (hs : ∀ k, k < B → ¬ S k) : Prg w' B A l := fun hl => by
  obtain ⟨b, o, rfl, hb, hc⟩ := h hl
  have hk : ∀ j, w'.cell? ⟨b, j, none⟩ = w.cell? ⟨b, j, none⟩ := fun j => cell_keep f (p := ⟨b, j, none⟩) (Nat.lt_of_lt_of_le hb hB) (hs b hb)
  refine ⟨b, o, rfl, hb, fun k i hi => ?_⟩
  obtain ⟨A', c, h1, h2, h3⟩ := hc k i hi
  exact ⟨A', c, (hk _).trans h1, (hk _).trans h2, h3.keep f hB hs⟩

theorem Prg.same {w w' : World} {B : Nat} {A : Option Addr} {l : List Fn} (h : Prg w B A l) (f : Fr (fun _ => False) w w') (hB : B ≤ w.heap.size) : Prg w' B A l := h.keep f hB (fun _ _ hh => hh)

theorem Prg.more {w : World} {B C : Nat} {A : Option Addr} {l : List Fn} (h : Prg w B A l) (hB : B ≤ C) : Prg w C A l := fun hl => by
  obtain ⟨b, o, rfl, hb, hc⟩ := h hl
  refine ⟨b, o, rfl, Nat.lt_of_lt_of_le hb hB, fun k i hi => ?_⟩
  obtain ⟨A', c, h1, h2, h3⟩ := hc k i hi
  exact ⟨A', c, h1, h2, h3.more hB⟩


theorem ret_bool {a b : Bool} (h : a = b) : Ending.returned (.bool a) = .returned (.bool b) := by rw [h]

/-- A block is that of an address. -/
def ownB (A : Option Addr) (k : Nat) : Prop := ∃ a, A = some a ∧ a.block = k

theorem Fr.of_grown {w w' : World} {A : Option Addr} {n c : Nat} (h : w.grownBy w' (Value.slice A n c).ownBlock) : Fr (ownB A) w w' :=
  ⟨h.os, h.tape, h.output, h.size, fun k hk hn => h.block k hk (fun e => hn (by
    rcases A with _ | a
    · simp [Value.ownBlock] at e
    · simp only [Value.ownBlock, Option.some.injEq] at e
      exact ⟨a, rfl, e.symm⟩))⟩

/-- A row of items of k cells each that is the call's own. -/
def OwnR (w : World) (B : Nat) (e : TypeId) (k : Nat) (A : Option Addr) (n cap : Nat) (xs : List Value) : Prop := w.ownsRow B e k (.slice A n cap) n xs

theorem OwnR.nil (w : World) (B : Nat) (e : TypeId) (k : Nat) : OwnR w B e k none 0 0 [] := ⟨by simp, .inl ⟨rfl, rfl⟩⟩

theorem OwnR.lt {w : World} {B : Nat} {e : TypeId} {k : Nat} {A : Option Addr} {n cap : Nat} {xs : List Value} (h : OwnR w B e k A n cap xs) : ∀ j, ownB A j → B ≤ j ∧ j < w.heap.size := by
  rintro j ⟨a, rfl, rfl⟩
  exact World.ownsRow.lt h _ rfl

theorem OwnR.keep {w w' : World} {B : Nat} {e : TypeId} {k : Nat} {A : Option Addr} {n cap : Nat} {xs : List Value} (h : OwnR w B e k A n cap xs) {S : Nat → Prop} (f : Fr S w w') (hs : ∀ j, ownB A j → ¬ S j) : OwnR w' B e k A n cap xs := by
  have hlt := h.lt
  obtain ⟨h1, h2⟩ := h
  refine ⟨h1, ?_⟩
  rcases h2 with h2 | ⟨g, c, cur, hv, hb, hh, r⟩
  · exact .inl h2
  · refine .inr ⟨g, c, cur, hv, hb, ?_, r⟩
    have hA : A = some ⟨g, 0, none⟩ := by injection hv
    have ho : ownB A g := ⟨_, hA, rfl⟩
    rw [f.block g (hlt g ho).2 (hs g ho)]
    exact hh

theorem OwnR.same {w w' : World} {B : Nat} {e : TypeId} {k : Nat} {A : Option Addr} {n cap : Nat} {xs : List Value} (h : OwnR w B e k A n cap xs) (f : Fr (fun _ => False) w w') : OwnR w' B e k A n cap xs := h.keep f (fun _ _ hh => hh)

theorem OwnR.less {w : World} {B C : Nat} {e : TypeId} {k : Nat} {A : Option Addr} {n cap : Nat} {xs : List Value} (h : OwnR w B e k A n cap xs) (hC : C ≤ B) : OwnR w C e k A n cap xs := by
  obtain ⟨h1, h2⟩ := h
  refine ⟨h1, ?_⟩
  rcases h2 with h2 | ⟨g, c, cur, hv, hb, r⟩
  · exact .inl h2
  · exact .inr ⟨g, c, cur, hv, Nat.le_trans hC hb, r⟩

theorem OwnR.eq {w : World} {B : Nat} {e : TypeId} {k : Nat} {A : Option Addr} {n cap : Nat} {xs ys : List Value} (h : OwnR w B e k A n cap xs) (he : xs = ys) : OwnR w B e k A n cap ys := he ▸ h

theorem OwnR.form {w : World} {B : Nat} {e : TypeId} {k : Nat} {v : Value} {n : Nat} {xs : List Value} (h : w.ownsRow B e k v n xs) : ∃ A cap, v = .slice A n cap ∧ OwnR w B e k A n cap xs := by
  have h' := h
  obtain ⟨h1, h2⟩ := h
  rcases h2 with ⟨rfl, rfl⟩ | ⟨g, c, cur, rfl, _⟩
  · exact ⟨_, _, rfl, h'⟩
  · exact ⟨_, _, rfl, h'⟩

theorem OwnR.ne {w : World} {B : Nat} {e : TypeId} {k : Nat} {A : Option Addr} {n cap : Nat} {xs : List Value} (h : OwnR w B e k A n cap xs) {g : Nat} {c : Array Value} {t : TypeId} (hg : TBlk w g c t) (ht : t ≠ e) : ¬ ownB A g := by
  rintro ⟨a, rfl, rfl⟩
  obtain ⟨h1, h2⟩ := h
  rcases h2 with ⟨h2, _⟩ | ⟨g', c', cur, hv, hb, hh, _⟩
  · cases h2
  · injection hv with hv _ _
    injection hv with hv
    subst hv
    unfold TBlk at hg
    rw [hh] at hg
    injection hg with hg
    injection hg with _ hg _
    exact ht hg.symm

/-- Rows of different types lie apart. -/
theorem OwnR.apart {w : World} {B C : Nat} {e e' : TypeId} {k k' : Nat} {A A' : Option Addr} {n cap n' cap' : Nat} {xs xs' : List Value} (h : OwnR w B e k A n cap xs) (h' : OwnR w C e' k' A' n' cap' xs') (ht : e ≠ e') : ∀ j, ownB A j → ¬ ownB A' j := by
  rintro j ⟨a, rfl, rfl⟩ ha'
  obtain ⟨h1, h2⟩ := h
  rcases h2 with ⟨h2, _⟩ | ⟨g', c', cur, hv, hb, hh, _⟩
  · cases h2
  · injection hv with hv _ _
    injection hv with hv
    subst hv
    exact h'.ne (t := e) hh ht ha'

theorem OwnR.cell {w : World} {B : Nat} {e : TypeId} {k : Nat} {A : Option Addr} {n cap : Nat} {xs : List Value} (h : OwnR w B e k A n cap xs) (hn : 0 < n) : ∃ g, A = some ⟨g, 0, none⟩ ∧ B ≤ g ∧ g < w.heap.size ∧ (∀ j, w.frozen? ⟨g, j, none⟩ = false) ∧ ∀ (j : Nat) (u : Value), xs[j]? = some u → w.cell? ⟨g, j, none⟩ = some u := by
  have hlt := h.lt
  obtain ⟨h1, h2⟩ := h
  rcases h2 with ⟨_, h2⟩ | ⟨g, c, cur, hv, hb, hh, _, _, _, htk⟩
  · omega
  · have hA : A = some ⟨g, 0, none⟩ := by injection hv
    refine ⟨g, hA, hb, (hlt g ⟨_, hA, rfl⟩).2, fun j => Blk.frozen (c := cur) ⟨_, hh⟩ j, fun j u hu => ?_⟩
    rw [← htk, List.getElem?_take] at hu
    split at hu
    · exact Blk.cell (c := cur) ⟨_, hh⟩ (by simpa using hu)
    · cases hu

theorem flat_at {α : Type} (g : α → List Value) (k : Nat) (hg : ∀ x, (g x).length = k) {l : List α} {i : Nat} {x : α} (hi : l[i]? = some x) {j : Nat} (hj : j < k) : (l.flatMap g)[i * k + j]? = (g x)[j]? := by
  induction l generalizing i with
  | nil => simp at hi
  | cons a r ih =>
    rw [List.flatMap_cons]
    cases i with
    | zero =>
      simp at hi
      subst hi
      rw [Nat.zero_mul, Nat.zero_add, List.getElem?_append_left (by rw [hg]; exact hj)]
    | succ i =>
      simp only [List.getElem?_cons_succ] at hi
      rw [List.getElem?_append_right (by rw [hg, Nat.succ_mul]; omega), hg, show (i + 1) * k + j - k = i * k + j by rw [Nat.succ_mul]; omega]
      exact ih hi

theorem flat_len {α : Type} (g : α → List Value) (k : Nat) (hg : ∀ x, (g x).length = k) (l : List α) : (l.flatMap g).length = l.length * k := by
  induction l with
  | nil => simp
  | cons a r ih =>
    rw [List.flatMap_cons, List.length_append, hg, ih, List.length_cons, Nat.succ_mul]
    omega


/-! ### Rows of numbers -/

/-- Numbers that are read. -/
def Nums (w : World) (B : Nat) (A : Option Addr) (l : List Int) : Prop :=
  0 < l.length → ∃ b o, A = some ⟨b, o, none⟩ ∧ b < B ∧ ∀ k x, l[k]? = some x → w.cell? ⟨b, o + k, none⟩ = some (.int .i64 x)

theorem Nums.keep {w w' : World} {B : Nat} {A : Option Addr} {l : List Int} (h : Nums w B A l) {S : Nat → Prop} (f : Fr S w w') (hB : B ≤ w.heap.size) (hs : ∀ k, k < B → ¬ S k) : Nums w' B A l := fun hl => by
  obtain ⟨b, o, rfl, hb, hc⟩ := h hl
  exact ⟨b, o, rfl, hb, fun k x hx => (cell_keep f (p := ⟨b, o + k, none⟩) (Nat.lt_of_lt_of_le hb hB) (hs b hb)).trans (hc k x hx)⟩

theorem Nums.same {w w' : World} {B : Nat} {A : Option Addr} {l : List Int} (h : Nums w B A l) (f : Fr (fun _ => False) w w') (hB : B ≤ w.heap.size) : Nums w' B A l := h.keep f hB (fun _ _ hh => hh)

theorem Nums.more {w : World} {B C : Nat} {A : Option Addr} {l : List Int} (h : Nums w B A l) (hB : B ≤ C) : Nums w C A l := fun hl => by
  obtain ⟨b, o, rfl, hb, hc⟩ := h hl
  exact ⟨b, o, rfl, Nat.lt_of_lt_of_le hb hB, hc⟩

theorem Nums.eq {w : World} {B : Nat} {A : Option Addr} {l l' : List Int} (h : Nums w B A l) (e : l = l') : Nums w B A l' := e ▸ h

def ints (l : List Int) : List Value := l.map (Value.int .i64)
theorem ints_len (l : List Int) : (ints l).length = l.length := by simp [ints]
theorem ints_one (l : List Int) : ∀ u ∈ ints l, u.oneCell' = true := by
  intro u hu
  obtain ⟨x, _, rfl⟩ := List.mem_map.1 hu
  rfl

/-- Numbers that are the call's own. -/
def OwnN (w : World) (B : Nat) (A : Option Addr) (n cap : Nat) (l : List Int) : Prop := OwnR w B 3 1 A n cap (ints l)

theorem OwnN.len {w : World} {B : Nat} {A : Option Addr} {n cap : Nat} {l : List Int} (h : OwnN w B A n cap l) : l.length = n := by
  have := h.1
  simpa [ints] using this

theorem OwnN.nums {w : World} {B : Nat} {A : Option Addr} {n cap : Nat} {l : List Int} (h : OwnN w B A n cap l) : Nums w w.heap.size A l := fun hl => by
  obtain ⟨g, rfl, _, hg, _, hc⟩ := OwnR.cell h (by rw [← h.len]; exact hl)
  refine ⟨g, 0, rfl, hg, fun k x hx => ?_⟩
  rw [Nat.zero_add]
  exact hc k _ (by simp [ints, hx])

theorem Tryd.infon : (Tryd.prog.info? 3).map (fun i => (i.zero, i.size, i.bytes)) = some (some (.int .i64 0), 1, 8) := by kernel_rfl

/-- Instructions that are the call's own. -/
def OwnI (w : World) (B : Nat) (A : Option Addr) (cap : Nat) (l : List Ins) : Prop := OwnR w B 43 5 A l.length cap (l.flatMap Ins.cells)

theorem Ins.cells_len (i : Ins) : i.cells.length = 5 := rfl

theorem OwnI.cod {w : World} {B : Nat} {A : Option Addr} {cap : Nat} {l : List Ins} (h : OwnI w B A cap l) : Cod w w.heap.size A l := fun hl => by
  obtain ⟨g, rfl, _, hg, _, hc⟩ := OwnR.cell h hl
  refine ⟨g, 0, rfl, hg, fun k i hi => ?_⟩
  have hh : ∀ j, j < 5 → w.cell? ⟨g, 0 + k * 5 + j, none⟩ = i.cells[j]? := fun j hj => by
    obtain ⟨u, hu⟩ : ∃ u, i.cells[j]? = some u := ⟨_, List.getElem?_eq_getElem (by rw [Ins.cells_len]; exact hj)⟩
    rw [Nat.zero_add, hu]
    exact hc _ _ (by rw [flat_at Ins.cells 5 Ins.cells_len hi hj, hu])
  exact ⟨hh 0 (by omega), hh 1 (by omega), hh 2 (by omega), hh 3 (by omega), hh 4 (by omega)⟩

/-- A function, and where its instructions lie. -/
structure Fo where
  f : Fn
  A : Option Addr
  c : Nat

def Fo.cells (x : Fo) : List Value := [.int .i64 x.f.needs, .slice x.A x.f.code.length x.c]
theorem Fo.cells_len (x : Fo) : x.cells.length = 2 := rfl

/-- A program that is the call's own. -/
structure OwnP (w : World) (B : Nat) (A : Option Addr) (cap : Nat) (L : List Fo) : Prop where
  row : OwnR w B 40 2 A L.length cap (L.flatMap Fo.cells)
  codes : ∀ x ∈ L, OwnI w B x.A x.c x.f.code
  apart : L.Pairwise fun x y => ∀ j, ownB x.A j → ¬ ownB y.A j

theorem OwnP.nil (w : World) (B : Nat) : OwnP w B none 0 [] := ⟨OwnR.nil _ _ _ _, fun x hx => absurd hx (by simp), List.Pairwise.nil⟩

theorem OwnP.keep {w w' : World} {B : Nat} {A : Option Addr} {cap : Nat} {L : List Fo} (h : OwnP w B A cap L) {S : Nat → Prop} (f : Fr S w w') (hs : ∀ j, B ≤ j → j < w.heap.size → ¬ S j) : OwnP w' B A cap L :=
  ⟨h.row.keep f (fun j hj => hs j (h.row.lt j hj).1 (h.row.lt j hj).2), fun x hx => OwnR.keep (h.codes x hx) f (fun j hj => hs j (OwnR.lt (h.codes x hx) j hj).1 (OwnR.lt (h.codes x hx) j hj).2), h.apart⟩

theorem OwnP.same {w w' : World} {B : Nat} {A : Option Addr} {cap : Nat} {L : List Fo} (h : OwnP w B A cap L) (f : Fr (fun _ => False) w w') : OwnP w' B A cap L := h.keep f (fun _ _ _ hh => hh)

theorem OwnP.less {w : World} {B C : Nat} {A : Option Addr} {cap : Nat} {L : List Fo} (h : OwnP w B A cap L) (hC : C ≤ B) : OwnP w C A cap L :=
  ⟨h.row.less hC, fun x hx => OwnR.less (h.codes x hx) hC, h.apart⟩

theorem OwnP.prg {w : World} {B : Nat} {A : Option Addr} {cap : Nat} {L : List Fo} (h : OwnP w B A cap L) : Prg w w.heap.size A (L.map (·.f)) := fun hl => by
  rw [List.length_map] at hl
  obtain ⟨g, rfl, _, hg, _, hc⟩ := h.row.cell hl
  refine ⟨g, 0, rfl, hg, fun k f hf => ?_⟩
  rw [List.getElem?_map] at hf
  obtain ⟨x, hx, rfl⟩ := Option.map_eq_some_iff.1 hf
  refine ⟨x.A, x.c, ?_, ?_, (h.codes x (List.mem_of_getElem? hx)).cod⟩
  · rw [Nat.zero_add]
    exact hc (k * 2 + 0) _ (by rw [flat_at Fo.cells 2 Fo.cells_len hx (by omega)]; rfl)
  · rw [Nat.zero_add]
    exact hc (k * 2 + 1) _ (by rw [flat_at Fo.cells 2 Fo.cells_len hx (by omega)]; rfl)

theorem Tryd.infoi : (Tryd.prog.info? 43).map (fun i => (i.zero, i.size, i.bytes)) = some (some (.agg #[.int .i64 0, .int .i64 0, .int .i64 0, .int .i64 0, .int .i64 0]), 5, 40) := by kernel_rfl
theorem Tryd.infof : (Tryd.prog.info? 40).map (fun i => (i.zero, i.size, i.bytes)) = some (some (.agg #[.int .i64 0, .slice none 0 0]), 2, 32) := by kernel_rfl

theorem Ins.one (i : Ins) : ∀ u ∈ i.cells, u.oneCell' = true := by
  intro u hu
  simp only [Ins.cells, List.mem_cons, List.not_mem_nil, or_false] at hu
  rcases hu with rfl | rfl | rfl | rfl | rfl <;> rfl

theorem Fo.one (x : Fo) : ∀ u ∈ x.cells, u.oneCell' = true := by
  intro u hu
  simp only [Fo.cells, List.mem_cons, List.not_mem_nil, or_false] at hu
  rcases hu with rfl | rfl <;> rfl

theorem news_cells (w : World) (e : TypeId) (l : List Value) : ∀ j u, l[j]? = some u → (w.alloc (.cells l.toArray e)).cell? ((⟨w.heap.size, 0, none⟩ : Addr).add j) = some u := fun j u hu => by
  rw [add_none, Nat.zero_add]
  exact (Blk.new w l.toArray e).cell (by simpa using hu)

theorem news_int (w : World) (x : Int) {b : Nat} (hb : w.heap.size = b) : ∀ j u, (ints [x])[j]? = some u → (w.alloc (.cells #[.int .i64 x] 3)).cell? ((⟨b, 0, none⟩ : Addr).add j) = some u := by
  subst hb
  exact news_cells w 3 (ints [x])

end Go.Proofs.YtpjcdjooiaefdaaDoor

/-
  What the laws' walks share.
-/
namespace Go.Proofs.YtpjcdjooiaefdaaDoor
open Go.RowKit

/-- A law's end. -/
def LawPost (W : World) : Ending → World → Prop := fun e w' => e = .returned (.bool true) ∧ Fr (fun _ => False) W w'

theorem blk_of {W w' : World} {c : Array Value} {t : TypeId} (h : Fr (fun _ => False) (W.alloc (.cells c t)) w') : Blk w' W.heap.size c := (Blk.new W c t).keep h (fun h => h)
theorem blk_of' {W w' : World} {c : Array Value} {t : TypeId} (h : Fr (fun _ => False) (W.alloc (.cells c t)).drew w') : Blk w' W.heap.size c := (Blk.new W c t).drew.keep h (fun h => h)

/-- A task in a new block, and a truth. -/
def CameB (cel : Frm → Array Value) (G : Frm) (b : Bool) (w : World) (u v : Value) (wx : World) : Prop := ∃ g, u = .pointer (some ⟨g, 0, none⟩) ∧ v = .bool b ∧ Blk wx g (cel G) ∧ Fr (fun _ => False) w wx

theorem two (w : World) (c0 c1 : Array Value) (t0 t1 : TypeId) : Fr (fun _ => False) w ((w.alloc (.cells c0 t0)).alloc (.cells c1 t1)) ∧
    Blk ((w.alloc (.cells c0 t0)).alloc (.cells c1 t1)) w.heap.size c0 ∧ Blk ((w.alloc (.cells c0 t0)).alloc (.cells c1 t1)) (w.heap.size + 1) c1 :=
  ⟨(Fr.alloc _ _ _).trans (Fr.alloc _ _ _), (Blk.new _ _ _).alloc _, (Blk.new _ _ _).at (by simp)⟩

end Go.Proofs.YtpjcdjooiaefdaaDoor

/-
  What a fork makes: Child, the program's.
-/
namespace Go.Proofs.YtpjcdjooiaefdaaDoor
open Go.RowKit
set_option linter.unusedVariables false

theorem has_any (A : Option Addr) (l c : Nat) (n : Int) (w : World) : Calls Tryd.prog 54 #[.slice A l c, .int .i64 n] w fun e w' => e = .returned (.bool (decide (0 ≤ n) && decide (n < l))) ∧ w = w' := by
  by_cases h0 : 0 ≤ n
  · by_cases h1 : n < l
    · rw [decide_eq_true h0, decide_eq_true h1]
      go_enter Tryd.func54, Tryd.ntmps54
      go_wp2_with fail
      go_ret
      exact ⟨rfl, rfl⟩
    · rw [decide_eq_true h0, decide_eq_false h1]
      go_enter Tryd.func54, Tryd.ntmps54
      go_wp2_with fail
      go_ret
      exact ⟨rfl, rfl⟩
  · rw [decide_eq_false h0]
    go_enter Tryd.func54, Tryd.ntmps54
    go_wp2_with fail
    go_ret
    exact ⟨rfl, rfl⟩

/-- No task. -/
def Frm.zero : Frm := ⟨0, 0, fun _ => 0, fun _ => 0, 0⟩

/-- Whether a function needs a handle. -/
def nbit (nd : Int) (k : Nat) : Bool := bits BinOp.and IntKind.i64 (nd / 2 ^ k) 1 == 1

/-- The task that a fork makes, its handles up to k. -/
def Frm.kid (F : Frm) (q : Nat) (nd : Int) (k : Nat) : Frm := ⟨q, 0, F.r, fun j => if j < k ∧ nbit nd j = true then F.h j else -1, 0⟩

theorem four (w : World) (c0 c1 c2 c3 : Array Value) (t0 t1 t2 t3 : TypeId) : Fr (fun _ => False) w ((((w.alloc (.cells c0 t0)).alloc (.cells c1 t1)).alloc (.cells c2 t2)).alloc (.cells c3 t3)) ∧
    Blk ((((w.alloc (.cells c0 t0)).alloc (.cells c1 t1)).alloc (.cells c2 t2)).alloc (.cells c3 t3)) w.heap.size c0 ∧ Blk ((((w.alloc (.cells c0 t0)).alloc (.cells c1 t1)).alloc (.cells c2 t2)).alloc (.cells c3 t3)) (w.heap.size + 1) c1 ∧
    Blk ((((w.alloc (.cells c0 t0)).alloc (.cells c1 t1)).alloc (.cells c2 t2)).alloc (.cells c3 t3)) (w.heap.size + 2) c2 ∧ Blk ((((w.alloc (.cells c0 t0)).alloc (.cells c1 t1)).alloc (.cells c2 t2)).alloc (.cells c3 t3)) (w.heap.size + 3) c3 :=
  ⟨(((Fr.alloc _ _ _).trans (Fr.alloc _ _ _)).trans (Fr.alloc _ _ _)).trans (Fr.alloc _ _ _), (((Blk.new _ _ _).alloc _).alloc _).alloc _, (((Blk.new _ _ _).at (by simp)).alloc _).alloc _, ((Blk.new _ _ _).at (by simp)).alloc _, (Blk.new _ _ _).at (by simp)⟩

set_option maxRecDepth 100000 in
set_option maxHeartbeats 1000000 in
theorem child_no {cel : Frm → Array Value} (hC : Cel cel) (F : Frm) (A : Option Addr) (l cp : Nat) (i : Ins) (w : World) (ht : Tabs w) (hk : isOp i 8 = false) :
    Calls Tryd.prog 50 #[.agg (cel F), .agg #[.slice A l cp], i.val] w fun e w' => e = .returned (.tuple #[.agg (cel Frm.zero), .int .i64 1]) ∧ Fr (fun _ => False) w w' := by
  have HM := hid (is_any i 8)
  unfold isOp at hk
  rw [hk] at HM
  unfold Ins.val at *
  obtain ⟨w1, hw1⟩ : ∃ w1, w1 = (((w.alloc (.cells (cel F) 59)).alloc (.cells #[.slice A l cp] 24)).alloc (.cells #[.int .i64 i.op, .int .i64 i.a, .int .i64 i.b, .int .i64 i.c, .int .i64 i.n] 43)).alloc (.cells zeros 59) := ⟨_, rfl⟩
  obtain ⟨hA, hB, hQ, hI, hZ⟩ := four w (cel F) #[.slice A l cp] #[.int .i64 i.op, .int .i64 i.a, .int .i64 i.b, .int .i64 i.c, .int .i64 i.n] zeros 59 24 43 59
  rw [← hw1] at hA hB hQ hI hZ
  unfold zeros at hw1
  have HA := hid hA
  have HB := hid hB
  have HQ := hid hQ
  have HI := hid hI
  have HZ := hid hZ
  have i0 := hI.cell (i := 0) rfl
  have i1 := hI.cell (i := 1) rfl
  have i2 := hI.cell (i := 2) rfl
  have i3 := hI.cell (i := 3) rfl
  have i4 := hI.cell (i := 4) rfl
  simp only [List.getElem_toArray, List.getElem_cons_zero, List.getElem_cons_succ] at i0 i1 i2 i3 i4
  clear hA hB hQ hI hZ
  have hlit0 : #[.int .i64 0, .int .i64 0, .int .i64 0, .int .i64 0, .int .i64 0, .int .i64 0, .int .i64 0, .int .i64 0, .int .i64 0, .int .i64 0, .int .i64 0, .int .i64 0, .int .i64 0, .int .i64 0, .int .i64 0, .int .i64 0, .int .i64 0, .int .i64 0, .int .i64 0] = cel Frm.zero := by rw [hC.eq]; rfl
  have HL0 := hid hlit0
  clear hlit0
  go_enter Tryd.func50, Tryd.ntmps50
  go_upto_region 1 with fail
  rw [← hw1]
  clear hw1
  go_wp2_with fail
  refine (HM.out _ (ht.same HA.out)).mono ?_
  rintro e w2 ⟨rfl, hF2⟩
  have HA2 := hid (HA.out.trans hF2)
  have HB2 := hid (HB.out.keep hF2 (fun h => h))
  have HQ2 := hid (HQ.out.keep hF2 (fun h => h))
  have HI2 := hid (HI.out.keep hF2 (fun h => h))
  have HZ2 := hid (HZ.out.keep hF2 (fun h => h))
  clear HA HB HQ HI HZ i0 i1 i2 i3 i4 hF2 HM
  have hlit := HL0.out
  go_wp2_with (refine row_store rfl 59 _ _ rfl _ _ rfl rfl HZ2.out infoF rfl (hC.size _) (hC.one _) ?_)
  intro w9 hB9 hF9
  go_wp2_with fail
  exact bodyPost_ret (res_two rfl rfl hB9 Tryd.underlying59 rfl infoF (hC.size _) rfl) rfl ⟨rfl, (HA2.out).over hF9 (by omega)⟩

set_option maxRecDepth 100000 in
set_option maxHeartbeats 1000000 in
theorem child_none {cel : Frm → Array Value} (hC : Cel cel) (F : Frm) (A : Option Addr) (l cp : Nat) (i : Ins) (w : World) (ht : Tabs w) (hk : isOp i 8 = true) (hn : ¬ (0 ≤ i.n ∧ i.n < l)) :
    Calls Tryd.prog 50 #[.agg (cel F), .agg #[.slice A l cp], i.val] w fun e w' => e = .returned (.tuple #[.agg (cel Frm.zero), .int .i64 17]) ∧ Fr (fun _ => False) w w' := by
  have HM := hid (is_any i 8)
  unfold isOp at hk
  rw [hk] at HM
  unfold Ins.val at *
  have HH := hid (has_any A l cp i.n)
  rw [show (decide (0 ≤ i.n) && decide (i.n < (l : Int))) = false by
    by_cases h0 : 0 ≤ i.n
    · rw [decide_eq_false (show ¬ i.n < (l : Int) from fun h => hn ⟨h0, h⟩), Bool.and_false]
    · rw [decide_eq_false h0, Bool.false_and]] at HH
  clear hn
  obtain ⟨w1, hw1⟩ : ∃ w1, w1 = (((w.alloc (.cells (cel F) 59)).alloc (.cells #[.slice A l cp] 24)).alloc (.cells #[.int .i64 i.op, .int .i64 i.a, .int .i64 i.b, .int .i64 i.c, .int .i64 i.n] 43)).alloc (.cells zeros 59) := ⟨_, rfl⟩
  obtain ⟨hA, hB, hQ, hI, hZ⟩ := four w (cel F) #[.slice A l cp] #[.int .i64 i.op, .int .i64 i.a, .int .i64 i.b, .int .i64 i.c, .int .i64 i.n] zeros 59 24 43 59
  rw [← hw1] at hA hB hQ hI hZ
  unfold zeros at hw1
  have HA := hid hA
  have HB := hid hB
  have HQ := hid hQ
  have HI := hid hI
  have HZ := hid hZ
  have i0 := hI.cell (i := 0) rfl
  have i1 := hI.cell (i := 1) rfl
  have i2 := hI.cell (i := 2) rfl
  have i3 := hI.cell (i := 3) rfl
  have i4 := hI.cell (i := 4) rfl
  simp only [List.getElem_toArray, List.getElem_cons_zero, List.getElem_cons_succ] at i0 i1 i2 i3 i4
  clear hA hB hQ hI hZ
  have hlit0 : #[.int .i64 0, .int .i64 0, .int .i64 0, .int .i64 0, .int .i64 0, .int .i64 0, .int .i64 0, .int .i64 0, .int .i64 0, .int .i64 0, .int .i64 0, .int .i64 0, .int .i64 0, .int .i64 0, .int .i64 0, .int .i64 0, .int .i64 0, .int .i64 0, .int .i64 0] = cel Frm.zero := by rw [hC.eq]; rfl
  have HL0 := hid hlit0
  clear hlit0
  go_enter Tryd.func50, Tryd.ntmps50
  go_upto_region 1 with fail
  rw [← hw1]
  clear hw1
  go_wp2_with fail
  refine (HM.out _ (ht.same HA.out)).mono ?_
  rintro e w2 ⟨rfl, hF2⟩
  have HA2 := hid (HA.out.trans hF2)
  have HB2 := hid (HB.out.keep hF2 (fun h => h))
  have HQ2 := hid (HQ.out.keep hF2 (fun h => h))
  have HI2 := hid (HI.out.keep hF2 (fun h => h))
  have HZ2 := hid (HZ.out.keep hF2 (fun h => h))
  clear HA HB HQ HI HZ i0 i1 i2 i3 i4 hF2 HM
  have q0 : w2.cell? ⟨w.heap.size + 1, 0, none⟩ = some (.slice A l cp) := HQ2.out.cell rfl
  have j4 : w2.cell? ⟨w.heap.size + 2, 4, none⟩ = some (.int .i64 i.n) := HI2.out.cell rfl
  go_wp2_with fail
  refine (HH.out w2).mono ?_
  rintro e w3 ⟨rfl, rfl⟩
  have hlit := HL0.out
  go_wp2_with (refine row_store rfl 59 _ _ rfl _ _ rfl rfl HZ2.out infoF rfl (hC.size _) (hC.one _) ?_)
  intro w9 hB9 hF9
  go_wp2_with fail
  exact bodyPost_ret (res_two rfl rfl hB9 Tryd.underlying59 rfl infoF (hC.size _) rfl) rfl ⟨rfl, (HA2.out).over hF9 (by omega)⟩

/-- A round's beginning: handles up to k are given. -/
def ChRel (cel : Frm → Array Value) (F : Frm) (q : Nat) (nd : Int) (g : Nat) (w0 : World) (d : Nat) (x : Value) (wr : World) : Prop := ∃ k : Nat, k ≤ 8 ∧ d = 8 - k ∧ x = .int .i64 k ∧ Blk wr g (cel (F.kid q nd k)) ∧ Fr (fun j => j = g) w0 wr

def CameG (cel : Frm → Array Value) (G : Frm) (w : World) (u : Value) (wx : World) : Prop := ∃ g, u = .pointer (some ⟨g, 0, none⟩) ∧ Blk wx g (cel G) ∧ w.heap.size ≤ g ∧ Fr (fun _ => False) w wx

theorem kid_yes (F : Frm) (q : Nat) (nd : Int) (k : Nat) (h : nbit nd k = true) : (F.kid q nd k).hold k (F.h k) = F.kid q nd (k + 1) := by
  unfold Frm.hold Frm.kid
  simp only
  congr 1
  funext j
  by_cases hj : j = k
  · subst hj
    simp [h]
  · rw [if_neg hj]
    have : (j < k ∧ nbit nd j = true) ↔ (j < k + 1 ∧ nbit nd j = true) := ⟨fun ⟨a, b⟩ => ⟨by omega, b⟩, fun ⟨a, b⟩ => ⟨by omega, b⟩⟩
    simp only [this]
theorem kid_no (F : Frm) (q : Nat) (nd : Int) (k : Nat) (h : nbit nd k = false) : F.kid q nd k = F.kid q nd (k + 1) := by
  unfold Frm.kid
  congr 1
  funext j
  have : (j < k ∧ nbit nd j = true) ↔ (j < k + 1 ∧ nbit nd j = true) := ⟨fun ⟨a, b⟩ => ⟨by omega, b⟩, fun ⟨a, b⟩ => by
    rcases Nat.lt_or_ge j k with hj | hj
    · exact ⟨hj, b⟩
    · obtain rfl : j = k := by omega
      rw [h] at b
      cases b⟩
  simp only [this]

set_option maxRecDepth 100000 in
set_option maxHeartbeats 4000000 in
theorem child_in {cel : Frm → Array Value} (hC : Cel cel) (F : Frm) (A : Option Addr) (l cp : Nat) (P : List Fn) (a b c q : Nat) (fq : Fn) (w : World) (ht : Tabs w) (hP : P.length = l) (hp : Prg w w.heap.size A P) (hq : P[q]? = some fq) (hk : isOp ⟨8, a, b, c, q⟩ 8 = true) :
    Calls Tryd.prog 50 #[.agg (cel F), .agg #[.slice A l cp], Ins.val ⟨8, a, b, c, q⟩] w fun e w' => e = .returned (.tuple #[.agg (cel (F.kid q fq.needs 8)), .int .i64 0]) ∧ Fr (fun _ => False) w w' := by
  have HM := hid (is_any ⟨8, a, b, c, q⟩ 8)
  unfold isOp at hk
  rw [hk] at HM
  unfold Ins.val at *
  simp only at *
  clear hk
  have hql : q < l := by rw [← hP]; exact (List.getElem?_eq_some_iff.1 hq).1
  have HH := hid (has_any A l cp (q : Int))
  rw [decide_eq_true (show (0 : Int) ≤ q by omega), decide_eq_true (show (q : Int) < (l : Int) by omega), Bool.true_and] at HH
  obtain ⟨pb, po, rfl, hpl, hpc⟩ := hp (by omega)
  obtain ⟨A', c', hnd, _, _⟩ := hpc q fq hq
  obtain ⟨nd, hn⟩ : ∃ nd, fq.needs = nd := ⟨_, rfl⟩
  rw [hn] at hnd ⊢
  clear hn hpc hq hP
  obtain ⟨A, hAA⟩ : ∃ A, A = some (⟨pb, po, none⟩ : Addr) := ⟨_, rfl⟩
  rw [← hAA] at HH ⊢
  have HAA := hid hAA
  clear hAA
  have HND := hid hnd
  clear hnd
  obtain ⟨w1, hw1⟩ : ∃ w1, w1 = (((w.alloc (.cells (cel F) 59)).alloc (.cells #[.slice A l cp] 24)).alloc (.cells #[.int .i64 8, .int .i64 a, .int .i64 b, .int .i64 c, .int .i64 q] 43)).alloc (.cells zeros 59) := ⟨_, rfl⟩
  obtain ⟨hA, hB, hQ, hI, hZ⟩ := four w (cel F) #[.slice A l cp] #[.int .i64 8, .int .i64 a, .int .i64 b, .int .i64 c, .int .i64 q] zeros 59 24 43 59
  rw [← hw1] at hA hB hQ hI hZ
  unfold zeros at hw1
  have HA := hid hA
  have HB := hid hB
  have HQ := hid hQ
  have HI := hid hI
  have HZ := hid hZ
  have i0 := hI.cell (i := 0) rfl
  have i1 := hI.cell (i := 1) rfl
  have i2 := hI.cell (i := 2) rfl
  have i3 := hI.cell (i := 3) rfl
  have i4 := hI.cell (i := 4) rfl
  simp only [List.getElem_toArray, List.getElem_cons_zero, List.getElem_cons_succ] at i0 i1 i2 i3 i4
  clear hA hB hQ hI hZ
  have hlit0 : #[.int .i64 0, .int .i64 0, .int .i64 0, .int .i64 0, .int .i64 0, .int .i64 0, .int .i64 0, .int .i64 0, .int .i64 0, .int .i64 0, .int .i64 0, .int .i64 0, .int .i64 0, .int .i64 0, .int .i64 0, .int .i64 0, .int .i64 0, .int .i64 0, .int .i64 0] = cel Frm.zero := by rw [hC.eq]; rfl
  have HL0 := hid hlit0
  clear hlit0
  go_enter Tryd.func50, Tryd.ntmps50
  go_upto_region 1 with fail
  rw [← hw1]
  clear hw1
  go_wp2_with fail
  refine (HM.out _ (ht.same HA.out)).mono ?_
  rintro e w2 ⟨rfl, hF2⟩
  have HA2 := hid (HA.out.trans hF2)
  have HB2 := hid (HB.out.keep hF2 (fun h => h))
  have HQ2 := hid (HQ.out.keep hF2 (fun h => h))
  have HI2 := hid (HI.out.keep hF2 (fun h => h))
  have HZ2 := hid (HZ.out.keep hF2 (fun h => h))
  clear HA HB HQ HI HZ i0 i1 i2 i3 i4 hF2 HM
  have q0 : w2.cell? ⟨w.heap.size + 1, 0, none⟩ = some (.slice A l cp) := HQ2.out.cell rfl
  have j4 : w2.cell? ⟨w.heap.size + 2, 4, none⟩ = some (.int .i64 q) := HI2.out.cell rfl
  go_wp2_with fail
  refine (HH.out w2).mono ?_
  rintro e w3 ⟨rfl, rfl⟩
  obtain ⟨C0, hC0⟩ : ∃ C0, C0 = F.kid q nd 0 := ⟨_, rfl⟩
  have hlit : #[.int .i64 q, .int .i64 0, .int .i64 (F.r 0), .int .i64 (F.r 1), .int .i64 (F.r 2), .int .i64 (F.r 3), .int .i64 (F.r 4), .int .i64 (F.r 5), .int .i64 (F.r 6), .int .i64 (F.r 7), .int .i64 (-1), .int .i64 (-1), .int .i64 (-1), .int .i64 (-1), .int .i64 (-1), .int .i64 (-1), .int .i64 (-1), .int .i64 (-1), .int .i64 0] = cel C0 := by rw [hC0, hC.eq]; rfl
  have HC0 := hid hC0
  clear hC0 HH q0
  have HS := hid (show ∀ w', Fr (fun _ => False) w2 w' → w'.cell? ⟨w.heap.size + 2, 4, none⟩ = some (.int .i64 q) ∧ w'.cell? ⟨w.heap.size, 2, none⟩ = some (.int .i64 (F.r 0)) ∧ w'.cell? ⟨w.heap.size, 3, none⟩ = some (.int .i64 (F.r 1)) ∧ w'.cell? ⟨w.heap.size, 4, none⟩ = some (.int .i64 (F.r 2)) ∧ w'.cell? ⟨w.heap.size, 5, none⟩ = some (.int .i64 (F.r 3)) ∧ w'.cell? ⟨w.heap.size, 6, none⟩ = some (.int .i64 (F.r 4)) ∧ w'.cell? ⟨w.heap.size, 7, none⟩ = some (.int .i64 (F.r 5)) ∧ w'.cell? ⟨w.heap.size, 8, none⟩ = some (.int .i64 (F.r 6)) ∧ w'.cell? ⟨w.heap.size, 9, none⟩ = some (.int .i64 (F.r 7)) from fun w' F' => ⟨(HI2.out.keep F' (fun h => h)).cell rfl, hC.regs F (HB2.out.keep F' (fun h => h))⟩)
  obtain ⟨N, hN, hN1, hN2⟩ := nineteen
  have hsz : ∀ F, (cel F).size = N := fun F => by rw [hC.size, hN]
  have HN := hid hN
  clear hN j4
  go_upto_region 5 with fail
  go_cut [8] from 21 to 26 (fun u wx => CameG cel C0 w2 u wx)
  case first =>
    have HFd := hid (Fr.refl (fun _ => False) w2)
    have hstC : ∀ (V : World), (storeCells ⟨V.heap.size, 0, none⟩ (cel C0).toList 0).run Tryd.prog (V.alloc (.cells zeros 59)) = .ok () ((V.alloc (.cells zeros 59)).setRow V.heap.size (cel C0)) := fun V => store_at (Blk.new V zeros _) rfl (hC.size _) (hC.one _)
    have hstD : ∀ (V : World), (storeCells ⟨V.heap.size, 0, none⟩ (cel C0).toList 0).run Tryd.prog (V.alloc (.cells zeros 59)).drew = .ok () ((V.alloc (.cells zeros 59)).drew.setRow V.heap.size (cel C0)) := fun V => store_at (Blk.new V zeros _).drew rfl (hC.size _) (hC.one _)
    unfold zeros at hstC hstD
    have hEM := empty_any
    unfold none8 at hEM
    have HEM := hid hEM
    clear hEM
    go_region_held3 (fun w' => w'.cell? ⟨w.heap.size + 2, 4, none⟩ = some (.int .i64 q) ∧ w'.cell? ⟨w.heap.size, 2, none⟩ = some (.int .i64 (F.r 0)) ∧ w'.cell? ⟨w.heap.size, 3, none⟩ = some (.int .i64 (F.r 1)) ∧ w'.cell? ⟨w.heap.size, 4, none⟩ = some (.int .i64 (F.r 2)) ∧ w'.cell? ⟨w.heap.size, 5, none⟩ = some (.int .i64 (F.r 3)) ∧ w'.cell? ⟨w.heap.size, 6, none⟩ = some (.int .i64 (F.r 4)) ∧ w'.cell? ⟨w.heap.size, 7, none⟩ = some (.int .i64 (F.r 5)) ∧ w'.cell? ⟨w.heap.size, 8, none⟩ = some (.int .i64 (F.r 6)) ∧ w'.cell? ⟨w.heap.size, 9, none⟩ = some (.int .i64 (F.r 7)))
      (first | exact HS.out _ HFd.out | exact HS.out _ (HFd.out.trans (Fr.drew _ _)) | exact HS.out _ (HFd.out.trans (Fr.alloc _ _ _)) | exact HS.out _ (HFd.out.trans ((Fr.alloc _ _ _).trans (Fr.drew _ _))) | exact HS.out _ (HFd.out.over (setRow_fr _ _ _ rfl) (Nat.le_refl _)) | exact HS.out _ ((HFd.out.trans (Fr.alloc _ _ _)).over (setRow_fr _ _ _ rfl) HFd.out.size) | exact HS.out _ ((HFd.out.trans ((Fr.alloc _ _ _).trans (Fr.drew _ _))).over (setRow_fr _ _ _ rfl) HFd.out.size))
      (first
        | (go_at_call 40; (with_reducible refine (HEM.out _).mono ?_); rintro e w7 ⟨rfl, hF7⟩; (try (have HBB := hid (blk_of' hF7); have hst := store_at (P := Tryd.prog) HBB.out rfl (hC.size C0) (hC.one _))); (try (have HBB := hid (blk_of hF7); have hst := store_at (P := Tryd.prog) HBB.out rfl (hC.size C0) (hC.one _))); have HFd := hid (HFd.out.trans (Fr.trans (by first | exact Fr.refl _ _ | exact Fr.drew _ _ | exact Fr.alloc _ _ _ | exact (Fr.alloc _ _ _).trans (Fr.drew _ _)) hF7)); clear hF7))
    all_goals
      go_wp2_with fail
      go_meet
      case rel => first
        | exact ⟨_, rfl, setRow_blk HBB.out _, Nat.le_refl _, HFd.out.over (setRow_fr _ _ _ rfl) (Nat.le_refl _)⟩
        | exact ⟨_, rfl, setRow_blk (Blk.new _ _ _) _, HFd.out.size, (HFd.out.trans (Fr.alloc _ _ _)).over (setRow_fr _ _ _ rfl) HFd.out.size⟩
        | exact ⟨_, rfl, setRow_blk (Blk.new _ _ _).drew _, HFd.out.size, (HFd.out.trans ((Fr.alloc _ _ _).trans (Fr.drew _ _))).over (setRow_fr _ _ _ rfl) HFd.out.size⟩
  case rest =>
    obtain ⟨g, rfl, hB5, hg5, hF5⟩ := hcut
    have HG5 := hid hg5
    have HA5 := hid (HA2.out.trans hF5)
    have HB5 := hid (HB2.out.keep hF5 (fun h => h))
    have HQ5 := hid (HQ2.out.keep hF5 (fun h => h))
    have HI5 := hid (HI2.out.keep hF5 (fun h => h))
    have HZ5 := hid (HZ2.out.keep hF5 (fun h => h))
    have HZL := hid HZ2.out.lt
    rw [HC0.out] at hB5
    have HC5 := hid hB5
    clear HA2 HB2 HQ2 HI2 HZ2 HS hlit hB5 hF5 hg5 hsz
    go_wp2_with fail
    go_loopg [27] 8 (fun d x wr => ChRel cel F q nd g wc d x wr)
    case atStart => exact ⟨0, by omega, rfl, rfl, HC5.out, Fr.refl _ _⟩
    case round =>
      obtain ⟨k, hk, hd, rfl, hB, hF⟩ := hrel
      have HD := hid hd
      have HK := hid hB
      have HF := hid hF
      have hne : ∀ j, j ≤ w.heap.size + 3 → ¬ (j = g) := fun j hj => by have := HG5.out; have := HZL.out; omega
      have q1 : wr.cell? ⟨w.heap.size + 1, 0, none⟩ = some (.slice A l cp) := (HQ5.out.keep hF (hne _ (by omega))).cell rfl
      have j4 : wr.cell? ⟨w.heap.size + 2, 4, none⟩ = some (.int .i64 q) := (HI5.out.keep hF (hne _ (by omega))).cell rfl
      have hpk : wr.cell? ⟨pb, po + q * 2, none⟩ = some (.int .i64 nd) := (cell_keep hF (p := ⟨pb, po + q * 2, none⟩) (Nat.lt_of_lt_of_le hpl HA5.out.size) (hne pb (by omega))).trans ((cell_keep HA5.out (p := ⟨pb, po + q * 2, none⟩) hpl (fun h => h)).trans HND.out)
      rw [HAA.out] at q1
      have hq0 : (0 : Int) ≤ q ∧ (q : Int) < l := by omega
      clear hd hB
      by_cases hlt : k < 8
      · have hk0 : (0 : Int) ≤ k ∧ (k : Int) < 8 := by omega
        have hk1 : (0 : Int) ≤ k := by omega
        have hk2 : (k : Int) ≤ 64 := by omega
        have r1 : wr.cell? ⟨w.heap.size, 10 + k, none⟩ = some (.int .i64 (F.h k)) := (HB5.out.keep hF (hne _ (by omega))).cell (hC.h F k hlt)
        have s1 : wr.cell? ⟨g, 10 + k, none⟩ = some (.int .i64 ((F.kid q nd k).h k)) := HK.out.cell (hC.h _ k hlt)
        have s2 := HK.out.frozen (10 + k)
        clear hF
        rcases Bool.eq_false_or_eq_true (nbit nd k) with hb | hb
        · have tb : (bits BinOp.and IntKind.i64 (nd / 2 ^ k) 1 == 1) = true := hb
          have hB6 := HK.out.set (10 + k) (.int .i64 (F.h k))
          rw [hC.hold _ k _ hlt, kid_yes F q nd k hb] at hB6
          have HB6 := hid hB6
          clear hB6 hb
          go_wp2_with fail
          go_roundg (8 - (k + 1))
          case rel => exact ⟨k + 1, by omega, by omega, by go_num, HB6.out, HF.out.trans (Fr.setCell _ _ _ rfl)⟩
          case measure => have := HD.out; omega
        · have tb : (bits BinOp.and IntKind.i64 (nd / 2 ^ k) 1 == 1) = false := hb
          have hB6 := HK.out
          rw [kid_no F q nd k hb] at hB6
          have HB6 := hid hB6
          clear hB6 hb
          go_wp2_with fail
          go_roundg (8 - (k + 1))
          case rel => exact ⟨k + 1, by omega, by omega, by go_num, HB6.out, HF.out⟩
          case measure => have := HD.out; omega
      · obtain rfl : k = 8 := by omega
        have hZ6 := HZ5.out.keep hF (hne _ (by omega))
        have hA6 := HA5.out.over HF.out (by have := HG5.out; have := HZL.out; omega)
        clear hF q1 j4 hpk hne
        go_wp2_with (first
          | (refine row_load rfl 59 _ rfl _ rfl HK.out Tryd.underlying59 rfl infoF (hC.size _) ?_)
          | (refine row_store rfl 59 _ _ rfl _ _ rfl rfl hZ6 infoF rfl (hC.size _) (hC.one _) ?_))
        intro w9 hB9 hF9
        go_wp2_with fail
        exact bodyPost_ret (res_two rfl rfl hB9 Tryd.underlying59 rfl infoF (hC.size _) rfl) rfl ⟨rfl, hA6.over hF9 (by omega)⟩

end Go.Proofs.YtpjcdjooiaefdaaDoor
