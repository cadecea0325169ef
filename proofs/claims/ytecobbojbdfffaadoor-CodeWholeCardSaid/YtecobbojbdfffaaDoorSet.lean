/-
  A program of the call's own, with one field of an instruction turned.
-/
import Derived.Test.YtecobbojbdfffaaDoorCut
namespace Go.Proofs.YtecobbojbdfffaaDoor
open Go.RowKit

def turnI (i : Ins) (a : Int) : Ins := ⟨i.op, a, i.b, i.c, i.n⟩
def turnF (f : Fn) (k : Nat) (i : Ins) (a : Int) : Fn := ⟨f.needs, f.code.set k (turnI i a)⟩
def turnP (P : List Fn) (j k : Nat) (f : Fn) (i : Ins) (a : Int) : List Fn := P.set j (turnF f k i a)

theorem turnP_ne {P : List Fn} {j k : Nat} {f : Fn} {i : Ins} {a : Int} (hj : P[j]? = some f) (hk : f.code[k]? = some i) (ha : i.a ≠ a) : P ≠ turnP P j k f i a := by
  intro e
  have h1 : (turnP P j k f i a)[j]? = some (turnF f k i a) := by
    unfold turnP
    rw [List.getElem?_set_self (List.getElem?_eq_some_iff.1 hj).1]
  rw [← e, hj] at h1
  have h2 : f.code = f.code.set k (turnI i a) := by
    have := congrArg Fn.code (Option.some.inj h1)
    exact this
  have h3 : (f.code.set k (turnI i a))[k]? = some (turnI i a) := List.getElem?_set_self (List.getElem?_eq_some_iff.1 hk).1
  rw [← h2, hk] at h3
  exact ha (congrArg Ins.a (Option.some.inj h3))

theorem turnP_len (P : List Fn) (j k : Nat) (f : Fn) (i : Ins) (a : Int) : (turnP P j k f i a).length = P.length := by
  unfold turnP
  rw [List.length_set]

theorem cod_set {w : World} {gc : Nat} {l : List Ins} {k : Nat} {i : Ins} {c : Array Value} {t : TypeId} (ht : TBlk w gc c t) (h : Cod w w.heap.size (some ⟨gc, 0, none⟩) l) (hk : l[k]? = some i) (a : Int) :
    Cod (w.setCell ⟨gc, k * 5 + 1, none⟩ (.int .i64 a)) w.heap.size (some ⟨gc, 0, none⟩) (l.set k (turnI i a)) := fun hl => by
  rw [List.length_set] at hl
  obtain ⟨b, o, he, hb, hc⟩ := h hl
  simp only [Option.some.injEq, Addr.mk.injEq, and_true] at he
  obtain ⟨rfl, rfl⟩ := he
  refine ⟨gc, 0, rfl, hb, fun j x hx => ?_⟩
  have hcs : ∀ m, (w.setCell ⟨gc, k * 5 + 1, none⟩ (.int .i64 a)).cell? ⟨gc, m, none⟩ = if m = k * 5 + 1 then (if k * 5 + 1 < c.size then some (.int .i64 a) else none) else w.cell? ⟨gc, m, none⟩ := fun m => by
    have h2 := ht.set (k * 5 + 1) (.int .i64 a)
    unfold TBlk at h2 ht
    simp only [World.cell?, h2, ht]
    by_cases hm : m = k * 5 + 1
    · subst hm
      simp
      exact Array.getElem?_setIfInBounds_self
    · simp [hm, Ne.symm hm]
  have hin : k * 5 + 1 < c.size := by
    have h1 := (hc k i hk).2.1
    rw [Nat.zero_add] at h1
    unfold TBlk at ht
    simp only [World.cell?, ht] at h1
    exact (Array.getElem?_eq_some_iff.1 (by simpa using h1)).1
  by_cases hjk : j = k
  · subst hjk
    rw [List.getElem?_set_self (List.getElem?_eq_some_iff.1 hk).1] at hx
    obtain rfl := Option.some.inj hx
    obtain ⟨e0, e1, e2, e3, e4⟩ := hc j i hk
    simp only [Nat.zero_add] at e0 e1 e2 e3 e4 ⊢
    refine ⟨?_, ?_, ?_, ?_, ?_⟩
    · rw [hcs, if_neg (by omega)]
      exact e0
    · rw [hcs, if_pos rfl, if_pos hin]
      rfl
    · rw [hcs, if_neg (by omega)]
      exact e2
    · rw [hcs, if_neg (by omega)]
      exact e3
    · rw [hcs, if_neg (by omega)]
      exact e4
  · rw [List.getElem?_set_ne (Ne.symm hjk)] at hx
    obtain ⟨e0, e1, e2, e3, e4⟩ := hc j x hx
    simp only [Nat.zero_add] at e0 e1 e2 e3 e4 ⊢
    refine ⟨?_, ?_, ?_, ?_, ?_⟩
    · rw [hcs, if_neg (by omega)]
      exact e0
    · rw [hcs, if_neg (by omega)]
      exact e1
    · rw [hcs, if_neg (by omega)]
      exact e2
    · rw [hcs, if_neg (by omega)]
      exact e3
    · rw [hcs, if_neg (by omega)]
      exact e4

theorem pair_ne {α : Type} {R : α → α → Prop} (hR : ∀ x y, R x y → R y x) {l : List α} (h : l.Pairwise R) {i j : Nat} {x y : α} (hi : l[i]? = some x) (hj : l[j]? = some y) (hij : i ≠ j) : R x y := by
  obtain ⟨li, rfl⟩ := List.getElem?_eq_some_iff.1 hi
  obtain ⟨lj, rfl⟩ := List.getElem?_eq_some_iff.1 hj
  rw [List.pairwise_iff_getElem] at h
  rcases Nat.lt_or_ge i j with hl | hl
  · exact h i j li lj hl
  · exact hR _ _ (h j i lj li (by omega))

/-- The program behind the turn. -/
theorem own_turn {w : World} {B : Nat} {A : Option Addr} {cap : Nat} {L : List Fo} (h : OwnP w B A cap L) {j k : Nat} {x : Fo} {i : Ins} (hj : L[j]? = some x) (hk : x.f.code[k]? = some i) (a : Int) :
    ∃ gc, x.A = some ⟨gc, 0, none⟩ ∧ B ≤ gc ∧ gc < w.heap.size ∧ (∀ m, w.frozen? ⟨gc, m, none⟩ = false) ∧ (∃ c, TBlk w gc c 23) ∧
      Prg (w.setCell ⟨gc, k * 5 + 1, none⟩ (.int .i64 a)) w.heap.size A (turnP (L.map (·.f)) j k x.f i a) := by
  have hxI := h.codes x (List.mem_of_getElem? hj)
  have hpos : 0 < x.f.code.length := by have := (List.getElem?_eq_some_iff.1 hk).1; omega
  obtain ⟨gc, hA, hB, hg, hfz, _⟩ := OwnR.cell hxI hpos
  have hT : ∃ c, TBlk w gc c 23 := by
    obtain ⟨_, h2⟩ := hxI
    rcases h2 with ⟨h2, h3⟩ | ⟨g', c', cur, hv, _, hh, _⟩
    · omega
    · injection hv with hv _ _
      rw [hA] at hv
      injection hv with hv
      injection hv with hv _ _
      subst hv
      exact ⟨cur, hh⟩
  refine ⟨gc, hA, hB, hg, hfz, hT, ?_⟩
  obtain ⟨c, hT⟩ := hT
  have hF : Fr (fun q => q = gc) w (w.setCell ⟨gc, k * 5 + 1, none⟩ (.int .i64 a)) := Fr.setCell _ _ _ rfl
  have hrow := h.row.keep hF (fun q hq e => h.row.ne hT (by decide) (e ▸ hq))
  intro hl
  rw [turnP_len, List.length_map] at hl
  obtain ⟨g, rfl, _, hgl, _, hc⟩ := hrow.cell hl
  refine ⟨g, 0, rfl, by have : (w.setCell ⟨gc, k * 5 + 1, none⟩ (.int .i64 a)).heap.size = w.heap.size := by simp [World.setCell]
                        omega, fun m f hf => ?_⟩
  have hcell : ∀ (y : Fo), L[m]? = some y → (w.setCell ⟨gc, k * 5 + 1, none⟩ (.int .i64 a)).cell? ⟨g, 0 + m * 2, none⟩ = some (.int .i64 y.f.needs) ∧ (w.setCell ⟨gc, k * 5 + 1, none⟩ (.int .i64 a)).cell? ⟨g, 0 + m * 2 + 1, none⟩ = some (.slice y.A y.f.code.length y.c) := fun y hy => by
    rw [Nat.zero_add]
    exact ⟨hc (m * 2 + 0) _ (by rw [flat_at Fo.cells 2 Fo.cells_len hy (by omega)]; rfl), hc (m * 2 + 1) _ (by rw [flat_at Fo.cells 2 Fo.cells_len hy (by omega)]; rfl)⟩
  by_cases hmj : m = j
  · subst hmj
    unfold turnP at hf
    rw [List.getElem?_set_self (by rw [List.length_map]; exact (List.getElem?_eq_some_iff.1 hj).1)] at hf
    obtain rfl := Option.some.inj hf
    obtain ⟨e0, e1⟩ := hcell x hj
    refine ⟨x.A, x.c, e0, ?_, ?_⟩
    · rw [e1]
      simp [turnF]
    · have hcod := hxI.cod
      rw [hA] at hcod ⊢
      exact cod_set hT hcod hk a
  · unfold turnP at hf
    rw [List.getElem?_set_ne (Ne.symm hmj), List.getElem?_map] at hf
    obtain ⟨y, hy, rfl⟩ := Option.map_eq_some_iff.1 hf
    obtain ⟨e0, e1⟩ := hcell y hy
    refine ⟨y.A, y.c, e0, e1, ?_⟩
    have hap := pair_ne (R := fun x y : Fo => ∀ q, ownB x.A q → ¬ ownB y.A q) (fun x y hxy q h1 h2 => hxy q h2 h1) h.apart hy hj hmj
    have hyI := OwnR.keep (h.codes y (List.mem_of_getElem? hy)) hF (fun q hq e => hap q hq ⟨_, hA, e.symm⟩)
    have hcod := OwnI.cod hyI
    have hsz : (w.setCell ⟨gc, k * 5 + 1, none⟩ (.int .i64 a)).heap.size = w.heap.size := by simp [World.setCell]
    rw [hsz] at hcod
    exact hcod

theorem pack_ne {P Q : List Fn} (hp : packErr P = 0) (hq : packErr Q = 0) (h : P ≠ Q) : SameB (packBytes P) (packBytes Q) = false := by
  unfold SameB
  simp only [decide_eq_false_iff_not]
  intro e
  have h1 := unProg_pack hp
  rw [e, unProg_pack hq] at h1
  exact h (congrArg UP.p h1).symm

theorem fn_codes {P : List Fn} (h : packErr P = 0) : ∀ f ∈ P, f.code.length ≤ 128 := by
  have h3 := (packErr_zero h).2.2
  clear h
  induction P with
  | nil => intro f hf; cases hf
  | cons a r ih =>
    obtain ⟨q0, q1⟩ := prgErr_cons h3
    intro f hf
    rw [List.mem_cons] at hf
    rcases hf with rfl | hf
    · exact (fn_ok q0).2.2.2.1
    · exact ih q1 f hf

end Go.Proofs.YtecobbojbdfffaaDoor
