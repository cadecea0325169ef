/-
  Programs of bytes, as plain data; the next function of bytes.
-/
import Derived.Test.YtecobbojbdfffaaDoorTake
namespace Go.Proofs.YtecobbojbdfffaaDoor
open Go.RowKit

/-- The eight bytes from a place on. -/
def sl (l : List Int) (p : Nat) : List Int := (l.drop p).take 8

/-- n instructions from a place on: they, the place behind, and no error; or none, the place, and the error. -/
def unCode (l : List Int) : Nat → Nat → List Ins → List Ins × Nat × Int
  | 0, p, acc => (acc, p, 0)
  | n + 1, p, acc => if decErr (sl l p) = 0 then unCode l n (p + 8) (acc ++ [dec (sl l p)]) else ([], p, decErr (sl l p))

structure UF where
  f : Fn
  at_ : Nat
  err : Int

/-- The function from a place on. -/
def unFn (l : List Int) (p : Nat) : UF :=
  if l.length < p + 2 then ⟨⟨0, []⟩, p, 11⟩
  else if l.getD (p + 1) 0 < 1 ∨ 128 < l.getD (p + 1) 0 then ⟨⟨0, []⟩, p + 1, 12⟩
  else if (unCode l (l.getD (p + 1) 0).toNat (p + 2) []).2.2 = 0 then ⟨⟨l.getD p 0, (unCode l (l.getD (p + 1) 0).toNat (p + 2) []).1⟩, (unCode l (l.getD (p + 1) 0).toNat (p + 2) []).2.1, 0⟩
  else ⟨⟨0, []⟩, (unCode l (l.getD (p + 1) 0).toNat (p + 2) []).2.1, (unCode l (l.getD (p + 1) 0).toNat (p + 2) []).2.2⟩

/-- n functions from a place on. -/
def unFns (l : List Int) : Nat → Nat → List Fn → List Fn × Nat × Int
  | 0, p, acc => (acc, p, 0)
  | n + 1, p, acc => if (unFn l p).err = 0 then unFns l n (unFn l p).at_ (acc ++ [(unFn l p).f]) else ([], (unFn l p).at_, (unFn l p).err)

structure UP where
  p : List Fn
  at_ : Nat
  err : Int

/-- The program of bytes. -/
def unProg (l : List Int) : UP :=
  if l.length = 0 then ⟨[], 0, 11⟩
  else if l.getD 0 0 < 1 ∨ 32 < l.getD 0 0 then ⟨[], 0, 12⟩
  else if (unFns l (l.getD 0 0).toNat 1 []).2.2 ≠ 0 then ⟨[], (unFns l (l.getD 0 0).toNat 1 []).2.1, (unFns l (l.getD 0 0).toNat 1 []).2.2⟩
  else if (unFns l (l.getD 0 0).toNat 1 []).2.1 < l.length then ⟨[], (unFns l (l.getD 0 0).toNat 1 []).2.1, 11⟩
  else ⟨(unFns l (l.getD 0 0).toNat 1 []).1, 0, 0⟩

theorem sl_len {l : List Int} {p : Nat} (h : p + 8 ≤ l.length) : (sl l p).length = 8 := by
  simp [sl]
  omega

theorem sl_short {l : List Int} {p : Nat} (h : l.length < p + 8) : decErr (sl l p) = 11 := by
  unfold decErr
  rw [if_neg]
  simp [sl]
  omega

theorem sl_ok {l : List Int} {p : Nat} (h : decErr (sl l p) = 0) : p + 8 ≤ l.length := by
  rcases Nat.lt_or_ge l.length (p + 8) with hl | hl
  · rw [sl_short hl] at h
    cases h
  · exact hl

theorem sl_all {l : List Int} (hl : AllB l) (p : Nat) : AllB (sl l p) := fun x hx => hl x (List.mem_of_mem_drop (List.mem_of_mem_take hx))

theorem TBlk.of_blk {w : World} {b : Nat} {c : Array Value} {t : TypeId} (h : TBlk w b c t) {i : Nat} {v : Value} (hv : c[i]? = some v) : w.cell? ⟨b, i, none⟩ = some v := h.blk.cell hv

/-- Bytes taken. -/
def TkPost (w : World) (B nb p k : Nat) (m : List Int) (e : Ending) (w' : World) : Prop :=
  ∃ b o c', e = .returned (.tuple #[.slice (some ⟨b, o, none⟩) k c', .int .i64 p]) ∧ b < B ∧ (∀ (j : Nat) (x : Int), m[j]? = some x → w'.cell? ⟨b, o + j, none⟩ = some (.int .u8 x)) ∧ TBlk w' nb #[.int .i64 ((p + k : Nat) : Int)] 3 ∧ Fr (fun j => j = nb) w w'

theorem tk_yes (A : Option Addr) (n cap nb bb p k : Nat) (l : List Int) (B : Nat) (w : World) (h1 : TBlk w nb #[.int .i64 p] 3) (h2 : TBlk w bb #[.slice A n cap] 29) (hs : Src w B A n cap l) (hB : B ≤ nb) (hBw : B ≤ w.heap.size) (hne : nb ≠ bb) (hk : p + k ≤ n) (hk1 : 1 ≤ k) (hn : n ≤ 1000000) :
    Calls Tryd.prog 36 #[.int .i64 k, .pointer (some ⟨nb, 0, none⟩), .pointer (some ⟨bb, 0, none⟩)] w (TkPost w B nb p k ((l.drop p).take k)) := by
  obtain ⟨hl, hc, _, hb, _⟩ := hs
  obtain ⟨b, o, rfl, hbl, hcell⟩ := hb (by omega)
  refine (take_yes ⟨b, o, none⟩ n cap nb bb p k w h1.blk h2.blk hne hk hk1 hc hn).mono ?_
  rintro e w' ⟨rfl, rfl⟩
  have hF : Fr (fun j => j = nb) w (w.setCell ⟨nb, 0, none⟩ (.int .i64 ((p + k : Nat) : Int))) := Fr.setCell _ _ _ rfl
  refine ⟨b, o + p, cap - p, by rw [add_none], hbl, fun j x hx => ?_, h1.set 0 _, hF⟩
  rw [List.getElem?_take] at hx
  split at hx
  · rw [List.getElem?_drop] at hx
    rw [Nat.add_assoc]
    exact (cell_keep hF (p := ⟨b, o + (p + j), none⟩) (by show b < _; omega) (by show ¬ b = nb; omega)).trans (hcell _ _ hx)
  · cases hx

/-- What the next function's walk leaves. -/
def UnPost (w : World) (nb : Nat) (r : UF) (e : Ending) (w' : World) : Prop :=
  ∃ A' c', e = .returned (.tuple #[.agg #[.int .i64 r.f.needs, .slice A' r.f.code.length c'], .int .i64 (if r.err = 0 then 0 else (r.at_ : Int)), .int .i64 r.err]) ∧ OwnI w' w.heap.size A' c' r.f.code ∧ (r.err = 0 → TBlk w' nb #[.int .i64 (r.at_ : Int)] 3) ∧ Fr (fun k => k = nb) w w'

def UnRel (w : World) (nb fb : Nat) (needs : Int) (l : List Int) (N p2 n : Nat) (d : Nat) (s : Value) (wr : World) : Prop :=
  ∃ (j : Nat) (acc : List Ins) (Aj : Option Addr) (cj : Nat), j ≤ N ∧ d = N - j ∧ s = .int .u8 j ∧ acc.length = j ∧ TBlk wr nb #[.int .i64 ((p2 + 8 * j : Nat) : Int)] 3 ∧ TBlk wr w.heap.size #[.int .i64 0, .slice none 0 0] 51 ∧
    TBlk wr fb #[.int .i64 needs, .slice Aj j cj] 51 ∧ OwnI wr w.heap.size Aj cj acc ∧ unCode l N p2 [] = unCode l (N - j) (p2 + 8 * j) acc ∧ p2 + 8 * j ≤ n ∧ Fr (fun k => k = nb ∨ w.heap.size ≤ k) w wr

theorem unFn_short {l : List Int} {p : Nat} (h : l.length < p + 2) : unFn l p = ⟨⟨0, []⟩, p, 11⟩ := by
  unfold unFn
  rw [if_pos h]
theorem unFn_long {l : List Int} {p : Nat} {x : Int} (h : ¬ l.length < p + 2) (hx : l.getD (p + 1) 0 = x) (h2 : x < 1 ∨ 128 < x) : unFn l p = ⟨⟨0, []⟩, p + 1, 12⟩ := by
  unfold unFn
  rw [if_neg h, if_pos (by rw [hx]; exact h2)]
theorem unFn_bad {l : List Int} {p : Nat} {x : Int} (h : ¬ l.length < p + 2) (hx : l.getD (p + 1) 0 = x) (h2 : ¬ (x < 1 ∨ 128 < x)) {q : Nat} {y : Int} (hu : unCode l x.toNat (p + 2) [] = ([], q, y)) (hy : y ≠ 0) : unFn l p = ⟨⟨0, []⟩, q, y⟩ := by
  unfold unFn
  rw [if_neg h, hx, if_neg h2, hu, if_neg hy]
theorem unFn_ok {l : List Int} {p : Nat} {x z : Int} (h : ¬ l.length < p + 2) (hx : l.getD (p + 1) 0 = x) (h2 : ¬ (x < 1 ∨ 128 < x)) {q : Nat} {c : List Ins} (hu : unCode l x.toNat (p + 2) [] = (c, q, 0)) (hz : l.getD p 0 = z) : unFn l p = ⟨⟨z, c⟩, q, 0⟩ := by
  unfold unFn
  rw [if_neg h, hx, if_neg h2, hu, if_pos rfl, hz]

theorem nil_no (a : Addr) (k c : Nat) (W : World) : Sem.run Tryd.prog (binOp BinOp.eql 29 (.slice (some a) k c) (.slice none 0 0)) W = .ok (.bool false) W := by
  kernel_rfl
theorem nil_yes (W : World) : Sem.run Tryd.prog (binOp BinOp.eql 29 (.slice none 0 0) (.slice none 0 0)) W = .ok (.bool true) W := by
  kernel_rfl
theorem nil_no' (a : Addr) (k c : Nat) (W : World) : Sem.run Tryd.prog (binOp BinOp.neq 29 (.slice (some a) k c) (.slice none 0 0)) W = .ok (.bool true) W := by
  kernel_rfl
theorem nil_yes' (W : World) : Sem.run Tryd.prog (binOp BinOp.neq 29 (.slice none 0 0) (.slice none 0 0)) W = .ok (.bool false) W := by
  kernel_rfl

end Go.Proofs.YtecobbojbdfffaaDoor
