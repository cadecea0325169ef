/-
  Stage 7, plain: rows as texts.
-/
import Derived.Test.YtnlbellbeepkaaaGreatDoorTab
import Derived.WalkKit
import Derived.Lib.ItoaNum
import Derived.Lib.Join
import Derived.Lib.ItoaLen
import Derived.Lib.Split
namespace Go.Proofs.YtnlbellbeepkaaaGreatDoor
open Go.RowKit

abbrev Bs := List UInt8

/-! ### Words -/

def cut (c : UInt8) : Bs → List Bs
  | [] => [[]]
  | x :: r => if x = c then [] :: cut c r else (x :: (cut c r).headD []) :: (cut c r).tail

def glue (c : UInt8) : List Bs → Bs
  | [] => []
  | [x] => x
  | x :: y :: r => x ++ c :: glue c (y :: r)

theorem cut_form (c : UInt8) (l : Bs) : ∃ h t, cut c l = h :: t := by
  cases l with
  | nil => exact ⟨_, _, rfl⟩
  | cons x r =>
    unfold cut
    split
    · exact ⟨_, _, rfl⟩
    · exact ⟨_, _, rfl⟩

theorem cut_pos (c : UInt8) (l : Bs) : 1 ≤ (cut c l).length := by
  obtain ⟨h, t, e⟩ := cut_form c l
  rw [e]; simp

theorem glue_cons (c : UInt8) (x y : Bs) (r : List Bs) : glue c (x :: y :: r) = x ++ c :: glue c (y :: r) := rfl

theorem glue_head (c x : UInt8) (h : Bs) (t : List Bs) : glue c ((x :: h) :: t) = x :: glue c (h :: t) := by
  cases t with
  | nil => rfl
  | cons y r => rfl

theorem glue_cut (c : UInt8) (l : Bs) : glue c (cut c l) = l := by
  induction l with
  | nil => rfl
  | cons x r ih =>
    obtain ⟨h, t, e⟩ := cut_form c r
    unfold cut
    split
    · rename_i hx
      rw [e] at ih ⊢
      rw [glue_cons, ih, hx]
      rfl
    · rw [e] at ih ⊢
      simp only [List.headD_cons, List.tail_cons]
      rw [glue_head, ih]

theorem cut_free (c : UInt8) (l : Bs) : ∀ w ∈ cut c l, c ∉ w := by
  induction l with
  | nil => intro w hw; simp [cut] at hw; subst hw; simp
  | cons x r ih =>
    obtain ⟨h, t, e⟩ := cut_form c r
    intro w hw
    unfold cut at hw
    rw [e] at ih hw
    split at hw
    · rcases List.mem_cons.1 hw with rfl | hw
      · simp
      · exact ih w hw
    · rename_i hx
      simp only [List.headD_cons, List.tail_cons] at hw
      rcases List.mem_cons.1 hw with rfl | hw
      · intro hm
        rcases List.mem_cons.1 hm with rfl | hm
        · exact hx rfl
        · exact ih h (by simp) hm
      · exact ih w (by simp [hw])

theorem cut_app (c : UInt8) (h : Bs) (hh : c ∉ h) (r : Bs) : cut c (h ++ c :: r) = h :: cut c r := by
  induction h with
  | nil => simp [cut]
  | cons x t ih =>
    have hx : x ≠ c := fun e => hh (by simp [e])
    have := ih (fun hm => hh (by simp [hm]))
    rw [List.cons_append, cut, if_neg hx, this]
    rfl

theorem cut_one (c : UInt8) (h : Bs) (hh : c ∉ h) : cut c h = [h] := by
  induction h with
  | nil => rfl
  | cons x t ih =>
    have hx : x ≠ c := fun e => hh (by simp [e])
    have := ih (fun hm => hh (by simp [hm]))
    unfold cut
    rw [if_neg hx, this]
    rfl

theorem cut_glue (c : UInt8) (ws : List Bs) (hw : ∀ w ∈ ws, c ∉ w) (hn : ws ≠ []) : cut c (glue c ws) = ws := by
  induction ws with
  | nil => exact absurd rfl hn
  | cons x r ih =>
    cases r with
    | nil => exact cut_one c x (hw x (by simp))
    | cons y r =>
      rw [glue_cons, cut_app c x (hw x (by simp)), ih (fun w h => hw w (by simp [h])) (by simp)]


def bs (l : Bs) : ByteArray := ⟨l.toArray⟩
theorem bs_data (l : Bs) : (bs l).data.toList = l := rfl
theorem bs_size (l : Bs) : (bs l).size = l.length := rfl
theorem bs_of (s : ByteArray) : bs s.data.toList = s := by
  unfold bs
  apply ByteArray.ext
  simp

theorem glue_join (l : List Bs) : Lib.join l [32] = glue 32 l := by
  cases l with
  | nil => rfl
  | cons x r =>
    rw [Lib.join_cons]
    induction r generalizing x with
    | nil => simp [Lib.joinTail, glue]
    | cons y r ih =>
      rw [glue_cons, ← ih y]
      simp [Lib.joinTail]

def kindT : List Bs := [[112, 101, 110, 100, 105, 110, 103], [114, 117, 110, 110, 105, 110, 103], [118, 97, 108, 117, 101], [112, 97, 110, 105, 99, 107, 101, 100], [99, 97, 110, 99, 101, 108, 108, 101, 100]]
def kindW (k : Int) : Bs := kindT.getD k.toNat []

/-- The words of a row. -/
def rowW (r : Tw) : List Bs := [if r.par = -1 then [45] else Lib.itoa r.par, Lib.itoa r.in_, Lib.itoa r.fn, kindW r.kind, Lib.itoa r.v, Lib.itoa r.st, if r.cl.size = 0 then [45] else r.cl.data.toList]
def rowT (r : Tw) : Bs := glue 32 (rowW r) ++ [10]
def tabT (l : List Tw) : Bs := l.flatMap rowT

/-- Numbers of 64 bits, and not too long a text. -/
structure Bnd (r : Tw) : Prop where
  p0 : -9223372036854775808 ≤ r.par
  p1 : r.par ≤ 9223372036854775807
  i0 : -9223372036854775808 ≤ r.in_
  i1 : r.in_ ≤ 9223372036854775807
  f0 : -9223372036854775808 ≤ r.fn
  f1 : r.fn ≤ 9223372036854775807
  v0 : -9223372036854775808 ≤ r.v
  v1 : r.v ≤ 9223372036854775807
  s0 : -9223372036854775808 ≤ r.st
  s1 : r.st ≤ 9223372036854775807

theorem kindW_len (k : Int) : (kindW k).length ≤ 9 := by
  unfold kindW
  have : ∀ n, n < 5 → (kindT.getD n []).length ≤ 9 := by decide
  rcases Nat.lt_or_ge k.toNat 5 with h | h
  · exact this _ h
  · rw [List.getD_eq_getElem?_getD, List.getElem?_eq_none (by simpa [kindT] using h)]
    simp

theorem rowT_len {r : Tw} (b : Bnd r) : (rowT r).length ≤ 200 + r.cl.size := by
  unfold rowT rowW
  have h1 := kindW_len r.kind
  have h2 := Lib.itoa_length_le r.par b.p0 b.p1
  have h3 := Lib.itoa_length_le r.in_ b.i0 b.i1
  have h4 := Lib.itoa_length_le r.fn b.f0 b.f1
  have h5 := Lib.itoa_length_le r.v b.v0 b.v1
  have h6 := Lib.itoa_length_le r.st b.s0 b.s1
  have h7 : (if r.par = -1 then ([45] : Bs) else Lib.itoa r.par).length ≤ 21 := by
    split
    · simp
    · exact h2
  have h8 : (if r.cl.size = 0 then ([45] : Bs) else r.cl.data.toList).length ≤ 1 + r.cl.size := by
    split
    · simp
    · have : r.cl.data.toList.length = r.cl.size := by simp
      omega
  simp only [glue, List.length_append, List.length_cons, List.length_nil]
  omega

theorem tabT_snoc {l : List Tw} {j : Nat} {r : Tw} (h : l[j]? = some r) : tabT (l.take (j + 1)) = tabT (l.take j) ++ rowT r := by
  unfold tabT
  rw [List.take_add_one, h]
  simp

end Go.Proofs.YtnlbellbeepkaaaGreatDoor
