/-
  Instructions as plain data: which may be, and their bytes.
-/
import Derived.WalkKit
namespace Go.Proofs.YtedpgfldkjimpaaDoor
open Go.RowKit

structure Ins where
  op : Int
  a : Int
  b : Int
  c : Int
  n : Int
  deriving DecidableEq

def Ins.cells (i : Ins) : List Value := [.int .i64 i.op, .int .i64 i.a, .int .i64 i.b, .int .i64 i.c, .int .i64 i.n]
def Ins.val (i : Ins) : Value := .agg #[.int .i64 i.op, .int .i64 i.a, .int .i64 i.b, .int .i64 i.c, .int .i64 i.n]
def Ins.zero : Ins := ⟨0, 0, 0, 0, 0⟩

/-- What the fields of each instruction are. -/
def kinds : List Nat := [1, 0, 0, 3, 1, 1, 0, 0, 1, 1, 1, 0, 1, 1, 1, 0, 1, 1, 1, 0, 1, 1, 1, 0, 0, 0, 0, 4, 1, 0, 0, 4, 2, 0, 0, 5, 1, 2, 0, 0, 1, 1, 2, 0, 0, 0, 0, 6, 1, 0, 0, 0, 0, 0, 0, 0, 0, 0, 0, 0, 1, 0, 0, 0, 1, 0, 0, 0]
/-- From where to where each kind goes. -/
def ends : List Int := [0, 0, 0, 7, 0, 7, -2147483648, 2147483647, 0, 127, 0, 31, 0, 65535]

def kd (op k : Nat) : Nat := kinds.getD (op * 4 + k) 0
def lo (op k : Nat) : Int := ends.getD (kd op k * 2) 0
def hi (op k : Nat) : Int := ends.getD (kd op k * 2 + 1) 0

theorem kd_lt (op k : Nat) : kd op k < 7 := by
  unfold kd
  rcases Nat.lt_or_ge (op * 4 + k) 68 with h | h
  · have : ∀ j, j < 68 → kinds.getD j 0 < 7 := by decide
    exact this _ h
  · rw [List.getD_eq_getElem?_getD, List.getElem?_eq_none (by simpa [kinds] using h)]
    decide

def bad (op k : Nat) (x : Int) : Bool := decide (x < lo op k) || decide (hi op k < x)

def Ins.fld (i : Ins) (k : Nat) : Int := [i.a, i.b, i.c, i.n].getD k 0

def Ins.wrong (i : Ins) : Bool := bad i.op.toNat 0 i.a || bad i.op.toNat 1 i.b || bad i.op.toNat 2 i.c || bad i.op.toNat 3 i.n

/-- What is wrong with an instruction. -/
def chk (i : Ins) : Int := if i.op < 0 ∨ 16 < i.op then 13 else if i.wrong then 10 else 0

/-- The cells of the tables. -/
structure Tabs (w : World) : Prop where
  two : 2 ≤ w.heap.size
  ops : ∀ j, j < 68 → w.cell? ⟨0, j, none⟩ = some (.int .i64 (kinds.getD j 0 : Nat))
  ends : ∀ j, j < 14 → w.cell? ⟨1, j, none⟩ = some (.int .i64 (ends.getD j 0))

def pt (op : Int) : Bool := op == 6 || op == 7 || op == 8 || op == 9 || op == 10 || op == 11 || op == 12 || op == 14

end Go.Proofs.YtedpgfldkjimpaaDoor
