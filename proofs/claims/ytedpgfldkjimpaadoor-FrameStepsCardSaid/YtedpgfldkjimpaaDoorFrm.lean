/-
  Tasks as plain data, and as they lie in memory.
-/
import Derived.Test.YtedpgfldkjimpaaDoorCheck
import Derived.Laws.Rows
import Derived.Laws.Tables
import Derived.Deep.MidRow
namespace Go.Proofs.YtedpgfldkjimpaaDoor
open Go.RowKit

/-- A task. -/
structure Frm where
  f : Int
  pc : Int
  r : Nat → Int
  h : Nat → Int
  st : Int

def num (x : Int) : Value := .int .i64 x

def Frm.cells (F : Frm) : Array Value := #[.int .i64 F.f, .int .i64 F.pc, .int .i64 (F.r 0), .int .i64 (F.r 1), .int .i64 (F.r 2), .int .i64 (F.r 3), .int .i64 (F.r 4), .int .i64 (F.r 5), .int .i64 (F.r 6), .int .i64 (F.r 7), .int .i64 (F.h 0), .int .i64 (F.h 1), .int .i64 (F.h 2), .int .i64 (F.h 3), .int .i64 (F.h 4), .int .i64 (F.h 5), .int .i64 (F.h 6), .int .i64 (F.h 7), .int .i64 F.st]
def Frm.val (F : Frm) : Value := .agg F.cells

theorem Frm.size (F : Frm) : F.cells.size = 19 := rfl
theorem Frm.one (F : Frm) : F.cells.all (·.oneCell') = true := by simp [Frm.cells, Value.oneCell']
theorem Frm.at_f (F : Frm) : F.cells[0]? = some (.int .i64 F.f) := rfl
theorem Frm.at_pc (F : Frm) : F.cells[1]? = some (.int .i64 F.pc) := rfl
theorem Frm.at_st (F : Frm) : F.cells[18]? = some (.int .i64 F.st) := rfl
theorem Frm.at_r (F : Frm) {k : Nat} (hk : k < 8) : F.cells[2 + k]? = some (.int .i64 (F.r k)) := by
  rcases k with _ | _ | _ | _ | _ | _ | _ | _ | k
  all_goals first | rfl | omega
theorem Frm.at_h (F : Frm) {k : Nat} (hk : k < 8) : F.cells[10 + k]? = some (.int .i64 (F.h k)) := by
  rcases k with _ | _ | _ | _ | _ | _ | _ | _ | k
  all_goals first | rfl | omega

/-- One register turned. -/
def Frm.put (F : Frm) (k : Nat) (v : Int) : Frm := { F with r := fun j => if j = k then v else F.r j }
/-- One handle turned. -/
def Frm.hold (F : Frm) (k : Nat) (v : Int) : Frm := { F with h := fun j => if j = k then v else F.h j }
def Frm.setPc (F : Frm) (v : Int) : Frm := { F with pc := v }
def Frm.setSt (F : Frm) (v : Int) : Frm := { F with st := v }
/-- The task that passes to an instruction. -/
def Frm.to (F : Frm) (v : Int) : Frm := (F.setPc v).setSt (wrap64 (F.st + 1))
def Frm.on (F : Frm) : Frm := F.to (wrap64 (F.pc + 1))

theorem Frm.put_cells (F : Frm) {k : Nat} (v : Int) (hk : k < 8) : F.cells.setIfInBounds (2 + k) (.int .i64 v) = (F.put k v).cells := by
  rcases k with _ | _ | _ | _ | _ | _ | _ | _ | k
  all_goals first | rfl | omega
theorem Frm.hold_cells (F : Frm) {k : Nat} (v : Int) (hk : k < 8) : F.cells.setIfInBounds (10 + k) (.int .i64 v) = (F.hold k v).cells := by
  rcases k with _ | _ | _ | _ | _ | _ | _ | _ | k
  all_goals first | rfl | omega
theorem Frm.pc_cells (F : Frm) (v : Int) : F.cells.setIfInBounds 1 (.int .i64 v) = (F.setPc v).cells := rfl
theorem Frm.st_cells (F : Frm) (v : Int) : F.cells.setIfInBounds 18 (.int .i64 v) = (F.setSt v).cells := rfl

/-- The cells of a task, by what they are alone. -/
structure Cel (cel : Frm → Array Value) : Prop where
  size : ∀ F, (cel F).size = 19
  one : ∀ F, (cel F).all (·.oneCell') = true
  f : ∀ F, (cel F)[0]? = some (.int .i64 F.f)
  pc : ∀ F, (cel F)[1]? = some (.int .i64 F.pc)
  st : ∀ F, (cel F)[18]? = some (.int .i64 F.st)
  r : ∀ F k, k < 8 → (cel F)[2 + k]? = some (.int .i64 (F.r k))
  h : ∀ F k, k < 8 → (cel F)[10 + k]? = some (.int .i64 (F.h k))
  setPc : ∀ F v, (cel F).setIfInBounds 1 (.int .i64 v) = cel (F.setPc v)
  setSt : ∀ F v, (cel F).setIfInBounds 18 (.int .i64 v) = cel (F.setSt v)
  put : ∀ F k v, k < 8 → (cel F).setIfInBounds (2 + k) (.int .i64 v) = cel (F.put k v)
  hold : ∀ F k v, k < 8 → (cel F).setIfInBounds (10 + k) (.int .i64 v) = cel (F.hold k v)
  eq : cel = Frm.cells

theorem cel_is : Cel Frm.cells :=
  ⟨Frm.size, Frm.one, Frm.at_f, Frm.at_pc, Frm.at_st, fun F _ hk => F.at_r hk, fun F _ hk => F.at_h hk, Frm.pc_cells, Frm.st_cells, fun F _ v hk => F.put_cells v hk, fun F _ v hk => F.hold_cells v hk, rfl⟩

theorem heapA (w : World) (o : Obj) : (w.alloc o).heap[w.heap.size]? = some o := by
  show (w.heap.push o)[w.heap.size]? = some o
  simp
theorem heapB (w : World) (o o' : Obj) : ((w.alloc o).alloc o').heap[w.heap.size]? = some o := by
  rw [Below.heap_alloc _ _ _ (by simp)]
  exact heapA w o
theorem heapB' (w : World) (o o' : Obj) : ((w.alloc o).alloc o').heap[w.heap.size + 1]? = some o' := by
  have h := heapA (w.alloc o) o'
  simpa using h
theorem setRowA (w : World) (c c' : Array Value) (t : TypeId) : (w.alloc (.cells c t)).setRow w.heap.size c' = w.alloc (.cells c' t) := by
  simp only [World.setRow, World.alloc]
  congr 1
  apply Array.ext_getElem?
  intro i
  rw [Array.getElem?_modify]
  by_cases h : w.heap.size = i
  · subst h
    simp
  · have h' : ¬ i = w.heap.size := fun e => h e.symm
    simp [h, h', Array.getElem?_push]
theorem setRowB (w : World) (o : Obj) (c c' : Array Value) (t : TypeId) : ((w.alloc o).alloc (.cells c t)).setRow (w.heap.size + 1) c' = (w.alloc o).alloc (.cells c' t) := by
  have h := setRowA (w.alloc o) c c' t
  simpa using h

/-- The first task. -/
def Frm.root : Frm := ⟨0, 0, fun _ => 0, fun _ => -1, 0⟩

def zeros : Array Value := #[.int .i64 0, .int .i64 0, .int .i64 0, .int .i64 0, .int .i64 0, .int .i64 0, .int .i64 0, .int .i64 0, .int .i64 0, .int .i64 0, .int .i64 0, .int .i64 0, .int .i64 0, .int .i64 0, .int .i64 0, .int .i64 0, .int .i64 0, .int .i64 0, .int .i64 0]

theorem setRow_blk {w : World} {b : Nat} {c : Array Value} (h : Blk w b c) (c' : Array Value) : Blk (w.setRow b c') b c' := by
  obtain ⟨t, h⟩ := h
  refine ⟨t, ?_⟩
  simp [World.setRow, Array.getElem?_modify, h]
theorem setRow_fr {S : Nat → Prop} (w : World) (b : Nat) (c : Array Value) (h : S b) : Fr S w (w.setRow b c) :=
  ⟨rfl, rfl, rfl, by simp [World.setRow], fun k _ hn => by
    have hne : b ≠ k := fun e => hn (e ▸ h)
    simp [World.setRow, Array.getElem?_modify, hne]⟩

theorem infoF : (Tryd.prog.info? 25).map (·.size) = some 19 := by kernel_rfl
theorem infoT : (Tryd.prog.info? 32).map (·.size) = some 19 := by kernel_rfl
theorem infoR : (Tryd.prog.info? 22).map (·.size) = some 8 := by kernel_rfl
theorem infoH : (Tryd.prog.info? 23).map (·.size) = some 8 := by kernel_rfl

end Go.Proofs.YtedpgfldkjimpaaDoor
