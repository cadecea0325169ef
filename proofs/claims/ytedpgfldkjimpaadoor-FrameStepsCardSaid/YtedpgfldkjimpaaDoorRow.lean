/-
  Loads and stores of whole rows over blocks that are known, and results that lie in one.
-/
import Derived.Test.YtedpgfldkjimpaaDoorFrm
namespace Go.Proofs.YtedpgfldkjimpaaDoor
open Go.RowKit

variable {P : Program}

/-- A store into a new block. -/
theorem Fr.over {a b c : World} (h : Fr (fun _ => False) a b) {g : Nat} (k : Fr (fun j => j = g) b c) (hg : a.heap.size ≤ g) : Fr (fun _ => False) a c :=
  h.since k (fun i hi hl => absurd hl (by omega))

/-- A whole row is loaded. -/
theorem row_load {ops : Array Oper} {rest : List Oper} {o : Oper} {a : Act} {w : World} {Q : Exit → Act → World → Prop} (hgd : o.guard = none) (ty : TypeId) (x : Operand) (ho : o.op = .load ty x)
    (g : Nat) (hx : a.eval x = .pointer (some ⟨g, 0, none⟩)) {cs : Array Value} {d : TypeDesc} (hB : Blk w g cs)
    (hu : P.underlying ty = some d) (hd : (match d with | .struct _ | .array _ _ => true | _ => false) = true) {n : Nat} (hi : (P.info? ty).map (·.size) = some n) (hn : cs.size = n)
    (h : wpList P ops Q rest (a.put o.dst (.agg cs)) w) : wpList P ops Q (o :: rest) a w := by
  obtain ⟨t, hB⟩ := hB
  exact wpList_load_row hgd ty x ho g hx t cs (0, 0) d hB hu hd (hi.trans (by rw [hn])) h

/-- A whole row is stored. -/
theorem row_store {ops : Array Oper} {rest : List Oper} {o : Oper} {a : Act} {w : World} {Q : Exit → Act → World → Prop} (hgd : o.guard = none) (ty : TypeId) (x y : Operand) (ho : o.op = .store ty x y)
    (g : Nat) (cells : Array Value) (hx : a.eval x = .pointer (some ⟨g, 0, none⟩)) (hy : a.eval y = .agg cells)
    {old : Array Value} (hB : Blk w g old) {n : Nat} (hi : (P.info? ty).map (·.size) = some n) (ho' : old.size = n) (hn : cells.size = n) (h1 : cells.all (·.oneCell') = true)
    (h : ∀ w', Blk w' g cells → Fr (fun k => k = g) w w' → wpList P ops Q rest (a.put o.dst undef) w') : wpList P ops Q (o :: rest) a w := by
  have hB' := hB
  obtain ⟨t, hB⟩ := hB
  exact wpList_store_row hgd ty x y ho g cells hx hy t old hB (hi.trans (by rw [hn])) (by rw [ho', hn]) h1 (h _ (setRow_blk hB' _) (setRow_fr _ _ _ rfl))

theorem res_one {fn : Func} {p : Tmp} {ty : TypeId} (h : fn.results = #[.cell p ty]) {tmps : Array Value} {w : World} {g : Nat} {cs : Array Value} {d : TypeDesc}
    (hp : tmps.getD p undef = .pointer (some ⟨g, 0, none⟩)) (hB : Blk w g cs)
    (hu : P.underlying ty = some d) (hd : (match d with | .struct _ | .array _ _ => true | _ => false) = true) {n : Nat} (hi : (P.info? ty).map (·.size) = some n) (hn : cs.size = n) :
    (results fn tmps).run P w = .ok (.agg cs) w := by
  obtain ⟨t, hB⟩ := hB
  exact results_cell_row h tmps w g t cs (0, 0) d hp hB hu hd (hi.trans (by rw [hn]))

theorem res_two {fn : Func} {p q : Tmp} {ty : TypeId} (h : fn.results = #[.cell p ty, .tmp q]) {tmps : Array Value} {w : World} {g : Nat} {cs : Array Value} {d : TypeDesc}
    (hp : tmps.getD p undef = .pointer (some ⟨g, 0, none⟩)) (hB : Blk w g cs)
    (hu : P.underlying ty = some d) (hd : (match d with | .struct _ | .array _ _ => true | _ => false) = true) {n : Nat} (hi : (P.info? ty).map (·.size) = some n) (hn : cs.size = n) {v : Value} (hq : tmps.getD q undef = v) :
    (results fn tmps).run P w = .ok (.tuple #[.agg cs, v]) w := by
  obtain ⟨t, hB⟩ := hB
  have hl := run_loadVar_row (P := P) w g t ty cs (0, 0) d hB hu hd (hi.trans (by rw [hn]))
  have hp' : tmps[p]?.getD undef = .pointer (some ⟨g, 0, none⟩) := by simpa using hp
  have hq' : tmps[q]?.getD undef = v := by simpa using hq
  simp [results, h, hp', hq', asAddr, hl]

theorem res_three {fn : Func} {p q q2 : Tmp} {ty : TypeId} (h : fn.results = #[.cell p ty, .tmp q, .tmp q2]) {tmps : Array Value} {w : World} {g : Nat} {cs : Array Value} {d : TypeDesc}
    (hp : tmps.getD p undef = .pointer (some ⟨g, 0, none⟩)) (hB : Blk w g cs)
    (hu : P.underlying ty = some d) (hd : (match d with | .struct _ | .array _ _ => true | _ => false) = true) {n : Nat} (hi : (P.info? ty).map (·.size) = some n) (hn : cs.size = n) {v v2 : Value} (hq : tmps.getD q undef = v) (hq2 : tmps.getD q2 undef = v2) :
    (results fn tmps).run P w = .ok (.tuple #[.agg cs, v, v2]) w := by
  obtain ⟨t, hB⟩ := hB
  have hl := run_loadVar_row (P := P) w g t ty cs (0, 0) d hB hu hd (hi.trans (by rw [hn]))
  have hp' : tmps[p]?.getD undef = .pointer (some ⟨g, 0, none⟩) := by simpa using hp
  have hq' : tmps[q]?.getD undef = v := by simpa using hq
  have hq2' : tmps[q2]?.getD undef = v2 := by simpa using hq2
  simp [results, h, hp', hq', hq2', asAddr, hl]

/-- A whole row stored, as a walk's simp leaves it. -/
theorem store_eq {w : World} {b : Nat} {c : Array Value} (hB : Blk w b zeros) (hs : c.size = 19) (h1 : c.all (·.oneCell') = true) :
    (storeCells ⟨b, 0, none⟩ c.toList 0).run P w = .ok () (w.setRow b c) := by
  obtain ⟨t, hB⟩ := hB
  exact run_storeCells_from (P := P) b t c.toList 0 zeros w hB (by simp [hs, zeros]) (fun v hv => (Array.all_eq_true_iff_forall_mem.1 h1) v (by simpa using hv))

/-- A whole row loaded, as a walk's simp leaves it. -/
theorem load_eq {w : World} {b : Nat} {c : Array Value} (hB : Blk w b c) {n : Nat} (hs : c.size = n) :
    (loadCellsFrom ⟨b, 0, none⟩ 0 n #[]).run P w = .ok c w := by
  subst hs
  have h := run_loadCells_list (P := P) w ⟨b, 0, none⟩ c.toList (fun j v hv => by
    rw [add_none, Nat.zero_add]
    exact hB.cell (by simpa using hv))
  simpa [loadCells] using h

/-- How many cells a task has, kept closed: so that a walk does not load them one by one. -/
theorem nineteen : ∃ N : Nat, N = 19 ∧ (∀ w, (sizeOf 25).run Tryd.prog w = .ok N w) ∧ (∀ w, (sizeOf 32).run Tryd.prog w = .ok N w) :=
  ⟨19, rfl, fun _ => by kernel_rfl, fun _ => by kernel_rfl⟩

/-- A whole row stored, as a walk's simp leaves it. -/
theorem store_at {w : World} {b : Nat} {old c : Array Value} (hB : Blk w b old) {n : Nat} (ho : old.size = n) (hs : c.size = n) (h1 : c.all (·.oneCell') = true) :
    (storeCells ⟨b, 0, none⟩ c.toList 0).run P w = .ok () (w.setRow b c) := by
  obtain ⟨t, hB⟩ := hB
  exact run_storeCells_from (P := P) b t c.toList 0 old w hB (by simp [hs, ho]) (fun v hv => (Array.all_eq_true_iff_forall_mem.1 h1) v (by simpa using hv))

end Go.Proofs.YtedpgfldkjimpaaDoor
