/-
  Arguments opened to what they hold: instructions, functions, programs, truths.
-/
import Derived.Test.YtpjcdjooiaefdaaDoorVLaid
import Derived.Test.YtpjcdjooiaefdaaDoorVMem
import Derived.Below
import Derived.Deep.Slices
import Derived.Deep.Fields
import Derived.ChangeSame
import Derived.ChangeOld
namespace Go.Proofs.YtpjcdjooiaefdaaDoor
set_option maxRecDepth 100000
open Go.ChangeShapes Go.WideShapes Go.ChangeAt Go.RowKit Go.Deep

theorem list_of {α : Type} (n : Nat) (p : Nat → α → Prop) (h : ∀ i, i < n → ∃ y, p i y) : ∃ l : List α, l.length = n ∧ ∀ (i : Nat) (y : α), l[i]? = some y → p i y := by
  induction n with
  | zero => exact ⟨[], rfl, fun i y hy => by simp at hy⟩
  | succ n ih =>
    obtain ⟨l, hl, hp⟩ := ih (fun i hi => h i (by omega))
    obtain ⟨y, hy⟩ := h n (by omega)
    refine ⟨l ++ [y], by simp [hl], fun i z hz => ?_⟩
    rcases Nat.lt_or_ge i n with hi | hi
    · exact hp i z (by rwa [List.getElem?_append_left (by omega)] at hz)
    · rw [List.getElem?_append_right (by omega)] at hz
      obtain rfl : i = n := by
        have := (List.getElem?_eq_some_iff.1 hz).1
        simp at this
        omega
      rw [hl, Nat.sub_self] at hz
      simp at hz
      exact hz ▸ hy

theorem add_spot (a : Addr) (n : Nat) (ha : a.spot = none) : a.add n = ⟨a.block, a.off + n, none⟩ := by
  unfold Addr.add
  obtain ⟨b, o, s⟩ := a
  simp only at ha
  subst ha
  split
  · subst_vars; rfl
  · rfl

theorem cell_spot {w : World} {a : Addr} {v : Value} (h : w.cell? a = some v) : a.spot = none ∧ a.block < w.heap.size := by
  unfold World.cell? at h
  split at h
  · rename_i c t fz hb
    refine ⟨?_, (Array.getElem?_eq_some_iff.1 hb).1⟩
    split at h
    · cases h
    · rename_i hs
      simpa using hs
  · cases h

section
variable {H : Type} {enc : TypeId × Value → H} {P : Program} {w : World} {base : Nat} {spare : Nat → Bool} {held : Bool}

/-- A slice of items of k cells each, read. -/
theorem open_items {α : Type} (rel : List Value → α → Prop) {t e : TypeId} {k fuel : Nat} {cs0 : List Value} {x : DataW H × List MemPlace} (ht : P.underlying t = some (.slice e)) (hE : P.cellsOf e = k) (hk : 0 < k)
    (hel : ∀ (m : Nat) (cs : List Value) (x : DataW H × List MemPlace), DataW.trod enc P w base spare held m e cs = some x → ∃ y, rel cs y)
    (hsp : ∀ b, spare b = true) (h : DataW.trod enc P w base spare held fuel t cs0 = some x) :
    ∃ (a : Option Addr) (len cap : Nat) (l : List α), cs0 = [.slice a len cap] ∧ len ≤ maxLen ∧ l.length = len ∧ (a = none → cap = 0) ∧ (0 < len → ∃ b off, a = some ⟨b, off, none⟩ ∧ b < w.heap.size ∧
      ∀ (i : Nat) (y : α), l[i]? = some y → ∃ cs, rel cs y ∧ ∀ (j : Nat) (v : Value), j < k → cs[j]? = some v → w.cell? ⟨b, off + (i * k + j), none⟩ = some v) := by
  rcases open_slice ht h with ⟨hcs, _⟩ | ⟨a', l, c, m, n, D, Pl, hcs, _, hl, hm, hmm, _, hi⟩
  · exact ⟨none, 0, 0, [], hcs, Nat.zero_le _, rfl, fun _ => rfl, fun hh => absurd hh (by omega)⟩
  · rw [if_pos (hsp _)] at hmm
    have hc : ∀ i, i < l → ∃ y, ∃ cs, w.cells? base (a'.add (i * k)) k = some cs ∧ rel cs y := fun i hil => by
      obtain ⟨cs', hc, ht'⟩ := hi i (by omega)
      rw [hE] at hc
      obtain ⟨y, hy⟩ := hel _ _ _ ht'
      exact ⟨y, cs', hc, hy⟩
    obtain ⟨L, hL, hp⟩ := list_of l _ hc
    refine ⟨some a', l, c, L, hcs, by omega, hL, (fun h => by cases h), fun hlen => ?_⟩
    obtain ⟨y0, hy0⟩ : ∃ y, L[0]? = some y := ⟨_, List.getElem?_eq_getElem (by omega)⟩
    obtain ⟨cs, hcs0, _⟩ := hp 0 y0 hy0
    obtain ⟨_, hl0, hat0⟩ := World.cells?_some hcs0
    have e0 : (a'.add (0 * k)).add 0 = a' := by simp [Addr.add]
    have h00 := hat0 0 hk
    rw [e0, List.getElem?_eq_getElem (by omega)] at h00
    obtain ⟨hs, hb⟩ := cell_spot h00
    refine ⟨a'.block, a'.off, by obtain ⟨b, o, s⟩ := a'; simp only at hs; subst hs; rfl, hb, fun i y hy => ?_⟩
    obtain ⟨cs, hcs1, hr⟩ := hp i y hy
    obtain ⟨_, hl1, hat1⟩ := World.cells?_some hcs1
    refine ⟨cs, hr, fun j v hj hv => ?_⟩
    rw [← add_spot a' _ hs, ← add_add, hat1 j hj, hv]
end

theorem cells_ins : Tryd.prog.cellsOf 43 = 5 := by kernel_rfl
theorem cells_fn : Tryd.prog.cellsOf 40 = 2 := by kernel_rfl

section
variable {H : Type} {enc : TypeId × Value → H} {w : World} {base : Nat} {spare : Nat → Bool} {held : Bool}

/-- The five numbers of an instruction. -/
theorem ins_of {fuel : Nat} {cs : List Value} {x : DataW H × List MemPlace} (h : DataW.trod enc Tryd.prog w base spare held fuel 43 cs = some x) : ∃ i : Ins, cs = i.cells := by
  obtain ⟨ys, m, _, _, hlen, hl, hel⟩ := DataW.trod_struct Tryd.underlying43 h
  rw [cells_ins] at hlen
  match cs, hlen with
  | [c0, c1, c2, c3, c4], _ =>
    match ys, hl with
    | [y0, y1, y2, y3, y4], _ =>
      have h0 : DataW.trod enc Tryd.prog w base spare held m 3 (List.take (Tryd.prog.cellsOf 3) (List.drop 0 [c0, c1, c2, c3, c4])) = some y0 := hel 0 _ rfl
      have h1 : DataW.trod enc Tryd.prog w base spare held m 3 (List.take (Tryd.prog.cellsOf 3) (List.drop 1 [c0, c1, c2, c3, c4])) = some y1 := hel 1 _ rfl
      have h2 : DataW.trod enc Tryd.prog w base spare held m 3 (List.take (Tryd.prog.cellsOf 3) (List.drop 2 [c0, c1, c2, c3, c4])) = some y2 := hel 2 _ rfl
      have h3 : DataW.trod enc Tryd.prog w base spare held m 3 (List.take (Tryd.prog.cellsOf 3) (List.drop 3 [c0, c1, c2, c3, c4])) = some y3 := hel 3 _ rfl
      have h4 : DataW.trod enc Tryd.prog w base spare held m 3 (List.take (Tryd.prog.cellsOf 3) (List.drop 4 [c0, c1, c2, c3, c4])) = some y4 := hel 4 _ rfl
      rw [cells_int] at h0 h1 h2 h3 h4
      obtain ⟨q0, e0, _, _⟩ := DataW.trod_int Tryd.underlying3 h0
      obtain ⟨q1, e1, _, _⟩ := DataW.trod_int Tryd.underlying3 h1
      obtain ⟨q2, e2, _, _⟩ := DataW.trod_int Tryd.underlying3 h2
      obtain ⟨q3, e3, _, _⟩ := DataW.trod_int Tryd.underlying3 h3
      obtain ⟨q4, e4, _, _⟩ := DataW.trod_int Tryd.underlying3 h4
      simp at e0 e1 e2 e3 e4
      exact ⟨⟨q0, q1, q2, q3, q4⟩, by rw [e0, e1, e2, e3, e4]; rfl⟩

theorem open_ins {r : Reach} {b0 : Nat} {v : Value} {d : DataW H} {p : List MemPlace} (hv : Value.okWide Tryd.prog w r b0 43 v) (h : DataW.Trod enc Tryd.prog w base spare held 43 v d p) : ∃ i : Ins, v = i.val := by
  obtain ⟨cs, rfl, hsz⟩ := okWide_struct Tryd.underlying43 hv
  obtain ⟨fuel, hf⟩ := h
  obtain ⟨i, hi⟩ := ins_of hf
  refine ⟨i, ?_⟩
  simp only [Value.cells] at hi
  unfold Ins.val
  congr 1
  exact Array.ext' hi

/-- Instructions, read. -/
theorem cod_of (hsp : ∀ b, spare b = true) {fuel : Nat} {cs : List Value} {x : DataW H × List MemPlace} (h : DataW.trod enc Tryd.prog w base spare held fuel 38 cs = some x) :
    ∃ (a : Option Addr) (c : Nat) (l : List Ins), cs = [.slice a l.length c] ∧ Cod w w.heap.size a l ∧ (a = none → c = 0) := by
  obtain ⟨a, len, cap, l, e, _, hl, hnn, hc⟩ := open_items (fun cs (i : Ins) => cs = i.cells) Tryd.underlying38 cells_ins (by omega) (fun m cs x hx => ins_of hx) hsp h
  subst hl
  refine ⟨a, cap, l, e, fun hh => ?_, hnn⟩
  obtain ⟨b, off, rfl, hb, hcc⟩ := hc hh
  refine ⟨b, off, rfl, hb, fun k i hi => ?_⟩
  obtain ⟨cs, rfl, hcell⟩ := hcc k i hi
  exact ⟨hcell 0 _ (by omega) rfl, by simpa [Nat.add_assoc] using hcell 1 _ (by omega) rfl, by simpa [Nat.add_assoc] using hcell 2 _ (by omega) rfl, by simpa [Nat.add_assoc] using hcell 3 _ (by omega) rfl, by simpa [Nat.add_assoc] using hcell 4 _ (by omega) rfl⟩

/-- A program, read. -/
theorem open_prog {r : Reach} {b0 : Nat} {v : Value} {d : DataW H} {p : List MemPlace} (hsp : ∀ b, spare b = true) (hv : Value.okWide Tryd.prog w r b0 24 v) (h : DataW.Trod enc Tryd.prog w base spare held 24 v d p) :
    ∃ (a : Option Addr) (c : Nat) (l : List Fn), v = .agg #[.slice a l.length c] ∧ Prg w w.heap.size a l := by
  obtain ⟨cs, rfl, hsz⟩ := okWide_struct Tryd.underlying24 hv
  obtain ⟨fuel, hf⟩ := h
  obtain ⟨ys, m, _, _, hlen, hl, hel⟩ := DataW.trod_struct Tryd.underlying24 hf
  have h0 : DataW.trod enc Tryd.prog w base spare held m 22 (List.take (Tryd.prog.cellsOf 22) (List.drop 0 (Value.agg cs).cells.toList)) = ys[0]? := hel 0 _ rfl
  rw [show ys[0]? = some (ys[0]'(by rw [hl]; decide)) from List.getElem?_eq_getElem _, show Tryd.prog.cellsOf 22 = 1 by kernel_rfl] at h0
  obtain ⟨a, len, cap, l, e, _, hl, _, hc⟩ := open_items (fun cs (f : Fn) => ∃ A c, cs = [Value.int .i64 f.needs, .slice A f.code.length c] ∧ Cod w w.heap.size A f.code) Tryd.underlying22 cells_fn (by omega) (fun m cs x hx => by
    obtain ⟨zs, m', _, _, hlen', hl', hel'⟩ := DataW.trod_struct Tryd.underlying40 hx
    rw [cells_fn] at hlen'
    match cs, hlen' with
    | [c0, c1], _ =>
      match zs, hl' with
      | [z0, z1], _ =>
        have h0 : DataW.trod enc Tryd.prog w base spare held m' 3 (List.take (Tryd.prog.cellsOf 3) (List.drop 0 [c0, c1])) = some z0 := hel' 0 _ rfl
        have h1 : DataW.trod enc Tryd.prog w base spare held m' 38 (List.take (Tryd.prog.cellsOf 38) (List.drop 1 [c0, c1])) = some z1 := hel' 1 _ rfl
        rw [cells_int] at h0
        rw [show Tryd.prog.cellsOf 38 = 1 by kernel_rfl] at h1
        obtain ⟨q0, e0, _, _⟩ := DataW.trod_int Tryd.underlying3 h0
        obtain ⟨A, c, l, e1, hcod, _⟩ := cod_of hsp h1
        simp at e0 e1
        exact ⟨⟨q0, l⟩, A, c, by rw [e0, e1], hcod⟩) hsp h0
  subst hl
  have hsz1 : cs.size = 1 := hsz.trans (by kernel_rfl)
  refine ⟨a, cap, l, ?_, fun hh => ?_⟩
  · congr 1
    apply Array.ext'
    obtain ⟨L⟩ := cs
    match L, hsz1 with
    | [c0], _ => simpa [Value.cells] using e
  · obtain ⟨b, off, rfl, hb, hcc⟩ := hc hh
    refine ⟨b, off, rfl, hb, fun k f hf => ?_⟩
    obtain ⟨cs, ⟨A, c, rfl, hcod⟩, hcell⟩ := hcc k f hf
    exact ⟨A, c, hcell 0 _ (by omega) rfl, by simpa [Nat.add_assoc] using hcell 1 _ (by omega) rfl, hcod⟩


/-- Instructions by themselves. -/
theorem open_cod {a : Option Addr} {len cap : Nat} {d : DataW H} {p : List MemPlace} (hsp : ∀ b, spare b = true) (h : DataW.Trod enc Tryd.prog w base spare held 38 (.slice a len cap) d p) :
    ∃ l : List Ins, l.length = len ∧ Cod w w.heap.size a l ∧ (a = none → cap = 0) := by
  obtain ⟨fuel, hf⟩ := h
  obtain ⟨a', c', l, e, hc, h0⟩ := cod_of hsp hf
  simp [Value.cells] at e
  obtain ⟨rfl, rfl, rfl⟩ := e
  exact ⟨l, rfl, hc, h0⟩

/-- A function, read. -/
theorem open_func {r : Reach} {b0 : Nat} {v : Value} {d : DataW H} {p : List MemPlace} (hsp : ∀ b, spare b = true) (hv : Value.okWide Tryd.prog w r b0 40 v) (h : DataW.Trod enc Tryd.prog w base spare held 40 v d p) :
    ∃ (f : Fn) (a : Option Addr) (c : Nat), v = .agg #[.int .i64 f.needs, .slice a f.code.length c] ∧ Cod w w.heap.size a f.code := by
  obtain ⟨cs, rfl, hsz⟩ := okWide_struct Tryd.underlying40 hv
  obtain ⟨fuel, hf⟩ := h
  obtain ⟨zs, m', _, _, hlen', hl', hel'⟩ := DataW.trod_struct Tryd.underlying40 hf
  rw [cells_fn] at hlen'
  obtain ⟨L⟩ := cs
  simp only [Value.cells] at hlen' hel'
  match L, hlen' with
  | [c0, c1], _ =>
    match zs, hl' with
    | [z0, z1], _ =>
      have h0 : DataW.trod enc Tryd.prog w base spare held m' 3 (List.take (Tryd.prog.cellsOf 3) (List.drop 0 [c0, c1])) = some z0 := hel' 0 _ rfl
      have h1 : DataW.trod enc Tryd.prog w base spare held m' 38 (List.take (Tryd.prog.cellsOf 38) (List.drop 1 [c0, c1])) = some z1 := hel' 1 _ rfl
      rw [cells_int] at h0
      rw [show Tryd.prog.cellsOf 38 = 1 by kernel_rfl] at h1
      obtain ⟨q0, e0, _, _⟩ := DataW.trod_int Tryd.underlying3 h0
      obtain ⟨A, c, l, e1, hcod, _⟩ := cod_of hsp h1
      simp at e0 e1
      exact ⟨⟨q0, l⟩, A, c, by rw [e0, e1], hcod⟩

/-- A call, read. -/
theorem open_call {r : Reach} {b0 : Nat} {v : Value} {d : DataW H} {p : List MemPlace} (hv : Value.okWide Tryd.prog w r b0 37 v) (h : DataW.Trod enc Tryd.prog w base spare held 37 v d p) :
    ∃ x y : Int, v = .agg #[.int .i64 x, .int .i64 y] := by
  obtain ⟨cs, rfl, hsz⟩ := okWide_struct Tryd.underlying37 hv
  obtain ⟨fuel, hf⟩ := h
  obtain ⟨zs, m', _, _, hlen', hl', hel'⟩ := DataW.trod_struct Tryd.underlying37 hf
  rw [show Tryd.prog.cellsOf 37 = 2 by kernel_rfl] at hlen'
  obtain ⟨L⟩ := cs
  simp only [Value.cells] at hlen' hel'
  match L, hlen' with
  | [c0, c1], _ =>
    match zs, hl' with
    | [z0, z1], _ =>
      have h0 : DataW.trod enc Tryd.prog w base spare held m' 3 (List.take (Tryd.prog.cellsOf 3) (List.drop 0 [c0, c1])) = some z0 := hel' 0 _ rfl
      have h1 : DataW.trod enc Tryd.prog w base spare held m' 3 (List.take (Tryd.prog.cellsOf 3) (List.drop 1 [c0, c1])) = some z1 := hel' 1 _ rfl
      rw [cells_int] at h0 h1
      obtain ⟨q0, e0, _, _⟩ := DataW.trod_int Tryd.underlying3 h0
      obtain ⟨q1, e1, _, _⟩ := DataW.trod_int Tryd.underlying3 h1
      simp at e0 e1
      exact ⟨q0, q1, by rw [e0, e1]⟩

end

end Go.Proofs.YtpjcdjooiaefdaaDoor
