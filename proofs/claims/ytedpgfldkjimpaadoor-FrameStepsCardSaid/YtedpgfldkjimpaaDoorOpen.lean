/-
  Arguments opened to what they hold: instructions, programs, tasks.
-/
import Derived.Test.YtedpgfldkjimpaaDoorLaid
import Derived.Test.YtedpgfldkjimpaaDoorPrg
import Derived.Test.YtedpgfldkjimpaaDoorFrm
import Derived.Below
import Derived.Deep.Slices
import Derived.Deep.Fields
import Derived.ChangeSame
import Derived.ChangeOld
namespace Go.Proofs.YtedpgfldkjimpaaDoor
open Go.ChangeShapes Go.WideShapes Go.ChangeAt Go.RowKit Go.Deep

theorem list_of {α : Type} (n : Nat) (p : Nat → α → Prop) (h : ∀ i, i < n → ∃ y, p i y) : ∃ l : List α, l.length = n ∧ ∀ (i : Nat) (y : α), l[i]? = some y → p i y := by
  induction n with
  | zero => exact ⟨[], rfl, fun i y hy => by simp at hy⟩
  | succ n ih =>
    obtain ⟨l, hl, hp⟩ := ih (fun i hi => h i (by omega))
    obtain ⟨y, hy⟩ := h n (by omega)
    refine ⟨l ++ [y], by simp [hl], fun i z hz => ?_⟩
    rcases Nat.lt_or_ge i n with hi | hi
    · exact hp i z (by rwa [List.getElem?_append_left (by omega)] at hz)
    · rw [List.getElem?_append_right (by omega)] at hz
      obtain rfl : i = n := by
        have := (List.getElem?_eq_some_iff.1 hz).1
        simp at this
        omega
      rw [hl, Nat.sub_self] at hz
      simp at hz
      exact hz ▸ hy

theorem add_spot (a : Addr) (n : Nat) (ha : a.spot = none) : a.add n = ⟨a.block, a.off + n, none⟩ := by
  unfold Addr.add
  obtain ⟨b, o, s⟩ := a
  simp only at ha
  subst ha
  split
  · subst_vars; rfl
  · rfl

theorem cell_spot {w : World} {a : Addr} {v : Value} (h : w.cell? a = some v) : a.spot = none ∧ a.block < w.heap.size := by
  unfold World.cell? at h
  split at h
  · rename_i c t fz hb
    refine ⟨?_, (Array.getElem?_eq_some_iff.1 hb).1⟩
    split at h
    · cases h
    · rename_i hs
      simpa using hs
  · cases h

section
variable {H : Type} {enc : TypeId × Value → H} {P : Program} {w : World} {base : Nat} {spare : Nat → Bool} {held : Bool}

/-- A slice of items of k cells each, read. -/
theorem open_items {α : Type} (rel : List Value → α → Prop) {t e : TypeId} {k fuel : Nat} {cs0 : List Value} {x : DataW H × List MemPlace} (ht : P.underlying t = some (.slice e)) (hE : P.cellsOf e = k) (hk : 0 < k)
    (hel : ∀ (m : Nat) (cs : List Value) (x : DataW H × List MemPlace), DataW.trod enc P w base spare held m e cs = some x → ∃ y, rel cs y)
    (hsp : ∀ b, spare b = true) (h : DataW.trod enc P w base spare held fuel t cs0 = some x) :
    ∃ (a : Option Addr) (len cap : Nat) (l : List α), cs0 = [.slice a len cap] ∧ len ≤ maxLen ∧ l.length = len ∧ (a = none → cap = 0) ∧ (0 < len → ∃ b off, a = some ⟨b, off, none⟩ ∧ b < w.heap.size ∧
      ∀ (i : Nat) (y : α), l[i]? = some y → ∃ cs, rel cs y ∧ ∀ (j : Nat) (v : Value), j < k → cs[j]? = some v → w.cell? ⟨b, off + (i * k + j), none⟩ = some v) := by
  rcases open_slice ht h with ⟨hcs, _⟩ | ⟨a', l, c, m, n, D, Pl, hcs, _, hl, hm, hmm, _, hi⟩
  · exact ⟨none, 0, 0, [], hcs, Nat.zero_le _, rfl, fun _ => rfl, fun hh => absurd hh (by omega)⟩
  · rw [if_pos (hsp _)] at hmm
    have hc : ∀ i, i < l → ∃ y, ∃ cs, w.cells? base (a'.add (i * k)) k = some cs ∧ rel cs y := fun i hil => by
      obtain ⟨cs', hc, ht'⟩ := hi i (by omega)
      rw [hE] at hc
      obtain ⟨y, hy⟩ := hel _ _ _ ht'
      exact ⟨y, cs', hc, hy⟩
    obtain ⟨L, hL, hp⟩ := list_of l _ hc
    refine ⟨some a', l, c, L, hcs, by omega, hL, (fun h => by cases h), fun hlen => ?_⟩
    obtain ⟨y0, hy0⟩ : ∃ y, L[0]? = some y := ⟨_, List.getElem?_eq_getElem (by omega)⟩
    obtain ⟨cs, hcs0, _⟩ := hp 0 y0 hy0
    obtain ⟨_, hl0, hat0⟩ := World.cells?_some hcs0
    have e0 : (a'.add (0 * k)).add 0 = a' := by simp [Addr.add]
    have h00 := hat0 0 hk
    rw [e0, List.getElem?_eq_getElem (by omega)] at h00
    obtain ⟨hs, hb⟩ := cell_spot h00
    refine ⟨a'.block, a'.off, by obtain ⟨b, o, s⟩ := a'; simp only at hs; subst hs; rfl, hb, fun i y hy => ?_⟩
    obtain ⟨cs, hcs1, hr⟩ := hp i y hy
    obtain ⟨_, hl1, hat1⟩ := World.cells?_some hcs1
    refine ⟨cs, hr, fun j v hj hv => ?_⟩
    rw [← add_spot a' _ hs, ← add_add, hat1 j hj, hv]
end

theorem cells_ins : Tryd.prog.cellsOf 27 = 5 := by kernel_rfl
theorem cells_fn : Tryd.prog.cellsOf 55 = 2 := by kernel_rfl

section
variable {H : Type} {enc : TypeId × Value → H} {w : World} {base : Nat} {spare : Nat → Bool} {held : Bool}

/-- The five numbers of an instruction. -/
theorem ins_of {fuel : Nat} {cs : List Value} {x : DataW H × List MemPlace} (h : DataW.trod enc Tryd.prog w base spare held fuel 27 cs = some x) : ∃ i : Ins, cs = i.cells := by
  obtain ⟨ys, m, _, _, hlen, hl, hel⟩ := DataW.trod_struct Tryd.underlying27 h
  rw [cells_ins] at hlen
  match cs, hlen with
  | [c0, c1, c2, c3, c4], _ =>
    match ys, hl with
    | [y0, y1, y2, y3, y4], _ =>
      have h0 : DataW.trod enc Tryd.prog w base spare held m 3 (List.take (Tryd.prog.cellsOf 3) (List.drop 0 [c0, c1, c2, c3, c4])) = some y0 := hel 0 _ rfl
      have h1 : DataW.trod enc Tryd.prog w base spare held m 3 (List.take (Tryd.prog.cellsOf 3) (List.drop 1 [c0, c1, c2, c3, c4])) = some y1 := hel 1 _ rfl
      have h2 : DataW.trod enc Tryd.prog w base spare held m 3 (List.take (Tryd.prog.cellsOf 3) (List.drop 2 [c0, c1, c2, c3, c4])) = some y2 := hel 2 _ rfl
      have h3 : DataW.trod enc Tryd.prog w base spare held m 3 (List.take (Tryd.prog.cellsOf 3) (List.drop 3 [c0, c1, c2, c3, c4])) = some y3 := hel 3 _ rfl
      have h4 : DataW.trod enc Tryd.prog w base spare held m 3 (List.take (Tryd.prog.cellsOf 3) (List.drop 4 [c0, c1, c2, c3, c4])) = some y4 := hel 4 _ rfl
      rw [cells_int] at h0 h1 h2 h3 h4
      obtain ⟨q0, e0, _, _⟩ := DataW.trod_int Tryd.underlying3 h0
      obtain ⟨q1, e1, _, _⟩ := DataW.trod_int Tryd.underlying3 h1
      obtain ⟨q2, e2, _, _⟩ := DataW.trod_int Tryd.underlying3 h2
      obtain ⟨q3, e3, _, _⟩ := DataW.trod_int Tryd.underlying3 h3
      obtain ⟨q4, e4, _, _⟩ := DataW.trod_int Tryd.underlying3 h4
      simp at e0 e1 e2 e3 e4
      exact ⟨⟨q0, q1, q2, q3, q4⟩, by rw [e0, e1, e2, e3, e4]; rfl⟩

theorem open_ins {r : Reach} {b0 : Nat} {v : Value} {d : DataW H} {p : List MemPlace} (hv : Value.okWide Tryd.prog w r b0 27 v) (h : DataW.Trod enc Tryd.prog w base spare held 27 v d p) : ∃ i : Ins, v = i.val := by
  obtain ⟨cs, rfl, hsz⟩ := okWide_struct Tryd.underlying27 hv
  obtain ⟨fuel, hf⟩ := h
  obtain ⟨i, hi⟩ := ins_of hf
  refine ⟨i, ?_⟩
  simp only [Value.cells] at hi
  unfold Ins.val
  congr 1
  exact Array.ext' hi

/-- Instructions, read. -/
theorem cod_of (hsp : ∀ b, spare b = true) {fuel : Nat} {cs : List Value} {x : DataW H × List MemPlace} (h : DataW.trod enc Tryd.prog w base spare held fuel 53 cs = some x) :
    ∃ (a : Option Addr) (c : Nat) (l : List Ins), cs = [.slice a l.length c] ∧ Cod w w.heap.size a l ∧ (a = none → c = 0) := by
  obtain ⟨a, len, cap, l, e, _, hl, hnn, hc⟩ := open_items (fun cs (i : Ins) => cs = i.cells) Tryd.underlying53 cells_ins (by omega) (fun m cs x hx => ins_of hx) hsp h
  subst hl
  refine ⟨a, cap, l, e, fun hh => ?_, hnn⟩
  obtain ⟨b, off, rfl, hb, hcc⟩ := hc hh
  refine ⟨b, off, rfl, hb, fun k i hi => ?_⟩
  obtain ⟨cs, rfl, hcell⟩ := hcc k i hi
  exact ⟨hcell 0 _ (by omega) rfl, by simpa [Nat.add_assoc] using hcell 1 _ (by omega) rfl, by simpa [Nat.add_assoc] using hcell 2 _ (by omega) rfl, by simpa [Nat.add_assoc] using hcell 3 _ (by omega) rfl, by simpa [Nat.add_assoc] using hcell 4 _ (by omega) rfl⟩

/-- A program, read. -/
theorem open_prog {r : Reach} {b0 : Nat} {v : Value} {d : DataW H} {p : List MemPlace} (hsp : ∀ b, spare b = true) (hv : Value.okWide Tryd.prog w r b0 42 v) (h : DataW.Trod enc Tryd.prog w base spare held 42 v d p) :
    ∃ (a : Option Addr) (c : Nat) (l : List Fn), v = .agg #[.slice a l.length c] ∧ Prg w w.heap.size a l := by
  obtain ⟨cs, rfl, hsz⟩ := okWide_struct Tryd.underlying42 hv
  obtain ⟨fuel, hf⟩ := h
  obtain ⟨ys, m, _, _, hlen, hl, hel⟩ := DataW.trod_struct Tryd.underlying42 hf
  have h0 : DataW.trod enc Tryd.prog w base spare held m 40 (List.take (Tryd.prog.cellsOf 40) (List.drop 0 (Value.agg cs).cells.toList)) = ys[0]? := hel 0 _ rfl
  rw [show ys[0]? = some (ys[0]'(by rw [hl]; decide)) from List.getElem?_eq_getElem _, show Tryd.prog.cellsOf 40 = 1 by kernel_rfl] at h0
  obtain ⟨a, len, cap, l, e, _, hl, _, hc⟩ := open_items (fun cs (f : Fn) => ∃ A c, cs = [Value.int .i64 f.needs, .slice A f.code.length c] ∧ Cod w w.heap.size A f.code) Tryd.underlying40 cells_fn (by omega) (fun m cs x hx => by
    obtain ⟨zs, m', _, _, hlen', hl', hel'⟩ := DataW.trod_struct Tryd.underlying55 hx
    rw [cells_fn] at hlen'
    match cs, hlen' with
    | [c0, c1], _ =>
      match zs, hl' with
      | [z0, z1], _ =>
        have h0 : DataW.trod enc Tryd.prog w base spare held m' 3 (List.take (Tryd.prog.cellsOf 3) (List.drop 0 [c0, c1])) = some z0 := hel' 0 _ rfl
        have h1 : DataW.trod enc Tryd.prog w base spare held m' 53 (List.take (Tryd.prog.cellsOf 53) (List.drop 1 [c0, c1])) = some z1 := hel' 1 _ rfl
        rw [cells_int] at h0
        rw [show Tryd.prog.cellsOf 53 = 1 by kernel_rfl] at h1
        obtain ⟨q0, e0, _, _⟩ := DataW.trod_int Tryd.underlying3 h0
        obtain ⟨A, c, l, e1, hcod, _⟩ := cod_of hsp h1
        simp at e0 e1
        exact ⟨⟨q0, l⟩, A, c, by rw [e0, e1], hcod⟩) hsp h0
  subst hl
  have hsz1 : cs.size = 1 := hsz.trans (by kernel_rfl)
  refine ⟨a, cap, l, ?_, fun hh => ?_⟩
  · congr 1
    apply Array.ext'
    obtain ⟨L⟩ := cs
    match L, hsz1 with
    | [c0], _ => simpa [Value.cells] using e
  · obtain ⟨b, off, rfl, hb, hcc⟩ := hc hh
    refine ⟨b, off, rfl, hb, fun k f hf => ?_⟩
    obtain ⟨cs, ⟨A, c, rfl, hcod⟩, hcell⟩ := hcc k f hf
    exact ⟨A, c, hcell 0 _ (by omega) rfl, by simpa [Nat.add_assoc] using hcell 1 _ (by omega) rfl, hcod⟩


/-! ### Structs of numbers alone -/

theorem seg_int {P : Program} {t : TypeId} {fuel k : Nat} {cs : List Value} {x : DataW H × List MemPlace} (he : P.underlying t = some (.int .i64)) (h : DataW.trod enc P w base spare held fuel t ((cs.drop k).take 1) = some x) : ∃ q, cs[k]? = some (.int .i64 q) := by
  obtain ⟨q, hq, _, _⟩ := DataW.trod_int he h
  refine ⟨q, ?_⟩
  have : ((cs.drop k).take 1)[0]? = some (.int .i64 q) := by rw [hq]; rfl
  rw [List.getElem?_take] at this
  simpa using this

theorem seg_arr {P : Program} {n : Nat} {t e : TypeId} {fuel k : Nat} {cs : List Value} {x : DataW H × List MemPlace} (ht : P.underlying t = some (.array n e)) (he : P.underlying e = some (.int .i64)) (hc : P.cellsOf e = 1)
    (h : DataW.trod enc P w base spare held fuel t ((cs.drop k).take n) = some x) : ∀ j, j < n → ∃ q, cs[k + j]? = some (.int .i64 q) := by
  intro j hj
  obtain ⟨ys, m, _, _, _, hl, hel⟩ := DataW.trod_array ht h
  have hy : ys[j]? = some (ys[j]'(by omega)) := List.getElem?_eq_getElem (by omega)
  have h1 := hel j hj
  rw [hy, hc] at h1
  obtain ⟨q, hq⟩ := seg_int he h1
  refine ⟨q, ?_⟩
  rw [Nat.mul_one, List.getElem?_take, if_pos hj, List.getElem?_drop] at hq
  exact hq

theorem seg_ins {fuel k : Nat} {cs : List Value} {x : DataW H × List MemPlace} (h : DataW.trod enc Tryd.prog w base spare held fuel 27 ((cs.drop k).take 5) = some x) : ∀ j, j < 5 → ∃ q, cs[k + j]? = some (.int .i64 q) := by
  intro j hj
  obtain ⟨i, hi⟩ := ins_of h
  have hh : ((cs.drop k).take 5)[j]? = i.cells[j]? := by rw [hi]
  rw [List.getElem?_take, if_pos hj, List.getElem?_drop] at hh
  rw [hh]
  rcases j with _ | _ | _ | _ | _ | j
  · exact ⟨_, rfl⟩
  · exact ⟨_, rfl⟩
  · exact ⟨_, rfl⟩
  · exact ⟨_, rfl⟩
  · exact ⟨_, rfl⟩
  · omega

theorem flat_ints {n : Nat} {cs : List Value} (hn : cs.length = n) (h : ∀ j, j < n → ∃ q, cs[j]? = some (.int .i64 q)) : ∃ L : List Int, L.length = n ∧ cs = L.map (Value.int .i64) := by
  obtain ⟨L, hL, hp⟩ := list_of n _ h
  refine ⟨L, hL, List.ext_getElem? fun j => ?_⟩
  rcases Nat.lt_or_ge j n with hj | hj
  · have hy : L[j]? = some (L[j]'(by omega)) := List.getElem?_eq_getElem (by omega)
    rw [hp j _ hy, List.getElem?_map, hy]
    rfl
  · rw [List.getElem?_eq_none (by omega), List.getElem?_eq_none (by simp; omega)]

theorem open_frm {r : Reach} {b0 : Nat} {v : Value} {d : DataW H} {p : List MemPlace} (hv : Value.okWide Tryd.prog w r b0 25 v) (h : DataW.Trod enc Tryd.prog w base spare held 25 v d p) : ∃ F : Frm, v = F.val := by
  obtain ⟨cs, rfl, hsz⟩ := okWide_struct Tryd.underlying25 hv
  obtain ⟨fuel, hf⟩ := h
  obtain ⟨ys, m, _, _, hlen, hl, hel⟩ := DataW.trod_struct Tryd.underlying25 hf
  obtain ⟨C⟩ := cs
  simp only [Value.cells] at hlen hel
  rw [show Tryd.prog.cellsOf 25 = 19 by kernel_rfl] at hlen
  obtain ⟨y0, y1, y2, y3, y4, rfl⟩ : ∃ y0 y1 y2 y3 y4, ys = [y0, y1, y2, y3, y4] := by
    match ys, hl with
    | [y0, y1, y2, y3, y4], _ => exact ⟨_, _, _, _, _, rfl⟩
  have h0 : DataW.trod enc Tryd.prog w base spare held m 3 (List.take (Tryd.prog.cellsOf 3) (List.drop 0 C)) = some y0 := hel 0 _ rfl
  have h1 : DataW.trod enc Tryd.prog w base spare held m 3 (List.take (Tryd.prog.cellsOf 3) (List.drop 1 C)) = some y1 := hel 1 _ rfl
  have h2 : DataW.trod enc Tryd.prog w base spare held m 22 (List.take (Tryd.prog.cellsOf 22) (List.drop 2 C)) = some y2 := hel 2 _ rfl
  have h3 : DataW.trod enc Tryd.prog w base spare held m 23 (List.take (Tryd.prog.cellsOf 23) (List.drop 10 C)) = some y3 := hel 3 _ rfl
  have h4 : DataW.trod enc Tryd.prog w base spare held m 3 (List.take (Tryd.prog.cellsOf 3) (List.drop 18 C)) = some y4 := hel 4 _ rfl
  rw [cells_int] at h0 h1 h4
  rw [show Tryd.prog.cellsOf 22 = 8 by kernel_rfl] at h2
  rw [show Tryd.prog.cellsOf 23 = 8 by kernel_rfl] at h3
  have g0 := seg_int Tryd.underlying3 h0
  have g1 := seg_int Tryd.underlying3 h1
  have g2 := seg_arr Tryd.underlying22 Tryd.underlying2 (by kernel_rfl) h2
  have g3 := seg_arr Tryd.underlying23 Tryd.underlying3 (by kernel_rfl) h3
  have g4 := seg_int Tryd.underlying3 h4
  obtain ⟨L, hL, hC⟩ := flat_ints hlen (fun j hj => by
    rcases Nat.lt_or_ge j 2 with a | a
    · rcases j with _ | _ | j
      · exact g0
      · exact g1
      · omega
    · rcases Nat.lt_or_ge j 10 with b | b
      · have := g2 (j - 2) (by omega)
        rwa [show 2 + (j - 2) = j by omega] at this
      · rcases Nat.lt_or_ge j 18 with c | c
        · have := g3 (j - 10) (by omega)
          rwa [show 10 + (j - 10) = j by omega] at this
        · obtain rfl : j = 18 := by omega
          exact g4)
  subst hC
  match L, hL with
  | [a0, a1, a2, a3, a4, a5, a6, a7, a8, a9, b0, b1, b2, b3, b4, b5, b6, b7, b8], _ =>
    exact ⟨⟨a0, a1, fun j => [a2, a3, a4, a5, a6, a7, a8, a9].getD j 0, fun j => [b0, b1, b2, b3, b4, b5, b6, b7].getD j 0, b8⟩, rfl⟩

theorem open_came {r : Reach} {b0 : Nat} {v : Value} {d : DataW H} {p : List MemPlace} (hv : Value.okWide Tryd.prog w r b0 58 v) (h : DataW.Trod enc Tryd.prog w base spare held 58 v d p) : ∃ (i : Ins) (kd v0 : Int), v = .agg #[.int .i64 i.op, .int .i64 i.a, .int .i64 i.b, .int .i64 i.c, .int .i64 i.n, .int .i64 kd, .int .i64 v0] := by
  obtain ⟨cs, rfl, hsz⟩ := okWide_struct Tryd.underlying58 hv
  obtain ⟨fuel, hf⟩ := h
  obtain ⟨ys, m, _, _, hlen, hl, hel⟩ := DataW.trod_struct Tryd.underlying58 hf
  obtain ⟨C⟩ := cs
  simp only [Value.cells] at hlen hel
  rw [show Tryd.prog.cellsOf 58 = 7 by kernel_rfl] at hlen
  obtain ⟨y0, y1, y2, rfl⟩ : ∃ y0 y1 y2, ys = [y0, y1, y2] := by
    match ys, hl with
    | [y0, y1, y2], _ => exact ⟨_, _, _, rfl⟩
  have h0 : DataW.trod enc Tryd.prog w base spare held m 27 (List.take (Tryd.prog.cellsOf 27) (List.drop 0 C)) = some y0 := hel 0 _ rfl
  have h1 : DataW.trod enc Tryd.prog w base spare held m 3 (List.take (Tryd.prog.cellsOf 3) (List.drop 5 C)) = some y1 := hel 1 _ rfl
  have h2 : DataW.trod enc Tryd.prog w base spare held m 2 (List.take (Tryd.prog.cellsOf 2) (List.drop 6 C)) = some y2 := hel 2 _ rfl
  rw [cells_ins] at h0
  rw [cells_int] at h1
  rw [show Tryd.prog.cellsOf 2 = 1 by kernel_rfl] at h2
  have g0 := seg_ins h0
  have g1 := seg_int Tryd.underlying3 h1
  have g2 := seg_int Tryd.underlying2 h2
  obtain ⟨L, hL, hC⟩ := flat_ints hlen (fun j hj => by
    rcases Nat.lt_or_ge j 5 with a | a
    · have := g0 j a
      rwa [Nat.zero_add] at this
    · rcases Nat.lt_or_ge j 6 with b | b
      · obtain rfl : j = 5 := by omega
        exact g1
      · obtain rfl : j = 6 := by omega
        exact g2)
  subst hC
  match L, hL with
  | [a0, a1, a2, a3, a4, a5, a6], _ => exact ⟨⟨a0, a1, a2, a3, a4⟩, a5, a6, rfl⟩

theorem open_fork {r : Reach} {b0 : Nat} {v : Value} {d : DataW H} {p : List MemPlace} (hv : Value.okWide Tryd.prog w r b0 44 v) (h : DataW.Trod enc Tryd.prog w base spare held 44 v d p) : ∃ (i : Ins) (id : Int), v = .agg #[.int .i64 i.op, .int .i64 i.a, .int .i64 i.b, .int .i64 i.c, .int .i64 i.n, .int .i64 id] := by
  obtain ⟨cs, rfl, hsz⟩ := okWide_struct Tryd.underlying44 hv
  obtain ⟨fuel, hf⟩ := h
  obtain ⟨ys, m, _, _, hlen, hl, hel⟩ := DataW.trod_struct Tryd.underlying44 hf
  obtain ⟨C⟩ := cs
  simp only [Value.cells] at hlen hel
  rw [show Tryd.prog.cellsOf 44 = 6 by kernel_rfl] at hlen
  obtain ⟨y0, y1, rfl⟩ : ∃ y0 y1, ys = [y0, y1] := by
    match ys, hl with
    | [y0, y1], _ => exact ⟨_, _, rfl⟩
  have h0 : DataW.trod enc Tryd.prog w base spare held m 27 (List.take (Tryd.prog.cellsOf 27) (List.drop 0 C)) = some y0 := hel 0 _ rfl
  have h1 : DataW.trod enc Tryd.prog w base spare held m 3 (List.take (Tryd.prog.cellsOf 3) (List.drop 5 C)) = some y1 := hel 1 _ rfl
  rw [cells_ins] at h0
  rw [cells_int] at h1
  have g0 := seg_ins h0
  have g1 := seg_int Tryd.underlying3 h1
  obtain ⟨L, hL, hC⟩ := flat_ints hlen (fun j hj => by
    rcases Nat.lt_or_ge j 5 with a | a
    · have := g0 j a
      rwa [Nat.zero_add] at this
    · obtain rfl : j = 5 := by omega
      exact g1)
  subst hC
  match L, hL with
  | [a0, a1, a2, a3, a4, a5], _ => exact ⟨⟨a0, a1, a2, a3, a4⟩, a5, rfl⟩

theorem open_other {r : Reach} {b0 : Nat} {v : Value} {d : DataW H} {p : List MemPlace} (hv : Value.okWide Tryd.prog w r b0 72 v) (h : DataW.Trod enc Tryd.prog w base spare held 72 v d p) : ∃ (y : Nat → Int) (nd : Int), v = .agg #[.int .i64 (y 0), .int .i64 (y 1), .int .i64 (y 2), .int .i64 (y 3), .int .i64 (y 4), .int .i64 (y 5), .int .i64 (y 6), .int .i64 (y 7), .int .i64 nd] := by
  obtain ⟨cs, rfl, hsz⟩ := okWide_struct Tryd.underlying72 hv
  obtain ⟨fuel, hf⟩ := h
  obtain ⟨ys, m, _, _, hlen, hl, hel⟩ := DataW.trod_struct Tryd.underlying72 hf
  obtain ⟨C⟩ := cs
  simp only [Value.cells] at hlen hel
  rw [show Tryd.prog.cellsOf 72 = 9 by kernel_rfl] at hlen
  obtain ⟨y0, y1, rfl⟩ : ∃ y0 y1, ys = [y0, y1] := by
    match ys, hl with
    | [y0, y1], _ => exact ⟨_, _, rfl⟩
  have h0 : DataW.trod enc Tryd.prog w base spare held m 23 (List.take (Tryd.prog.cellsOf 23) (List.drop 0 C)) = some y0 := hel 0 _ rfl
  have h1 : DataW.trod enc Tryd.prog w base spare held m 3 (List.take (Tryd.prog.cellsOf 3) (List.drop 8 C)) = some y1 := hel 1 _ rfl
  rw [show Tryd.prog.cellsOf 23 = 8 by kernel_rfl] at h0
  rw [cells_int] at h1
  have g0 := seg_arr Tryd.underlying23 Tryd.underlying3 (by kernel_rfl) h0
  have g1 := seg_int Tryd.underlying3 h1
  obtain ⟨L, hL, hC⟩ := flat_ints hlen (fun j hj => by
    rcases Nat.lt_or_ge j 8 with a | a
    · have := g0 j a
      rwa [Nat.zero_add] at this
    · obtain rfl : j = 8 := by omega
      exact g1)
  subst hC
  match L, hL with
  | [a0, a1, a2, a3, a4, a5, a6, a7, a8], _ => exact ⟨fun j => [a0, a1, a2, a3, a4, a5, a6, a7].getD j 0, a8, rfl⟩
end

end Go.Proofs.YtedpgfldkjimpaaDoor
