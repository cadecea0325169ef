/-
  Arguments opened to what they hold: rows.
-/
import Derived.Test.YtnlbellbeepkaaaGreatDoorLaid
import Derived.Test.YtnlbellbeepkaaaGreatDoorRow
import Derived.Below
import Derived.Deep.Slices
import Derived.Deep.Fields
import Derived.ChangeSame
import Derived.ChangeOld
namespace Go.Proofs.YtnlbellbeepkaaaGreatDoor
set_option maxRecDepth 100000
open Go.ChangeShapes Go.WideShapes Go.ChangeAt Go.RowKit Go.Deep

theorem list_of {α : Type} (n : Nat) (p : Nat → α → Prop) (h : ∀ i, i < n → ∃ y, p i y) : ∃ l : List α, l.length = n ∧ ∀ (i : Nat) (y : α), l[i]? = some y → p i y := by
  induction n with
  | zero => exact ⟨[], rfl, fun i y hy => by simp at hy⟩
  | succ n ih =>
    obtain ⟨l, hl, hp⟩ := ih (fun i hi => h i (by omega))
    obtain ⟨y, hy⟩ := h n (by omega)
    refine ⟨l ++ [y], by simp [hl], fun i z hz => ?_⟩
    rcases Nat.lt_or_ge i n with hi | hi
    · exact hp i z (by rwa [List.getElem?_append_left (by omega)] at hz)
    · rw [List.getElem?_append_right (by omega)] at hz
      obtain rfl : i = n := by
        have := (List.getElem?_eq_some_iff.1 hz).1
        simp at this
        omega
      rw [hl, Nat.sub_self] at hz
      simp at hz
      exact hz ▸ hy

theorem add_spot (a : Addr) (n : Nat) (ha : a.spot = none) : a.add n = ⟨a.block, a.off + n, none⟩ := by
  unfold Addr.add
  obtain ⟨b, o, s⟩ := a
  simp only at ha
  subst ha
  split
  · subst_vars; rfl
  · rfl

theorem cell_spot {w : World} {a : Addr} {v : Value} (h : w.cell? a = some v) : a.spot = none ∧ a.block < w.heap.size := by
  unfold World.cell? at h
  split at h
  · rename_i c t fz hb
    refine ⟨?_, (Array.getElem?_eq_some_iff.1 hb).1⟩
    split at h
    · cases h
    · rename_i hs
      simpa using hs
  · cases h

section
variable {H : Type} {enc : TypeId × Value → H} {P : Program} {w : World} {base : Nat} {spare : Nat → Bool} {held : Bool}

/-- A slice of items of k cells each, read. -/
theorem open_items {α : Type} (rel : List Value → α → Prop) {t e : TypeId} {k fuel : Nat} {cs0 : List Value} {x : DataW H × List MemPlace} (ht : P.underlying t = some (.slice e)) (hE : P.cellsOf e = k) (hk : 0 < k)
    (hel : ∀ (m : Nat) (cs : List Value) (x : DataW H × List MemPlace), DataW.trod enc P w base spare held m e cs = some x → ∃ y, rel cs y)
    (hsp : ∀ b, spare b = true) (h : DataW.trod enc P w base spare held fuel t cs0 = some x) :
    ∃ (a : Option Addr) (len cap : Nat) (l : List α), cs0 = [.slice a len cap] ∧ len ≤ cap ∧ cap ≤ maxLen ∧ l.length = len ∧ (a = none → cap = 0) ∧ (0 < len → ∃ b off, a = some ⟨b, off, none⟩ ∧ b < w.heap.size ∧
      ∀ (i : Nat) (y : α), l[i]? = some y → ∃ cs, rel cs y ∧ ∀ (j : Nat) (v : Value), j < k → cs[j]? = some v → w.cell? ⟨b, off + (i * k + j), none⟩ = some v) := by
  rcases open_slice ht h with ⟨hcs, _⟩ | ⟨a', l, c, m, n, D, Pl, hcs, _, hl, hm, hmm, _, hi⟩
  · exact ⟨none, 0, 0, [], hcs, Nat.zero_le _, Nat.zero_le _, rfl, fun _ => rfl, fun hh => absurd hh (by omega)⟩
  · rw [if_pos (hsp _)] at hmm
    have hc : ∀ i, i < l → ∃ y, ∃ cs, w.cells? base (a'.add (i * k)) k = some cs ∧ rel cs y := fun i hil => by
      obtain ⟨cs', hc, ht'⟩ := hi i (by omega)
      rw [hE] at hc
      obtain ⟨y, hy⟩ := hel _ _ _ ht'
      exact ⟨y, cs', hc, hy⟩
    obtain ⟨L, hL, hp⟩ := list_of l _ hc
    refine ⟨some a', l, c, L, hcs, hl, hm, hL, (fun h => by cases h), fun hlen => ?_⟩
    obtain ⟨y0, hy0⟩ : ∃ y, L[0]? = some y := ⟨_, List.getElem?_eq_getElem (by omega)⟩
    obtain ⟨cs, hcs0, _⟩ := hp 0 y0 hy0
    obtain ⟨_, hl0, hat0⟩ := World.cells?_some hcs0
    have e0 : (a'.add (0 * k)).add 0 = a' := by simp [Addr.add]
    have h00 := hat0 0 hk
    rw [e0, List.getElem?_eq_getElem (by omega)] at h00
    obtain ⟨hs, hb⟩ := cell_spot h00
    refine ⟨a'.block, a'.off, by obtain ⟨b, o, s⟩ := a'; simp only at hs; subst hs; rfl, hb, fun i y hy => ?_⟩
    obtain ⟨cs, hcs1, hr⟩ := hp i y hy
    obtain ⟨_, hl1, hat1⟩ := World.cells?_some hcs1
    refine ⟨cs, hr, fun j v hj hv => ?_⟩
    rw [← add_spot a' _ hs, ← add_add, hat1 j hj, hv]
end

theorem cells_row : Tryz.prog.cellsOf 34 = 7 := by kernel_rfl
theorem cells_int1 : Tryz.prog.cellsOf 3 = 1 := by kernel_rfl
theorem cells_i64 : Tryz.prog.cellsOf 2 = 1 := by kernel_rfl
theorem cells_str : Tryz.prog.cellsOf 9 = 1 := by kernel_rfl

/-- Rows as they come. -/
structure Opn (w : World) (A : Option Addr) (n c : Nat) (l : List Tw) : Prop where
  len : l.length = n
  rd : RdT w A l
  nc : n ≤ c
  cb : c ≤ 9223372036854775807
  bnd : ∀ (i : Nat) r, l[i]? = some r → Bnd r
  cls : ∀ (i : Nat) r, l[i]? = some r → r.cl.size ≤ 9223372036854775807

theorem wf_i64 {n : Int} (h : (Lit.int .i64 n).wf = true) : -9223372036854775808 ≤ n ∧ n ≤ 9223372036854775807 := by
  simp [Lit.wf, IntKind.min, IntKind.max, IntKind.signed, IntKind.bits] at h
  omega

section
variable {H : Type} {enc : TypeId × Value → H} {w : World} {base : Nat} {spare : Nat → Bool} {held : Bool}

/-- The seven cells of a row. -/
theorem row_of {fuel : Nat} {cs : List Value} {x : DataW H × List MemPlace} (h : DataW.trod enc Tryz.prog w base spare held fuel 34 cs = some x) : ∃ r : Tw, cs = r.cells ∧ Bnd r ∧ r.cl.size ≤ 9223372036854775807 := by
  obtain ⟨ys, m, _, _, hlen, hl, hel⟩ := DataW.trod_struct Tryz.underlying34 h
  rw [cells_row] at hlen
  match cs, hlen with
  | [c0, c1, c2, c3, c4, c5, c6], _ =>
    match ys, hl with
    | [y0, y1, y2, y3, y4, y5, y6], _ =>
      have h0 : DataW.trod enc Tryz.prog w base spare held m 3 (List.take (Tryz.prog.cellsOf 3) (List.drop 0 [c0, c1, c2, c3, c4, c5, c6])) = some y0 := hel 0 _ rfl
      have h1 : DataW.trod enc Tryz.prog w base spare held m 3 (List.take (Tryz.prog.cellsOf 3) (List.drop 1 [c0, c1, c2, c3, c4, c5, c6])) = some y1 := hel 1 _ rfl
      have h2 : DataW.trod enc Tryz.prog w base spare held m 3 (List.take (Tryz.prog.cellsOf 3) (List.drop 2 [c0, c1, c2, c3, c4, c5, c6])) = some y2 := hel 2 _ rfl
      have h3 : DataW.trod enc Tryz.prog w base spare held m 3 (List.take (Tryz.prog.cellsOf 3) (List.drop 3 [c0, c1, c2, c3, c4, c5, c6])) = some y3 := hel 3 _ rfl
      have h4 : DataW.trod enc Tryz.prog w base spare held m 2 (List.take (Tryz.prog.cellsOf 2) (List.drop 4 [c0, c1, c2, c3, c4, c5, c6])) = some y4 := hel 4 _ rfl
      have h5 : DataW.trod enc Tryz.prog w base spare held m 3 (List.take (Tryz.prog.cellsOf 3) (List.drop 5 [c0, c1, c2, c3, c4, c5, c6])) = some y5 := hel 5 _ rfl
      have h6 : DataW.trod enc Tryz.prog w base spare held m 9 (List.take (Tryz.prog.cellsOf 9) (List.drop 6 [c0, c1, c2, c3, c4, c5, c6])) = some y6 := hel 6 _ rfl
      rw [cells_int1] at h0 h1 h2 h3 h5
      rw [cells_i64] at h4
      rw [cells_str] at h6
      obtain ⟨q0, e0, _, b0⟩ := DataW.trod_int Tryz.underlying3 h0
      obtain ⟨q1, e1, _, b1⟩ := DataW.trod_int Tryz.underlying3 h1
      obtain ⟨q2, e2, _, b2⟩ := DataW.trod_int Tryz.underlying3 h2
      obtain ⟨q3, e3, _, b3⟩ := DataW.trod_int Tryz.underlying3 h3
      obtain ⟨q4, e4, _, b4⟩ := DataW.trod_int Tryz.underlying2 h4
      obtain ⟨q5, e5, _, b5⟩ := DataW.trod_int Tryz.underlying3 h5
      obtain ⟨q6, e6, _, b6⟩ := DataW.trod_string Tryz.underlying9 h6
      simp at e0 e1 e2 e3 e4 e5 e6
      have b0 := wf_i64 b0
      have b1 := wf_i64 b1
      have b2 := wf_i64 b2
      have b4 := wf_i64 b4
      have b5 := wf_i64 b5
      exact ⟨⟨q0, q1, q2, q3, q4, q5, q6⟩, by rw [e0, e1, e2, e3, e4, e5, e6]; rfl, ⟨b0.1, b0.2, b1.1, b1.2, b2.1, b2.2, b4.1, b4.2, b5.1, b5.2⟩, b6⟩

/-- Rows, read. -/
theorem open_rows {a : Option Addr} {len cap : Nat} {d : DataW H} {p : List MemPlace} (hsp : ∀ b, spare b = true) (h : DataW.Trod enc Tryz.prog w base spare held 22 (.slice a len cap) d p) :
    ∃ l : List Tw, Opn w a len cap l := by
  obtain ⟨fuel, hf⟩ := h
  obtain ⟨a', n', c', l, e, h1, h2, hl, _, hc⟩ := open_items (fun cs (r : Tw) => cs = r.cells ∧ Bnd r ∧ r.cl.size ≤ 9223372036854775807) Tryz.underlying22 cells_row (by omega) (fun m cs x hx => row_of hx) hsp hf
  simp [Value.cells] at e
  obtain ⟨rfl, rfl, rfl⟩ := e
  have hat : ∀ (i : Nat) r, l[i]? = some r → Bnd r ∧ r.cl.size ≤ 9223372036854775807 := fun i r hr => by
    have hi := (List.getElem?_eq_some_iff.1 hr).1
    obtain ⟨b, off, _, _, hcc⟩ := hc (by omega)
    obtain ⟨cs, ⟨_, h3, h4⟩, _⟩ := hcc i r hr
    exact ⟨h3, h4⟩
  refine ⟨l, hl, fun hp => ?_, h1, h2, fun i r hr => (hat i r hr).1, fun i r hr => (hat i r hr).2⟩
  obtain ⟨b, off, rfl, hb, hcc⟩ := hc (by omega)
  refine ⟨b, off, rfl, hb, fun j v hv => ?_⟩
  have hj := (List.getElem?_eq_some_iff.1 hv).1
  have hlen : (flatT l).length = l.length * 7 := by
    unfold flatT
    clear hv hj hcc hat hp hc hl hf h1
    induction l with
    | nil => rfl
    | cons a r ih => simp only [List.flatMap_cons, List.length_append, List.length_cons, Tw.cells_len]; omega
  have hq : j / 7 < l.length := by omega
  have hjq : j = j / 7 * 7 + j % 7 := by omega
  obtain ⟨cs, ⟨rfl, _, _⟩, hcell⟩ := hcc (j / 7) _ (List.getElem?_eq_getElem hq)
  rw [hjq, tw_at (List.getElem?_eq_getElem hq) (by omega)] at hv
  have := hcell (j % 7) v (by omega) hv
  rw [← hjq] at this
  exact this

end

end Go.Proofs.YtnlbellbeepkaaaGreatDoor
