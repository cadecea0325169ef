/-
  Stage 7: Under, the program's.
-/
import Derived.Test.YtnlbellbeepkaaaGreatDoorWrong
import Derived.Test.YtnlbellbeepkaaaGreatDoorKids
import Derived.Test.YtnlbellbeepkaaaGreatDoorUnd
namespace Go.Proofs.YtnlbellbeepkaaaGreatDoor
open Go.RowKit
set_option linter.unusedVariables false

theorem OwnR.full {w : World} {B g : Nat} {c : Array Value} {e : TypeId} {k n : Nat} (h : w.heap[g]? = some (.cells c e (0, 0))) (hB : B ≤ g) (hn : c.size = n * k) (hl : n ≤ 4000000) : OwnR w B e k (some ⟨g, 0, none⟩) n n c.toList :=
  ⟨by simp [hn], .inr ⟨g, n, c, rfl, hB, h, Nat.le_refl _, by unfold maxLen; omega, hn, by rw [List.take_of_length_le (by simp [hn])]⟩⟩

theorem infoWz : (Tryz.prog.info? 34).map (fun i => (i.zero, i.size, i.bytes)) = some (some (.agg #[.int .i64 0, .int .i64 0, .int .i64 0, .int .i64 0, .int .i64 0, .int .i64 0, .string ⟨#[]⟩]), 7, 64) := by kernel_rfl

theorem news_cells (w : World) (e : TypeId) (xs : List Value) : ∀ j u, xs[j]? = some u → (w.alloc (.cells xs.toArray e)).cell? ((⟨w.heap.size, 0, none⟩ : Addr).add j) = some u := fun j u hu => by
  rw [add_none, Nat.zero_add]
  exact (Blk.new w xs.toArray e).cell (by simpa using hu)

theorem OwnR.rdT {w : World} {B : Nat} {A : Option Addr} {n cap : Nat} {l : List Tw} (h : OwnR w B 34 7 A n cap (flatT l)) : RdT w A l := fun hl => by
  have h1 := h.1
  have h2 : (flatT l).length = l.length * 7 := by
    unfold flatT
    induction l with
    | nil => rfl
    | cons a r ih => simp only [List.flatMap_cons, List.length_append, List.length_cons, Tw.cells_len]; rw [show (List.flatMap Tw.cells r).length = r.length * 7 from by
        clear h h1 hl ih
        induction r with
        | nil => rfl
        | cons b s ih => simp only [List.flatMap_cons, List.length_append, List.length_cons, Tw.cells_len]; omega]; omega
  obtain ⟨g, hA, _, hg, _, hc⟩ := h.cell (by omega)
  exact ⟨g, 0, hA, hg, fun j v hv => by rw [Nat.zero_add]; exact hc j v hv⟩

theorem flatT_len (l : List Tw) : (flatT l).length = l.length * 7 := by
  unfold flatT
  induction l with
  | nil => rfl
  | cons a r ih => simp only [List.flatMap_cons, List.length_append, List.length_cons, Tw.cells_len]; omega

theorem flatT_app (a b : List Tw) : flatT (a ++ b) = flatT a ++ flatT b := by unfold flatT; rw [List.flatMap_append]
theorem flatT_one (r : Tw) : flatT [r] = r.cells := by unfold flatT; simp

/-- What Under leaves. -/
def UnPost (l : List Tw) (i : Int) (w : World) (e : Ending) (w' : World) : Prop :=
  Fr (fun _ => False) w w' ∧
  ((chk l ≠ 0 ∧ e = .returned (.tuple #[.slice none 0 0, .int .i64 (chk l)])) ∨
   (chk l = 0 ∧ ¬ (0 ≤ i ∧ i < l.length) ∧ e = .returned (.tuple #[.slice none 0 0, .int .i64 10])) ∨
   (chk l = 0 ∧ (0 ≤ i ∧ i < l.length) ∧ ∃ (A' : Option Addr) (n' cap : Nat), (und l i.toNat).length = n' ∧ e = .returned (.tuple #[.slice A' n' cap, .int .i64 0]) ∧ OwnR w' w.heap.size 34 7 A' n' cap (flatT (und l i.toNat))))

/-- Where the loop stands. -/
def UnRel (l : List Tw) (i m B : Nat) (w : World) (d : Nat) (lv k : Value) (wr : World) : Prop :=
  ∃ (j nk : Nat) (A' : Option Addr) (cap : Nat), j ≤ m ∧ d = m + 1 - j ∧ k = .int .i64 j ∧ (undD l i (j + 1)).length = nk ∧ nk ≤ j + 1 ∧ lv = .slice A' nk cap ∧ OwnR wr B 34 7 A' nk cap (flatT (undD l i (j + 1))) ∧ (∀ x, x < j → (i : Int) ≤ parAt l (i + 1 + x : Nat)) ∧ Fr (fun _ => False) w wr

theorem undD_len (l : List Tw) (i : Nat) : ∀ k, (undD l i k).length ≤ k := by
  intro k
  induction k with
  | zero => exact Nat.le_refl _
  | succ k ih =>
    simp only [undD, List.length_append]
    split
    · cases l[i + k]? <;> simp <;> omega
    · simp; omega

end Go.Proofs.YtnlbellbeepkaaaGreatDoor
