/-
  Taking bytes, one behind the other.
-/
import Derived.Test.YtecobbojbdfffaaDoorOwn
import Derived.Test.YtecobbojbdfffaaDoorRefDecode
namespace Go.Proofs.YtecobbojbdfffaaDoor
open Go.RowKit

/-- Bytes that are read, with where they lie, and room. -/
def Src (w : World) (B : Nat) (A : Option Addr) (n cap : Nat) (l : List Int) : Prop := l.length = n ∧ n ≤ cap ∧ cap ≤ maxLen ∧ Bys w B A l ∧ AllB l

theorem TBlk.at {w : World} {b n : Nat} {c : Array Value} {t : TypeId} (h : TBlk w b c t) (hn : b = n) : TBlk w n c t := hn ▸ h
theorem TBlk.set {w : World} {b : Nat} {c : Array Value} {t : TypeId} (h : TBlk w b c t) (i : Nat) (v : Value) : TBlk (w.setCell ⟨b, i, none⟩ v) b (c.setIfInBounds i v) t := by
  unfold TBlk at *
  simp [World.setCell, Array.getElem?_modify, h]

/-- The taker. -/
def takerV (nb bb : Nat) : Value := .func (.func 36) #[] #[.pointer (some ⟨nb, 0, none⟩), .pointer (some ⟨bb, 0, none⟩)]

set_option maxRecDepth 100000 in
set_option maxHeartbeats 1000000 in
theorem from_ok (A : Option Addr) (n cap : Nat) (w : World) :
    Calls Tryd.prog 32 #[.slice A n cap] w fun e w' => e = .returned (takerV (w.heap.size + 1) w.heap.size) ∧ TBlk w' (w.heap.size + 1) #[.int .i64 0] 3 ∧ TBlk w' w.heap.size #[.slice A n cap] 29 ∧ Fr (fun _ => False) w w' := by
  go_enter Tryd.func32, Tryd.ntmps32
  go_wp2_with fail
  go_ret
  exact ⟨rfl, (TBlk.new _ _ _).at (size_alloc _ _), (TBlk.new w _ _).keep (Fr.alloc (fun _ => False) _ _) (fun h => h), (Fr.alloc _ _ _).trans (Fr.alloc _ _ _)⟩

set_option maxRecDepth 100000 in
set_option maxHeartbeats 1000000 in
theorem take_no (A : Option Addr) (n cap : Nat) (nb bb : Nat) (p k : Nat) (w : World) (h1 : Blk w nb #[.int .i64 p]) (h2 : Blk w bb #[.slice A n cap]) (hk : n < p + k) (hs : n ≤ 1000000) (hs' : p ≤ 1000000) :
    Calls Tryd.prog 36 #[.int .i64 k, .pointer (some ⟨nb, 0, none⟩), .pointer (some ⟨bb, 0, none⟩)] w fun e w' => e = .returned (.tuple #[.slice none 0 0, .int .i64 p]) ∧ w = w' := by
  have c1 : w.cell? ⟨nb, 0, none⟩ = some (.int .i64 p) := h1.cell rfl
  have c2 : w.cell? ⟨bb, 0, none⟩ = some (.slice A n cap) := h2.cell rfl
  have l1 := h1.lt
  have l2 := h2.lt
  have t1 : (n : Int) - (p : Int) < (k : Int) := by omega
  go_enter Tryd.func36, Tryd.ntmps36
  go_wp2_with fail
  go_ret2
  exact ⟨rfl, rfl⟩

set_option maxRecDepth 100000 in
set_option maxHeartbeats 1000000 in
theorem take_yes (a : Addr) (n cap : Nat) (nb bb : Nat) (p k : Nat) (w : World) (h1 : Blk w nb #[.int .i64 p]) (h2 : Blk w bb #[.slice (some a) n cap]) (hne : nb ≠ bb) (hk : p + k ≤ n) (hk1 : 1 ≤ k) (hc : n ≤ cap) (hs : n ≤ 1000000) :
    Calls Tryd.prog 36 #[.int .i64 k, .pointer (some ⟨nb, 0, none⟩), .pointer (some ⟨bb, 0, none⟩)] w fun e w' => e = .returned (.tuple #[.slice (some (a.add p)) k (cap - p), .int .i64 p]) ∧ w' = w.setCell ⟨nb, 0, none⟩ (.int .i64 ((p + k : Nat) : Int)) := by
  have c1 : w.cell? ⟨nb, 0, none⟩ = some (.int .i64 p) := h1.cell rfl
  have c2 : w.cell? ⟨bb, 0, none⟩ = some (.slice (some a) n cap) := h2.cell rfl
  have l1 := h1.lt
  have l2 := h2.lt
  have z1 := h1.frozen 0
  have t1 : ¬ (n : Int) - (p : Int) < (k : Int) := by omega
  have t2 : ¬ cap = p := by omega
  have t3 : cap - p ≠ 0 := by omega
  have t4 : p < cap := by omega
  go_enter Tryd.func36, Tryd.ntmps36
  go_wp2_with fail
  all_goals first
    | (go_ret2; exact ⟨rfl, by simp⟩)
    | omega

end Go.Proofs.YtecobbojbdfffaaDoor
