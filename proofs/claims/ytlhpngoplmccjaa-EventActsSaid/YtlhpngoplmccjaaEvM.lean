/-
  Machines as lists, and the calls on events over them.
-/
import Derived.Test.YtlhpngoplmccjaaEv2
namespace Go.Proofs.Ytlhpngoplmccjaa
open Go.RowKit
set_option linter.unusedVariables false

def mk (l : List Int) (u : Nat) (s : List Int) : Mach := ⟨l, u, s⟩
def stp (s : List Int) (j : Nat) : List Int := s.set j (wrap64 (s.getD j 0 + 1))
theorem stp_len (s : List Int) (j : Nat) : (stp s j).length = s.length := by simp [stp]

/-- Whether so often was told, of a machine as a list. -/
def told (l : List Int) (u : Nat) (k s : Int) : Bool := (mk l u []).toldB k s

theorem told_in (l : List Int) (u k : Nat) (s v : Int) (h : k < u) (hv : l.getD k 0 = v) : told l u k s = (v == s) := by
  have e : (mk l u []).peek k = v := by
    unfold Mach.peek
    rw [if_pos (show (0 : Int) ≤ (k : Int) ∧ (k : Int) < ((mk l u []).used : Int) from ⟨by omega, by show (k : Int) < (u : Int); omega⟩)]
    exact hv
  unfold told Mach.toldB
  rw [e, show decide ((0 : Int) ≤ (k : Int)) = true by simp, show decide ((k : Int) < ((mk l u []).used : Int)) = true from by show decide ((k : Int) < (u : Int)) = true; simp; omega]
  simp

theorem told_out (l : List Int) (u : Nat) (k s : Int) (h : k < 0 ∨ (u : Int) ≤ k) : told l u k s = false := by
  unfold told Mach.toldB
  rcases h with h | h
  · rw [show decide (0 ≤ k) = false by simp; omega]
    rfl
  · rw [show decide (k < ((mk l u []).used : Int)) = false from by show decide (k < (u : Int)) = false; simp; omega]
    simp

theorem enew_mk (b : MB) (l : List Int) (u : Nat) (s : List Int) (j : Nat) (x v : Int) (w : World) (h : IsM w b (mk l u s)) (hx : x = j) (hv : v = u) (hj : j < s.length) (hn : u + 1 ≤ l.length) :
    Calls Try.prog 31 #[.pointer (some ⟨b.m, 0, none⟩), .int .i64 x] w fun e w' => e = .returned (.tuple #[.agg #[.int .i64 v], .int .i64 0]) ∧ IsM w' b (mk l (u + 1) (stp s j)) ∧ Fr b.own w w' := by
  subst hx hv
  exact enew_ok b (mk l u s) j w h hj hn

theorem eread_mk (b : MB) (l : List Int) (u : Nat) (s : List Int) (j k : Nat) (x y v : Int) (w : World) (h : IsM w b (mk l u s)) (hx : x = j) (hy : y = k) (hj : j < s.length) (hk : k < u) (hv : l.getD k 0 = v) :
    Calls Try.prog 34 #[.agg #[.int .i64 y], .pointer (some ⟨b.m, 0, none⟩), .int .i64 x] w fun e w' => e = .returned (.tuple #[.int .i64 v, .int .i64 0]) ∧ IsM w' b (mk l u (stp s j)) ∧ Fr b.own w w' := by
  subst hx hy hv
  exact eread_ok b (mk l u s) j k w h hj hk

theorem etell_mk (b : MB) (l : List Int) (u : Nat) (s : List Int) (j k : Nat) (x y v : Int) (w : World) (h : IsM w b (mk l u s)) (hx : x = j) (hy : y = k) (hj : j < s.length) (hk : k < u) (hv : wrap64 (l.getD k 0 + 1) = v) :
    Calls Try.prog 35 #[.agg #[.int .i64 y], .pointer (some ⟨b.m, 0, none⟩), .int .i64 x] w fun e w' => e = .returned (.int .i64 0) ∧ IsM w' b (mk (l.set k v) u (stp s j)) ∧ Fr b.own w w' := by
  subst hx hy hv
  exact etell_ok b (mk l u s) j k w h hj hk

theorem wready_mk (b : MB) (l : List Int) (u : Nat) (s : List Int) (j k : Nat) (x v : Int) (q : Nat) (y a t : Int) (w : World) (h : IsM w b (mk l u s)) (hX : WT w q y a t) (hb : ¬ b.own q) (hx : x = j) (hy : y = k) (hj : j < s.length) (hk : k < u) (hv : l.getD k 0 = v) :
    Calls Try.prog 36 #[.pointer (some ⟨q, 0, none⟩), .pointer (some ⟨b.m, 0, none⟩), .int .i64 x] w fun e w' => e = .returned (.int .i64 0) ∧ IsM w' b (mk l u (stp s j)) ∧ WT w' q y 1 v ∧ Fr (fun i => b.own i ∨ i = q) w w' := by
  subst hx hy hv
  exact wready_ok b (mk l u s) j k q a t w hX hb h hj hk

theorem wparked_mk (b : MB) (l : List Int) (u : Nat) (s : List Int) (q : Nat) (y a t : Int) (v : Bool) (w : World) (h : IsM w b (mk l u s)) (hX : WT w q y a t) (hv : ((a == 2) && told l u y t) = v) :
    Calls Try.prog 41 #[.pointer (some ⟨q, 0, none⟩), .pointer (some ⟨b.m, 0, none⟩)] w fun e w' => e = .returned (.bool v) ∧ Fr (fun _ => False) w w' := by
  subst hv
  exact wparked_ok b (mk l u s) q y a t w h hX

theorem eparked_mk (b : MB) (l : List Int) (u : Nat) (s : List Int) (y t : Int) (v : Bool) (w : World) (h : IsM w b (mk l u s)) (hv : told l u y t = v) :
    Calls Try.prog 43 #[.agg #[.int .i64 y], .pointer (some ⟨b.m, 0, none⟩), .int .i64 t] w fun e w' => e = .returned (.bool v) ∧ Fr (fun _ => False) w w' := by
  subst hv
  exact eparked_ok b (mk l u s) y t w h

theorem ewait_mk (y : Int) (w : World) :
    Calls Try.prog 32 #[.agg #[.int .i64 y]] w fun e w' => ∃ x, e = .returned (.pointer (some ⟨x, 0, none⟩)) ∧ WT w' x y 0 0 ∧ Fr (fun _ => False) w w' ∧ w.heap.size ≤ x :=
  (ewait_ok y w).mono fun e w' ⟨h1, h2, h3, h4⟩ => ⟨_, h1, h2, h3, by omega⟩

theorem rest_yes (l : List Int) (u k : Nat) (s : Int) (h : k < u) (hv : l.getD k 0 = s) : (((2 : Int) == 2) && told l u k s) = true := by
  rw [told_in l u k s s h hv]; simp
theorem rest_no (l : List Int) (u k : Nat) (s v : Int) (h : k < u) (hv : l.getD k 0 = v) (hn : v ≠ s) : (((2 : Int) == 2) && told l u k s) = false := by
  rw [told_in l u k s v h hv]; simpa using hn
theorem rest_up (l : List Int) (u : Nat) (k a s : Int) (ha : a ≠ 2) : ((a == 2) && told l u k s) = false := by
  have : (a == 2) = false := by simpa using ha
  rw [this]; rfl

theorem new_mk (n k : Nat) (x y : Int) (hx : x = n) (hy : y = k) (w : World) (h1 : 1 ≤ n) (h2 : n ≤ 1048576) (h3 : 1 ≤ k) (h4 : k ≤ 16) :
    Calls Try.prog 10 #[.int .i64 x, .int .i64 y] w fun e w' => ∃ b : MB, e = .returned (.tuple #[.pointer (some ⟨b.m, 0, none⟩), .int .i64 0]) ∧ IsM w' b (mk (List.replicate n 0) 0 (List.replicate (k + 1) 0)) ∧ Fr (fun _ => False) w w' ∧ ∀ i, b.own i → w.heap.size ≤ i := by
  subst hx hy
  exact new_ok n k w h1 h2 h3 h4

end Go.Proofs.Ytlhpngoplmccjaa
