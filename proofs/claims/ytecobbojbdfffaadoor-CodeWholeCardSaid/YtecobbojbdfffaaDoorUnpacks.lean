/-
  CodeUnpacks' walk.
-/
import Derived.Test.YtecobbojbdfffaaDoorRefSame
namespace Go.Proofs.YtecobbojbdfffaaDoor
open Go.RowKit

theorem unCode_len (l : List Int) (n p : Nat) (acc : List Ins) : (unCode l n p acc).1.length ≤ acc.length + n := by
  induction n generalizing p acc with
  | zero => simp [unCode]
  | succ n ih =>
    unfold unCode
    split
    · have := ih (p + 8) (acc ++ [dec (sl l p)])
      simp only [List.length_append, List.length_cons, List.length_nil] at this
      omega
    · simp

theorem unFn_len (l : List Int) (p : Nat) : (unFn l p).f.code.length ≤ 128 := by
  unfold unFn
  split
  · simp
  · split
    · simp
    · split
      · rename_i h2 _
        have := unCode_len l (l.getD (p + 1) 0).toNat (p + 2) []
        simp only [List.length_nil] at this
        simp only
        omega
      · simp

theorem unFns_len (l : List Int) (n p : Nat) (acc : List Fn) : (unFns l n p acc).1.length ≤ acc.length + n := by
  induction n generalizing p acc with
  | zero => simp [unFns]
  | succ n ih =>
    unfold unFns
    split
    · have := ih (unFn l p).at_ (acc ++ [(unFn l p).f])
      simp only [List.length_append, List.length_cons, List.length_nil] at this
      omega
    · simp

theorem unFns_codes (l : List Int) (n p : Nat) (acc : List Fn) (h : ∀ f ∈ acc, f.code.length ≤ 128) : ∀ f ∈ (unFns l n p acc).1, f.code.length ≤ 128 := by
  induction n generalizing p acc with
  | zero => simpa [unFns] using h
  | succ n ih =>
    unfold unFns
    split
    · refine ih _ _ (fun f hf => ?_)
      rw [List.mem_append] at hf
      rcases hf with hf | hf
      · exact h f hf
      · simp at hf
        subst hf
        exact unFn_len l p
    · intro f hf
      cases hf

theorem unProg_len (l : List Int) : (unProg l).p.length ≤ 32 := by
  unfold unProg
  split
  · simp
  · split
    · simp
    · split
      · simp
      · split
        · simp
        · have := unFns_len l (l.getD 0 0).toNat 1 []
          simp only [List.length_nil] at this
          simp only
          omega

theorem unProg_codes (l : List Int) : ∀ f ∈ (unProg l).p, f.code.length ≤ 128 := by
  unfold unProg
  split
  · simp
  · split
    · simp
    · split
      · simp
      · split
        · simp
        · exact unFns_codes l _ 1 [] (by simp)

set_option maxRecDepth 100000 in
set_option maxHeartbeats 1000000 in
theorem unpacksWalk_long (A : Option Addr) (n cap : Nat) (w : World) (ht : Tabs w) (h : 4000 < n) :
    Calls Tryd.prog 8 #[.slice A n cap] w fun e w' => e = .returned (.bool true) ∧ Fr (fun _ => False) w w' := by
  go_enter Tryd.func8, Tryd.ntmps8
  go_wp2_with fail
  refine (awake_ok w ht).mono ?_
  rintro e w3 ⟨rfl, hF3⟩
  go_wp2_with fail
  go_ret
  exact ⟨rfl, hF3⟩

theorem Src.same {w w' : World} {A : Option Addr} {n cap : Nat} {l : List Int} (h : Src w w.heap.size A n cap l) (f : Fr (fun _ => False) w w') : Src w' w'.heap.size A n cap l :=
  ⟨h.1, h.2.1, h.2.2.1, (h.2.2.2.1.same f (Nat.le_refl _)).more f.size, h.2.2.2.2⟩

set_option maxRecDepth 100000 in
set_option maxHeartbeats 2000000 in
theorem unpacksWalk_in (A : Option Addr) (n cap : Nat) (l : List Int) (w : World) (ht : Tabs w) (hs : Src w w.heap.size A n cap l) (h : n ≤ 4000) :
    Calls Tryd.prog 8 #[.slice A n cap] w fun e w' => e = .returned (.bool true) ∧ Fr (fun _ => False) w w' := by
  have HA := hid awake_ok
  have HU := hid (unpack_any A n cap l w ht hs (by omega))
  have HR := hid (fun (W : World) (f : Fr (fun _ => False) w W) => runpack_any A n cap l W (hs.same f) (by omega))
  obtain ⟨r, hr⟩ : ∃ r, unProg l = r := ⟨_, rfl⟩
  have hl1 := unProg_len l
  have hl2 := unProg_codes l
  rw [hr] at HU HR hl1 hl2
  clear hr hs
  obtain ⟨P, at_, err⟩ := r
  simp only at hl1 hl2
  go_enter Tryd.func8, Tryd.ntmps8
  go_wp2_with fail
  refine HU.out.mono ?_
  rintro e w1 ⟨A1, c1, L1, rfl, hP1, hm1, hF1⟩
  simp only at hm1 ⊢
  obtain ⟨a, ha⟩ : ∃ a, P.length = a := ⟨_, rfl⟩
  simp only [ha]
  have hQ1 := hP1.prg
  rw [hm1] at hQ1
  clear hP1 hm1
  have hFa := Fr.alloc (fun _ => False) w1 (.cells #[.slice A1 a c1] 42)
  have hBa := Blk.new w1 #[.slice A1 a c1] 42
  go_wp2_with fail
  refine (HR.out _ (hF1.trans hFa)).mono ?_
  rintro e w2 ⟨A2, c2, L2, rfl, hP2, hm2, hF2⟩
  simp only at hm2 ⊢
  simp only [ha]
  have hQ2 := hP2.prg
  rw [hm2] at hQ2
  clear hP2 hm2
  have hB2 := hBa.keep hF2 (fun h => h)
  have q1 : w2.cell? ⟨w1.heap.size, 0, none⟩ = some (.slice A1 a c1) := hB2.cell rfl
  have ql1 := hB2.lt
  have hFb := Fr.alloc (fun _ => False) w2 (.cells #[.slice A2 a c2] 42)
  have hBb := Blk.new w2 #[.slice A2 a c2] 42
  have hF12 := hFa.trans (hF2.trans hFb)
  have hp1 := (hQ1.same hF12 (Nat.le_refl _)).more hF12.size
  have hp2 := (hQ2.same hFb (Nat.le_refl _)).more hFb.size
  have HS1 := hid (rsame_any A1 A2 c1 c2 P P _ hp1 hp2 (by omega) (fun f hf => by have := hl2 f hf; omega))
  have HS2 := hid (fun (W : World) (f : Fr (fun _ => False) _ W) => same_any A1 A2 c1 c2 P P W ((hp1.same f (Nat.le_refl _)).more f.size) ((hp2.same f (Nat.le_refl _)).more f.size) (by omega) (fun f hf => by have := hl2 f hf; omega))
  rw [decide_eq_true (rfl : P = P)] at HS1 HS2
  simp only [ha] at HS1 HS2
  clear hp1 hp2 hQ1 hQ2 hl2
  go_wp2_with fail
  refine HS1.out.mono ?_
  rintro e w3 ⟨rfl, hF3⟩
  have hB3 := (hB2.keep (hFb.trans hF3) (fun h => h))
  have hB4 := (hBb.keep hF3 (fun h => h))
  have r1 : w3.cell? ⟨w1.heap.size, 0, none⟩ = some (.slice A1 a c1) := hB3.cell rfl
  have r2 : w3.cell? ⟨w2.heap.size, 0, none⟩ = some (.slice A2 a c2) := hB4.cell rfl
  have rl1 := hB3.lt
  have rl2 := hB4.lt
  go_wp2_with fail
  refine (HS2.out _ hF3).mono ?_
  rintro e w4 ⟨rfl, hF4⟩
  go_wp2_with fail
  have hall := hF1.trans (hF12.trans (hF3.trans hF4))
  refine (HA.out w4 (ht.same hall)).mono ?_
  rintro e w5 ⟨rfl, hF5⟩
  go_wp2_with fail
  go_ret
  exact ⟨rfl, hall.trans hF5⟩

theorem unpacksWalk (A : Option Addr) (n cap : Nat) (l : List Int) (w : World) (ht : Tabs w) (hs : Src w w.heap.size A n cap l) :
    Calls Tryd.prog 8 #[.slice A n cap] w fun e w' => e = .returned (.bool true) ∧ Fr (fun _ => False) w w' := by
  by_cases h : 4000 < n
  · exact unpacksWalk_long A n cap w ht h
  · exact unpacksWalk_in A n cap l w ht hs (by omega)

end Go.Proofs.YtecobbojbdfffaaDoor
