/-
  Stage 7: the bytes of Closes; what is wrong with a row.
-/
import Derived.Test.YtnlbellbeepkaaaGreatDoorSite2
import Derived.Test.YtnlbellbeepkaaaGreatDoorFirst
import Derived.Test.YtnlbellbeepkaaaGreatDoorRRight
import Derived.Test.YtnlbellbeepkaaaGreatDoorShelf
namespace Go.Proofs.YtnlbellbeepkaaaGreatDoor
open Go.RowKit
set_option linter.unusedVariables false

theorem dw_nil {p : UInt8 → Bool} (l : List UInt8) : l.dropWhile p = [] ↔ ∀ x ∈ l, p x = true := by
  induction l with
  | nil => simp
  | cons a r ih =>
    rw [List.dropWhile_cons]
    cases h : p a
    · simp [h]
    · simp [h, ih]

theorem trim_nil (l : List UInt8) : Lib.trimS l [48, 49] = [] ↔ binL l = true := by
  have hc : ∀ x : UInt8, ([48, 49] : List UInt8).contains x = (x == 48 || x == 49) := fun x => by
    simp only [List.contains, List.elem]
    cases x == 48 <;> cases x == 49 <;> rfl
  have hb : binL l = true ↔ ∀ x ∈ l, ([48, 49] : List UInt8).contains x = true := by
    unfold binL
    rw [List.all_eq_true]
    constructor
    · intro h x hx; rw [hc]; exact h x hx
    · intro h x hx; rw [← hc]; exact h x hx
  rw [hb]
  unfold Lib.trimS Lib.trimLeftS Lib.trimRightS
  constructor
  · intro h
    rw [dw_nil] at h
    by_cases hn : List.dropWhile (fun x => ([48, 49] : List UInt8).contains x) l.reverse = []
    · rw [dw_nil] at hn
      intro x hx
      exact hn x (by simpa using hx)
    · exfalso
      have h1 := List.head_dropWhile_not (fun x => ([48, 49] : List UInt8).contains x) hn
      have h2 := h _ (List.mem_reverse.2 (List.head_mem hn))
      rw [h1] at h2
      cases h2
  · intro h
    have : List.dropWhile (fun x => ([48, 49] : List UInt8).contains x) l.reverse = [] := by
      rw [dw_nil]
      intro x hx
      exact h x (by simpa using hx)
    rw [this]
    rfl

theorem Fr.ofBelow {w w' : World} (h : Below w.heap.size w w') : Fr (fun _ => False) w w' := ⟨h.os, h.tape, h.output, h.size, fun k hk _ => h.block k hk⟩

theorem trim_any (s : ByteArray) (w : World) (hs : s.size ≤ 4000000) : Calls Tryz.prog 52 #[.string s, .string ⟨#[48, 49]⟩] w fun e w' => ∃ S : ByteArray, e = .returned (.string S) ∧ (S.size = 0 ↔ binL s.data.toList = true) ∧ Fr (fun _ => False) w w' :=
  (Any.strings_Trim_laid Tryz.lays160 (by kernel_rfl) s ⟨#[48, 49]⟩ w (by omega) (by decide) (fun j b hb => by
    match j, hb with
    | 0, hb => simp at hb; subst hb; decide
    | 1, hb => simp at hb; subst hb; decide
    | j + 2, hb => simp at hb)).mono fun e w' ⟨he, hb⟩ => ⟨_, he, by
      rw [← trim_nil]
      show (Lib.trimS s.data.toList [48, 49]).toArray.size = 0 ↔ _
      simp, Fr.ofBelow hb⟩

set_option maxRecDepth 100000 in
set_option maxHeartbeats 2000000 in
theorem closes_any (A : Option Addr) (n c : Nat) (r : Tw) (w : World) (hcl : r.cl.size ≤ 4000000) :
    Calls Tryz.prog 30 #[.agg (sitC A n c r)] w fun e w' => e = .returned (.int .i64 (tol (!binB r) 11)) ∧ Fr (fun _ => False) w w' := by
  have HTR := hid (fun W => trim_any r.cl W hcl)
  have HX := hid (show binL r.cl.data.toList = binB r from rfl)
  obtain ⟨x, hx⟩ : ∃ x, binB r = x := ⟨_, rfl⟩
  rw [hx] at HX ⊢
  rw [HX.out] at HTR
  clear hx HX hcl
  have hF0 := Fr.alloc (fun _ => False) w (.cells (sitC A n c r) 68)
  have hB0 := Blk.new w (sitC A n c r) 68
  obtain ⟨p, i, f, k, v, s, cl⟩ := r
  unfold sitC at *
  simp only at HTR hF0 hB0 ⊢
  obtain ⟨w1, hw1⟩ : ∃ w1, w1 = w.alloc (.cells #[.slice A n c, .int .i64 p, .int .i64 i, .int .i64 f, .int .i64 k, .int .i64 v, .int .i64 s, .string cl] 68) := ⟨_, rfl⟩
  rw [← hw1] at hF0 hB0
  have HF0 := hid hF0
  have b7 := hB0.cell (i := 7) rfl
  simp only [List.getElem_toArray, List.getElem_cons_zero, List.getElem_cons_succ] at b7
  have l0 := hB0.lt
  clear hB0 hF0
  go_enter Tryz.func30, Tryz.ntmps30
  go_upto_region 1 with fail
  rw [← hw1]
  clear hw1
  go_wp2_with fail
  refine (HTR.out _).mono ?_
  rintro e w2 ⟨S, rfl, hS, hF2⟩
  cases x with
  | true =>
    obtain rfl := empty_of (hS.2 rfl)
    clear hS
    go_wp2_with fail
    refine (told_any _ _ _).mono ?_
    rintro e w' ⟨rfl, rfl⟩
    go_wp2_with fail
    go_ret
    exact ⟨ret_int (by first | rfl | (simp; done)), HF0.out.trans hF2⟩
  | false =>
    have hp : 0 < S.size := by
      rcases Nat.eq_zero_or_pos S.size with h | h
      · exact absurd (hS.1 h) (by simp)
      · exact h
    have e0 := not_empty hp
    have e1 : S.toList.isEmpty = false := by cases hh : S.toList with | nil => exact absurd hh e0 | cons a b => rfl
    have e2 : (S.toList == []) = false := by rw [beq_eq_false_iff_ne]; exact e0
    clear hS hp
    go_wp2_with fail
    refine (told_any _ _ _).mono ?_
    rintro e w' ⟨rfl, rfl⟩
    go_wp2_with fail
    go_ret
    exact ⟨ret_int (by first | rfl | (simp [*]; done)), HF0.out.trans hF2⟩

end Go.Proofs.YtnlbellbeepkaaaGreatDoor
