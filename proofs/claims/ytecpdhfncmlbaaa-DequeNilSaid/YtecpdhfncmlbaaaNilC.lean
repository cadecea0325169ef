/-
  Nil operations, and a nil machine, of the program's deques.
-/
import Derived.Test.YtecpdhfncmlbaaaSame
namespace Go.Proofs.Ytecpdhfncmlbaaa
open Go.RowKit
set_option linter.unusedVariables false

def StandsNil (w : World) (e : Ending) (w' : World) : Prop := ∃ g, e = .returned (.pointer (some ⟨g, 0, none⟩)) ∧ Blk w' g #[.int .i64 0, .int .i64 0, .int .i64 0, .int .i64 0, .int .i64 0, .int .i64 0, .int .i64 6, .int .i64 0, .int .i64 2] ∧ Fr (fun _ => False) w w'

set_option maxHeartbeats 400000 in
theorem stands_nil (w : World) :
    Calls Try.prog 46 #[.pointer none] w (StandsNil w) := by
  go_enter Try.func46, Try.ntmps46
  go_wp2_with fail
  go_ret
  exact ⟨_, rfl, Blk.new _ _ _, Fr.alloc _ _ _⟩

set_option maxHeartbeats 400000 in
theorem nstep (x : Int) (w : World) :
    Calls Try.prog 18 #[.pointer none, .pointer none, .int .i64 x] w fun e w' => e = .returned (.int .i64 6) ∧ Fr (fun _ => False) w w' := by
  go_enter Try.func18, Try.ntmps18
  go_wp2_with fail
  refine (stands_nil _).mono ?_
  rintro e w1 ⟨g, rfl, hB, hF⟩
  have HE := hid (ended_is g _ 6 w1 hB rfl)
  have HB := hid hB
  have HF := hid hF
  clear hB hF
  go_wp2_with fail
  refine HE.out.mono ?_
  rintro e w2 ⟨rfl, rfl⟩
  have c6 := HB.out.cell (i := 6) rfl
  go_wp2_with fail
  go_ret
  exact ⟨rfl, HF.out⟩

set_option maxHeartbeats 400000 in
theorem ngot (w : World) :
    Calls Try.prog 20 #[.pointer none] w fun e w' => e = .returned (.int .i64 0) ∧ Fr (fun _ => False) w w' := by
  go_enter Try.func20, Try.ntmps20
  go_wp2_with fail
  refine (stands_nil _).mono ?_
  rintro e w1 ⟨g, rfl, hB, hF⟩
  have c6 := hB.cell (i := 6) rfl
  go_wp2_with fail
  go_ret
  exact ⟨rfl, hF⟩

set_option maxHeartbeats 400000 in
theorem nerr (w : World) :
    Calls Try.prog 22 #[.pointer none] w fun e w' => e = .returned (.int .i64 2) ∧ Fr (fun _ => False) w w' := by
  go_enter Try.func22, Try.ntmps22
  go_wp2_with fail
  refine (stands_nil _).mono ?_
  rintro e w1 ⟨g, rfl, hB, hF⟩
  have c8 := hB.cell (i := 8) rfl
  go_wp2_with fail
  go_ret
  exact ⟨rfl, hF⟩

set_option maxHeartbeats 800000 in
theorem nlist (w : World) :
    Calls Try.prog 26 #[.agg #[.int .i64 0, .int .i64 0], .pointer none] w fun e w' => e = .returned (.slice none 0 0) ∧ Fr (fun _ => False) w w' := by
  have HO := hid (show ∀ u, Calls Try.prog 35 #[.int .i64 0] u fun e w' => e = .returned (.tuple #[.agg #[.int .i64 0, .int .i64 0], .int .i64 0]) ∧ Fr (fun _ => False) u w' from fun u => of_word ⟨0, 0⟩ (by unfold Rg.Right; decide +kernel) u)
  go_enter Try.func26, Try.ntmps26
  go_wp2_with fail
  refine (word_is 0 _).mono ?_
  rintro e w1 ⟨rfl, hF1⟩
  have HBd := hid ((Blk.new w #[.int .i64 0, .int .i64 0] 34).same hF1)
  have HF1 := hid ((Fr.alloc (fun _ => False) w (.cells #[.int .i64 0, .int .i64 0] 34)).trans hF1)
  clear hF1
  go_wp2_with fail
  refine (peek_nil 2 _).mono ?_
  rintro e w2 ⟨rfl, rfl⟩
  go_wp2_with fail
  refine (HO.out _).mono ?_
  rintro e w3 ⟨rfl, hF3⟩
  have HBd := hid (HBd.out.same hF3)
  have HF3 := hid (HF1.out.trans hF3)
  clear hF3
  have HS := hid (show ∀ u, Fr (fun _ => False) (w3.alloc (.cells #[.int .i64 0, .int .i64 0] 79)) u → u.cell? ⟨w.heap.size, 0, none⟩ = some (.int .i64 0) ∧ u.cell? ⟨w.heap.size, 1, none⟩ = some (.int .i64 0) from
    fun u F => ⟨((HBd.out.alloc _).same F).cell rfl, ((HBd.out.alloc _).same F).cell rfl⟩)
  have HFd := hid (Fr.refl (fun _ => False) (w3.alloc (.cells #[.int .i64 0, .int .i64 0] 79)))
  have HFA := hid (HF3.out.trans (Fr.alloc _ w3 (.cells #[.int .i64 0, .int .i64 0] 79)))
  have HT := hid (fun (u : World) => top_is 0 u)
  have HBo := hid (fun (u : World) => bottom_is 0 u)
  have HPN := hid (fun (y : Int) (u : World) => peek_nil y u)
  go_upto_region 5 with fail
  go_region_held3 (fun u => u.cell? ⟨w.heap.size, 0, none⟩ = some (.int .i64 0) ∧ u.cell? ⟨w.heap.size, 1, none⟩ = some (.int .i64 0))
    (first | exact HS.out _ HFd.out | exact HS.out _ (HFd.out.trans (Fr.drew _ _)))
    (first
      | (go_at_call 53; (with_reducible refine (HT.out _).mono ?_); rintro e w6 ⟨rfl, hF6⟩; have HFd := hid (HFd.out.trans (Fr.trans (by first | exact Fr.refl _ _ | exact Fr.drew _ _) hF6)); clear hF6)
      | (go_at_call 54; (with_reducible refine (HBo.out _).mono ?_); rintro e w6 ⟨rfl, hF6⟩; have HFd := hid (HFd.out.trans (Fr.trans (by first | exact Fr.refl _ _ | exact Fr.drew _ _) hF6)); clear hF6)
      | (go_at_call 28; (with_reducible refine (HPN.out _ _).mono ?_); rintro e w6 ⟨rfl, rfl⟩; have HFd := hid (HFd.out.trans (by first | exact Fr.refl _ _ | exact Fr.drew _ _))))
  all_goals
    go_wp2_with fail
    go_loopg [7, 8] 1 (fun d x k wr => d = 1 ∧ x = .slice none 0 0 ∧ k = .int .i64 0 ∧ Fr (fun _ => False) w wr)
    case atStart => exact ⟨rfl, rfl, rfl, HFA.out.trans HFd.out⟩
    case round =>
      obtain ⟨rfl, rfl, rfl, hF⟩ := hrel
      go_wp2_with fail
      go_ret
      exact ⟨rfl, hF⟩

set_option maxHeartbeats 400000 in
theorem nbottom (m x : Int) (w : World) :
    Calls Try.prog 34 #[.agg #[.int .i64 0, .int .i64 m], .pointer none, .int .i64 x] w fun e w' => e = .returned (.tuple #[.int .i64 0, .int .i64 2]) ∧ Fr (fun _ => False) w w' := by
  go_enter Try.func34, Try.ntmps34
  go_wp2_with fail
  refine (bottom_is m _).mono ?_
  rintro e w1 ⟨rfl, hF1⟩
  go_wp2_with fail
  refine (load_nil x 1 _).mono ?_
  rintro e w2 ⟨rfl, rfl⟩
  go_wp2_with fail
  go_ret2
  exact ⟨rfl, (Fr.alloc _ _ _).trans hF1⟩

set_option maxHeartbeats 400000 in
theorem bottom_ok (b : MB) (M : Mach) (s : List Int) (m x v er : Int) (s' : List Int) (w : World) (hM : IsM w b (MO M s))
    (hL : ∀ u, IsM u b (MO M s) → Calls Try.prog 60 #[.pointer (some ⟨b.m, 0, none⟩), .int .i64 x, .int .i64 1] u fun e w' => e = .returned (.tuple #[.int .i64 v, .int .i64 er]) ∧ IsM w' b (MO M s') ∧ Fr b.own u w') :
    Calls Try.prog 34 #[.agg #[.int .i64 0, .int .i64 m], .pointer (some ⟨b.m, 0, none⟩), .int .i64 x] w fun e w' => e = .returned (.tuple #[.int .i64 v, .int .i64 er]) ∧ IsM w' b (MO M s') ∧ Fr b.own w w' := by
  have HM := hid hM
  have HL := hid hL
  clear hM hL
  go_enter Try.func34, Try.ntmps34
  go_wp2_with fail
  refine (bottom_is m _).mono ?_
  rintro e w1 ⟨rfl, hF1⟩
  have HFA := hid ((Fr.alloc (fun _ => False) w (.cells #[.int .i64 0, .int .i64 m] 34)).trans hF1)
  clear hF1
  go_wp2_with fail
  refine (HL.out _ (HM.out.same HFA.out)).mono ?_
  rintro e w2 ⟨rfl, hM2, hF2⟩
  go_wp2_with fail
  go_ret2
  exact ⟨rfl, hM2, (HFA.out.mono fun _ h => h.elim).trans hF2⟩

/-- A Pop that is asked of a nil machine. -/
theorem pop_nil {b : MB} {o q cp : Nat} {most : Int} {w : World} (x : Int) (hI : IsOp w b o q cp most (beginOp 1 0)) :
    Calls Try.prog 18 #[.pointer (some ⟨o, 0, none⟩), .pointer none, .int .i64 x] w fun e w' => e = .returned (.int .i64 6) ∧ IsOp w' b o q cp most ((beginOp 1 0).brk 2) ∧ Fr (fun k => k = q) w w' := by
  obtain ⟨sep, kk, hO, rep⟩ := hI
  obtain ⟨f, hB, he, hgx, hr⟩ : RepO w q most _ := by
    rcases rep with ⟨_, ⟨k, _⟩ | ⟨_, hU⟩ | ⟨k, _⟩⟩ | ⟨k, _⟩
    · exact absurd k (by simp [beginOp])
    · exact hU
    · exact absurd k (by simp [beginOp])
    · exact absurd k (by simp [beginOp])
  have hf : f = 45 := (hr rfl).1
  subst hf
  refine (broke_pop (.pointer none) x 2 0 o q _ _ _ (fun _ => False) (fun _ => True) w (.inl rfl) (fun _ _ => by kernel_rfl) hO hB rfl rfl rfl ⟨_, rfl⟩ ⟨_, rfl⟩ rfl (fun _ _ _ _ => trivial)
    (fun w1 F1 => po_seeBottom (.pointer none) x 0 2 most (fun _ => False) (fun _ => True) q _ w1 (.inl rfl) (hB.keep F1 id) rfl rfl ⟨_, rfl⟩ ⟨_, rfl⟩ id (fun _ _ _ _ => trivial) (nil_load x 1))).mono ?_
  rintro e w' ⟨rfl, hB2, _, hF⟩
  have hF' : Fr (fun k => k = q) w w' := hF.mono fun _ h => h.elim (fun h => h.elim) id
  exact ⟨rfl, ⟨sep, kk, hO.keep hF' (fun h => sep.oq h), .inr ⟨rfl, _, hB2, rfl, rfl⟩⟩, hF'⟩
end Go.Proofs.Ytecpdhfncmlbaaa
