/-
  Steps of the document's copyings, by no caller in particular, in a row with room behind it.
-/
import Derived.Test.YtiofdfgcghiibaaRefC
import Derived.Test.YtiofdfgcghiibaaTb
namespace Go.Proofs.Ytiofdfgcghiibaa
open Go.RowKit
set_option linter.unusedVariables false

set_option maxRecDepth 100000 in
set_option maxHeartbeats 1000000 in
theorem rstep0_load (r g cp : Nat) (C : Cp) (L : List Int) (ex : Array Value) (e0 : Int) (w : World) (hD : IsD w r C) (hd : C.pl ≠ C.til) (hl : C.loaded = false) (n : Nat) (he : 0 ≤ e0 ∧ e0 ≤ 0) (hn : Rg.place ⟨C.a, C.l⟩ C.pl = n) (hk : n < L.length) (hG : TBlk w g (ints L ++ ex) 2) (hrg : r ≠ g) :
    Calls Try.prog 84 #[.pointer (some ⟨r, 0, none⟩), .slice (some ⟨g, 0, none⟩) L.length cp, .int .i64 e0, .int .i64 0] w fun e w' => e = .returned (.tuple #[.bool false, .bool true, .int .i64 0]) ∧ IsD w' r { C with x := L.getD n 0, loaded := true } ∧ TBlk w' g (ints L ++ ex) 2 ∧ Fr (fun i => i = r) w w' := by
  obtain ⟨a, l, b, k, p, u, x, t⟩ := C
  simp only at hd hl hn
  subst hl
  have hdd : (p == u) = false := by simpa using hd
  clear hd
  have HP := hid (fun (v : World) => rplace_any a l p v)
  obtain ⟨y0, hy0⟩ : ∃ y, Rg.place ⟨a, l⟩ p = y := ⟨_, rfl⟩
  rw [hy0] at HP
  have hy1 := hy0
  obtain ⟨y1, hy2⟩ : ∃ y1, y0 = y1 := ⟨_, rfl⟩
  subst hy2
  rw [hy0] at hn
  subst hn
  have te0 : decide (e0 < 0) = false := by simp; omega
  have te1 : decide (0 < e0) = false := by simp; omega
  have te2 : decide ((L.length : Int) ≤ (n : Int)) = false := by simp; omega
  have te2' : decide (L.length ≤ n) = false := by simp; omega
  have HD := hid hD
  have HFd := hid (Fr.refl (fun _ => False) w)
  obtain ⟨z, hz⟩ : ∃ z, L.getD n 0 = z := ⟨_, rfl⟩
  rw [hz]
  have HZ := hid hz
  clear hz
  have HG := hid hG
  have HRG := hid hrg
  clear hD hy0 hy1 hG hrg
  have d4 := Blk.cell HD.out (i := 4) rfl
  have d5 := Blk.cell HD.out (i := 5) rfl
  go_enter Try.func84, Try.ntmps84
  go_upto_region 1 with fail
  go_quiet (fail)
  go_upto_region 3 with fail
  have HFd := hid (Fr.drewN (fun _ => False) w nq)
  have HS := hid (show ∀ w', Fr (fun _ => False) w w' → w'.cell? ⟨r, 0, none⟩ = some (.int .i64 a) ∧ w'.cell? ⟨r, 1, none⟩ = some (.int .i64 l) ∧ w'.cell? ⟨r, 4, none⟩ = some (.int .i64 p) from fun w' F => ⟨Blk.cell (HD.out.same F) (i := 0) rfl, Blk.cell (HD.out.same F) (i := 1) rfl, Blk.cell (HD.out.same F) (i := 4) rfl⟩)
  go_region_held3 (fun w' => w'.cell? ⟨r, 0, none⟩ = some (.int .i64 a) ∧ w'.cell? ⟨r, 1, none⟩ = some (.int .i64 l) ∧ w'.cell? ⟨r, 4, none⟩ = some (.int .i64 p))
    (first | exact HS.out _ HFd.out | exact HS.out _ (HFd.out.trans (Fr.drew _ _)))
    (first | (go_at_call 67; (with_reducible refine (HP.out _).mono ?_); rintro e w6 ⟨rfl, hF6⟩; have HFd := hid (HFd.out.trans (Fr.trans (by first | exact Fr.refl _ _ | exact Fr.drew _ _) hF6)); clear hF6))
  all_goals
    have d6 := Blk.cell (HD.out.same HFd.out) (i := 6) rfl
    have hD7 := HD.out.same HFd.out
    have hG7 := HG.out.keep HFd.out id
    have hne := HRG.out
    have hne2 : g ≠ r := fun e => HRG.out e.symm
    have gk : _ := hG7.blk.cell (ints_ex L ex n hk)
    have gf := hG7.blk.frozen n
    rw [HZ.out] at gk
    have f4 := Blk.frozen hD7 4
    have e4 := Blk.cell hD7 (i := 4) rfl
    have f5 := Blk.frozen hD7 5
    have e5 := Blk.cell hD7 (i := 5) rfl
    have f6 := Blk.frozen hD7 6
    have e6 := Blk.cell hD7 (i := 6) rfl
    have f7 := Blk.frozen hD7 7
    have e7 := Blk.cell hD7 (i := 7) rfl
    go_wp2_with fail
    go_ret3
    have hF9 : Fr (fun i => i = r) w6 ((w6.setCell ⟨r, 7, none⟩ (.int .i64 z)).setCell ⟨r, 6, none⟩ (.bool true)) := (Fr.setCell (S := fun i => i = r) _ _ _ rfl).trans (Fr.setCell _ _ _ rfl)
    refine ⟨rfl, ?_, hG7.keep hF9 hne2, (HFd.out.mono (fun _ h => h.elim)).trans hF9⟩
    simpa [IsD] using Blk.set (Blk.set hD7 7 (.int .i64 z)) 6 (.bool true)

set_option maxRecDepth 100000 in
set_option maxHeartbeats 1000000 in
theorem rstep0_store (r g cp : Nat) (C : Cp) (L : List Int) (ex : Array Value) (e0 : Int) (w : World) (hD : IsD w r C) (hd : C.pl ≠ C.til) (hl : C.loaded = true) (n : Nat) (he : 0 ≤ e0 ∧ e0 ≤ 0) (hn : Rg.place ⟨C.b, C.k⟩ C.pl = n) (hk : n < L.length) (hG : TBlk w g (ints L ++ ex) 2) (hrg : r ≠ g) (hlo : -9223372036854775808 ≤ C.pl) (hhi : C.pl < 9223372036854775807) :
    Calls Try.prog 84 #[.pointer (some ⟨r, 0, none⟩), .slice (some ⟨g, 0, none⟩) L.length cp, .int .i64 e0, .int .i64 0] w fun e w' => e = .returned (.tuple #[.bool (C.pl + 1 == C.til), .bool true, .int .i64 0]) ∧ IsD w' r { C with pl := C.pl + 1, loaded := false } ∧ TBlk w' g (ints (L.set n C.x) ++ ex) 2 ∧ Fr (fun i => i = r ∨ i = g) w w' := by
  obtain ⟨a, l, b, k, p, u, x, t⟩ := C
  simp only at hd hl hn hlo hhi
  subst hl
  have hdd : (p == u) = false := by simpa using hd
  clear hd
  have HP := hid (fun (v : World) => rplace_any a l p v)
  obtain ⟨y0, hy0⟩ : ∃ y, Rg.place ⟨a, l⟩ p = y := ⟨_, rfl⟩
  rw [hy0] at HP
  have HP2 := hid (fun (v : World) => rplace_any b k p v)
  obtain ⟨y1, hy1⟩ : ∃ y, Rg.place ⟨b, k⟩ p = y := ⟨_, rfl⟩
  rw [hy1] at HP2
  rw [hy1] at hn
  subst hn
  have te0 : decide (e0 < 0) = false := by simp; omega
  have te1 : decide (0 < e0) = false := by simp; omega
  have te2 : decide ((L.length : Int) ≤ (n : Int)) = false := by simp; omega
  have te2' : decide (L.length ≤ n) = false := by simp; omega
  have HD := hid hD
  have HFd := hid (Fr.refl (fun _ => False) w)
  have HG := hid hG
  have HRG := hid hrg
  clear hD hy0 hy1 hG hrg
  have d4 := Blk.cell HD.out (i := 4) rfl
  have d5 := Blk.cell HD.out (i := 5) rfl
  go_enter Try.func84, Try.ntmps84
  go_upto_region 1 with fail
  go_quiet (fail)
  go_upto_region 3 with fail
  have HFd := hid (Fr.drewN (fun _ => False) w nq)
  have HS := hid (show ∀ w', Fr (fun _ => False) w w' → w'.cell? ⟨r, 0, none⟩ = some (.int .i64 a) ∧ w'.cell? ⟨r, 1, none⟩ = some (.int .i64 l) ∧ w'.cell? ⟨r, 4, none⟩ = some (.int .i64 p) from fun w' F => ⟨Blk.cell (HD.out.same F) (i := 0) rfl, Blk.cell (HD.out.same F) (i := 1) rfl, Blk.cell (HD.out.same F) (i := 4) rfl⟩)
  go_region_held3 (fun w' => w'.cell? ⟨r, 0, none⟩ = some (.int .i64 a) ∧ w'.cell? ⟨r, 1, none⟩ = some (.int .i64 l) ∧ w'.cell? ⟨r, 4, none⟩ = some (.int .i64 p))
    (first | exact HS.out _ HFd.out | exact HS.out _ (HFd.out.trans (Fr.drew _ _)))
    (first | (go_at_call 67; (with_reducible refine (HP.out _).mono ?_); rintro e w6 ⟨rfl, hF6⟩; have HFd := hid (HFd.out.trans (Fr.trans (by first | exact Fr.refl _ _ | exact Fr.drew _ _) hF6)); clear hF6))
  all_goals
    have d6 := Blk.cell (HD.out.same HFd.out) (i := 6) rfl
    go_upto_region 5 with fail
    have r0 := Blk.cell (HD.out.same HFd.out) (i := 2) rfl
    have HS := hid (show ∀ w', Fr (fun _ => False) w w' → w'.cell? ⟨r, 2, none⟩ = some (.int .i64 b) ∧ w'.cell? ⟨r, 3, none⟩ = some (.int .i64 k) ∧ w'.cell? ⟨r, 4, none⟩ = some (.int .i64 p) from fun w' F => ⟨Blk.cell (HD.out.same F) (i := 2) rfl, Blk.cell (HD.out.same F) (i := 3) rfl, Blk.cell (HD.out.same F) (i := 4) rfl⟩)
    go_region_held3 (fun w' => w'.cell? ⟨r, 2, none⟩ = some (.int .i64 b) ∧ w'.cell? ⟨r, 3, none⟩ = some (.int .i64 k) ∧ w'.cell? ⟨r, 4, none⟩ = some (.int .i64 p))
      (first | exact HS.out _ HFd.out | exact HS.out _ (HFd.out.trans (Fr.drew _ _)))
      (first | (go_at_call 67; (with_reducible refine (HP2.out _).mono ?_); rintro e w6 ⟨rfl, hF6⟩; have HFd := hid (HFd.out.trans (Fr.trans (by first | exact Fr.refl _ _ | exact Fr.drew _ _) hF6)); clear hF6))
    all_goals
      have d6 := Blk.cell (HD.out.same HFd.out) (i := 6) rfl
      have hD7 := HD.out.same HFd.out
      have hG7 := HG.out.keep HFd.out id
      have hne := HRG.out
      have hne2 : g ≠ r := fun e => HRG.out e.symm
      have gk : _ := hG7.blk.cell (ints_ex L ex n hk)
      have gf := hG7.blk.frozen n
      obtain ⟨z, hz⟩ : ∃ z, L.getD n 0 = z := ⟨_, rfl⟩
      rw [hz] at gk
      have f4 := Blk.frozen hD7 4
      have e4 := Blk.cell hD7 (i := 4) rfl
      have f5 := Blk.frozen hD7 5
      have e5 := Blk.cell hD7 (i := 5) rfl
      have f6 := Blk.frozen hD7 6
      have e6 := Blk.cell hD7 (i := 6) rfl
      have f7 := Blk.frozen hD7 7
      have e7 := Blk.cell hD7 (i := 7) rfl
      have q1 : p + 1 ≤ 9223372036854775807 := by omega
      have q2 : -9223372036854775808 ≤ p + 1 := by omega
      clear hz
      go_upto_region 15 with fail
      go_quiet (fail)
      go_wp2_with fail
      go_ret3
      refine ⟨rfl, ?_, ?_, ?_⟩
      · have h9 := Blk.set (Blk.set (Blk.far hD7 n (.int .i64 x) hne) 6 (.bool false)) 4 (.int .i64 (p + 1))
        exact Blk.drewN (by simpa [IsD] using h9) _
      · rw [← ints_ex_set _ _ _ _ hk]
        exact TBlk.drewN (TBlk.far (TBlk.far (hG7.set n (.int .i64 x)) 6 _ hne2) 4 _ hne2) _
      · exact (HFd.out.mono (fun _ h => h.elim)).trans (((Fr.setCell (S := fun i => i = r ∨ i = g) _ _ _ (.inr rfl)).trans ((Fr.setCell _ _ _ (.inl rfl)).trans (Fr.setCell _ _ _ (.inl rfl)))).trans (Fr.drewN _ _ _))

end Go.Proofs.Ytiofdfgcghiibaa
