/-
  The document's operations of a deque: how one begins, a step of any, and what it tells.
-/
import Derived.Test.YtiofdfgcghiibaaRefOp4
namespace Go.Proofs.Ytiofdfgcghiibaa
open Go.RowKit
set_option linter.unusedVariables false

set_option maxHeartbeats 400000 in
theorem rbegin_ok (most x : Int) (kind : Nat) (k : Int) (hk : k = kind) (w : World) :
    Calls Try.prog 15 #[.agg #[.int .i64 0, .int .i64 most], .int .i64 k, .int .i64 x] w fun e w' => ∃ r, e = .returned (.pointer (some ⟨r, 0, none⟩)) ∧ (∀ cp, RO w' r cp most (beginOp kind x)) ∧ Fr (fun _ => False) w w' ∧ w.heap.size ≤ r ∧ r < w'.heap.size := by
  have HK := hid hk
  clear hk
  go_enter Try.func15, Try.ntmps15
  go_wp2_with fail
  go_ret
  refine ⟨w.heap.size + 1, rfl, fun cp => ⟨.pointer none, ?_, fun _ h => by cases h⟩, (Fr.alloc _ _ _).trans (Fr.alloc _ _ _), by omega, by simp⟩
  rw [HK.out]
  exact (TBlk.new _ _ _).at (by simp)

/-- What the law tells of the document's operation. -/
def DOp.tellR (o : DOp) : Int := if o.how = 2 ∨ (o.how = 1 ∧ o.kind ≠ 0) then o.got else 0

set_option maxHeartbeats 800000 in
theorem rgot_ok (r cp : Nat) (most : Int) (op : DOp) (w : World) (hO : RO w r cp most op) :
    Calls Try.prog 21 #[.pointer (some ⟨r, 0, none⟩)] w fun e w' => e = .returned (.int .i64 op.tellR) ∧ w = w' := by
  obtain ⟨cv, hO, _⟩ := hO
  unfold rc16 at hO
  have k2 := hO.cell (i := 2) rfl
  have k13 := hO.cell (i := 13) rfl
  have k14 := hO.cell (i := 14) rfl
  obtain ⟨kind, nx, x, bo, t, rg, tt, pl, cx, ld, won, how, got, err⟩ := op
  unfold DOp.tellR
  simp only at k2 k13 k14 ⊢
  clear hO
  rcases h2 : ((how : Int) == 2) with _ | _
  · rcases h1 : ((how : Int) == 1) with _ | _
    · have HN := hid (show ¬ (how = 2 ∨ (how = 1 ∧ kind ≠ 0)) from by simp at h1 h2; omega)
      rw [if_neg HN.out]
      go_enter Try.func21, Try.ntmps21
      go_wp2_with fail
      go_ret
      exact ⟨rfl, rfl⟩
    · rcases h0 : ((kind : Int) != 0) with _ | _
      · have HN := hid (show ¬ (how = 2 ∨ (how = 1 ∧ kind ≠ 0)) from by simp at h0 h1 h2; omega)
        rw [if_neg HN.out]
        go_enter Try.func21, Try.ntmps21
        go_wp2_with fail
        go_ret
        exact ⟨rfl, rfl⟩
      · have HN := hid (show (how = 2 ∨ (how = 1 ∧ kind ≠ 0)) from by simp at h0 h1 h2; omega)
        rw [if_pos HN.out]
        go_enter Try.func21, Try.ntmps21
        go_wp2_with fail
        go_ret
        exact ⟨rfl, rfl⟩
  · have HN := hid (show (how = 2 ∨ (how = 1 ∧ kind ≠ 0)) from by simp at h2; omega)
    rw [if_pos HN.out]
    go_enter Try.func21, Try.ntmps21
    go_wp2_with fail
    go_ret
    exact ⟨rfl, rfl⟩

set_option maxHeartbeats 400000 in
theorem rover_ok (r cp c : Nat) (most x y : Int) (op : DOp) (w : World) (hO : RO w r cp most op) (h0 : op.how ≠ 0) (h2 : op.how ≠ 2) :
    Calls Try.prog 19 #[.pointer (some ⟨r, 0, none⟩), .pointer (some ⟨c, 0, none⟩), .int .i64 x, .int .i64 y] w fun e w' => e = .returned (.tuple #[]) ∧ w = w' := by
  obtain ⟨cv, hO, _⟩ := hO
  unfold rc16 at hO
  obtain ⟨hh, k13, t1, t2⟩ : ∃ hh : Int, w.cell? ⟨r, 13, none⟩ = some (.int .i64 hh) ∧ (hh != 0) = true ∧ (hh != 2) = true :=
    ⟨(op.how : Int), hO.cell (i := 13) rfl, by simp; omega, by simp; omega⟩
  clear hO h0 h2
  go_enter Try.func19, Try.ntmps19
  go_wp2_with fail
  refine bodyPost_ret (v := .tuple #[]) (by simp [results, Try.results19, go_sem]) rfl ?_
  exact ⟨rfl, rfl⟩

set_option maxHeartbeats 400000 in
theorem rbad_ok (r cp c : Nat) (most x : Int) (op : DOp) (w : World) (hO : RO w r cp most op) (hh : op.how = 0 ∨ op.how = 2) (hx : x < 0 ∨ 4 < x) (hcp : cp ≠ r) :
    Calls Try.prog 19 #[.pointer (some ⟨r, 0, none⟩), .pointer (some ⟨c, 0, none⟩), .int .i64 x, .int .i64 4] w fun e w' => e = .returned (.tuple #[]) ∧ RO w' r cp most (op.brk 10) ∧ Fr (fun k => k = r) w w' := by
  have HB := hid (rbroke_ok r cp most 10 op w hO hcp)
  obtain ⟨cv, hO, _⟩ := hO
  unfold rc16 at hO
  have k13 := hO.cell (i := 13) rfl
  clear hO
  rcases hh with hh | hh
  all_goals
    rw [hh] at k13
    have k13 : w.cell? ⟨r, 13, none⟩ = some (.int .i64 _) := k13
    rcases hx1 : decide (x < 0) with _ | _
    · have hx2 : decide (4 < x) = true := by simp at hx1; simp; omega
      clear hx
      go_enter Try.func19, Try.ntmps19
      go_wp2_with fail
      refine HB.out.mono ?_
      rintro e w1 ⟨rfl, h1, h2⟩
      have H1 := hid h1
      have H2 := hid h2
      clear h1 h2
      go_wp2_with fail
      refine bodyPost_ret (v := .tuple #[]) (by simp [results, Try.results19, go_sem]) rfl ?_
      exact ⟨rfl, H1.out, H2.out⟩
    · clear hx
      go_enter Try.func19, Try.ntmps19
      go_wp2_with fail
      refine HB.out.mono ?_
      rintro e w1 ⟨rfl, h1, h2⟩
      have H1 := hid h1
      have H2 := hid h2
      clear h1 h2
      go_wp2_with fail
      refine bodyPost_ret (v := .tuple #[]) (by simp [results, Try.results19, go_sem]) rfl ?_
      exact ⟨rfl, H1.out, H2.out⟩

def subF (k : Nat) : Nat := if k = 0 then 57 else if k = 1 then 58 else 59
def GoP (Q : World → Prop) (e : Ending) (w' : World) : Prop := e = .returned (.tuple #[]) ∧ Q w'

set_option maxHeartbeats 400000 in
theorem rgo_push (B c g r cp n cap : Nat) (L : List Int) (most size did x : Int) (op : DOp) (w : World) (Q : World → Prop) (hO : RO w r cp most op) (hC : RC w B c g L n cap size did) (hS : RSep c g r cp) (hk : op.kind = 0) (hh : op.how = 0 ∨ op.how = 2) (hx0 : 0 ≤ x) (hx4 : x ≤ 4) (hd0 : 0 ≤ did) (hd1 : did ≤ 100000)
    (hsub : Calls Try.prog 57 #[.pointer (some ⟨r, 0, none⟩), .pointer (some ⟨c, 0, none⟩)] (w.setCell ⟨c, 2, none⟩ (.int .i64 (did + 1))) (GoP Q)) :
    Calls Try.prog 19 #[.pointer (some ⟨r, 0, none⟩), .pointer (some ⟨c, 0, none⟩), .int .i64 x, .int .i64 4] w (GoP Q) := by
  have HSU := hid hsub
  obtain ⟨cv, hO, _⟩ := hO
  unfold rc16 at hO
  have k13 := hO.cell (i := 13) rfl
  have k2 := hO.cell (i := 2) rfl
  have c2 := hC.hc.cell (i := 2) rfl
  have f2 := hC.hc.frozen 2
  have n1 : r ≠ c := hS.rc
  have n2 : c ≠ r := hS.rc.symm
  have tx1 : decide (x < 0) = false := by simp; omega
  have tx2 : decide (4 < x) = false := by simp; omega
  clear hO hC hS hsub
  rw [hk] at k2
  have k2 : w.cell? ⟨r, 2, none⟩ = some (.int .i64 0) := k2
  rcases hh with hh | hh
  · rw [hh] at k13
    have k13 : w.cell? ⟨r, 13, none⟩ = some (.int .i64 0) := k13
    clear hh hk
    go_enter Try.func19, Try.ntmps19
    go_wp2_with fail
    refine HSU.out.mono ?_
    rintro e w1 ⟨rfl, hq⟩
    have HQ := hid hq
    clear hq
    go_wp2_with fail
    refine bodyPost_end (v := .tuple #[]) (by simp [results, Try.results19, go_sem]) rfl ?_
    exact ⟨rfl, HQ.out⟩
  · rw [hh] at k13
    have k13 : w.cell? ⟨r, 13, none⟩ = some (.int .i64 2) := k13
    clear hh hk
    go_enter Try.func19, Try.ntmps19
    go_wp2_with fail
    refine HSU.out.mono ?_
    rintro e w1 ⟨rfl, hq⟩
    have HQ := hid hq
    clear hq
    go_wp2_with fail
    refine bodyPost_end (v := .tuple #[]) (by simp [results, Try.results19, go_sem]) rfl ?_
    exact ⟨rfl, HQ.out⟩

set_option maxHeartbeats 400000 in
theorem rgo_pop (B c g r cp n cap : Nat) (L : List Int) (most size did x : Int) (op : DOp) (w : World) (Q : World → Prop) (hO : RO w r cp most op) (hC : RC w B c g L n cap size did) (hS : RSep c g r cp) (hk : op.kind = 1) (hh : op.how = 0 ∨ op.how = 2) (hx0 : 0 ≤ x) (hx4 : x ≤ 4) (hd0 : 0 ≤ did) (hd1 : did ≤ 100000)
    (hsub : Calls Try.prog 58 #[.pointer (some ⟨r, 0, none⟩), .pointer (some ⟨c, 0, none⟩)] (w.setCell ⟨c, 2, none⟩ (.int .i64 (did + 1))) (GoP Q)) :
    Calls Try.prog 19 #[.pointer (some ⟨r, 0, none⟩), .pointer (some ⟨c, 0, none⟩), .int .i64 x, .int .i64 4] w (GoP Q) := by
  have HSU := hid hsub
  obtain ⟨cv, hO, _⟩ := hO
  unfold rc16 at hO
  have k13 := hO.cell (i := 13) rfl
  have k2 := hO.cell (i := 2) rfl
  have c2 := hC.hc.cell (i := 2) rfl
  have f2 := hC.hc.frozen 2
  have n1 : r ≠ c := hS.rc
  have n2 : c ≠ r := hS.rc.symm
  have tx1 : decide (x < 0) = false := by simp; omega
  have tx2 : decide (4 < x) = false := by simp; omega
  clear hO hC hS hsub
  rw [hk] at k2
  have k2 : w.cell? ⟨r, 2, none⟩ = some (.int .i64 1) := k2
  rcases hh with hh | hh
  · rw [hh] at k13
    have k13 : w.cell? ⟨r, 13, none⟩ = some (.int .i64 0) := k13
    clear hh hk
    go_enter Try.func19, Try.ntmps19
    go_wp2_with fail
    refine HSU.out.mono ?_
    rintro e w1 ⟨rfl, hq⟩
    have HQ := hid hq
    clear hq
    go_wp2_with fail
    refine bodyPost_end (v := .tuple #[]) (by simp [results, Try.results19, go_sem]) rfl ?_
    exact ⟨rfl, HQ.out⟩
  · rw [hh] at k13
    have k13 : w.cell? ⟨r, 13, none⟩ = some (.int .i64 2) := k13
    clear hh hk
    go_enter Try.func19, Try.ntmps19
    go_wp2_with fail
    refine HSU.out.mono ?_
    rintro e w1 ⟨rfl, hq⟩
    have HQ := hid hq
    clear hq
    go_wp2_with fail
    refine bodyPost_end (v := .tuple #[]) (by simp [results, Try.results19, go_sem]) rfl ?_
    exact ⟨rfl, HQ.out⟩

set_option maxHeartbeats 400000 in
theorem rgo_steal (B c g r cp n cap : Nat) (L : List Int) (most size did x : Int) (op : DOp) (w : World) (Q : World → Prop) (hO : RO w r cp most op) (hC : RC w B c g L n cap size did) (hS : RSep c g r cp) (hk : op.kind = 2) (hh : op.how = 0 ∨ op.how = 2) (hx0 : 0 ≤ x) (hx4 : x ≤ 4) (hd0 : 0 ≤ did) (hd1 : did ≤ 100000)
    (hsub : Calls Try.prog 59 #[.pointer (some ⟨r, 0, none⟩), .pointer (some ⟨c, 0, none⟩)] (w.setCell ⟨c, 2, none⟩ (.int .i64 (did + 1))) (GoP Q)) :
    Calls Try.prog 19 #[.pointer (some ⟨r, 0, none⟩), .pointer (some ⟨c, 0, none⟩), .int .i64 x, .int .i64 4] w (GoP Q) := by
  have HSU := hid hsub
  obtain ⟨cv, hO, _⟩ := hO
  unfold rc16 at hO
  have k13 := hO.cell (i := 13) rfl
  have k2 := hO.cell (i := 2) rfl
  have c2 := hC.hc.cell (i := 2) rfl
  have f2 := hC.hc.frozen 2
  have n1 : r ≠ c := hS.rc
  have n2 : c ≠ r := hS.rc.symm
  have tx1 : decide (x < 0) = false := by simp; omega
  have tx2 : decide (4 < x) = false := by simp; omega
  clear hO hC hS hsub
  rw [hk] at k2
  have k2 : w.cell? ⟨r, 2, none⟩ = some (.int .i64 2) := k2
  rcases hh with hh | hh
  · rw [hh] at k13
    have k13 : w.cell? ⟨r, 13, none⟩ = some (.int .i64 0) := k13
    clear hh hk
    go_enter Try.func19, Try.ntmps19
    go_wp2_with fail
    refine HSU.out.mono ?_
    rintro e w1 ⟨rfl, hq⟩
    have HQ := hid hq
    clear hq
    go_wp2_with fail
    refine bodyPost_end (v := .tuple #[]) (by simp [results, Try.results19, go_sem]) rfl ?_
    exact ⟨rfl, HQ.out⟩
  · rw [hh] at k13
    have k13 : w.cell? ⟨r, 13, none⟩ = some (.int .i64 2) := k13
    clear hh hk
    go_enter Try.func19, Try.ntmps19
    go_wp2_with fail
    refine HSU.out.mono ?_
    rintro e w1 ⟨rfl, hq⟩
    have HQ := hid hq
    clear hq
    go_wp2_with fail
    refine bodyPost_end (v := .tuple #[]) (by simp [results, Try.results19, go_sem]) rfl ?_
    exact ⟨rfl, HQ.out⟩

end Go.Proofs.Ytiofdfgcghiibaa
