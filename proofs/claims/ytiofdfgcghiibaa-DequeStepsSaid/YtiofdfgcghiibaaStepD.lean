/-
  Any step of any operation in memory, and what it tells.
-/
import Derived.Test.YtiofdfgcghiibaaBad
namespace Go.Proofs.Ytiofdfgcghiibaa
open Go.RowKit
set_option linter.unusedVariables false

section
variable {b : MB} {M : Mach} {s : List Int} {o q cp j : Nat} {most : Int} {w : World} {op : DOp}

theorem op_step (h : Pre w b M s o q cp most op j) :
    Calls Try.prog 18 #[.pointer (some ⟨o, 0, none⟩), .pointer (some ⟨b.m, 0, none⟩), .int .i64 j] w (OKPost b M s o q cp most op j w) := by
  have hin := h.hs.2.1
  have hl := h.hl
  obtain ⟨kind, nx, x, bo, t, rg, tt, pl, cx, ld, won, how, got, err⟩ := op
  unfold DOp.InR at hin
  unfold DOp.Live at hl
  simp only at hin hl
  subst hl
  obtain ⟨n1, ⟨rfl, n8⟩ | ⟨rfl, n8⟩ | ⟨rfl, n5⟩⟩ := hin
  · have hn : nx = 1 ∨ nx = 2 ∨ nx = 3 ∨ nx = 4 ∨ nx = 5 ∨ nx = 6 ∨ nx = 7 ∨ nx = 8 := by omega
    rcases hn with rfl | rfl | rfl | rfl | rfl | rfl | rfl | rfl
    · exact ok_u1 _ _ _ _ _ _ _ _ _ _ _ _ _ _ _ _ _ _ _ _ h
    · exact ok_u2 _ _ _ _ _ _ _ _ _ _ _ _ _ _ _ _ _ _ _ _ h
    · by_cases hc : bo - t < pow (rgOf (rd M 2)).l
      · exact ok_u3_room _ _ _ _ _ _ _ _ _ _ _ _ _ _ _ _ _ _ _ _ h hc
      · by_cases hc2 : most ≤ (rgOf (rd M 2)).l
        · exact ok_u3_full _ _ _ _ _ _ _ _ _ _ _ _ _ _ _ _ _ _ _ _ h hc hc2
        · exact ok_u3_more _ _ _ _ _ _ _ _ _ _ _ _ _ _ _ _ _ _ _ _ h hc hc2
    · exact ok_u4 _ _ _ _ _ _ _ _ _ _ _ _ _ _ _ _ _ _ _ _ h
    · cases ld
      · by_cases hp : pl = t
        · subst hp
          exact ok_u5_begin _ _ _ _ _ _ _ _ _ _ _ _ _ _ _ _ _ _ h
        · exact ok_u5_more _ _ _ _ _ _ _ _ _ _ _ _ _ _ _ _ _ _ _ h hp
      · exact ok_u5_store _ _ _ _ _ _ _ _ _ _ _ _ _ _ _ _ _ _ _ h
    · exact ok_u6 _ _ _ _ _ _ _ _ _ _ _ _ _ _ _ _ _ _ _ _ h
    · exact ok_u7 _ _ _ _ _ _ _ _ _ _ _ _ _ _ _ _ _ _ _ _ h
    · exact ok_u8 _ _ _ _ _ _ _ _ _ _ _ _ _ _ _ _ _ _ _ _ h
  · have hn : nx = 1 ∨ nx = 2 ∨ nx = 3 ∨ nx = 4 ∨ nx = 5 ∨ nx = 6 ∨ nx = 7 ∨ nx = 8 := by omega
    rcases hn with rfl | rfl | rfl | rfl | rfl | rfl | rfl | rfl
    · exact ok_o1 _ _ _ _ _ _ _ _ _ _ _ _ _ _ _ _ _ _ _ _ h
    · exact ok_o2 _ _ _ _ _ _ _ _ _ _ _ _ _ _ _ _ _ _ _ _ h
    · exact ok_o3 _ _ _ _ _ _ _ _ _ _ _ _ _ _ _ _ _ _ _ _ h
    · by_cases hc : bo - 1 < rd M 0
      · exact ok_o4_hi _ _ _ _ _ _ _ _ _ _ _ _ _ _ _ _ _ _ _ _ h hc
      · exact ok_o4_lo _ _ _ _ _ _ _ _ _ _ _ _ _ _ _ _ _ _ _ _ h hc
    · exact ok_o5 _ _ _ _ _ _ _ _ _ _ _ _ _ _ _ _ _ _ _ _ h
    · by_cases hc : t < bo - 1
      · exact ok_o6_far _ _ _ _ _ _ _ _ _ _ _ _ _ _ _ _ _ _ _ _ h hc
      · exact ok_o6_last _ _ _ _ _ _ _ _ _ _ _ _ _ _ _ _ _ _ _ _ h hc
    · by_cases hc : rd M 0 = t
      · exact ok_o7_won _ _ _ _ _ _ _ _ _ _ _ _ _ _ _ _ _ _ _ _ h hc
      · exact ok_o7_not _ _ _ _ _ _ _ _ _ _ _ _ _ _ _ _ _ _ _ _ h hc
    · by_cases hw : won = true
      · exact ok_o8_won _ _ _ _ _ _ _ _ _ _ _ _ _ _ _ _ _ _ _ _ h hw
      · exact ok_o8_not _ _ _ _ _ _ _ _ _ _ _ _ _ _ _ _ _ _ _ _ h (by simpa using hw)
  · have hn : nx = 1 ∨ nx = 2 ∨ nx = 3 ∨ nx = 4 ∨ nx = 5 := by omega
    rcases hn with rfl | rfl | rfl | rfl | rfl
    · exact ok_t1 _ _ _ _ _ _ _ _ _ _ _ _ _ _ _ _ _ _ _ _ h
    · by_cases hc : t < rd M 1
      · exact ok_t2_in _ _ _ _ _ _ _ _ _ _ _ _ _ _ _ _ _ _ _ _ h hc
      · exact ok_t2_no _ _ _ _ _ _ _ _ _ _ _ _ _ _ _ _ _ _ _ _ h hc
    · exact ok_t3 _ _ _ _ _ _ _ _ _ _ _ _ _ _ _ _ _ _ _ _ h
    · exact ok_t4 _ _ _ _ _ _ _ _ _ _ _ _ _ _ _ _ _ _ _ _ h
    · by_cases hc : rd M 0 = t
      · exact ok_t5_2_won _ _ _ _ _ _ _ _ _ _ _ _ _ _ _ _ _ _ _ _ h hc
      · exact ok_t5_2_not _ _ _ _ _ _ _ _ _ _ _ _ _ _ _ _ _ _ _ _ h hc

theorem op_bad (h : PreB w b M s o q cp most op) (e0 : Int) (he0 : e0 < 0 ∨ (s.length : Int) ≤ e0) :
    Calls Try.prog 18 #[.pointer (some ⟨o, 0, none⟩), .pointer (some ⟨b.m, 0, none⟩), .int .i64 e0] w (BadPost b M s o q cp most op 10 w) := by
  have hin := h.hin
  have hl := h.hl
  obtain ⟨kind, nx, x, bo, t, rg, tt, pl, cx, ld, won, how, got, err⟩ := op
  unfold DOp.InR at hin
  unfold DOp.Live at hl
  simp only at hin hl
  subst hl
  obtain ⟨n1, ⟨rfl, n8⟩ | ⟨rfl, n8⟩ | ⟨rfl, n5⟩⟩ := hin
  · have hn : nx = 1 ∨ nx = 2 ∨ nx = 3 ∨ nx = 4 ∨ nx = 5 ∨ nx = 6 ∨ nx = 7 ∨ nx = 8 := by omega
    rcases hn with rfl | rfl | rfl | rfl | rfl | rfl | rfl | rfl
    · exact bad_u1 _ _ _ _ _ _ 0 _ _ _ _ _ _ _ _ _ _ _ _ _ e0 he0 h
    · exact bad_u2 _ _ _ _ _ _ 0 _ _ _ _ _ _ _ _ _ _ _ _ _ e0 he0 h
    · exact bad_u3 _ _ _ _ _ _ 0 _ _ _ _ _ _ _ _ _ _ _ _ _ e0 he0 h
    · exact bad_u4 _ _ _ _ _ _ 0 _ _ _ _ _ _ _ _ _ _ _ _ _ e0 he0 h
    · cases hfr : fresh ⟨0, 5, x, bo, t, rg, tt, pl, cx, ld, won, 0, got, err⟩
      · exact bad_u5_more _ _ _ _ _ _ 0 _ _ _ _ _ _ _ _ _ _ _ _ _ e0 he0 h hfr
      · simp [fresh] at hfr
        obtain ⟨rfl, rfl⟩ := hfr
        exact bad_u5_begin _ _ _ _ _ _ _ _ _ _ _ _ _ _ _ _ _ e0 he0 h
    · exact bad_u6 _ _ _ _ _ _ 0 _ _ _ _ _ _ _ _ _ _ _ _ _ e0 he0 h
    · exact bad_u7 _ _ _ _ _ _ 0 _ _ _ _ _ _ _ _ _ _ _ _ _ e0 he0 h
    · exact bad_u8 _ _ _ _ _ _ 0 _ _ _ _ _ _ _ _ _ _ _ _ _ e0 he0 h
  · have hn : nx = 1 ∨ nx = 2 ∨ nx = 3 ∨ nx = 4 ∨ nx = 5 ∨ nx = 6 ∨ nx = 7 ∨ nx = 8 := by omega
    rcases hn with rfl | rfl | rfl | rfl | rfl | rfl | rfl | rfl
    · exact bad_o1 _ _ _ _ _ _ 0 _ _ _ _ _ _ _ _ _ _ _ _ _ e0 he0 h
    · exact bad_o2 _ _ _ _ _ _ 0 _ _ _ _ _ _ _ _ _ _ _ _ _ e0 he0 h
    · exact bad_o3 _ _ _ _ _ _ 0 _ _ _ _ _ _ _ _ _ _ _ _ _ e0 he0 h
    · cases hc : decide (IntKind.i64.wrap (bo - 1) < 0)
      · exact bad_o4_lo _ _ _ _ _ _ 0 _ _ _ _ _ _ _ _ _ _ _ _ _ e0 he0 h hc
      · exact bad_o4_hi _ _ _ _ _ _ 0 _ _ _ _ _ _ _ _ _ _ _ _ _ e0 he0 h hc
    · exact bad_o5 _ _ _ _ _ _ 0 _ _ _ _ _ _ _ _ _ _ _ _ _ e0 he0 h
    · cases hc : decide (t < IntKind.i64.wrap (bo - 1))
      · exact bad_o6_last _ _ _ _ _ _ 0 _ _ _ _ _ _ _ _ _ _ _ _ _ e0 he0 h hc
      · exact bad_o6_far _ _ _ _ _ _ 0 _ _ _ _ _ _ _ _ _ _ _ _ _ e0 he0 h hc
    · exact bad_o7 _ _ _ _ _ _ 0 _ _ _ _ _ _ _ _ _ _ _ _ _ e0 he0 h
    · by_cases hw : won = true
      · exact bad_o8_won _ _ _ _ _ _ 0 _ _ _ _ _ _ _ _ _ _ _ _ _ e0 he0 h hw
      · exact bad_o8_not _ _ _ _ _ _ 0 _ _ _ _ _ _ _ _ _ _ _ _ _ e0 he0 h (by simpa using hw)
  · have hn : nx = 1 ∨ nx = 2 ∨ nx = 3 ∨ nx = 4 ∨ nx = 5 := by omega
    rcases hn with rfl | rfl | rfl | rfl | rfl
    · exact bad_t1 _ _ _ _ _ _ 0 _ _ _ _ _ _ _ _ _ _ _ _ _ e0 he0 h
    · cases hc : decide (0 ≤ t)
      · exact bad_t2_in _ _ _ _ _ _ 0 _ _ _ _ _ _ _ _ _ _ _ _ _ e0 he0 h hc
      · exact bad_t2_no _ _ _ _ _ _ 0 _ _ _ _ _ _ _ _ _ _ _ _ _ e0 he0 h hc
    · exact bad_t3 _ _ _ _ _ _ 0 _ _ _ _ _ _ _ _ _ _ _ _ _ e0 he0 h
    · exact bad_t4 _ _ _ _ _ _ 0 _ _ _ _ _ _ _ _ _ _ _ _ _ e0 he0 h
    · exact bad_t5_2 _ _ _ _ _ _ 0 _ _ _ _ _ _ _ _ _ _ _ _ _ e0 he0 h

theorem op_full (h : PreB w b M s o q cp most op) (hk : op.kind = 0) (hn : op.nx = 4) (hj : j < s.length) (hf : (M.all.length : Int) - M.used < pow (op.rg.l + 1)) :
    Calls Try.prog 18 #[.pointer (some ⟨o, 0, none⟩), .pointer (some ⟨b.m, 0, none⟩), .int .i64 j] w (BadPost b M s o q cp most op 21 w) := by
  have hl := h.hl
  obtain ⟨kind, nx, x, bo, t, rg, tt, pl, cx, ld, won, how, got, err⟩ := op
  unfold DOp.Live at hl
  simp only at hl hk hn
  subst hk hn hl
  exact bad_u4_full _ _ _ _ _ _ _ _ _ _ _ _ _ _ _ _ _ _ _ _ h hj hf

/-- What an operation tells. -/
def DOp.tell (o : DOp) : Int := if o.how = 2 ∨ o.how = 1 then o.got else 0

theorem how_cast (n : Nat) : (((n : Int) != 0 && (n : Int) != 2) = true) ↔ (n ≠ 0 ∧ n ≠ 2) := by
  simp
  omega

/-- What is over stays so. -/
theorem op_still' (h : IsOp w b o q cp most op) (h0 : op.how ≠ 0) (h2 : op.how ≠ 2) (mp : Value) (hmp : mp = .pointer none ∨ ∃ a, mp = .pointer (some a)) (x : Int) :
    Calls Try.prog 18 #[.pointer (some ⟨o, 0, none⟩), mp, .int .i64 x] w fun e w' => e = .returned (.int .i64 (op.how : Nat)) ∧ w = w' := by
  have hh := (how_cast op.how).2 ⟨h0, h2⟩
  obtain ⟨sep, kk, hO, rep⟩ := h
  obtain ⟨c, hB, h6⟩ : ∃ c, Blk w q c ∧ c[6]? = some (.int .i64 op.how) := by
    rcases rep with ⟨_, ⟨_, wa, wl, cv, f, hB, _⟩ | ⟨_, f, hB, _⟩ | ⟨_, gv, f, hB, _⟩⟩ | ⟨e, c, hB, h6, _⟩
    · exact ⟨_, hB, rfl⟩
    · exact ⟨_, hB, rfl⟩
    · exact ⟨_, hB, rfl⟩
    · exact ⟨c, hB, by rw [e]; exact h6⟩
  have hk : op.kind = 0 ∨ op.kind = 1 ∨ op.kind = 2 := by omega
  rcases hk with k | k | k
  · exact still_push mp x op.how o q c w hmp (by rw [k] at hO; exact hO) hB h6 hh
  · exact still_pop mp x op.how o q c w hmp (by rw [k] at hO; exact hO) hB h6 hh
  · exact still_steal mp x op.how o q c w hmp (by rw [k] at hO; exact hO) hB h6 hh

theorem op_got' (h : IsOp w b o q cp most op) (hk2 : op.kind = 2 → op.how = 5 → op.got = 0) :
    Calls Try.prog 20 #[.pointer (some ⟨o, 0, none⟩)] w fun e w' => e = .returned (.int .i64 op.tell) ∧ w = w' := by
  obtain ⟨sep, kk, hO, rep⟩ := h
  obtain ⟨c, hB, h6, h7⟩ : ∃ c, Blk w q c ∧ c[6]? = some (.int .i64 op.how) ∧ (((op.how : Int) = 2 ∨ (op.how : Int) = 1) → c[7]? = some (.int .i64 op.got)) := by
    rcases rep with ⟨_, ⟨_, wa, wl, cv, f, hB, hg, _⟩ | ⟨_, f, hB, _, hg, _⟩ | ⟨_, gv, f, hB, _, hg, _⟩⟩ | ⟨e, c, hB, h6, _⟩
    · exact ⟨_, hB, rfl, fun _ => by rw [hg]; rfl⟩
    · exact ⟨_, hB, rfl, fun hh => by rw [hg (by omega)]; rfl⟩
    · exact ⟨_, hB, rfl, fun hh => by rw [← hg (by omega)]; rfl⟩
    · exact ⟨c, hB, by rw [e]; exact h6, fun hh => by omega⟩
  have et : op.tell = if (op.how : Int) = 2 ∨ (op.how : Int) = 1 then op.got else 0 := by
    unfold DOp.tell
    congr 1
    simp only [eq_iff_iff]
    omega
  rw [et]
  have hk : op.kind = 0 ∨ op.kind = 1 ∨ op.kind = 2 := by omega
  rcases hk with k | k | k
  · exact got_push op.how op.got o q c w (by rw [k] at hO; exact hO) hB h6 h7
  · exact got_pop op.how op.got o q c w (by rw [k] at hO; exact hO) hB h6 h7
  · exact got_steal op.how op.got o q c w (by rw [k] at hO; exact hO) hB h6 h7

theorem op_err' (h : IsOp w b o q cp most op) :
    Calls Try.prog 22 #[.pointer (some ⟨o, 0, none⟩)] w fun e w' => e = .returned (.int .i64 op.err) ∧ w = w' := by
  obtain ⟨sep, kk, hO, rep⟩ := h
  obtain ⟨c, hB, h8⟩ : ∃ c, Blk w q c ∧ c[8]? = some (.int .i64 op.err) := by
    rcases rep with ⟨_, ⟨_, wa, wl, cv, f, hB, _, he, _⟩ | ⟨_, f, hB, he, _⟩ | ⟨_, gv, f, hB, he, _⟩⟩ | ⟨e, c, hB, _, h8⟩
    · exact ⟨_, hB, by rw [he]; rfl⟩
    · exact ⟨_, hB, by rw [he]; rfl⟩
    · exact ⟨_, hB, by rw [he]; rfl⟩
    · exact ⟨c, hB, h8⟩
  have hk : op.kind = 0 ∨ op.kind = 1 ∨ op.kind = 2 := by omega
  rcases hk with k | k | k
  · exact err_push op.err o q c w (by rw [k] at hO; exact hO) hB h8
  · exact err_pop op.err o q c w (by rw [k] at hO; exact hO) hB h8
  · exact err_steal op.err o q c w (by rw [k] at hO; exact hO) hB h8

theorem op_still (h : IsOp w b o q cp most op) (h0 : op.how ≠ 0) (h2 : op.how ≠ 2) (mp : Value) (hmp : mp = .pointer none ∨ ∃ a, mp = .pointer (some a)) (x : Int) :
    Calls Try.prog 18 #[.pointer (some ⟨o, 0, none⟩), mp, .int .i64 x] w fun e w' => e = .returned (.int .i64 (op.how : Nat)) ∧ Fr (fun _ => False) w w' :=
  (op_still' h h0 h2 mp hmp x).mono fun _ _ ⟨a, b⟩ => ⟨a, Fr.of_eq b⟩
theorem op_got (h : IsOp w b o q cp most op) (hk2 : op.kind = 2 → op.how = 5 → op.got = 0) :
    Calls Try.prog 20 #[.pointer (some ⟨o, 0, none⟩)] w fun e w' => e = .returned (.int .i64 op.tell) ∧ Fr (fun _ => False) w w' :=
  (op_got' h hk2).mono fun _ _ ⟨a, b⟩ => ⟨a, Fr.of_eq b⟩
theorem op_err (h : IsOp w b o q cp most op) :
    Calls Try.prog 22 #[.pointer (some ⟨o, 0, none⟩)] w fun e w' => e = .returned (.int .i64 op.err) ∧ Fr (fun _ => False) w w' :=
  (op_err' h).mono fun _ _ ⟨a, b⟩ => ⟨a, Fr.of_eq b⟩

/-- Under way it stays so, till it is over. -/
theorem act_live (hl : op.Live) (hin : op.InR) (h2 : (op.act most M).1.how = 0 ∨ (op.act most M).1.how = 2) : (op.act most M).1.Live := by
  obtain ⟨kind, nx, x, bo, t, rg, tt, pl, cx, ld, won, how, got, err⟩ := op
  unfold DOp.InR at hin
  unfold DOp.Live at hl ⊢
  simp only at hin hl
  subst hl
  obtain ⟨n1, ⟨rfl, n8⟩ | ⟨rfl, n8⟩ | ⟨rfl, n5⟩⟩ := hin
  · have hn : nx = 1 ∨ nx = 2 ∨ nx = 3 ∨ nx = 4 ∨ nx = 5 ∨ nx = 6 ∨ nx = 7 ∨ nx = 8 := by omega
    rcases hn with rfl | rfl | rfl | rfl | rfl | rfl | rfl | rfl
    all_goals (simp [DOp.act, DOp.push1, DOp.push2, DOp.push3, DOp.push4, DOp.push5, DOp.push6, DOp.push7, DOp.push8] at h2 ⊢)
    · by_cases hc : bo - t < (rgOf (rd M 2)).size
      · simp [hc]
      · by_cases hc2 : most ≤ (rgOf (rd M 2)).l
        · simp [hc, hc2] at h2
        · simp [hc, hc2]
    · split <;> simp
  · have hn : nx = 1 ∨ nx = 2 ∨ nx = 3 ∨ nx = 4 ∨ nx = 5 ∨ nx = 6 ∨ nx = 7 ∨ nx = 8 := by omega
    rcases hn with rfl | rfl | rfl | rfl | rfl | rfl | rfl | rfl
    all_goals (simp [DOp.act, DOp.pop1, DOp.pop2, DOp.pop3, DOp.pop4, DOp.pop5, DOp.pop6, DOp.pop7, DOp.pop8] at h2 ⊢)
    · by_cases hc : t < bo - 1
      · simp [hc] at h2
      · simp [hc]
    · split <;> simp
    · cases won <;> simp at h2
  · have hn : nx = 1 ∨ nx = 2 ∨ nx = 3 ∨ nx = 4 ∨ nx = 5 := by omega
    rcases hn with rfl | rfl | rfl | rfl | rfl
    all_goals (simp [DOp.act, DOp.steal1, DOp.steal2, DOp.steal3, DOp.steal4, DOp.steal5] at h2 ⊢)
    · by_cases hc : t < rd M 1
      · simp [hc]
      · simp [hc] at h2
    · by_cases hc : rd M 0 = t
      · simp [hc] at h2
      · simp [hc] at h2
end
end Go.Proofs.Ytiofdfgcghiibaa
