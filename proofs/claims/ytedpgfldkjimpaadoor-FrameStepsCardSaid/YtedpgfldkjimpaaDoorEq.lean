/-
  When two rows of numbers, two tasks are the same.
-/
import Derived.Test.YtedpgfldkjimpaaDoorFrm
import Derived.Laws.StructEq
namespace Go.Proofs.YtedpgfldkjimpaaDoor
open Go.RowKit

/-- The first n numbers are the same. -/
def sameN (n : Nat) (x y : Nat → Int) : Bool := (List.range n).all fun j => x j == y j

theorem sameN_self (n : Nat) (x : Nat → Int) : sameN n x x = true := by simp [sameN]

theorem run_equalIn_ints (P : Program) (w : World) (d : Nat) (t e : TypeId) (n : Nat) (ht : P.underlying t = some (.array n e)) (he : P.underlying e = some (.int .i64)) (hsz : ∀ w, (sizeOf e).run P w = .ok 1 w)
    (X Y : Array Value) (xs ys : Nat → Int) (hx : ∀ j, j < n → X[j]? = some (.int .i64 (xs j))) (hy : ∀ j, j < n → Y[j]? = some (.int .i64 (ys j))) :
    (Op.equalIn (d + 2) t (.agg X) (.agg Y)).run P w = .ok (sameN n xs ys) w := by
  rw [sameN, List.range_eq_range', Op.equalIn]
  simp only [Sem.run_bind, run_underlying ht, Result.andThen_ok, hsz, Std.Legacy.Range.forIn_eq_forIn_range', Std.Legacy.Range.size, Nat.sub_zero, Nat.add_sub_cancel, Nat.div_one]
  have hl : ∀ i ∈ List.range' 0 n 1, i < n := fun i hi => by simpa using (List.mem_range'_1.1 hi).2
  generalize List.range' 0 n 1 = l at hl ⊢
  induction l with
  | nil => simp
  | cons i l ih =>
    have hi : i < n := hl i (by simp)
    have px : (part e X (i * 1)).run P w = .ok (.int .i64 (xs i)) w := by
      rw [Nat.mul_one]
      simp [part, isAgg, run_underlying he, hx i hi]
    have py : (part e Y (i * 1)).run P w = .ok (.int .i64 (ys i)) w := by
      rw [Nat.mul_one]
      simp [part, isAgg, run_underlying he, hy i hi]
    have pe := run_equalIn_int (P := P) w d e .i64 .i64 (xs i) (ys i) he
    simp only [List.forIn_cons, Sem.run_bind, px, py, pe, Result.andThen_ok, List.all_cons]
    cases hb : (xs i == ys i)
    · simp
    · simp only [Bool.not_true, Bool.false_eq_true, if_false, Sem.run_pure, Result.andThen_ok, Bool.true_and]
      exact ih fun j hj => hl j (by simp [hj])

def row8 (x : Nat → Int) : Array Value := #[.int .i64 (x 0), .int .i64 (x 1), .int .i64 (x 2), .int .i64 (x 3), .int .i64 (x 4), .int .i64 (x 5), .int .i64 (x 6), .int .i64 (x 7)]
theorem row8_at (x : Nat → Int) (j : Nat) (h : j < 8) : (row8 x)[j]? = some (.int .i64 (x j)) := by
  rcases j with _ | _ | _ | _ | _ | _ | _ | _ | j
  all_goals first | rfl | omega

theorem size64 (w : World) : (sizeOf 2).run Tryd.prog w = .ok 1 w := by kernel_rfl
theorem sizeI (w : World) : (sizeOf 3).run Tryd.prog w = .ok 1 w := by kernel_rfl
theorem sizeR (w : World) : (sizeOf 22).run Tryd.prog w = .ok 8 w := by kernel_rfl
theorem sizeH (w : World) : (sizeOf 23).run Tryd.prog w = .ok 8 w := by kernel_rfl

theorem eqR (d : Nat) (x y : Nat → Int) (w : World) : (Op.equalIn (d + 2) 22 (.agg (row8 x)) (.agg (row8 y))).run Tryd.prog w = .ok (sameN 8 x y) w :=
  run_equalIn_ints _ w d _ _ 8 Tryd.underlying22 Tryd.underlying2 size64 _ _ x y (row8_at x) (row8_at y)
theorem eqH (d : Nat) (x y : Nat → Int) (w : World) : (Op.equalIn (d + 2) 23 (.agg (row8 x)) (.agg (row8 y))).run Tryd.prog w = .ok (sameN 8 x y) w :=
  run_equalIn_ints _ w d _ _ 8 Tryd.underlying23 Tryd.underlying3 sizeI _ _ x y (row8_at x) (row8_at y)

theorem bopR (x y : Nat → Int) (w : World) : (binOp .eql 22 (.agg (row8 x)) (.agg (row8 y))).run Tryd.prog w = .ok (.bool (sameN 8 x y)) w := by
  rw [run_eql_struct, eqR 9998 x y w]
  rfl
theorem bopH (x y : Nat → Int) (w : World) : (binOp .eql 23 (.agg (row8 x)) (.agg (row8 y))).run Tryd.prog w = .ok (.bool (sameN 8 x y)) w := by
  rw [run_eql_struct, eqH 9998 x y w]
  rfl
theorem bopRn (x y : Nat → Int) (w : World) : (binOp .neq 22 (.agg (row8 x)) (.agg (row8 y))).run Tryd.prog w = .ok (.bool (!sameN 8 x y)) w := by
  rw [run_neq_struct, eqR 9998 x y w]
  rfl
theorem bopHn (x y : Nat → Int) (w : World) : (binOp .neq 23 (.agg (row8 x)) (.agg (row8 y))).run Tryd.prog w = .ok (.bool (!sameN 8 x y)) w := by
  rw [run_neq_struct, eqH 9998 x y w]
  rfl

/-- Two tasks are the same. -/
def Frm.same (F G : Frm) : Bool := F.f == G.f && (F.pc == G.pc && (sameN 8 F.r G.r && (sameN 8 F.h G.h && F.st == G.st)))

theorem Frm.same_self (F : Frm) : F.same F = true := by simp [Frm.same, sameN_self]
theorem Frm.same_ne {F G : Frm} (h : F.st ≠ G.st) : F.same G = false := by
  have : (F.st == G.st) = false := beq_eq_false_iff_ne.2 h
  simp [Frm.same, this]

theorem frm_fields : Tryd.prog.underlying 25 = some (.struct (Tryd.prog.fieldsOf 25)) := by kernel_rfl
theorem frm_plain : Tryd.prog.stoodInHeld 25 = false := by kernel_rfl

theorem partR (F : Frm) (w : World) : (part 22 F.cells 2).run Tryd.prog w = .ok (.agg (row8 F.r)) w := by
  simp [part, isAgg, run_underlying Tryd.underlying22, Frm.cells, row8]
theorem partH (F : Frm) (w : World) : (part 23 F.cells 10).run Tryd.prog w = .ok (.agg (row8 F.h)) w := by
  simp [part, isAgg, run_underlying Tryd.underlying23, Frm.cells, row8]
theorem partI (F : Frm) (k : Nat) (x : Int) (h : F.cells[k]? = some (.int .i64 x)) (w : World) : (part 3 F.cells k).run Tryd.prog w = .ok (.int .i64 x) w := by
  simp [part, isAgg, run_underlying Tryd.underlying3, h]

theorem eqFrm (F G : Frm) (w : World) : (binOp .eql 25 (.agg F.cells) (.agg G.cells)).run Tryd.prog w = .ok (.bool (F.same G)) w := by
  rw [run_eql_struct, run_equalIn_struct w 9999 _ _ _ frm_fields frm_plain]
  have hf : (Tryd.prog.fieldsOf 25).toList.map (fun f => (f.name, f.type, f.offset)) = [("Func", 3, 0), ("PC", 3, 1), ("R", 22, 2), ("H", 23, 10), ("Steps", 3, 18)] := by kernel_rfl
  generalize (Tryd.prog.fieldsOf 25).toList = L at hf
  have hL : L.length = 5 := by
    have := congrArg List.length hf
    simpa using this
  match L, hL with
  | [f0, f1, f2, f3, f4], _ =>
    obtain ⟨n0, t0, o0⟩ : f0.name = "Func" ∧ f0.type = 3 ∧ f0.offset = 0 := by simp at hf; simp [hf]
    obtain ⟨n1, t1, o1⟩ : f1.name = "PC" ∧ f1.type = 3 ∧ f1.offset = 1 := by simp at hf; simp [hf]
    obtain ⟨n2, t2, o2⟩ : f2.name = "R" ∧ f2.type = 22 ∧ f2.offset = 2 := by simp at hf; simp [hf]
    obtain ⟨n3, t3, o3⟩ : f3.name = "H" ∧ f3.type = 23 ∧ f3.offset = 10 := by simp at hf; simp [hf]
    obtain ⟨n4, t4, o4⟩ : f4.name = "Steps" ∧ f4.type = 3 ∧ f4.offset = 18 := by simp at hf; simp [hf]
    have e0 := run_equalIn_int (P := Tryd.prog) w 9998 3 .i64 .i64 F.f G.f Tryd.underlying3
    have e1 := run_equalIn_int (P := Tryd.prog) w 9998 3 .i64 .i64 F.pc G.pc Tryd.underlying3
    have e2 := eqR 9997 F.r G.r w
    have e3 := eqH 9997 F.h G.h w
    have e4 := run_equalIn_int (P := Tryd.prog) w 9998 3 .i64 .i64 F.st G.st Tryd.underlying3
    simp only [Nat.reduceAdd] at e0 e1 e2 e3 e4
    have a0 := partI F 0 _ F.at_f w
    have a1 := partI F 1 _ F.at_pc w
    have a4 := partI F 18 _ F.at_st w
    have b0 := partI G 0 _ G.at_f w
    have b1 := partI G 1 _ G.at_pc w
    have b4 := partI G 18 _ G.at_st w
    simp only [Op.eqFields, n0, n1, n2, n3, n4, t0, t1, t2, t3, t4, o0, o1, o2, o3, o4, ne_eq, String.reduceEq, not_false_eq_true, if_true, Sem.run_bind, a0, b0, Result.andThen_ok, e0]
    unfold Frm.same
    cases F.f == G.f
    · simp [Result.andThen]
    · simp only [Bool.not_true, Bool.false_eq_true, if_false, Sem.run_bind, a1, b1, Result.andThen_ok, e1, Bool.true_and]
      cases F.pc == G.pc
      · simp [Result.andThen]
      · simp only [Bool.not_true, Bool.false_eq_true, if_false, Sem.run_bind, partR, Result.andThen_ok, e2, Bool.true_and]
        cases sameN 8 F.r G.r
        · simp [Result.andThen]
        · simp only [Bool.not_true, Bool.false_eq_true, if_false, Sem.run_bind, partH, Result.andThen_ok, e3, Bool.true_and]
          cases sameN 8 F.h G.h
          · simp [Result.andThen]
          · simp only [Bool.not_true, Bool.false_eq_true, if_false, Sem.run_bind, a4, b4, Result.andThen_ok, e4, Bool.true_and]
            cases F.st == G.st <;> simp [Result.andThen]

end Go.Proofs.YtedpgfldkjimpaaDoor
