/-
  What may be done to a task by one instruction; four tasks in one row.
-/
import Derived.Test.YtedpgfldkjimpaaDoorTurn
import Derived.Test.YtedpgfldkjimpaaDoorJoins
namespace Go.Proofs.YtedpgfldkjimpaaDoor
open Go.RowKit

/-- Which of the four calls concerns an instruction. -/
def cls (op : Int) : Nat := if op = 8 then 3 else if op = 9 ∨ op = 10 then 1 else if op = 12 then 2 else 0

/-- One step. -/
inductive Step1 (F : Frm) (op : Int) (k : Nat) (X : Frm) : Prop
  | same (h : X = F)
  | regs (hf : X.f = F.f) (hs : X.st = wrap64 (F.st + 1)) (hh : cnt F.h X.h 8 = 0) (hr : cnt F.r X.r 8 ≤ if op = 10 then 2 else 1) (hk : cls op = k)
  | hand (hf : X.f = F.f) (hs : X.st = wrap64 (F.st + 1)) (hh : cnt F.h X.h 8 = 1) (hr : cnt F.r X.r 8 = 0) (hk3 : k = 3) (hk : cls op = k)

theorem put_cnt (F : Frm) (a : Nat) (v : Int) : cnt F.r (F.put a v).r 8 ≤ 1 := by
  have h := cnt_one F.r (F.put a v).r a (fun j hj => by
    show F.r j = if j = a then v else F.r j
    rw [if_neg hj]) 8
  split at h <;> omega
theorem put2_cnt (F : Frm) (a b : Nat) (x y : Int) : cnt F.r ((F.put a x).put b y).r 8 ≤ 2 := by
  have h := cnt_two F.r ((F.put a x).put b y).r a b (fun j ha hb => by
    show F.r j = if j = b then y else if j = a then x else F.r j
    rw [if_neg hb, if_neg ha]) 8
  split at h <;> split at h <;> omega
theorem hold_cnt (F : Frm) (a : Nat) (v : Int) : cnt F.h (F.hold a v).h 8 ≤ 1 := by
  have h := cnt_one F.h (F.hold a v).h a (fun j hj => by
    show F.h j = if j = a then v else F.h j
    rw [if_neg hj]) 8
  split at h <;> omega

theorem one_most (op : Int) {n : Nat} (h : n ≤ 1) : n ≤ if op = 10 then 2 else 1 := by
  split <;> omega

theorem did_step (F : Frm) (o a b c : Nat) (n : Int) : Step1 F o 0 (F.did o a b c n) := by
  rcases Nat.lt_or_ge 7 o with h | h
  · exact .same (F.did_high o a b c n h)
  · have hc : cls (o : Int) = 0 := by
      unfold cls
      rw [if_neg (by omega), if_neg (by omega), if_neg (by omega)]
    have hp : ∀ v, Step1 F o 0 (F.put a v).on := fun v => .regs rfl rfl (cnt_self _ _) (one_most _ (put_cnt F a v)) hc
    have ht : ∀ m, Step1 F o 0 (F.to m) := fun m => .regs rfl rfl (cnt_self _ _) (one_most _ (by
      show cnt F.r F.r 8 ≤ 1
      rw [cnt_self]
      omega)) hc
    have hm : o = 0 ∨ o = 1 ∨ o = 2 ∨ o = 3 ∨ o = 4 ∨ o = 5 ∨ o = 6 ∨ o = 7 := by omega
    rcases hm with rfl | rfl | rfl | rfl | rfl | rfl | rfl | rfl
    · exact hp _
    · exact hp _
    · exact hp _
    · exact hp _
    · exact hp _
    · exact hp _
    · exact ht _
    · show Step1 F _ 0 (if F.r a = 0 then F.on else F.to n)
      split
      · exact ht _
      · exact ht _

theorem plain_step (F : Frm) (i : Ins) : Step1 F i.op 0 (F.plain i) := by
  rcases plain_cases F i with ⟨_, e, _⟩ | ⟨o, a, b, c, n, _, _, _, _, rfl, _, e, _⟩
  · exact .same e
  · rw [e]
    exact did_step F o a b c n
theorem joined_step (F : Frm) (i : Ins) (kd v : Int) : Step1 F i.op 1 (F.joined i kd v) := by
  have hw := joined_way F i kd v
  generalize F.joined i kd v = G at hw ⊢
  generalize codeOf i kd v = x at hw
  generalize panics i kd = p at hw
  cases hw with
  | off h => exact .same rfl
  | other h h10 h9 => exact .same rfl
  | try_ a b c n ha hb hi h10 x y h =>
    subst hi
    exact .regs rfl rfl (cnt_self _ _) (put2_cnt F a b x y) rfl
  | join a b c n ha hi h9 h =>
    subst hi
    exact .regs rfl rfl (cnt_self _ _) (one_most _ (put_cnt F a v)) rfl
  | panic a b c n hi h9 x h =>
    subst hi
    exact .regs rfl rfl (cnt_self _ _) (one_most _ (by
      show cnt F.r F.r 8 ≤ 1
      rw [cnt_self]
      omega)) rfl
theorem closed_step (F : Frm) (i : Ins) (b : Bool) : Step1 F i.op 2 (F.closed i b) := by
  unfold Frm.closed
  rcases Bool.eq_false_or_eq_true (isOp i 12) with h | h
  · obtain ⟨a, _, _, _, ha, _, _, rfl⟩ := isOp_letters h
    rw [if_pos h]
    exact .regs rfl rfl (cnt_self _ _) (one_most _ (put_cnt F _ _)) rfl
  · rw [if_neg (by rw [h]; simp)]
    exact .same rfl
theorem forked_step (F : Frm) (i : Ins) (id : Int) : Step1 F i.op 3 (F.forked i id) := by
  unfold Frm.forked
  rcases Bool.eq_false_or_eq_true (isOp i 8) with h | h
  · obtain ⟨a, _, _, _, ha, _, _, rfl⟩ := isOp_letters h
    rw [if_pos h]
    have h1 : cnt F.h ((F.hold (a : Int).toNat id).on).h 8 ≤ 1 := hold_cnt F _ _
    rcases (show cnt F.h ((F.hold (a : Int).toNat id).on).h 8 = 0 ∨ cnt F.h ((F.hold (a : Int).toNat id).on).h 8 = 1 by omega) with h0 | h0
    · exact .regs rfl rfl h0 (one_most _ (by
        show cnt F.r F.r 8 ≤ 1
        rw [cnt_self]
        omega)) rfl
    · exact .hand rfl rfl h0 (cnt_self _ _) rfl rfl
  · rw [if_neg (by rw [h]; simp)]
    exact .same rfl

theorem st_ne (s : Int) : wrap64 (s + 1) ≠ s := by
  unfold wrap64
  omega

/-- The four tasks. -/
def Frm.four (F : Frm) (i : Ins) (kd v : Int) (b : Bool) : Nat → Frm
  | 0 => F.plain i
  | 1 => F.joined i kd v
  | 2 => F.closed i b
  | _ => F.forked i kd

theorem four_step (F : Frm) (i : Ins) (kd v : Int) (b : Bool) (k : Nat) (hk : k < 4) : Step1 F i.op k (F.four i kd v b k) := by
  rcases k with _ | _ | _ | _ | k
  · exact plain_step F i
  · exact joined_step F i kd v
  · exact closed_step F i b
  · exact forked_step F i kd
  · omega

/-! ### Four rows in one -/

theorem fold_size (l : List (Value × Nat)) (off : Nat) (Z : Array Value) : (l.foldl (fun cs (x : Value × Nat) => cs.setIfInBounds (off + x.2) x.1) Z).size = Z.size := by
  induction l generalizing Z with
  | nil => rfl
  | cons a l ih => rw [List.foldl_cons, ih]; simp

theorem fold_at (L : List Value) (n off : Nat) (Z : Array Value) (h : off + n + L.length ≤ Z.size) (j : Nat) :
    ((L.zipIdx n).foldl (fun cs (x : Value × Nat) => cs.setIfInBounds (off + x.2) x.1) Z)[j]? = if off + n ≤ j ∧ j < off + n + L.length then L[j - (off + n)]? else Z[j]? := by
  induction L generalizing n Z with
  | nil =>
    rw [List.zipIdx_nil, List.foldl_nil, if_neg (fun hh => by have := hh.1; have := hh.2; simp only [List.length_nil] at *; omega)]
  | cons a L ih =>
    rw [List.zipIdx_cons, List.foldl_cons]
    simp only [List.length_cons] at h ⊢
    rw [ih (n + 1) _ (by simp; omega)]
    by_cases h1 : off + (n + 1) ≤ j ∧ j < off + (n + 1) + L.length
    · rw [if_pos h1, if_pos (by omega), show j - (off + n) = (j - (off + (n + 1))) + 1 by omega, List.getElem?_cons_succ]
    · rw [if_neg h1]
      by_cases h2 : j = off + n
      · subst h2
        rw [if_pos (by omega), Nat.sub_self, List.getElem?_cons_zero, Array.getElem?_setIfInBounds_self_of_lt (by omega)]
      · rw [if_neg (by omega), Array.getElem?_setIfInBounds_ne (by omega)]

/-- A row laid over a part of another one. -/
def over (Z : Array Value) (off : Nat) (X : Array Value) : Array Value := X.zipIdx.foldl (fun cs (x : Value × Nat) => cs.setIfInBounds (off + x.2) x.1) Z

theorem over_list (Z : Array Value) (off : Nat) (X : Array Value) : over Z off X = (X.toList.zipIdx 0).foldl (fun cs (x : Value × Nat) => cs.setIfInBounds (off + x.2) x.1) Z := by
  unfold over
  rw [← Array.foldl_toList, Array.toList_zipIdx]
theorem over_size (Z : Array Value) (off : Nat) (X : Array Value) : (over Z off X).size = Z.size := by
  rw [over_list, fold_size]
theorem over_at (Z : Array Value) (off : Nat) (X : Array Value) (h : off + X.size ≤ Z.size) (j : Nat) : (over Z off X)[j]? = if off ≤ j ∧ j < off + X.size then X[j - off]? else Z[j]? := by
  rw [over_list, fold_at _ _ _ _ (by simpa using h)]
  simp

/-- A row of nineteen cells. -/
def Row19 (X : Array Value) : Prop := X.size = 19

theorem info67 : ∃ z, z.cells.size = 76 ∧ (Tryd.prog.info? 67).map (fun i => (i.zero, i.size)) = some (some z, 76) := ⟨.agg (List.replicate 76 (.int .i64 0)).toArray, by kernel_rfl, by kernel_rfl⟩

theorem fill4 (Z X0 X1 X2 X3 : Array Value) (hZ : Z.size = 76) (h0 : X0.size = 19) (h1 : X1.size = 19) (h2 : X2.size = 19) (h3 : X3.size = 19) :
    Instr.fill (fun i => some (i * 19, 19)) Z [(0, .agg X0), (1, .agg X1), (2, .agg X2), (3, .agg X3)] = some (X0 ++ X1 ++ X2 ++ X3) := by
  have e : Instr.fill (fun i => some (i * 19, 19)) Z [(0, .agg X0), (1, .agg X1), (2, .agg X2), (3, .agg X3)] = some (over (over (over (over Z 0 X0) 19 X1) 38 X2) 57 X3) := by
    have s0 := over_size Z 0 X0
    have s1 := over_size (over Z 0 X0) 19 X1
    have s2 := over_size (over (over Z 0 X0) 19 X1) 38 X2
    unfold over at s0 s1 s2 ⊢
    simp only [Nat.zero_add] at s0 s1 s2 ⊢
    simp only [Instr.fill, Value.cells, Nat.zero_mul, Nat.zero_add, Nat.one_mul, Nat.reduceMul, h0, h1, h2, h3, hZ, s0, s1, s2, ne_eq, not_true, decide_false, Bool.false_or, Nat.reduceAdd, gt_iff_lt, Nat.reduceLT, Bool.false_eq_true, if_false]
  rw [e]
  congr 1
  apply Array.ext_getElem?
  intro j
  have z0 := over_size Z 0 X0
  have z1 := over_size (over Z 0 X0) 19 X1
  have z2 := over_size (over (over Z 0 X0) 19 X1) 38 X2
  rw [over_at _ _ _ (by omega), over_at _ _ _ (by omega), over_at _ _ _ (by omega), over_at _ _ _ (by omega)]
  simp only [Array.getElem?_append, Array.size_append, h0, h1, h2, h3]
  by_cases j3 : j < 19
  · simp [j3, show j < 38 by omega, show j < 57 by omega, show ¬ 19 ≤ j by omega, show ¬ 38 ≤ j by omega, show ¬ 57 ≤ j by omega]
  · by_cases j4 : j < 38
    · simp [j3, j4, show j < 57 by omega, show 19 ≤ j by omega, show ¬ 38 ≤ j by omega, show ¬ 57 ≤ j by omega]
    · by_cases j5 : j < 57
      · simp [j4, j5, show 38 ≤ j by omega, show ¬ 57 ≤ j by omega]
      · by_cases j6 : j < 76
        · simp [j5, j6, show 57 ≤ j by omega]
        · simp [j3, j4, j5, j6]
          rw [Array.getElem?_eq_none (by omega), Array.getElem?_eq_none (by omega)]

def build67 (parts : Array (Nat × Value)) : Sem Value := Instr.build 67 parts
theorem build67_is (parts : Array (Nat × Value)) : Instr.build 67 parts = build67 parts := rfl
theorem build67_run (X0 X1 X2 X3 : Array Value) (h0 : Row19 X0) (h1 : Row19 X1) (h2 : Row19 X2) (h3 : Row19 X3) (w : World) :
    (build67 #[(0, .agg X0), (1, .agg X1), (2, .agg X2), (3, .agg X3)]).run Tryd.prog w = .ok (.agg (X0 ++ X1 ++ X2 ++ X3)) w := by
  refine run_build w _ _ _ ?_
  obtain ⟨z, hz, hi⟩ := info67
  have h25 : (Tryd.prog.info? 25).map (·.size) = some 19 := infoF
  unfold Go.Program.built
  rw [Tryd.underlying67]
  cases hq : Tryd.prog.info? 67 with
  | none => rw [hq] at hi; cases hi
  | some it =>
    rw [hq] at hi
    simp only [Option.map_some, Option.some.injEq, Prod.mk.injEq] at hi
    cases hq2 : Tryd.prog.info? 25 with
    | none => rw [hq2] at h25; cases h25
    | some ie =>
      rw [hq2] at h25
      simp only [Option.map_some, Option.some.injEq] at h25
      simp only [hi.1, hq2, h25]
      exact fill4 z.cells X0 X1 X2 X3 hz h0 h1 h2 h3

theorem zero67 : ∃ Z : Array Value, Z.size = 76 ∧ ∀ w, (zeroValue 67).run Tryd.prog w = .ok (.agg Z) w := ⟨(List.replicate 76 (.int .i64 0)).toArray, by kernel_rfl, fun w => by kernel_rfl⟩

end Go.Proofs.YtedpgfldkjimpaaDoor
