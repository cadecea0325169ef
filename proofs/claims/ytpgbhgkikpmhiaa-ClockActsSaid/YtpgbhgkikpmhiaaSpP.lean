/-
  ClockSplits, plain; a row of acts that is read; rows put behind one another (walk laws).
-/
import Derived.Test.YtpgbhgkikpmhiaaPl
import Derived.Test.YtpgbhgkikpmhiaaOpen
namespace Go.Proofs.Ytpgbhgkikpmhiaa
open Go.RowKit
set_option linter.unusedVariables false

theorem Row.at_three {w : World} {a : Option Addr} {len i : Nat} {f : Nat → Nat → Int} (h : Row w a len 3 f) (hi : i < len) :
    ∃ b off, a = some ⟨b, off, none⟩ ∧ b < w.heap.size ∧ (∀ v, Fr (fun _ => False) w v → v.cell? ⟨b, off + i * 3, none⟩ = some (.int .i64 (f i 0)) ∧ v.cell? ⟨b, off + i * 3 + 1, none⟩ = some (.int .i64 (f i 1)) ∧ v.cell? ⟨b, off + i * 3 + 2, none⟩ = some (.int .i64 (f i 2))) := by
  obtain ⟨b, off, ha, hb, hc⟩ := h (by omega)
  have key : ∀ v, Fr (fun _ => False) w v → ∀ j, j < 3 → v.cell? ⟨b, off + i * 3 + j, none⟩ = some (.int .i64 (f i j)) := by
    intro v hf j hj
    have := (hc i j hi hj).1
    rw [← Nat.add_assoc] at this
    rw [← this]
    exact World.cell?_of_block (w := w) (hf.block b hb id)
  exact ⟨b, off, ha, hb, fun v hf => ⟨key v hf 0 (by omega), key v hf 1 (by omega), key v hf 2 (by omega)⟩⟩

theorem adv_two {a b now : Int} {T : List Due} (h0 : 0 ≤ a) (h1 : 0 ≤ b) (h2 : now + a + b ≤ 1099511627776) :
    advNo (a + b) now = false ∧ advNo a now = false ∧ advNo b (now + a) = false ∧ advL (a + b) now T = advL a now T ++ advL b (now + a) (advT a now T) ∧ advT (a + b) now T = advT b (now + a) (advT a now T) := by
  have n1 : advNo (a + b) now = false := advNo_no (by omega) (by omega)
  have n2 : advNo a now = false := advNo_no (by omega) (by omega)
  have n3 : advNo b (now + a) = false := advNo_no (by omega) (by omega)
  refine ⟨n1, n2, n3, ?_, ?_⟩
  · unfold advL advT
    rw [n1, n2, n3]
    simp only [cond_false]
    have := (due_two (t := now + a) (u := now + (a + b)) (by omega) T).1
    rw [this, show now + a + b = now + (a + b) by omega]
    simp [idsOf]
  · unfold advT
    rw [n1, n2, n3]
    simp only [cond_false]
    have := (due_two (t := now + a) (u := now + (a + b)) (by omega) T).2
    rw [this, show now + a + b = now + (a + b) by omega]

theorem advL_adv (n now : Int) (T : List Due) : (advL n now T).length + (advT n now T).length = T.length := by
  unfold advL advT
  cases advNo n now
  · simp only [cond_false, idsOf, List.length_map]
    have := congrArg List.length (due_lat (now + n) T)
    simpa using this
  · simp

theorem intsV_len (L : List Int) : (intsV L).length = L.length := by simp [intsV]
theorem intsV_one (L : List Int) : ∀ u ∈ intsV L, u.oneCell' = true := by
  intro u hu
  unfold intsV at hu
  obtain ⟨k, _, rfl⟩ := List.mem_map.1 hu
  rfl

/-- The numbers of a row that is read, at whatever address it lies. -/
theorem IntR.news {w : World} {A : Option Addr} {L : List Int} (h : IntR w A L) {ad : Addr} (hA : A = some ad) : ∀ j u, (intsV L)[j]? = some u → w.cell? (ad.add j) = some u := by
  intro j u hu
  have hj : j < L.length := by
    have := List.getElem?_eq_some_iff.1 hu
    obtain ⟨h1, _⟩ := this
    rw [intsV_len] at h1
    exact h1
  obtain ⟨g, off, hA2, _, hc⟩ := h (by omega)
  rw [hA] at hA2
  injection hA2 with hA2
  subst hA2
  rw [add_none, hc j hj]
  rw [← hu]
  simp [intsV, hj]

/-- Numbers appended to a row of one's own, be they none. -/
theorem run_app {w : World} {B B2 : Nat} {A A2 : Option Addr} {n cap m c2 : Nat} {X Y : List Int} (ty : TypeId) (h : OwnR w B 3 1 A n cap (intsV X)) (h2 : OwnR w B2 3 1 A2 m c2 (intsV Y)) (hn : n + m < 100000) (hB : B ≤ w.heap.size) :
    ∃ v' w', (Builtin.append_ #[32, 32] ty #[.slice A n cap, .slice A2 m c2]).run Try.prog w = .ok v' w' ∧ (∃ A' cap', v' = .slice A' (n + m) cap' ∧ OwnR w' B 3 1 A' (n + m) cap' (intsV (X ++ Y)) ∧ Fr (ownB A) w w') := by
  obtain ⟨i0, hi, hz⟩ := Option.map_eq_some_iff.1 infoint
  simp only [Prod.mk.injEq] at hz
  obtain ⟨hz0, hz1, hz2⟩ := hz
  have hxy : intsV (X ++ Y) = intsV X ++ intsV Y := by simp [intsV]
  rcases A2 with _ | ad
  · obtain ⟨rfl, rfl⟩ : m = 0 ∧ c2 = 0 := by
      rcases h2.2 with ⟨h3, h4⟩ | ⟨g, c', cur, hv, _⟩
      · injection h3 with _ h5 h6; exact ⟨h5, h6⟩
      · cases hv
    have hY : Y = [] := by
      have := h2.1
      rw [intsV_len] at this
      exact List.length_eq_zero_iff.1 (by omega)
    subst hY
    refine ⟨.slice A n cap, w, ?_, A, cap, rfl, by rw [List.append_nil]; exact h, Fr.refl _ _⟩
    have hcap : n ≤ cap := by
      rcases h.2 with ⟨h3, h4⟩ | ⟨g, c', cur, hv, _, _, h5, _⟩
      · omega
      · injection hv with _ _ hv; omega
    rcases A with _ | b
    · simp [Builtin.append_, run_underlying Try.underlying32, sizeOf, typeInfo, hi, hz1, Builtin.lenOf, hcap, run_firstCells_none, Result.andThen]
    · simp [Builtin.append_, run_underlying Try.underlying32, sizeOf, typeInfo, hi, hz1, Builtin.lenOf, hcap, run_firstCells_none, Result.andThen, storeCells]
  · have hnews := IntR.news (h2.intR (by have := h2.1; rw [intsV_len] at this; omega)) rfl
    obtain ⟨v', w', hr, h3, h4, _⟩ := run_append_own (P := Try.prog) w B 32 ty 3 i0 (.int .i64 0) 1 8 Try.underlying32 hi hz0 hz1 hz2 rfl (by decide) (.slice A n cap) n (intsV X) h ad m c2 (intsV Y) h2.1 hnews (intsV_one Y) (by unfold maxLen; omega) (by omega) hB
    obtain ⟨A', cap', rfl, h5⟩ := OwnR.form h3
    exact ⟨_, w', hr, A', cap', rfl, by rw [hxy]; exact h5, Fr.of_grown h4⟩

/-- An append that is wanted, whatever its guard, by its run. -/
theorem wpList_app {P : Program} {w : World} {ops : Array Oper} {rest : List Oper} {o : Oper} {a : Act} {Q : Exit → Act → World → Prop} (hw : Region.wanted o (yielded ops a.tmps) = true) (s x : Operand) (t : TypeId)
    (ho : o.op = .call { callee := .builtin .append, args := #[s, x], argTypes := #[t, t] })
    (v y : Value) (hs : a.eval s = v) (hx : a.eval x = y) (Z : Value → World → Prop) (hr : ∃ v' w', (Builtin.append_ #[t, t] o.type #[v, y]).run P w = .ok v' w' ∧ Z v' w')
    (h : ∀ v' w', Z v' w' → wpList P ops Q rest (a.put o.dst v') w') : wpList P ops Q (o :: rest) a w :=
  wpList_step fun K hK => by
    rw [if_pos hw]
    obtain ⟨v', w', hr, hZ⟩ := hr
    unfold Oper.wp execOp
    simp only [ho, resolve, invoke, builtin, Sem.run_bind, Sem.run_pure, Result.andThen_ok, List.map_toArray, List.map_cons, List.map_nil, hs, hx, hr]
    exact hK _ _ (h v' w' hZ)
end Go.Proofs.Ytpgbhgkikpmhiaa
