/-
  The document's clock: Set, Drop, Copy (walks).
-/
import Derived.Test.YtpgbhgkikpmhiaaRk
import Derived.Deep.RegionLaw
namespace Go.Proofs.Ytpgbhgkikpmhiaa
open Go.RowKit
set_option linter.unusedVariables false

theorem infordue : (Try.prog.info? 60).map (fun i => (i.zero, i.size, i.bytes)) = some (some (.agg #[.int .i64 0, .int .i64 0]), 2, 16) := by kernel_rfl

/-- The document's clock, at r, with the deadlines T in any order. -/
structure Rkm (w : World) (O : Nat → Prop) (r : Nat) (now : Int) (T : List Due) : Prop where
  ex : ∃ A cap L, Rk w r now A cap L ∧ L.Perm T ∧ ∀ k, (k = r ∨ ownB A k) → O k
  lt : ∀ k, O k → k < w.heap.size

theorem Rkm.keep {w w' : World} {O : Nat → Prop} {r : Nat} {now : Int} {T : List Due} (h : Rkm w O r now T) {S : Nat → Prop} (f : Fr S w w') (hs : ∀ k, O k → ¬ S k) : Rkm w' O r now T := by
  obtain ⟨A, cap, L, h1, h2, h3⟩ := h.ex
  exact ⟨⟨A, cap, L, h1.keep f (fun k hk => hs k (h3 k hk)), h2, h3⟩, fun k hk => Nat.lt_of_lt_of_le (h.lt k hk) f.size⟩

theorem Rkm.same {w w' : World} {O : Nat → Prop} {r : Nat} {now : Int} {T : List Due} (h : Rkm w O r now T) (f : Fr (fun _ => False) w w') : Rkm w' O r now T := h.keep f (fun _ _ hh => hh)

def RkPost (O : Nat → Prop) (r : Nat) (now : Int) (T : List Due) (w w' : World) : Prop := ∃ O', Rkm w' O' r now T ∧ Fr O w w' ∧ ∀ k, O' k → O k ∨ w.heap.size ≤ k

theorem RkPost.of_eq {O : Nat → Prop} {r : Nat} {now : Int} {T : List Due} {w w' : World} (h : Rkm w O r now T) (e : w = w') : RkPost O r now T w w' := by
  subst e
  exact ⟨O, h, Fr.refl _ _, fun k hk => .inl hk⟩

theorem hasId_perm {L T : List Due} (h : L.Perm T) (id : Int) : hasId id L = hasId id T := by
  cases hh : hasId id T with
  | true =>
    obtain ⟨x, hx, he⟩ := hasId_yes hh
    unfold hasId
    exact List.any_eq_true.2 ⟨x, h.symm.subset hx, by simpa using he⟩
  | false =>
    unfold hasId
    rw [List.any_eq_false]
    intro x hx
    simpa using hasId_no hh x (h.subset hx)

/-- A step of a region that draws: an append, by its run. -/
theorem step_app {P : Program} {w : World} {ops : Array Oper} {o : Oper} {a : Act} {K : Act → World → Prop} {Q : Exit → Act → World → Prop} {E : Prop} (hgd : o.guard = none) (s x : Operand) (t : TypeId)
    (ho : o.op = .call { callee := .builtin .append, args := #[s, x], argTypes := #[t, t] })
    (v y : Value) (hs : a.eval s = v) (hx : a.eval x = y) (Z : Value → World → Prop) (hr : ∃ v' w', (Builtin.append_ #[t, t] o.type #[v, y]).run P w = .ok v' w' ∧ Z v' w')
    (h : ∀ v' w', Z v' w' → K (a.put o.dst v') w') : if Region.wanted o (yielded ops a.tmps) = true then Oper.wp P o a w K Q else E := by
  rw [if_pos (by simp [Region.wanted, hgd])]
  obtain ⟨v', w', hr, hZ⟩ := hr
  unfold Oper.wp execOp
  simp only [ho, resolve, invoke, builtin, Sem.run_bind, Sem.run_pure, Result.andThen_ok, List.map_toArray, List.map_cons, List.map_nil, hs, hx, hr]
  exact h v' w' hZ

/-- Deadlines appended to a row of one's own. -/
theorem run_appD {w : World} {B : Nat} {A : Option Addr} {n cap m c2 : Nat} {X Y : List Due} (ty : TypeId) (h : OwnR w B 60 2 A n cap (dues X)) (ad : Addr) (hm : Y.length = m) (hc : ∀ j u, (dues Y)[j]? = some u → w.cell? (ad.add j) = some u) (hn : n + m < 200000) (hB : B ≤ w.heap.size) :
    ∃ v' w', (Builtin.append_ #[26, 26] ty #[.slice A n cap, .slice (some ad) m c2]).run Try.prog w = .ok v' w' ∧ (∃ A' cap', v' = .slice A' (n + m) cap' ∧ OwnR w' B 60 2 A' (n + m) cap' (dues (X ++ Y)) ∧ Fr (ownB A) w w') := by
  obtain ⟨i0, hi, hz⟩ := Option.map_eq_some_iff.1 infordue
  simp only [Prod.mk.injEq] at hz
  obtain ⟨hz0, hz1, hz2⟩ := hz
  obtain ⟨v', w', hr, h3, h4, _⟩ := run_append_own (P := Try.prog) w B 26 ty 60 i0 (.agg #[.int .i64 0, .int .i64 0]) 2 16 Try.underlying26 hi hz0 hz1 hz2 rfl (by decide) (.slice A n cap) n (dues X) h ad m c2 (dues Y) (by rw [dues_len, hm]) hc (dues_one Y) (by unfold maxLen; omega) (by omega) hB
  obtain ⟨A', cap', rfl, h5⟩ := OwnR.form h3
  exact ⟨_, w', hr, A', cap', rfl, by rw [dues_app]; exact h5, Fr.of_grown h4⟩

/-- .. nothing, of a nil row. -/
theorem run_appZ {w : World} {B : Nat} {A : Option Addr} {n cap : Nat} {xs : List Value} (ty : TypeId) (h : OwnR w B 60 2 A n cap xs) :
    (Builtin.append_ #[26, 26] ty #[.slice A n cap, .slice none 0 0]).run Try.prog w = .ok (.slice A n cap) w := by
  obtain ⟨i0, hi, hz⟩ := Option.map_eq_some_iff.1 infordue
  simp only [Prod.mk.injEq] at hz
  obtain ⟨hz0, hz1, hz2⟩ := hz
  have hcap : n ≤ cap := by
    rcases h.2 with ⟨h3, h4⟩ | ⟨g, c', cur, hv, _, _, h5, _⟩
    · omega
    · injection hv with _ _ hv; omega
  rcases A with _ | b
  · simp [Builtin.append_, run_underlying Try.underlying26, sizeOf, typeInfo, hi, hz1, Builtin.lenOf, hcap, run_firstCells_none, Result.andThen]
  · simp [Builtin.append_, run_underlying Try.underlying26, sizeOf, typeInfo, hi, hz1, Builtin.lenOf, hcap, run_firstCells_none, Result.andThen, storeCells]

theorem own_empty (w : World) : OwnR (w.alloc (.cells #[] 60)) w.heap.size 60 2 (some ⟨w.heap.size, 0, none⟩) 0 0 (dues []) :=
  ⟨by simp [dues], .inr ⟨w.heap.size, 0, #[], rfl, Nat.le_refl _, TBlk.new _ _ _, Nat.le_refl _, by unfold maxLen; omega, by simp, by simp [dues]⟩⟩

section
variable {r : Nat} {now : Int} {O : Nat → Prop} {T : List Due} (w : World)

set_option maxRecDepth 100000 in
set_option maxHeartbeats 1600000 in
theorem r_set_ok (id n : Int) (h : Rkm w O r now T) (h1 : 0 ≤ id) (h2 : 1 ≤ n) (h3 : n ≤ 1099511627776) (ht : hasId id T = false) (hn0 : 0 ≤ now) (hn1 : now ≤ 1099511627776) (hs : T.length < 50000) :
    Calls Try.prog 13 #[.pointer (some ⟨r, 0, none⟩), .int .i64 id, .int .i64 n] w fun e w' => e = .returned (.int .i64 0) ∧ RkPost O r now (ins (now + n, id) T) w w' := by
  obtain ⟨A, cap, L, k1, k2, k3⟩ := h.ex
  have HFD := hid (r_find w id k1 (by rw [k2.length_eq]; omega))
  have hf : findI L id = -1 := by unfold findI; rw [hasId_perm k2, ht]; rfl
  rw [hf] at HFD
  have HPM := hid (show (L ++ [(now + n, id)]).Perm (ins (now + n, id) T) from (List.perm_append_comm).trans ((List.Perm.cons _ k2).trans (ins_perm _ _).symm))
  have HO := hid k3
  have HLT := hid h.lt
  have HRA := hid k1.rA
  obtain ⟨s, hsum⟩ : ∃ s, now + n = s := ⟨_, rfl⟩
  rw [hsum] at HPM ⊢
  have q1 : IntKind.i64.wrap (now + n) = s := by rw [IntKind.wrap_i64]; omega
  have g1 : ¬ id < 0 := by omega
  have g2 : ¬ n < 1 := by omega
  have g3 : ¬ 1099511627776 < n := by omega
  have HC := hid k1.hc
  have HR := hid k1.row
  obtain ⟨q, hq⟩ : ∃ q, L.length = q := ⟨_, rfl⟩
  have HQ := hid hq
  have hqb : q < 50000 := by rw [← hq, k2.length_eq]; exact hs
  rw [hq] at HC HR
  have hl := k1.hc.lt
  obtain ⟨i0, hi, hz⟩ := Option.map_eq_some_iff.1 infordue
  simp only [Prod.mk.injEq] at hz
  obtain ⟨hy0, hy1, hy2⟩ := hz
  have HII := hid hi
  have HZ0 := hid hy0
  have HZ1 := hid hy1
  have HZ2 := hid hy2
  have HDU := hid (dues_push L (s, id))
  obtain ⟨xs, hxs⟩ : ∃ xs, dues L = xs := ⟨_, rfl⟩
  rw [hxs] at HR HDU
  clear h k1 k2 k3 hi hy0 hy1 hy2 hsum hq hxs hf ht h1 h2 h3 hs hn0 hn1
  have HOW := hid (show (w.alloc (.cells #[.int .i64 s, .int .i64 id] 60)).drew.ownsRow 0 60 2 (.slice A q cap) q xs from OwnR.same HR.out ((Fr.alloc _ _ _).trans (Fr.drew _ _)))
  have HNW := hid (two_new w 60 (.int .i64 s) (.int .i64 id))
  have HKP := hid (show ∀ W, Fr (ownB A) w W → W.cell? ⟨r, 1, none⟩ = some (.slice A q cap) ∧ W.frozen? ⟨r, 1, none⟩ = false from fun W hW => ⟨(HC.out.keep hW HRA.out).cell rfl, (HC.out.keep hW HRA.out).frozen 1⟩)
  have c0 : w.cell? ⟨r, 0, none⟩ = some (.int .i64 now) := HC.out.cell rfl
  have c1 : w.cell? ⟨r, 1, none⟩ = some (.slice A q cap) := HC.out.cell rfl
  have z1 := HC.out.frozen 1
  go_enter Try.func13, Try.ntmps13
  go_wp2_with fail
  refine HFD.out.mono ?_
  rintro e w' ⟨rfl, rfl⟩
  go_upto_region 5 with fail
  go_region_law ((refine step_append_lies _ (by rfl) _ _ _ (by rfl) 0 60 i0 _ 2 16 Try.underlying26 HII.out HZ0.out HZ1.out HZ2.out rfl (by decide) (.slice A q cap) q _ (by rfl) HOW.out ⟨w.heap.size, 0, none⟩ 1 1 [.int .i64 s, .int .i64 id] (by rfl) (by rfl) HNW.out (by simp [Value.oneCell']) (by omega) (by unfold maxLen; omega) (by omega) (by simp) (w.heap.size + 1) (by simp) ?_; intro gg cp w9 hown9 hgrow9 hat9 hlt9; have HO9 := hid hown9; have HF9 := hid ((((Fr.alloc (fun _ => False) w _).trans (Fr.drew _ _)).mono (fun _ h => h.elim)).trans (Fr.of_grown hgrow9)); have HAT := hid hat9; have HC9 := hid (HC.out.keep HF9.out HRA.out); have q1' := (HKP.out w9 HF9.out).1; have q2' := (HKP.out w9 HF9.out).2; clear hown9 hgrow9 hat9))
  all_goals
    go_wp2_with fail
    go_ret
    have hFs := Fr.setCell (S := fun j => j = r) w9 ⟨r, 1, none⟩ (.slice (some ⟨gg, 0, none⟩) (q + 1) cp) rfl
    have hO9 : OwnR w9 0 60 2 (some ⟨gg, 0, none⟩) (q + 1) cp (dues (L ++ [(s, id)])) := OwnR.eq HO9.out HDU.out
    have hll : (L ++ [(s, id)]).length = q + 1 := by simp [HQ.out]
    have hR : Rk (w9.setCell ⟨r, 1, none⟩ (.slice (some ⟨gg, 0, none⟩) (q + 1) cp)) r now (some ⟨gg, 0, none⟩) cp (L ++ [(s, id)]) := ⟨by rw [hll]; exact TBlk.set HC9.out 1 (.slice (some ⟨gg, 0, none⟩) (q + 1) cp), by rw [hll]; exact OwnR.keep hO9 hFs (fun j hj e => by subst e; exact OwnR.ne hO9 HC9.out (by decide) hj)⟩
    refine ⟨rfl, fun k => k = r ∨ ownB (some ⟨gg, 0, none⟩) k, ⟨⟨_, _, _, hR, HPM.out, fun _ h => h⟩, ?_⟩, ?_, ?_⟩
    · rintro k (rfl | hk)
      · exact hR.hc.lt
      · exact (OwnR.lt hR.row k hk).2
    · exact (HF9.out.mono (fun k hk => HO.out k (.inr hk))).trans (hFs.mono (fun k hk => HO.out k (.inl hk)))
    · rintro k (rfl | ⟨a, ha, rfl⟩)
      · exact .inl (HO.out _ (.inl rfl))
      · injection ha with ha
        subst ha
        rcases HAT.out with h | h
        · exact .inl (HO.out _ (.inr (own_of h)))
        · exact .inr (by simp only; omega)

theorem r_set (id n : Int) (h : Rkm w O r now T) (hn0 : 0 ≤ now) (hn1 : now ≤ 1099511627776) (hs : T.length < 50000) :
    Calls Try.prog 13 #[.pointer (some ⟨r, 0, none⟩), .int .i64 id, .int .i64 n] w fun e w' => e = .returned (.int .i64 (setE id n now T)) ∧ RkPost O r now (setT id n now T) w w' := by
  unfold setE setT
  have hrl : r < w.heap.size := by obtain ⟨A, cap, L, k1, k2, k3⟩ := h.ex; exact k1.hc.lt
  by_cases g1 : id < 0
  · have hb : (decide (id < 0) || decide (n < 1) || decide (1099511627776 < n)) = true := by simp [g1]
    rw [hb]
    go_enter Try.func13, Try.ntmps13
    go_wp2_with fail
    go_ret
    exact ⟨rfl, RkPost.of_eq h rfl⟩
  by_cases g2 : n < 1
  · have hb : (decide (id < 0) || decide (n < 1) || decide (1099511627776 < n)) = true := by simp [g2]
    rw [hb]
    go_enter Try.func13, Try.ntmps13
    go_wp2_with fail
    go_ret
    exact ⟨rfl, RkPost.of_eq h rfl⟩
  by_cases g3 : 1099511627776 < n
  · have hb : (decide (id < 0) || decide (n < 1) || decide (1099511627776 < n)) = true := by simp [g3]
    rw [hb]
    go_enter Try.func13, Try.ntmps13
    go_wp2_with fail
    go_ret
    exact ⟨rfl, RkPost.of_eq h rfl⟩
  have hb : (decide (id < 0) || decide (n < 1) || decide (1099511627776 < n)) = false := by simp [g1, g2, g3]
  rw [hb]
  cases hh : hasId id T with
  | false => exact r_set_ok w id n h (by omega) (by omega) (by omega) hh hn0 hn1 hs
  | true =>
    obtain ⟨A, cap, L, k1, k2, k3⟩ := h.ex
    have HFD := hid (r_find w id k1 (by rw [k2.length_eq]; omega))
    have hf : findI L id = (idx L id : Nat) := by unfold findI; rw [hasId_perm k2, hh]; rfl
    rw [hf] at HFD
    have HH := hid h
    obtain ⟨j, hj⟩ : ∃ j, idx L id = j := ⟨_, rfl⟩
    rw [hj] at HFD
    have hj0 : (0 : Int) ≤ (j : Int) := by omega
    clear h hj hf k1 k2 k3 hb hh
    go_enter Try.func13, Try.ntmps13
    go_wp2_with fail
    refine HFD.out.mono ?_
    rintro e w' ⟨rfl, rfl⟩
    go_wp2_with fail
    go_ret
    exact ⟨rfl, RkPost.of_eq HH.out rfl⟩
end
end Go.Proofs.Ytpgbhgkikpmhiaa
