/-
  Scopes: Inside (walk).
-/
import Derived.Test.YtoajdknhllaoeaaNst
namespace Go.Proofs.Ytoajdknhllaoeaa
open Go.RowKit Go.Shelf
set_option linter.unusedVariables false
attribute [local go_sem] Oper.semAt_some

section
variable {O : Nat → Prop} {b : MB} {tb : Nat} {T : Sc} (w : World)

/-- The box of what is sought, the box of the answer. -/
structure InI (w : World) (o : Nat) (v : Bool) (W : World) : Prop where
  o : Blk W w.heap.size #[.int .i64 (o : Nat)]
  r : Blk W (w.heap.size + 1) #[.bool v]
  f : Fr (fun _ => False) w W

theorem InI.keep {w W W' : World} {o : Nat} {v : Bool} (h : InI w o v W) {S : Nat → Prop} (f : Fr S W W') (hS : ∀ k, S k → w.heap.size + 2 ≤ k) : InI w o v W' :=
  ⟨h.o.keep f (fun hk => by have := hS _ hk; omega), h.r.keep f (fun hk => by have := hS _ hk; omega), h.f.since f (fun i hi hl => by have := hS _ hi; omega)⟩

set_option maxRecDepth 100000 in
set_option maxHeartbeats 2000000 in
theorem inside_ok (k o : Nat) (r : Bool) (hk : k < T.n) (ho : o < T.n) (hr : r = true ↔ Ard T.par T.nst k o) (h : Trm w O b tb T) : Calls Try.prog 30 #[.pointer (some ⟨tb, 0, none⟩), .int .i64 k, .int .i64 o] w fun e w' => e = .returned (.bool r) ∧ Fr (fun _ => False) w w' := by
  have HR := hid hr
  have HKT := hid hk
  have HT := hid h
  have HOL := hid h.lt
  have HARE := hid (fun (W : World) (F : Fr (fun _ => False) w W) (g : Nat) (hg : Blk W g #[.int .i64 k, .int .i64 o]) => are_two W k o g true (h.same F) hg (by rw [isB_yes hk, isB_yes ho]; rfl))
  have hb0 : Blk ((w.alloc (.cells #[.int .i64 (o : Int)] 3)).alloc (.cells #[.bool false] 4)) w.heap.size #[.int .i64 (o : Int)] := (Blk.new _ _ _).alloc _
  have c0 := hb0.cell (i := 0) rfl
  simp only [List.getElem_toArray, List.getElem_cons_zero] at c0
  clear h hk hr ho hb0
  refine (callsIn_wide (n := 8)).1 ?_
  refine callsIn_of_wp_marks Try.func30 rfl trivial ?_ rfl
  simp only [Try.ntmps30, List.size_toArray, List.length_cons, List.length_nil, Nat.reduceAdd, Nat.reduceSub, Array.replicate_succ, Array.replicate_zero, List.push_toArray, List.append_toArray, List.nil_append, List.cons_append]
  gi_wp2
  refine ⟨trivial, (callsIn_wide.2 (HARE.out _ (((Fr.alloc _ _ _).trans (Fr.alloc _ _ _)).trans (Fr.alloc _ _ _)) _ ((Blk.new _ _ _).at (by simp)))).mono ?_⟩
  rintro e w1 ⟨rfl, rfl⟩
  clear c0
  gi_wp2
  refine ⟨trivial, (callsIn_wide.2 (out_mk tb k _)).mono ?_⟩
  rintro e W0 ⟨rfl, hW0⟩
  have hz0 : W0.heap.size = w.heap.size + 5 := by rw [hW0]; simp
  have hF0 : Fr (fun _ => False) w W0 := by rw [hW0]; exact ((((Fr.alloc _ _ _).trans (Fr.alloc _ _ _)).trans (Fr.alloc _ _ _)).trans (Fr.alloc _ _ _)).trans (Fr.alloc _ _ _)
  have ho0 : Blk W0 w.heap.size #[.int .i64 (o : Nat)] := by rw [hW0]; exact ((((Blk.new w _ _).alloc _).alloc _).alloc _).alloc _
  have hr0 : Blk W0 (w.heap.size + 1) #[.bool false] := by rw [hW0]; exact ((((Blk.new _ _ _).at (by simp)).alloc _).alloc _).alloc _
  have hp0 : Blk W0 (w.heap.size + 3) #[.pointer (some ⟨tb, 0, none⟩)] := by rw [hW0]; exact ((Blk.new _ _ _).at (by simp)).alloc _
  have hs0 : Blk W0 (w.heap.size + 4) #[.int .i64 (k : Nat)] := by rw [hW0]; exact (Blk.new _ _ _).at (by simp)
  have hns : (((w.alloc (.cells #[.int .i64 (o : Int)] 3)).alloc (.cells #[.bool false] 4)).alloc (.cells #[.int .i64 (k : Int), .int .i64 (o : Int)] 3)).heap.size = w.heap.size + 3 := by simp
  rw [hns]
  have HZ := hid hz0
  have HOR := hid (show OutR (w.heap.size + 4) (w.heap.size + 3) k O b tb T W0 from ⟨hs0, hp0, HT.out.same hF0⟩)
  have HI0 := hid (show InI w o false W0 from ⟨ho0, hr0, hF0⟩)
  clear hW0 hns hz0 hs0 hp0 ho0 hr0 hF0
  gi_wp2
  have hkp : ∀ k, k = W0.heap.size + 1 → w.heap.size + 2 ≤ k := fun k hk => by have := HZ.out; omega
  have HKP := hid hkp
  clear hkp
  refine range_out .ret (sb := w.heap.size + 4) (pb := w.heap.size + 3) (k := k) (O := O) (b := b) (tb := tb) (T := T) (by omega) HKT.out rfl HOR.out (fun j W => InI w o false W ∧ ∀ i, i < j → up T.par k i ≠ o) (fun j W => InI w o true W ∧ up T.par k j = o)
    (fun j W W' S h f hS => ⟨h.1.keep f (fun k hk => HKP.out _ (hS k hk)), h.2⟩) (fun j W W' S h f hS => ⟨h.1.keep f (fun k hk => HKP.out _ (hS k hk)), h.2⟩)
    ⟨HI0.out, fun i hi => by omega⟩ (fun i => { tmps := #[.pointer (some ⟨tb, 0, none⟩), .int .i64 k, .int .i64 o, undef, undef, .pointer (some ⟨w.heap.size, 0, none⟩), .pointer (some ⟨w.heap.size + 1, 0, none⟩), .int .i64 i, .pointer (some ⟨tb, 0, none⟩), .int .i64 k, .int .i64 o, .slice (some ⟨w.heap.size + 1 + 1, 0, none⟩) 2 2, .bool true, .bool false, .pointer (some ⟨tb, 0, none⟩), .int .i64 k, .func (.func 54) #[] #[.pointer (some ⟨w.heap.size + 4, 0, none⟩), .pointer (some ⟨w.heap.size + 3, 0, none⟩)], .int .i64 i, undef, undef, undef], defers := [] }) ?assign ?body ?done ?stop
  case assign =>
    intro l i W K hK
    gi_wp2
    simpa using hK
  case body =>
    rintro l j W hj hWs ⟨hS, hno⟩
    obtain ⟨i, hi⟩ : ∃ i, up T.par k j = i := ⟨_, rfl⟩
    rw [hi]
    have HS := hid hS
    have HNO := hid hno
    have HI := hid hi
    have HW := hid hWs
    have c0 : W.cell? ⟨w.heap.size, 0, none⟩ = some (.int .i64 (o : Nat)) := hS.o.cell rfl
    have r0 : W.cell? ⟨w.heap.size + 1, 0, none⟩ = some (.bool false) := hS.r.cell rfl
    have z0 := hS.r.frozen 0
    clear hS hno hi hj hWs
    by_cases he : i = o
    · have t1 : ((i : Int) == (o : Int)) = true := by simp; omega
      have HE := hid he
      clear he
      gi_wp2
      have hF3 : Fr (fun k => k = w.heap.size + 1) W (W.setCell ⟨w.heap.size + 1, 0, none⟩ (.bool true)) := Fr.setCell _ _ _ rfl
      have hzz := HZ.out
      have hol := HOL.out
      exact ⟨rfl, ⟨_, hF3, by omega, by omega, fun i hi => by have := hol i hi; omega, by omega, by omega⟩, ⟨HS.out.o.keep hF3 (by omega), HS.out.r.set 0 (.bool true), HS.out.f.since hF3 (fun i hi hl => by have h2 : i = w.heap.size + 1 := hi; omega)⟩, by rw [HI.out]; exact HE.out⟩
    · have t1 : ((i : Int) == (o : Int)) = false := by simp; omega
      have HE := hid he
      clear he
      gi_wp2
      refine ⟨⟨_, Fr.refl (fun _ => False) _, id, id, fun _ _ => id, id, id⟩, HS.out, fun i2 hi2 => ?_⟩
      by_cases e : i2 = j
      · rw [e, HI.out]; exact HE.out
      · exact HNO.out i2 (by omega)
  case done =>
    rintro W ⟨hS, hno⟩ hK
    have hrf : r = false := by
      cases r with
      | false => rfl
      | true =>
        obtain ⟨j, hj, he⟩ := HR.out.1 rfl
        exact absurd he (hno j (by omega))
    subst hrf
    have HK := hid hK
    have HS := hid hS
    have r0 : W.cell? ⟨w.heap.size + 1, 0, none⟩ = some (.bool false) := hS.r.cell rfl
    have z0 := hS.r.frozen 0
    clear hS hno hK
    gi_wp2
    have hS2 : Blk (W.setCell ⟨w.heap.size + 1, 0, none⟩ (.bool false)) (w.heap.size + 1) #[.bool false] := HS.out.r.set 0 (.bool false)
    have hF3 : Fr (fun k => k = w.heap.size + 1) W (W.setCell ⟨w.heap.size + 1, 0, none⟩ (.bool false)) := Fr.setCell _ _ _ rfl
    have hzz := HZ.out
    refine loop_end (v := .bool false) ((hF3.block _ (Array.getElem?_eq_some_iff.1 HK.out).1 (by omega)).trans HK.out) (fun W' F => ?_) (fun W' F => ⟨rfl, HS.out.f.since ((hF3.mono (fun i (hi : i = w.heap.size + 1) => (show w.heap.size ≤ i by omega))).trans (F.mono (fun i (hi : i = W0.heap.size) => (show w.heap.size ≤ i by omega)))) (fun i hi hl => by omega)⟩)
    have p0 : W'.cell? ⟨w.heap.size + 1, 0, none⟩ = some (.bool false) := (hS2.keep F (by omega)).cell rfl
    simp [results, Try.results30, go_sem, p0]
  case stop =>
    rintro j W hj ⟨hS, he⟩ hK
    have hrt : r = true := HR.out.2 ⟨j, hj, he⟩
    subst hrt
    have HK := hid hK
    have HS := hid hS
    clear hS he hK
    gi_wp2
    have hzz := HZ.out
    refine loop_end (v := .bool true) HK.out (fun W' F => ?_) (fun W' F => ⟨rfl, HS.out.f.since F (fun i hi hl => by have h2 : i = W0.heap.size := hi; omega)⟩)
    have p0 : W'.cell? ⟨w.heap.size + 1, 0, none⟩ = some (.bool true) := (HS.out.r.keep F (by omega)).cell rfl
    simp [results, Try.results30, go_sem, p0]

end
end Go.Proofs.Ytoajdknhllaoeaa
