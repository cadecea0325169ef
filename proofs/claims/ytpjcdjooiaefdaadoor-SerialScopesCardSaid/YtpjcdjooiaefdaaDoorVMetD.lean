/-
  A Close.
-/
import Derived.Test.YtpjcdjooiaefdaaDoorVMet
import Derived.Deep.RegionHeld3
import Derived.Laws.IdiomStrings
namespace Go.Proofs.YtpjcdjooiaefdaaDoor
open Go.RowKit
set_option linter.unusedVariables false

section
variable {cel : Frm → Array Value} (tb rb a : Nat) (r : Rw) (F : Frm) (op : Int) (C K : Value) (w : World)

/-- What scopes told, byte by byte. -/
def clV (l : List Bool) : List Value := (clB l).map fun b => .int .u8 (b.toNat : Int)
theorem infou8 : (Tryd.prog.info? 5).map (fun i => (i.zero, i.size, i.bytes)) = some (some (.int .u8 0), 1, 1) := by kernel_rfl

theorem Tabs.keepS {w w' : World} {S : Nat → Prop} (h : Tabs w) (f : Fr S w w') (hs : ∀ k, k < 2 → ¬ S k) : Tabs w' :=
  ⟨Nat.le_trans h.two f.size, fun j hj => (cell_keep f (p := ⟨0, j, none⟩) (by have := h.two; show 0 < _; omega) (hs 0 (by omega))).trans (h.ops j hj), fun j hj => (cell_keep f (p := ⟨1, j, none⟩) (by have := h.two; show 1 < _; omega) (hs 1 (by omega))).trans (h.ends j hj)⟩

set_option maxRecDepth 100000 in
set_option maxHeartbeats 2000000 in
theorem close_true (i : Ins) (hC : Cel cel) (CA : Option Addr) (ht : Tabs w) (hlow : ∀ k, k < 2 → ¬ (k = tb ∨ ownB CA k)) (B ib d k0 : Nat) (A0 : Option Addr) (l : List Bool) (cap : Nat) (hn : l.length < 2000000) (hBw : B ≤ w.heap.size) (hcl : OwnR w B 5 1 CA l.length cap (clV l)) (hI : TBlk w ib (scel A0 d k0 true) 69) (h : IsT w cel tb rb a r F (.pointer (some ⟨ib, 0, none⟩)) op (.slice CA l.length cap) K) :
    Calls Tryd.prog 34 #[.pointer (some ⟨tb, 0, none⟩), i.val] w fun e w' => ∃ CA' cap', e = .returned (.tuple #[]) ∧ OwnR w' B 5 1 CA' (l.length + 1) cap' (clV (l ++ [true])) ∧ IsT w' cel tb rb a r (F.closed i true) (.pointer A0) op (.slice CA' (l.length + 1 : Nat) cap') K ∧ Fr (fun j => j = tb ∨ ownB CA j) w w' := by
  have HCL := hid (fun W (hW : Tabs W) => close_any hC F i true W hW)
  obtain ⟨G, hG⟩ : ∃ G, F.closed i true = G := ⟨_, rfl⟩
  rw [hG] at HCL ⊢
  clear hG
  have HTB := hid ht
  have HLOW := hid hlow
  obtain ⟨n, hln⟩ : ∃ n, l.length = n := ⟨_, rfl⟩
  rw [hln] at hn hcl h ⊢
  have hnt : ¬ ownB CA tb := OwnR.ne hcl h (by decide)
  have hni : ¬ ownB CA ib := OwnR.ne hcl hI (by decide)
  have hti : tb ≠ ib := TBlk.ne h hI (by decide)
  have HOWN := hid hcl
  obtain ⟨i0, hi, hz⟩ := Option.map_eq_some_iff.1 infou8
  simp only [Prod.mk.injEq] at hz
  obtain ⟨hz0, hz1, hz2⟩ := hz
  have HII := hid hi
  have HZ0 := hid hz0
  have HZ1 := hid hz1
  have HZ2 := hid hz2
  clear hi hz0 hz1 hz2
  unfold Ins.val at *
  obtain ⟨N, hN, hN1, hN2⟩ := nineteen
  have hA := Fr.alloc (fun _ => False) w (.cells #[.int .i64 i.op, .int .i64 i.a, .int .i64 i.b, .int .i64 i.c, .int .i64 i.n] 43)
  have hB := Blk.new w #[.int .i64 i.op, .int .i64 i.a, .int .i64 i.b, .int .i64 i.c, .int .i64 i.n] 43
  obtain ⟨w1, hw1⟩ : ∃ w1, w1 = w.alloc (.cells #[.int .i64 i.op, .int .i64 i.a, .int .i64 i.b, .int .i64 i.c, .int .i64 i.n] 43) := ⟨_, rfl⟩
  rw [← hw1] at hA hB
  have HA := hid hA
  have HB := hid hB
  have HT := hid (h.keep hA (fun h => h))
  have hlt := HT.out.lt
  have htl : tb < w.heap.size := h.lt
  have hsz : ∀ F, (cel F).size = N := fun F => by rw [hC.size, hN]
  have hN0 : ¬ N = 0 := by omega
  have HN := hid hN
  have HI := hid (hI.keep hA (fun h => h))
  have hil := (TBlk.blk HI.out).lt
  obtain ⟨c28, c29, c30, c31⟩ := HT.out.hi hC
  have x3 : w1.cell? ⟨ib, 3, none⟩ = some (.bool true) := (TBlk.blk HI.out).cell rfl
  have HOW2 := hid (OwnR.same HOWN.out (hA.trans (Fr.alloc _ w1 (.cells #[.int .u8 49] 5))))
  have HNW := hid (show ∀ j u, ([.int .u8 49] : List Value)[j]? = some u → (w1.alloc (.cells #[.int .u8 49] 5)).cell? ((⟨w1.heap.size, 0, none⟩ : Addr).add j) = some u from news_cells w1 5 [.int .u8 49])
  have hB1 : B ≤ w1.heap.size := Nat.le_trans hBw hA.size
  have HLE := hid hln
  have HNT := hid hnt
  have HNI := hid hni
  have HTI := hid hti
  clear hA hB h hN hI hcl hln hlow ht hnt hni hti
  go_enter Tryd.func34, Tryd.ntmps34
  go_upto_region 1 with fail
  rw [← hw1]
  clear hw1
  go_wp2_with (at_builtin; (refine wpList_append_own _ rfl _ _ 61 rfl B 5 i0 (.int .u8 0) 1 1 Tryd.underlying61 HII.out HZ0.out HZ1.out HZ2.out rfl (by decide) (.slice CA n cap) n _ rfl HOW2.out ⟨w1.heap.size, 0, none⟩ 1 1 [.int .u8 49] rfl rfl HNW.out (by simp [Value.oneCell']) (by unfold maxLen; omega) (by omega) (by simp; omega) ?_; intro v2 w2 hown2 hgrow2 hnil2; clear hnil2; obtain ⟨A2, c2, rfl, ho2⟩ := OwnR.form hown2; have HO2 := hid ho2; have HF2 := hid (((Fr.alloc (fun _ => False) w1 (.cells #[.int .u8 49] 5)).mono (fun _ h => h.elim)).trans (Fr.of_grown hgrow2)); clear hown2 hgrow2 ho2; have HT2 := hid (HT.out.keep HF2.out HNT.out); have HI2 := hid (HI.out.keep HF2.out HNI.out); have HB2 := hid (HB.out.keep HF2.out (fun hh => by have := OwnR.lt HOWN.out _ hh; omega)); obtain ⟨d28, d29, d30, d31⟩ := HT2.out.hi hC; have z28 := HT2.out.frozen 28; have z30 := HT2.out.frozen 30; have y0 : w2.cell? ⟨ib, 0, none⟩ = some (.pointer A0) := (TBlk.blk HI2.out).cell rfl; have hl2 := HT2.out.lt; have hil2 := (TBlk.blk HI2.out).lt; clear c28 c29 c30 c31 x3))
  have hT3 := HT2.out.set_hi hC (j := 2) (v := .slice A2 (n + 1) c2) (I' := .pointer (some ⟨ib, 0, none⟩)) (op' := op) (C' := .slice A2 (n + 1) c2) (K' := K) rfl
  have hT4 := hT3.set_hi hC (j := 0) (v := .pointer A0) (I' := .pointer A0) (op' := op) (C' := .slice A2 (n + 1) c2) (K' := K) rfl
  have hF4 := (Fr.setCell (S := fun j => j = tb) w2 ⟨tb, 28 + 2, none⟩ (.slice A2 (n + 1) c2) rfl).trans (Fr.setCell (S := fun j => j = tb) _ ⟨tb, 28 + 0, none⟩ (.pointer A0) rfl)
  simp only [Nat.add_zero, Nat.reduceAdd] at hT4 hF4
  have hO4 := OwnR.keep HO2.out hF4 (fun j hj e => by subst e; exact OwnR.ne HO2.out HT2.out (by decide) hj)
  have hB4 := HB2.out.keep hF4 (by omega)
  obtain ⟨w4, hw4⟩ : ∃ w4, w4 = (w2.setCell ⟨tb, 30, none⟩ (.slice A2 (n + 1) c2)).setCell ⟨tb, 28, none⟩ (.pointer A0) := ⟨_, rfl⟩
  rw [← hw4] at hT4 hF4 hO4 hB4 ⊢
  clear hw4 d28 d29 d30 d31 z28 z30 y0 hT3
  have HT4 := hid hT4
  have HO4 := hid hO4
  have HF4 := hid (((HA.out.mono (fun _ h => h.elim)).trans (HF2.out.mono (fun _ h => .inr h))).trans (hF4.mono (fun _ h => .inl h)) : Fr (fun j => j = tb ∨ ownB CA j) w w4)
  have hl := HT4.out.load hC HN.out
  have hl' := IsT.load (w := w4.drew) hC HT4.out HN.out
  have hlt4 := HT4.out.lt
  have HTB4 := hid (show Tabs w4.drew from HTB.out.keepS (HF4.out.trans (Fr.drew _ _)) HLOW.out)
  have b0 := hB4.cell (i := 0) rfl
  have b1 := hB4.cell (i := 1) rfl
  have b2 := hB4.cell (i := 2) rfl
  have b3 := hB4.cell (i := 3) rfl
  have b4 := hB4.cell (i := 4) rfl
  simp only [List.getElem_toArray, List.getElem_cons_zero, List.getElem_cons_succ] at b0 b1 b2 b3 b4
  clear hT4 hO4 hF4 hB4
  go_region_with ((go_at_call 52; (with_reducible refine (HCL.out _ HTB4.out).mono ?_); rintro e w7 ⟨rfl, hF7⟩; have hF7 := (Fr.drew (fun _ => False) w4).trans hF7; have HT7 := hid (HT4.out.keep hF7 (fun h => h)); have HO7 := hid (OwnR.same HO4.out hF7); have HF7 := hid (HF4.out.trans (hF7.mono (fun _ h => h.elim))); have hst := HT7.out.store hC G; clear hF7))
  all_goals
    go_wp2_with fail
    go_end0
    refine ⟨A2, c2, rfl, ?_, HT7.out.put hC _, HF7.out.trans (setRow_fr _ _ _ (.inl rfl))⟩
    exact OwnR.eq (OwnR.keep HO7.out (setRow_fr (S := fun j => j = tb) _ _ _ rfl) (fun j hj e => by subst e; exact OwnR.ne HO7.out HT7.out (by decide) hj)) (by simp [clV, clB])

set_option maxRecDepth 100000 in
set_option maxHeartbeats 2000000 in
theorem close_false (i : Ins) (hC : Cel cel) (CA : Option Addr) (ht : Tabs w) (hlow : ∀ k, k < 2 → ¬ (k = tb ∨ ownB CA k)) (B ib d k0 : Nat) (A0 : Option Addr) (l : List Bool) (cap : Nat) (hn : l.length < 2000000) (hBw : B ≤ w.heap.size) (hcl : OwnR w B 5 1 CA l.length cap (clV l)) (hI : TBlk w ib (scel A0 d k0 false) 69) (h : IsT w cel tb rb a r F (.pointer (some ⟨ib, 0, none⟩)) op (.slice CA l.length cap) K) :
    Calls Tryd.prog 34 #[.pointer (some ⟨tb, 0, none⟩), i.val] w fun e w' => ∃ CA' cap', e = .returned (.tuple #[]) ∧ OwnR w' B 5 1 CA' (l.length + 1) cap' (clV (l ++ [false])) ∧ IsT w' cel tb rb a r (F.closed i false) (.pointer A0) op (.slice CA' (l.length + 1 : Nat) cap') K ∧ Fr (fun j => j = tb ∨ ownB CA j) w w' := by
  have HCL := hid (fun W (hW : Tabs W) => close_any hC F i false W hW)
  obtain ⟨G, hG⟩ : ∃ G, F.closed i false = G := ⟨_, rfl⟩
  rw [hG] at HCL ⊢
  clear hG
  have HTB := hid ht
  have HLOW := hid hlow
  obtain ⟨n, hln⟩ : ∃ n, l.length = n := ⟨_, rfl⟩
  rw [hln] at hn hcl h ⊢
  have hnt : ¬ ownB CA tb := OwnR.ne hcl h (by decide)
  have hni : ¬ ownB CA ib := OwnR.ne hcl hI (by decide)
  have hti : tb ≠ ib := TBlk.ne h hI (by decide)
  have HOWN := hid hcl
  obtain ⟨i0, hi, hz⟩ := Option.map_eq_some_iff.1 infou8
  simp only [Prod.mk.injEq] at hz
  obtain ⟨hz0, hz1, hz2⟩ := hz
  have HII := hid hi
  have HZ0 := hid hz0
  have HZ1 := hid hz1
  have HZ2 := hid hz2
  clear hi hz0 hz1 hz2
  unfold Ins.val at *
  obtain ⟨N, hN, hN1, hN2⟩ := nineteen
  have hA := Fr.alloc (fun _ => False) w (.cells #[.int .i64 i.op, .int .i64 i.a, .int .i64 i.b, .int .i64 i.c, .int .i64 i.n] 43)
  have hB := Blk.new w #[.int .i64 i.op, .int .i64 i.a, .int .i64 i.b, .int .i64 i.c, .int .i64 i.n] 43
  obtain ⟨w1, hw1⟩ : ∃ w1, w1 = w.alloc (.cells #[.int .i64 i.op, .int .i64 i.a, .int .i64 i.b, .int .i64 i.c, .int .i64 i.n] 43) := ⟨_, rfl⟩
  rw [← hw1] at hA hB
  have HA := hid hA
  have HB := hid hB
  have HT := hid (h.keep hA (fun h => h))
  have hlt := HT.out.lt
  have htl : tb < w.heap.size := h.lt
  have hsz : ∀ F, (cel F).size = N := fun F => by rw [hC.size, hN]
  have hN0 : ¬ N = 0 := by omega
  have HN := hid hN
  have HI := hid (hI.keep hA (fun h => h))
  have hil := (TBlk.blk HI.out).lt
  obtain ⟨c28, c29, c30, c31⟩ := HT.out.hi hC
  have x3 : w1.cell? ⟨ib, 3, none⟩ = some (.bool false) := (TBlk.blk HI.out).cell rfl
  have HOW2 := hid (OwnR.same HOWN.out (hA.trans (Fr.alloc _ w1 (.cells #[.int .u8 48] 5))))
  have HNW := hid (show ∀ j u, ([.int .u8 48] : List Value)[j]? = some u → (w1.alloc (.cells #[.int .u8 48] 5)).cell? ((⟨w1.heap.size, 0, none⟩ : Addr).add j) = some u from news_cells w1 5 [.int .u8 48])
  have hB1 : B ≤ w1.heap.size := Nat.le_trans hBw hA.size
  have HLE := hid hln
  have HNT := hid hnt
  have HNI := hid hni
  have HTI := hid hti
  clear hA hB h hN hI hcl hln hlow ht hnt hni hti
  go_enter Tryd.func34, Tryd.ntmps34
  go_upto_region 1 with fail
  rw [← hw1]
  clear hw1
  go_wp2_with (at_builtin; (refine wpList_append_own _ rfl _ _ 61 rfl B 5 i0 (.int .u8 0) 1 1 Tryd.underlying61 HII.out HZ0.out HZ1.out HZ2.out rfl (by decide) (.slice CA n cap) n _ rfl HOW2.out ⟨w1.heap.size, 0, none⟩ 1 1 [.int .u8 48] rfl rfl HNW.out (by simp [Value.oneCell']) (by unfold maxLen; omega) (by omega) (by simp; omega) ?_; intro v2 w2 hown2 hgrow2 hnil2; clear hnil2; obtain ⟨A2, c2, rfl, ho2⟩ := OwnR.form hown2; have HO2 := hid ho2; have HF2 := hid (((Fr.alloc (fun _ => False) w1 (.cells #[.int .u8 48] 5)).mono (fun _ h => h.elim)).trans (Fr.of_grown hgrow2)); clear hown2 hgrow2 ho2; have HT2 := hid (HT.out.keep HF2.out HNT.out); have HI2 := hid (HI.out.keep HF2.out HNI.out); have HB2 := hid (HB.out.keep HF2.out (fun hh => by have := OwnR.lt HOWN.out _ hh; omega)); obtain ⟨d28, d29, d30, d31⟩ := HT2.out.hi hC; have z28 := HT2.out.frozen 28; have z30 := HT2.out.frozen 30; have y0 : w2.cell? ⟨ib, 0, none⟩ = some (.pointer A0) := (TBlk.blk HI2.out).cell rfl; have hl2 := HT2.out.lt; have hil2 := (TBlk.blk HI2.out).lt; clear c28 c29 c30 c31 x3))
  have hT3 := HT2.out.set_hi hC (j := 2) (v := .slice A2 (n + 1) c2) (I' := .pointer (some ⟨ib, 0, none⟩)) (op' := op) (C' := .slice A2 (n + 1) c2) (K' := K) rfl
  have hT4 := hT3.set_hi hC (j := 0) (v := .pointer A0) (I' := .pointer A0) (op' := op) (C' := .slice A2 (n + 1) c2) (K' := K) rfl
  have hF4 := (Fr.setCell (S := fun j => j = tb) w2 ⟨tb, 28 + 2, none⟩ (.slice A2 (n + 1) c2) rfl).trans (Fr.setCell (S := fun j => j = tb) _ ⟨tb, 28 + 0, none⟩ (.pointer A0) rfl)
  simp only [Nat.add_zero, Nat.reduceAdd] at hT4 hF4
  have hO4 := OwnR.keep HO2.out hF4 (fun j hj e => by subst e; exact OwnR.ne HO2.out HT2.out (by decide) hj)
  have hB4 := HB2.out.keep hF4 (by omega)
  obtain ⟨w4, hw4⟩ : ∃ w4, w4 = (w2.setCell ⟨tb, 30, none⟩ (.slice A2 (n + 1) c2)).setCell ⟨tb, 28, none⟩ (.pointer A0) := ⟨_, rfl⟩
  rw [← hw4] at hT4 hF4 hO4 hB4 ⊢
  clear hw4 d28 d29 d30 d31 z28 z30 y0 hT3
  have HT4 := hid hT4
  have HO4 := hid hO4
  have HF4 := hid (((HA.out.mono (fun _ h => h.elim)).trans (HF2.out.mono (fun _ h => .inr h))).trans (hF4.mono (fun _ h => .inl h)) : Fr (fun j => j = tb ∨ ownB CA j) w w4)
  have hl := HT4.out.load hC HN.out
  have hl' := IsT.load (w := w4.drew) hC HT4.out HN.out
  have hlt4 := HT4.out.lt
  have HTB4 := hid (show Tabs w4.drew from HTB.out.keepS (HF4.out.trans (Fr.drew _ _)) HLOW.out)
  have b0 := hB4.cell (i := 0) rfl
  have b1 := hB4.cell (i := 1) rfl
  have b2 := hB4.cell (i := 2) rfl
  have b3 := hB4.cell (i := 3) rfl
  have b4 := hB4.cell (i := 4) rfl
  simp only [List.getElem_toArray, List.getElem_cons_zero, List.getElem_cons_succ] at b0 b1 b2 b3 b4
  clear hT4 hO4 hF4 hB4
  go_region_with ((go_at_call 52; (with_reducible refine (HCL.out _ HTB4.out).mono ?_); rintro e w7 ⟨rfl, hF7⟩; have hF7 := (Fr.drew (fun _ => False) w4).trans hF7; have HT7 := hid (HT4.out.keep hF7 (fun h => h)); have HO7 := hid (OwnR.same HO4.out hF7); have HF7 := hid (HF4.out.trans (hF7.mono (fun _ h => h.elim))); have hst := HT7.out.store hC G; clear hF7))
  all_goals
    go_wp2_with fail
    go_end0
    refine ⟨A2, c2, rfl, ?_, HT7.out.put hC _, HF7.out.trans (setRow_fr _ _ _ (.inl rfl))⟩
    exact OwnR.eq (OwnR.keep HO7.out (setRow_fr (S := fun j => j = tb) _ _ _ rfl) (fun j hj e => by subst e; exact OwnR.ne HO7.out HT7.out (by decide) hj)) (by simp [clV, clB])

end

end Go.Proofs.YtpjcdjooiaefdaaDoor

/-
  What a task tells.
-/
namespace Go.Proofs.YtpjcdjooiaefdaaDoor
open Go.RowKit
set_option linter.unusedVariables false

theorem infoW : (Tryd.prog.info? 33).map (·.size) = some 7 := by kernel_rfl

theorem conv_closes (w : World) (B : Nat) (A : Option Addr) (cap : Nat) (l : List Bool) (h : OwnR w B 5 1 A l.length cap (clV l)) :
    (convert 61 9 (.slice A l.length cap)).run Tryd.prog w = .ok (.string (clS l)) w := by
  rcases Nat.eq_zero_or_pos l.length with h0 | h0
  · have hl := List.length_eq_zero_iff.1 h0
    subst hl
    rw [run_convert_bytes_string w 61 9 5 A ([] : List Bool).length cap (by kernel_rfl) (by kernel_rfl) (by kernel_rfl)]
    simp only [List.length_nil]
    rcases A with _ | A
    · simp [Conv.bytesToString]
      rfl
    · have := run_bytesToString (P := Tryd.prog) w A 0 cap [] (by simp [loadCells]; rfl)
      rw [this]
      rfl
  · obtain ⟨g, rfl, _, _, _, hc⟩ := h.cell h0
    have hlen : (clB l).length = l.length := by simp [clB]
    have := run_convert_bytes_back (P := Tryd.prog) w 61 9 5 ⟨g, 0, none⟩ cap (clB l) (by kernel_rfl) (by kernel_rfl) (by kernel_rfl) (fun j hj => by
      rw [add_none, Nat.zero_add]
      exact hc j _ (by simp [clV, hj]))
    rw [hlen] at this
    exact this

section
variable {cel : Frm → Array Value} (tb rb a : Nat) (r : Rw) (F : Frm) (I : Value) (op : Int) (K : Value) (w : World)

set_option maxRecDepth 100000 in
set_option maxHeartbeats 1000000 in
theorem told_do (hC : Cel cel) (B : Nat) (A : Option Addr) (l : List Bool) (cap : Nat) (hown : OwnR w B 5 1 A l.length cap (clV l)) (h : IsT w cel tb rb a r F I op (.slice A l.length cap) K) :
    Calls Tryd.prog 21 #[.pointer (some ⟨tb, 0, none⟩)] w fun e w' => e = .returned (.agg (Rw.cells { r with st := F.st, cl := l }).toArray) ∧ IsT w' cel tb rb a { r with st := F.st, cl := l } F I op (.slice A l.length cap) K ∧ Fr (fun j => j = tb) w w' := by
  obtain ⟨N, hN, hN1, hN2⟩ := nineteen
  have hN0 : ¬ N = 0 := by omega
  have hnt : ¬ ownB A tb := OwnR.ne hown h (by decide)
  obtain ⟨n, hn⟩ : ∃ n, l.length = n := ⟨_, rfl⟩
  have HCV := hid (fun (W : World) (hW : OwnR W B 5 1 A l.length cap (clV l)) => conv_closes W B A cap l hW)
  obtain ⟨s, hs⟩ : ∃ s, clS l = s := ⟨_, rfl⟩
  obtain ⟨st, hst⟩ : ∃ st, F.st = st := ⟨_, rfl⟩
  rw [hn, hs] at HCV
  rw [hn] at hown h
  rw [hn]
  have hA := Fr.alloc (fun _ => False) w (.cells #[.int .i64 0, .int .i64 0, .int .i64 0, .int .i64 0, .int .i64 0, .int .i64 0, .string ⟨#[]⟩] 33)
  have hB := Blk.new w #[.int .i64 0, .int .i64 0, .int .i64 0, .int .i64 0, .int .i64 0, .int .i64 0, .string ⟨#[]⟩] 33
  obtain ⟨w1, hw1⟩ : ∃ w1, w1 = w.alloc (.cells #[.int .i64 0, .int .i64 0, .int .i64 0, .int .i64 0, .int .i64 0, .int .i64 0, .string ⟨#[]⟩] 33) := ⟨_, rfl⟩
  rw [← hw1] at hA hB
  have HA := hid hA
  have HB := hid hB
  have HT := hid (h.keep hA (fun h => h))
  have HO := hid (OwnR.same hown hA)
  have hlt := HT.out.lt
  have htl : tb < w.heap.size := h.lt
  have HST := hid hst
  have HSS := hid hs
  have HN := hid hn
  have HNT := hid hnt
  have HS := hid (show ∀ w' r', Fr (fun j => j = tb) w1 w' → IsT w' cel tb rb a r' F I op (.slice A n cap) K → w'.cell? ⟨tb, 27, none⟩ = some (.int .i64 st) ∧ w'.cell? ⟨tb, 30, none⟩ = some (.slice A n cap) ∧ (convert 61 9 (.slice A n cap)).run Tryd.prog w' = .ok (.string s) w' from fun w' r' F' hT => by
    refine ⟨?_, (hT.hi hC).2.2.1, HCV.out w' (OwnR.keep HO.out F' (fun j hj e => by subst e; exact HNT.out hj))⟩
    have h2 := hT.mid hC (j := 18) (by omega) (hC.st F)
    rw [← HST.out]
    exact h2)
  have HD := hid (Fr.drew (fun j => j = tb) w1)
  have hT7 := fun (v7 : Int) => IsT.set_lo (w := w1.drew) HT.out (j := 7) (by omega) (v := .int .i64 v7) (r' := { r with st := v7 }) (a' := a) rfl
  have hT8 := fun (v8 : List Bool) => IsT.set_lo (w := w1.drew) HT.out (j := 8) (by omega) (v := .string (clS v8)) (r' := { r with cl := v8 }) (a' := a) rfl
  have HT78 := hid (show IsT ((w1.drew.setCell ⟨tb, 7, none⟩ (.int .i64 st)).setCell ⟨tb, 8, none⟩ (.string s)) cel tb rb a { r with st := st, cl := l } F I op (.slice A n cap) K from by rw [← hs]; exact (hT7 st).set_lo (j := 8) (by omega) rfl)
  have HT87 := hid (show IsT ((w1.drew.setCell ⟨tb, 8, none⟩ (.string s)).setCell ⟨tb, 7, none⟩ (.int .i64 st)) cel tb rb a { r with st := st, cl := l } F I op (.slice A n cap) K from by rw [← hs]; exact (hT8 l).set_lo (j := 7) (by omega) rfl)
  have HT7 := hid (hT7 st)
  have HT8 := hid (show IsT (w1.drew.setCell ⟨tb, 8, none⟩ (.string s)) cel tb rb a { r with cl := l } F I op (.slice A n cap) K from by rw [← hs]; exact hT8 l)
  obtain ⟨_, _, _, _, _, _, _, c7, c8⟩ := HT.out.lo
  have z7 := HT.out.frozen 7
  have z8 := HT.out.frozen 8
  clear hA hB h hN hT7 hT8 hst hs hn hown hnt
  go_enter Tryd.func21, Tryd.ntmps21
  go_upto_region 1 with fail
  try rw [← hw1]
  clear hw1
  go_region_held3 (fun w' => w'.cell? ⟨tb, 27, none⟩ = some (.int .i64 st) ∧ w'.cell? ⟨tb, 30, none⟩ = some (.slice A n cap) ∧ (convert 61 9 (.slice A n cap)).run Tryd.prog w' = .ok (.string s) w')
    (first | exact HS.out _ _ HD.out HT.out | exact HS.out _ _ (HD.out.trans (Fr.setCell _ _ _ rfl)) HT7.out | exact HS.out _ _ (HD.out.trans (Fr.setCell _ _ _ rfl)) HT8.out | exact HS.out _ _ ((HD.out.trans (Fr.setCell _ _ _ rfl)).trans (Fr.setCell _ _ _ rfl)) HT78.out | exact HS.out _ _ ((HD.out.trans (Fr.setCell _ _ _ rfl)).trans (Fr.setCell _ _ _ rfl)) HT87.out)
    (fail)
  all_goals
    first
    | (obtain ⟨w8, hw8⟩ : ∃ w8, w8 = ((w1.setCell ⟨tb, 7, none⟩ (.int .i64 st)).setCell ⟨tb, 8, none⟩ (.string s)).drew := ⟨_, rfl⟩
       rw [← hw8]
       have HT9 := hid (show IsT w8 cel tb rb a { r with st := st, cl := l } F I op (.slice A n cap) K by rw [hw8]; exact HT78.out))
    | (obtain ⟨w8, hw8⟩ : ∃ w8, w8 = ((w1.setCell ⟨tb, 8, none⟩ (.string s)).setCell ⟨tb, 7, none⟩ (.int .i64 st)).drew := ⟨_, rfl⟩
       rw [← hw8]
       have HT9 := hid (show IsT w8 cel tb rb a { r with st := st, cl := l } F I op (.slice A n cap) K by rw [hw8]; exact HT87.out))
  all_goals
    have HF8 := hid (show Fr (fun j => j = tb) w1 w8 by rw [hw8]; exact ((Fr.setCell (S := fun j => j = tb) _ _ _ rfl).trans (Fr.setCell (S := fun j => j = tb) _ _ _ rfl)).trans (Fr.drew _ _))
    have HB8 := hid (HB.out.keep HF8.out (by omega))
    have HF9 := hid ((HA.out.mono (fun _ h => h.elim)).trans HF8.out)
    clear hw8 c7 c8 z7 z8
    obtain ⟨_, _, d2, d3, d4, d5, d6, d7, d8⟩ := HT9.out.lo
    simp only at d2 d3 d4 d5 d6 d7 d8
    rw [HSS.out] at d8
    have hl8 := HT9.out.lt
    go_wp2_with (refine row_store rfl 33 _ _ rfl _ _ rfl rfl HB8.out infoW rfl rfl (by simp [Value.oneCell']) ?_)
    intro w9 hB9 hF9
    go_wp2_with fail
    refine bodyPost_ret (res_one rfl rfl hB9 Tryd.underlying33 rfl infoW rfl) rfl ⟨?_, IsT.keep (by rw [HST.out]; exact HT9.out) hF9 (by omega), HF9.out.since hF9 (fun i hi hl => by omega)⟩
    rw [HST.out]
    simp only [Rw.cells]
    rw [HSS.out]
end

end Go.Proofs.YtpjcdjooiaefdaaDoor
