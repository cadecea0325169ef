/-
  What is told of scopes and of handles.
-/
import Derived.Test.YtpjcdjooiaefdaaDoorVSite
namespace Go.Proofs.YtpjcdjooiaefdaaDoor
open Go.RowKit

theorem beq_of_not {x y : Int} (h : ¬ x = y) : (x == y) = false := beq_eq_false_iff_ne.2 h
theorem bne_of_not {x y : Int} (h : ¬ x = y) : (x != y) = true := by simpa using h

/-- What a site tells of scopes: d is its depth, g that of where it goes to. -/
def scopeS (op d g : Int) : Bool := ((op == 12 || op == 13) && decide (d < 1)) || (op == 16 && !(d == 0)) || ((op == 6 || op == 7) && !(g == d))

set_option maxHeartbeats 1000000 in
theorem scope_12 (F : Option Addr) (nf cf : Nat) (k : Int) (kk : Nat) (a bb c n : Int) (D : Option Addr) (nd cd : Nat) (held : Int) (l : List Int) (d : Int) (w : World) (hD : Nums w w.heap.size D l) (hl : l.length = nd) (hk : l[kk]? = some d)  (q : Bool) (hq : q = decide (d < 1)) :
    Calls Tryd.prog 46 #[Sit.val ⟨F, nf, cf, k, (kk : Nat), ⟨12, a, bb, c, n⟩, D, nd, cd, held⟩] w fun e w' => e = .returned (toldF ⟨F, nf, cf, k, (kk : Nat), ⟨12, a, bb, c, n⟩, D, nd, cd, held⟩ q 15).val ∧ Fr (fun _ => False) w w' := by
  have hkl := (List.getElem?_eq_some_iff.1 hk).1
  rw [hl] at hkl
  obtain ⟨b, o, rfl, hb, hc⟩ := hD (by omega)
  have c0 := hc kk d hk
  unfold Sit.val
  simp only
  have HT1 := hid (fun w => told_any ⟨F, nf, cf, k, (kk : Nat), ⟨12, a, bb, c, n⟩, some ⟨b, o, none⟩, nd, cd, held⟩ true 15 w)
  have HT0 := hid (fun w => told_any ⟨F, nf, cf, k, (kk : Nat), ⟨12, a, bb, c, n⟩, some ⟨b, o, none⟩, nd, cd, held⟩ false 15 w)
  unfold Sit.val toldF Flt.val Flt.none at HT1 HT0
  simp only [if_true, if_false, Bool.false_eq_true] at HT1 HT0
  have HR := hid ((Blk.new (w.alloc (.cells #[.slice F nf cf, .int .i64 k, .int .i64 (kk : Nat), .int .i64 12, .int .i64 a, .int .i64 bb, .int .i64 c, .int .i64 n, .slice (some ⟨b, o, none⟩) nd cd, .int .i64 held] 84)) #[.int .i64 0, .int .i64 0, .int .i64 0] 49).at (n := w.heap.size + 1) (by simp))
  have hA := ((Fr.alloc (fun _ => False) w (.cells #[.slice F nf cf, .int .i64 k, .int .i64 (kk : Nat), .int .i64 12, .int .i64 a, .int .i64 bb, .int .i64 c, .int .i64 n, .slice (some ⟨b, o, none⟩) nd cd, .int .i64 held] 84)).trans (Fr.alloc _ _ (.cells #[.int .i64 0, .int .i64 0, .int .i64 0] 49)))
  rw [← cell_keep hA (p := ⟨b, o + kk, none⟩) hb (fun h => h)] at c0
  have HA := hid hA
  clear hA hk hc hl
  by_cases hd : d < 1
  · skip
    have HQ := hid (show q = true by rw [hq]; first | simp [hd] | simp)
    clear hq
    go_enter Tryd.func46, Tryd.ntmps46
    go_wp2_with fail
    refine (HT1.out _).mono ?_
    rintro e w3 ⟨rfl, hF3⟩
    have hR := HR.out.keep hF3 (fun h => h)
    have r0 := hR.cell (i := 0) rfl
    have r1 := hR.cell (i := 1) rfl
    have r2 := hR.cell (i := 2) rfl
    have z0 := hR.frozen 0
    have z1 := hR.frozen 1
    have z2 := hR.frozen 2
    go_wp2_with fail
    refine bodyPost_ret (v := .agg #[.int .i64 k, .int .i64 (kk : Nat), .int .i64 15]) (by simp [results, Tryd.results46, go_sem, r0, r1, r2]; try rfl) rfl ⟨?_, ?_⟩
    · rw [HQ.out]; rfl
    · exact Fr.put3 (HA.out.trans hF3) _ _ _ (by omega)
  · skip
    have HQ := hid (show q = false by rw [hq]; first | simp [hd] | simp)
    clear hq
    go_enter Tryd.func46, Tryd.ntmps46
    go_wp2_with fail
    refine (HT0.out _).mono ?_
    rintro e w3 ⟨rfl, hF3⟩
    have hR := HR.out.keep hF3 (fun h => h)
    have r0 := hR.cell (i := 0) rfl
    have r1 := hR.cell (i := 1) rfl
    have r2 := hR.cell (i := 2) rfl
    have z0 := hR.frozen 0
    have z1 := hR.frozen 1
    have z2 := hR.frozen 2
    go_wp2_with fail
    refine bodyPost_ret (v := .agg #[.int .i64 0, .int .i64 0, .int .i64 0]) (by simp [results, Tryd.results46, go_sem, r0, r1, r2]; try rfl) rfl ⟨?_, ?_⟩
    · rw [HQ.out]; rfl
    · exact Fr.put3 (HA.out.trans hF3) _ _ _ (by omega)

set_option maxHeartbeats 1000000 in
theorem scope_13 (F : Option Addr) (nf cf : Nat) (k : Int) (kk : Nat) (a bb c n : Int) (D : Option Addr) (nd cd : Nat) (held : Int) (l : List Int) (d : Int) (w : World) (hD : Nums w w.heap.size D l) (hl : l.length = nd) (hk : l[kk]? = some d)  (q : Bool) (hq : q = decide (d < 1)) :
    Calls Tryd.prog 46 #[Sit.val ⟨F, nf, cf, k, (kk : Nat), ⟨13, a, bb, c, n⟩, D, nd, cd, held⟩] w fun e w' => e = .returned (toldF ⟨F, nf, cf, k, (kk : Nat), ⟨13, a, bb, c, n⟩, D, nd, cd, held⟩ q 15).val ∧ Fr (fun _ => False) w w' := by
  have hkl := (List.getElem?_eq_some_iff.1 hk).1
  rw [hl] at hkl
  obtain ⟨b, o, rfl, hb, hc⟩ := hD (by omega)
  have c0 := hc kk d hk
  unfold Sit.val
  simp only
  have HT1 := hid (fun w => told_any ⟨F, nf, cf, k, (kk : Nat), ⟨13, a, bb, c, n⟩, some ⟨b, o, none⟩, nd, cd, held⟩ true 15 w)
  have HT0 := hid (fun w => told_any ⟨F, nf, cf, k, (kk : Nat), ⟨13, a, bb, c, n⟩, some ⟨b, o, none⟩, nd, cd, held⟩ false 15 w)
  unfold Sit.val toldF Flt.val Flt.none at HT1 HT0
  simp only [if_true, if_false, Bool.false_eq_true] at HT1 HT0
  have HR := hid ((Blk.new (w.alloc (.cells #[.slice F nf cf, .int .i64 k, .int .i64 (kk : Nat), .int .i64 13, .int .i64 a, .int .i64 bb, .int .i64 c, .int .i64 n, .slice (some ⟨b, o, none⟩) nd cd, .int .i64 held] 84)) #[.int .i64 0, .int .i64 0, .int .i64 0] 49).at (n := w.heap.size + 1) (by simp))
  have hA := ((Fr.alloc (fun _ => False) w (.cells #[.slice F nf cf, .int .i64 k, .int .i64 (kk : Nat), .int .i64 13, .int .i64 a, .int .i64 bb, .int .i64 c, .int .i64 n, .slice (some ⟨b, o, none⟩) nd cd, .int .i64 held] 84)).trans (Fr.alloc _ _ (.cells #[.int .i64 0, .int .i64 0, .int .i64 0] 49)))
  rw [← cell_keep hA (p := ⟨b, o + kk, none⟩) hb (fun h => h)] at c0
  have HA := hid hA
  clear hA hk hc hl
  by_cases hd : d < 1
  · skip
    have HQ := hid (show q = true by rw [hq]; first | simp [hd] | simp)
    clear hq
    go_enter Tryd.func46, Tryd.ntmps46
    go_wp2_with fail
    refine (HT1.out _).mono ?_
    rintro e w3 ⟨rfl, hF3⟩
    have hR := HR.out.keep hF3 (fun h => h)
    have r0 := hR.cell (i := 0) rfl
    have r1 := hR.cell (i := 1) rfl
    have r2 := hR.cell (i := 2) rfl
    have z0 := hR.frozen 0
    have z1 := hR.frozen 1
    have z2 := hR.frozen 2
    go_wp2_with fail
    refine bodyPost_ret (v := .agg #[.int .i64 k, .int .i64 (kk : Nat), .int .i64 15]) (by simp [results, Tryd.results46, go_sem, r0, r1, r2]; try rfl) rfl ⟨?_, ?_⟩
    · rw [HQ.out]; rfl
    · exact Fr.put3 (HA.out.trans hF3) _ _ _ (by omega)
  · skip
    have HQ := hid (show q = false by rw [hq]; first | simp [hd] | simp)
    clear hq
    go_enter Tryd.func46, Tryd.ntmps46
    go_wp2_with fail
    refine (HT0.out _).mono ?_
    rintro e w3 ⟨rfl, hF3⟩
    have hR := HR.out.keep hF3 (fun h => h)
    have r0 := hR.cell (i := 0) rfl
    have r1 := hR.cell (i := 1) rfl
    have r2 := hR.cell (i := 2) rfl
    have z0 := hR.frozen 0
    have z1 := hR.frozen 1
    have z2 := hR.frozen 2
    go_wp2_with fail
    refine bodyPost_ret (v := .agg #[.int .i64 0, .int .i64 0, .int .i64 0]) (by simp [results, Tryd.results46, go_sem, r0, r1, r2]; try rfl) rfl ⟨?_, ?_⟩
    · rw [HQ.out]; rfl
    · exact Fr.put3 (HA.out.trans hF3) _ _ _ (by omega)

set_option maxHeartbeats 1000000 in
theorem scope_16 (F : Option Addr) (nf cf : Nat) (k : Int) (kk : Nat) (a bb c n : Int) (D : Option Addr) (nd cd : Nat) (held : Int) (l : List Int) (d : Int) (w : World) (hD : Nums w w.heap.size D l) (hl : l.length = nd) (hk : l[kk]? = some d)  (q : Bool) (hq : q = !(d == 0)) :
    Calls Tryd.prog 46 #[Sit.val ⟨F, nf, cf, k, (kk : Nat), ⟨16, a, bb, c, n⟩, D, nd, cd, held⟩] w fun e w' => e = .returned (toldF ⟨F, nf, cf, k, (kk : Nat), ⟨16, a, bb, c, n⟩, D, nd, cd, held⟩ q 15).val ∧ Fr (fun _ => False) w w' := by
  have hkl := (List.getElem?_eq_some_iff.1 hk).1
  rw [hl] at hkl
  obtain ⟨b, o, rfl, hb, hc⟩ := hD (by omega)
  have c0 := hc kk d hk
  unfold Sit.val
  simp only
  have HT1 := hid (fun w => told_any ⟨F, nf, cf, k, (kk : Nat), ⟨16, a, bb, c, n⟩, some ⟨b, o, none⟩, nd, cd, held⟩ true 15 w)
  have HT0 := hid (fun w => told_any ⟨F, nf, cf, k, (kk : Nat), ⟨16, a, bb, c, n⟩, some ⟨b, o, none⟩, nd, cd, held⟩ false 15 w)
  unfold Sit.val toldF Flt.val Flt.none at HT1 HT0
  simp only [if_true, if_false, Bool.false_eq_true] at HT1 HT0
  have HR := hid ((Blk.new (w.alloc (.cells #[.slice F nf cf, .int .i64 k, .int .i64 (kk : Nat), .int .i64 16, .int .i64 a, .int .i64 bb, .int .i64 c, .int .i64 n, .slice (some ⟨b, o, none⟩) nd cd, .int .i64 held] 84)) #[.int .i64 0, .int .i64 0, .int .i64 0] 49).at (n := w.heap.size + 1) (by simp))
  have hA := ((Fr.alloc (fun _ => False) w (.cells #[.slice F nf cf, .int .i64 k, .int .i64 (kk : Nat), .int .i64 16, .int .i64 a, .int .i64 bb, .int .i64 c, .int .i64 n, .slice (some ⟨b, o, none⟩) nd cd, .int .i64 held] 84)).trans (Fr.alloc _ _ (.cells #[.int .i64 0, .int .i64 0, .int .i64 0] 49)))
  rw [← cell_keep hA (p := ⟨b, o + kk, none⟩) hb (fun h => h)] at c0
  have HA := hid hA
  clear hA hk hc hl
  by_cases hd : d = 0
  · subst hd
    have HQ := hid (show q = false by rw [hq]; first | simp [hd] | simp)
    clear hq
    go_enter Tryd.func46, Tryd.ntmps46
    go_wp2_with fail
    refine (HT0.out _).mono ?_
    rintro e w3 ⟨rfl, hF3⟩
    have hR := HR.out.keep hF3 (fun h => h)
    have r0 := hR.cell (i := 0) rfl
    have r1 := hR.cell (i := 1) rfl
    have r2 := hR.cell (i := 2) rfl
    have z0 := hR.frozen 0
    have z1 := hR.frozen 1
    have z2 := hR.frozen 2
    go_wp2_with fail
    refine bodyPost_ret (v := .agg #[.int .i64 0, .int .i64 0, .int .i64 0]) (by simp [results, Tryd.results46, go_sem, r0, r1, r2]; try rfl) rfl ⟨?_, ?_⟩
    · rw [HQ.out]; rfl
    · exact Fr.put3 (HA.out.trans hF3) _ _ _ (by omega)
  · have t1 := bne_of_not hd
    have HQ := hid (show q = true by rw [hq]; first | simp [hd] | simp)
    clear hq
    go_enter Tryd.func46, Tryd.ntmps46
    go_wp2_with fail
    refine (HT1.out _).mono ?_
    rintro e w3 ⟨rfl, hF3⟩
    have hR := HR.out.keep hF3 (fun h => h)
    have r0 := hR.cell (i := 0) rfl
    have r1 := hR.cell (i := 1) rfl
    have r2 := hR.cell (i := 2) rfl
    have z0 := hR.frozen 0
    have z1 := hR.frozen 1
    have z2 := hR.frozen 2
    go_wp2_with fail
    refine bodyPost_ret (v := .agg #[.int .i64 k, .int .i64 (kk : Nat), .int .i64 15]) (by simp [results, Tryd.results46, go_sem, r0, r1, r2]; try rfl) rfl ⟨?_, ?_⟩
    · rw [HQ.out]; rfl
    · exact Fr.put3 (HA.out.trans hF3) _ _ _ (by omega)

set_option maxHeartbeats 1000000 in
theorem scope_6 (F : Option Addr) (nf cf : Nat) (k : Int) (kk : Nat) (a bb c : Int) (D : Option Addr) (nd cd : Nat) (held : Int) (l : List Int) (d : Int) (w : World) (hD : Nums w w.heap.size D l) (hl : l.length = nd) (hk : l[kk]? = some d) (m : Nat) (g : Int) (hg : l[m]? = some g) (q : Bool) (hq : q = !(g == d)) :
    Calls Tryd.prog 46 #[Sit.val ⟨F, nf, cf, k, (kk : Nat), ⟨6, a, bb, c, (m : Nat)⟩, D, nd, cd, held⟩] w fun e w' => e = .returned (toldF ⟨F, nf, cf, k, (kk : Nat), ⟨6, a, bb, c, (m : Nat)⟩, D, nd, cd, held⟩ q 15).val ∧ Fr (fun _ => False) w w' := by
  have hkl := (List.getElem?_eq_some_iff.1 hk).1
  rw [hl] at hkl
  obtain ⟨b, o, rfl, hb, hc⟩ := hD (by omega)
  have c0 := hc kk d hk
  have c1 := hc m g hg
  have hml := (List.getElem?_eq_some_iff.1 hg).1
  rw [hl] at hml
  unfold Sit.val
  simp only
  have HT1 := hid (fun w => told_any ⟨F, nf, cf, k, (kk : Nat), ⟨6, a, bb, c, (m : Nat)⟩, some ⟨b, o, none⟩, nd, cd, held⟩ true 15 w)
  have HT0 := hid (fun w => told_any ⟨F, nf, cf, k, (kk : Nat), ⟨6, a, bb, c, (m : Nat)⟩, some ⟨b, o, none⟩, nd, cd, held⟩ false 15 w)
  unfold Sit.val toldF Flt.val Flt.none at HT1 HT0
  simp only [if_true, if_false, Bool.false_eq_true] at HT1 HT0
  have HR := hid ((Blk.new (w.alloc (.cells #[.slice F nf cf, .int .i64 k, .int .i64 (kk : Nat), .int .i64 6, .int .i64 a, .int .i64 bb, .int .i64 c, .int .i64 (m : Nat), .slice (some ⟨b, o, none⟩) nd cd, .int .i64 held] 84)) #[.int .i64 0, .int .i64 0, .int .i64 0] 49).at (n := w.heap.size + 1) (by simp))
  have hA := ((Fr.alloc (fun _ => False) w (.cells #[.slice F nf cf, .int .i64 k, .int .i64 (kk : Nat), .int .i64 6, .int .i64 a, .int .i64 bb, .int .i64 c, .int .i64 (m : Nat), .slice (some ⟨b, o, none⟩) nd cd, .int .i64 held] 84)).trans (Fr.alloc _ _ (.cells #[.int .i64 0, .int .i64 0, .int .i64 0] 49)))
  rw [← cell_keep hA (p := ⟨b, o + kk, none⟩) hb (fun h => h)] at c0
  rw [← cell_keep hA (p := ⟨b, o + m, none⟩) hb (fun h => h)] at c1
  have HA := hid hA
  clear hA hk hc hl hg
  by_cases hd : g = d
  · subst hd
    have HQ := hid (show q = false by rw [hq]; first | simp [hd] | simp)
    clear hq
    go_enter Tryd.func46, Tryd.ntmps46
    go_wp2_with fail
    refine (HT0.out _).mono ?_
    rintro e w3 ⟨rfl, hF3⟩
    have hR := HR.out.keep hF3 (fun h => h)
    have r0 := hR.cell (i := 0) rfl
    have r1 := hR.cell (i := 1) rfl
    have r2 := hR.cell (i := 2) rfl
    have z0 := hR.frozen 0
    have z1 := hR.frozen 1
    have z2 := hR.frozen 2
    go_wp2_with fail
    refine bodyPost_ret (v := .agg #[.int .i64 0, .int .i64 0, .int .i64 0]) (by simp [results, Tryd.results46, go_sem, r0, r1, r2]; try rfl) rfl ⟨?_, ?_⟩
    · rw [HQ.out]; rfl
    · exact Fr.put3 (HA.out.trans hF3) _ _ _ (by omega)
  · have t1 := bne_of_not hd
    have HQ := hid (show q = true by rw [hq]; first | simp [hd] | simp)
    clear hq
    go_enter Tryd.func46, Tryd.ntmps46
    go_wp2_with fail
    refine (HT1.out _).mono ?_
    rintro e w3 ⟨rfl, hF3⟩
    have hR := HR.out.keep hF3 (fun h => h)
    have r0 := hR.cell (i := 0) rfl
    have r1 := hR.cell (i := 1) rfl
    have r2 := hR.cell (i := 2) rfl
    have z0 := hR.frozen 0
    have z1 := hR.frozen 1
    have z2 := hR.frozen 2
    go_wp2_with fail
    refine bodyPost_ret (v := .agg #[.int .i64 k, .int .i64 (kk : Nat), .int .i64 15]) (by simp [results, Tryd.results46, go_sem, r0, r1, r2]; try rfl) rfl ⟨?_, ?_⟩
    · rw [HQ.out]; rfl
    · exact Fr.put3 (HA.out.trans hF3) _ _ _ (by omega)

set_option maxHeartbeats 1000000 in
theorem scope_7 (F : Option Addr) (nf cf : Nat) (k : Int) (kk : Nat) (a bb c : Int) (D : Option Addr) (nd cd : Nat) (held : Int) (l : List Int) (d : Int) (w : World) (hD : Nums w w.heap.size D l) (hl : l.length = nd) (hk : l[kk]? = some d) (m : Nat) (g : Int) (hg : l[m]? = some g) (q : Bool) (hq : q = !(g == d)) :
    Calls Tryd.prog 46 #[Sit.val ⟨F, nf, cf, k, (kk : Nat), ⟨7, a, bb, c, (m : Nat)⟩, D, nd, cd, held⟩] w fun e w' => e = .returned (toldF ⟨F, nf, cf, k, (kk : Nat), ⟨7, a, bb, c, (m : Nat)⟩, D, nd, cd, held⟩ q 15).val ∧ Fr (fun _ => False) w w' := by
  have hkl := (List.getElem?_eq_some_iff.1 hk).1
  rw [hl] at hkl
  obtain ⟨b, o, rfl, hb, hc⟩ := hD (by omega)
  have c0 := hc kk d hk
  have c1 := hc m g hg
  have hml := (List.getElem?_eq_some_iff.1 hg).1
  rw [hl] at hml
  unfold Sit.val
  simp only
  have HT1 := hid (fun w => told_any ⟨F, nf, cf, k, (kk : Nat), ⟨7, a, bb, c, (m : Nat)⟩, some ⟨b, o, none⟩, nd, cd, held⟩ true 15 w)
  have HT0 := hid (fun w => told_any ⟨F, nf, cf, k, (kk : Nat), ⟨7, a, bb, c, (m : Nat)⟩, some ⟨b, o, none⟩, nd, cd, held⟩ false 15 w)
  unfold Sit.val toldF Flt.val Flt.none at HT1 HT0
  simp only [if_true, if_false, Bool.false_eq_true] at HT1 HT0
  have HR := hid ((Blk.new (w.alloc (.cells #[.slice F nf cf, .int .i64 k, .int .i64 (kk : Nat), .int .i64 7, .int .i64 a, .int .i64 bb, .int .i64 c, .int .i64 (m : Nat), .slice (some ⟨b, o, none⟩) nd cd, .int .i64 held] 84)) #[.int .i64 0, .int .i64 0, .int .i64 0] 49).at (n := w.heap.size + 1) (by simp))
  have hA := ((Fr.alloc (fun _ => False) w (.cells #[.slice F nf cf, .int .i64 k, .int .i64 (kk : Nat), .int .i64 7, .int .i64 a, .int .i64 bb, .int .i64 c, .int .i64 (m : Nat), .slice (some ⟨b, o, none⟩) nd cd, .int .i64 held] 84)).trans (Fr.alloc _ _ (.cells #[.int .i64 0, .int .i64 0, .int .i64 0] 49)))
  rw [← cell_keep hA (p := ⟨b, o + kk, none⟩) hb (fun h => h)] at c0
  rw [← cell_keep hA (p := ⟨b, o + m, none⟩) hb (fun h => h)] at c1
  have HA := hid hA
  clear hA hk hc hl hg
  by_cases hd : g = d
  · subst hd
    have HQ := hid (show q = false by rw [hq]; first | simp [hd] | simp)
    clear hq
    go_enter Tryd.func46, Tryd.ntmps46
    go_wp2_with fail
    refine (HT0.out _).mono ?_
    rintro e w3 ⟨rfl, hF3⟩
    have hR := HR.out.keep hF3 (fun h => h)
    have r0 := hR.cell (i := 0) rfl
    have r1 := hR.cell (i := 1) rfl
    have r2 := hR.cell (i := 2) rfl
    have z0 := hR.frozen 0
    have z1 := hR.frozen 1
    have z2 := hR.frozen 2
    go_wp2_with fail
    refine bodyPost_ret (v := .agg #[.int .i64 0, .int .i64 0, .int .i64 0]) (by simp [results, Tryd.results46, go_sem, r0, r1, r2]; try rfl) rfl ⟨?_, ?_⟩
    · rw [HQ.out]; rfl
    · exact Fr.put3 (HA.out.trans hF3) _ _ _ (by omega)
  · have t1 := bne_of_not hd
    have HQ := hid (show q = true by rw [hq]; first | simp [hd] | simp)
    clear hq
    go_enter Tryd.func46, Tryd.ntmps46
    go_wp2_with fail
    refine (HT1.out _).mono ?_
    rintro e w3 ⟨rfl, hF3⟩
    have hR := HR.out.keep hF3 (fun h => h)
    have r0 := hR.cell (i := 0) rfl
    have r1 := hR.cell (i := 1) rfl
    have r2 := hR.cell (i := 2) rfl
    have z0 := hR.frozen 0
    have z1 := hR.frozen 1
    have z2 := hR.frozen 2
    go_wp2_with fail
    refine bodyPost_ret (v := .agg #[.int .i64 k, .int .i64 (kk : Nat), .int .i64 15]) (by simp [results, Tryd.results46, go_sem, r0, r1, r2]; try rfl) rfl ⟨?_, ?_⟩
    · rw [HQ.out]; rfl
    · exact Fr.put3 (HA.out.trans hF3) _ _ _ (by omega)

set_option maxHeartbeats 1000000 in
theorem scope_other (F : Option Addr) (nf cf : Nat) (k : Int) (kk : Nat) (op a bb c n : Int) (D : Option Addr) (nd cd : Nat) (held : Int) (l : List Int) (d : Int) (w : World) (hD : Nums w w.heap.size D l) (hl : l.length = nd) (hk : l[kk]? = some d) (h1 : ¬ op = 12) (h2 : ¬ op = 13) (h3 : ¬ op = 16) (h4 : ¬ op = 6) (h5 : ¬ op = 7) (q : Bool) (hq : q = false) :
    Calls Tryd.prog 46 #[Sit.val ⟨F, nf, cf, k, (kk : Nat), ⟨op, a, bb, c, n⟩, D, nd, cd, held⟩] w fun e w' => e = .returned (toldF ⟨F, nf, cf, k, (kk : Nat), ⟨op, a, bb, c, n⟩, D, nd, cd, held⟩ q 15).val ∧ Fr (fun _ => False) w w' := by
  have hkl := (List.getElem?_eq_some_iff.1 hk).1
  rw [hl] at hkl
  obtain ⟨b, o, rfl, hb, hc⟩ := hD (by omega)
  have c0 := hc kk d hk
  unfold Sit.val
  simp only
  have HT1 := hid (fun w => told_any ⟨F, nf, cf, k, (kk : Nat), ⟨op, a, bb, c, n⟩, some ⟨b, o, none⟩, nd, cd, held⟩ true 15 w)
  have HT0 := hid (fun w => told_any ⟨F, nf, cf, k, (kk : Nat), ⟨op, a, bb, c, n⟩, some ⟨b, o, none⟩, nd, cd, held⟩ false 15 w)
  unfold Sit.val toldF Flt.val Flt.none at HT1 HT0
  simp only [if_true, if_false, Bool.false_eq_true] at HT1 HT0
  have HR := hid ((Blk.new (w.alloc (.cells #[.slice F nf cf, .int .i64 k, .int .i64 (kk : Nat), .int .i64 op, .int .i64 a, .int .i64 bb, .int .i64 c, .int .i64 n, .slice (some ⟨b, o, none⟩) nd cd, .int .i64 held] 84)) #[.int .i64 0, .int .i64 0, .int .i64 0] 49).at (n := w.heap.size + 1) (by simp))
  have hA := ((Fr.alloc (fun _ => False) w (.cells #[.slice F nf cf, .int .i64 k, .int .i64 (kk : Nat), .int .i64 op, .int .i64 a, .int .i64 bb, .int .i64 c, .int .i64 n, .slice (some ⟨b, o, none⟩) nd cd, .int .i64 held] 84)).trans (Fr.alloc _ _ (.cells #[.int .i64 0, .int .i64 0, .int .i64 0] 49)))
  rw [← cell_keep hA (p := ⟨b, o + kk, none⟩) hb (fun h => h)] at c0
  have HA := hid hA
  clear hA hk hc hl
  have t1 := beq_of_not h1
  have t2 := beq_of_not h2
  have t3 := beq_of_not h3
  have t4 := beq_of_not h4
  have t5 := beq_of_not h5
  have HQ := hid hq
  clear hq
  go_enter Tryd.func46, Tryd.ntmps46
  go_wp2_with fail
  refine (HT0.out _).mono ?_
  rintro e w3 ⟨rfl, hF3⟩
  have hR := HR.out.keep hF3 (fun h => h)
  have r0 := hR.cell (i := 0) rfl
  have r1 := hR.cell (i := 1) rfl
  have r2 := hR.cell (i := 2) rfl
  have z0 := hR.frozen 0
  have z1 := hR.frozen 1
  have z2 := hR.frozen 2
  go_wp2_with fail
  refine bodyPost_ret (v := .agg #[.int .i64 0, .int .i64 0, .int .i64 0]) (by simp [results, Tryd.results46, go_sem, r0, r1, r2]; try rfl) rfl ⟨?_, ?_⟩
  · rw [HQ.out]; rfl
  · exact Fr.put3 (HA.out.trans hF3) _ _ _ (by omega)

end Go.Proofs.YtpjcdjooiaefdaaDoor

/-
  What is told of handles.
-/
namespace Go.Proofs.YtpjcdjooiaefdaaDoor
open Go.RowKit

theorem wrap_pow {b : Nat} (hb : b < 8) : wrap64 ((2 : Int) ^ b) = ((2 ^ b : Nat) : Int) := by
  have hm : b = 0 ∨ b = 1 ∨ b = 2 ∨ b = 3 ∨ b = 4 ∨ b = 5 ∨ b = 6 ∨ b = 7 := by omega
  rcases hm with rfl | rfl | rfl | rfl | rfl | rfl | rfl | rfl <;> (unfold wrap64; simp only [Nat.reducePow, Int.reducePow]; omega)

theorem pow_lt {b : Nat} (hb : b < 8) : 2 ^ b < 256 := by
  have hm : b = 0 ∨ b = 1 ∨ b = 2 ∨ b = 3 ∨ b = 4 ∨ b = 5 ∨ b = 6 ∨ b = 7 := by omega
  rcases hm with rfl | rfl | rfl | rfl | rfl | rfl | rfl | rfl <;> decide

theorem less_ne {T H : Nat} (hT : T < 256) {x : Int} (hx : x = (T : Int)) {q : Bool} (hq : q = !(less T H == 0)) : (bits .andNot .i64 x (H : Int) != 0) = q := by
  rw [hx, andNot_nat hT, hq, Bool.eq_iff_iff]
  simp

set_option maxHeartbeats 1000000 in
theorem handle_9 (F : Option Addr) (nf cf : Nat) (k at_ a : Int) (b : Nat) (c n : Int) (D : Option Addr) (nd cd : Nat) (H : Nat) (w : World) (hb : b < 8) (q : Bool) (hq : q = !(less (2 ^ b) H == 0)) :
    Calls Tryd.prog 47 #[Sit.val ⟨F, nf, cf, k, at_, ⟨9, a, (b : Nat), c, n⟩, D, nd, cd, (H : Nat)⟩] w fun e w' => e = .returned (toldF ⟨F, nf, cf, k, at_, ⟨9, a, (b : Nat), c, n⟩, D, nd, cd, (H : Nat)⟩ q 16).val ∧ Fr (fun _ => False) w w' := by
  unfold Sit.val
  simp only
  have HT1 := hid (fun w => told_any ⟨F, nf, cf, k, at_, ⟨9, a, (b : Nat), c, n⟩, D, nd, cd, (H : Nat)⟩ true 16 w)
  have HT0 := hid (fun w => told_any ⟨F, nf, cf, k, at_, ⟨9, a, (b : Nat), c, n⟩, D, nd, cd, (H : Nat)⟩ false 16 w)
  unfold Sit.val toldF Flt.val Flt.none at HT1 HT0
  simp only [if_true, if_false, Bool.false_eq_true] at HT1 HT0
  have HR := hid ((Blk.new (w.alloc (.cells #[.slice F nf cf, .int .i64 k, .int .i64 at_, .int .i64 9, .int .i64 a, .int .i64 (b : Nat), .int .i64 c, .int .i64 n, .slice D nd cd, .int .i64 (H : Nat)] 84)) #[.int .i64 0, .int .i64 0, .int .i64 0] 49).at (n := w.heap.size + 1) (by simp))
  have hA := ((Fr.alloc (fun _ => False) w (.cells #[.slice F nf cf, .int .i64 k, .int .i64 at_, .int .i64 9, .int .i64 a, .int .i64 (b : Nat), .int .i64 c, .int .i64 n, .slice D nd cd, .int .i64 (H : Nat)] 84)).trans (Fr.alloc _ _ (.cells #[.int .i64 0, .int .i64 0, .int .i64 0] 49)))
  have HA := hid hA
  clear hA
  have HX := hid (less_ne (pow_lt hb) (wrap_pow hb) hq)
  clear hq
  go_enter Tryd.func47, Tryd.ntmps47
  go_wp2_with fail
  rw [HX.out]
  cases q with
  | true =>
    refine (HT1.out _).mono ?_
    rintro e w3 ⟨rfl, hF3⟩
    have hR := HR.out.keep hF3 (fun h => h)
    have r0 := hR.cell (i := 0) rfl
    have r1 := hR.cell (i := 1) rfl
    have r2 := hR.cell (i := 2) rfl
    have z0 := hR.frozen 0
    have z1 := hR.frozen 1
    have z2 := hR.frozen 2
    go_wp2_with fail
    refine bodyPost_ret (v := .agg #[.int .i64 k, .int .i64 at_, .int .i64 16]) (by simp [results, Tryd.results47, go_sem, r0, r1, r2]; try rfl) rfl ⟨?_, ?_⟩
    · rfl
    · exact Fr.put3 (HA.out.trans hF3) _ _ _ (by omega)
  | false =>
    refine (HT0.out _).mono ?_
    rintro e w3 ⟨rfl, hF3⟩
    have hR := HR.out.keep hF3 (fun h => h)
    have r0 := hR.cell (i := 0) rfl
    have r1 := hR.cell (i := 1) rfl
    have r2 := hR.cell (i := 2) rfl
    have z0 := hR.frozen 0
    have z1 := hR.frozen 1
    have z2 := hR.frozen 2
    go_wp2_with fail
    refine bodyPost_ret (v := .agg #[.int .i64 0, .int .i64 0, .int .i64 0]) (by simp [results, Tryd.results47, go_sem, r0, r1, r2]; try rfl) rfl ⟨?_, ?_⟩
    · rfl
    · exact Fr.put3 (HA.out.trans hF3) _ _ _ (by omega)

set_option maxHeartbeats 1000000 in
theorem handle_10 (F : Option Addr) (nf cf : Nat) (k at_ a : Int) (b : Nat) (bb n : Int) (D : Option Addr) (nd cd : Nat) (H : Nat) (w : World) (hb : b < 8) (q : Bool) (hq : q = !(less (2 ^ b) H == 0)) :
    Calls Tryd.prog 47 #[Sit.val ⟨F, nf, cf, k, at_, ⟨10, a, bb, (b : Nat), n⟩, D, nd, cd, (H : Nat)⟩] w fun e w' => e = .returned (toldF ⟨F, nf, cf, k, at_, ⟨10, a, bb, (b : Nat), n⟩, D, nd, cd, (H : Nat)⟩ q 16).val ∧ Fr (fun _ => False) w w' := by
  unfold Sit.val
  simp only
  have HT1 := hid (fun w => told_any ⟨F, nf, cf, k, at_, ⟨10, a, bb, (b : Nat), n⟩, D, nd, cd, (H : Nat)⟩ true 16 w)
  have HT0 := hid (fun w => told_any ⟨F, nf, cf, k, at_, ⟨10, a, bb, (b : Nat), n⟩, D, nd, cd, (H : Nat)⟩ false 16 w)
  unfold Sit.val toldF Flt.val Flt.none at HT1 HT0
  simp only [if_true, if_false, Bool.false_eq_true] at HT1 HT0
  have HR := hid ((Blk.new (w.alloc (.cells #[.slice F nf cf, .int .i64 k, .int .i64 at_, .int .i64 10, .int .i64 a, .int .i64 bb, .int .i64 (b : Nat), .int .i64 n, .slice D nd cd, .int .i64 (H : Nat)] 84)) #[.int .i64 0, .int .i64 0, .int .i64 0] 49).at (n := w.heap.size + 1) (by simp))
  have hA := ((Fr.alloc (fun _ => False) w (.cells #[.slice F nf cf, .int .i64 k, .int .i64 at_, .int .i64 10, .int .i64 a, .int .i64 bb, .int .i64 (b : Nat), .int .i64 n, .slice D nd cd, .int .i64 (H : Nat)] 84)).trans (Fr.alloc _ _ (.cells #[.int .i64 0, .int .i64 0, .int .i64 0] 49)))
  have HA := hid hA
  clear hA
  have HX := hid (less_ne (pow_lt hb) (wrap_pow hb) hq)
  clear hq
  go_enter Tryd.func47, Tryd.ntmps47
  go_wp2_with fail
  rw [HX.out]
  cases q with
  | true =>
    refine (HT1.out _).mono ?_
    rintro e w3 ⟨rfl, hF3⟩
    have hR := HR.out.keep hF3 (fun h => h)
    have r0 := hR.cell (i := 0) rfl
    have r1 := hR.cell (i := 1) rfl
    have r2 := hR.cell (i := 2) rfl
    have z0 := hR.frozen 0
    have z1 := hR.frozen 1
    have z2 := hR.frozen 2
    go_wp2_with fail
    refine bodyPost_ret (v := .agg #[.int .i64 k, .int .i64 at_, .int .i64 16]) (by simp [results, Tryd.results47, go_sem, r0, r1, r2]; try rfl) rfl ⟨?_, ?_⟩
    · rfl
    · exact Fr.put3 (HA.out.trans hF3) _ _ _ (by omega)
  | false =>
    refine (HT0.out _).mono ?_
    rintro e w3 ⟨rfl, hF3⟩
    have hR := HR.out.keep hF3 (fun h => h)
    have r0 := hR.cell (i := 0) rfl
    have r1 := hR.cell (i := 1) rfl
    have r2 := hR.cell (i := 2) rfl
    have z0 := hR.frozen 0
    have z1 := hR.frozen 1
    have z2 := hR.frozen 2
    go_wp2_with fail
    refine bodyPost_ret (v := .agg #[.int .i64 0, .int .i64 0, .int .i64 0]) (by simp [results, Tryd.results47, go_sem, r0, r1, r2]; try rfl) rfl ⟨?_, ?_⟩
    · rfl
    · exact Fr.put3 (HA.out.trans hF3) _ _ _ (by omega)

set_option maxHeartbeats 1000000 in
theorem handle_8' (b o : Nat) (nf cf : Nat) (k at_ a bb c : Int) (m : Nat) (D : Option Addr) (nd cd : Nat) (H : Nat) (needs : Int) (w : World) (hb : b < w.heap.size) (hc : w.cell? ⟨b, o + m * 2, none⟩ = some (.int .i64 needs)) (hm : m < nf) (h0 : 0 ≤ needs) (h1 : needs ≤ 255) (q : Bool) (hq : q = !(less (low needs) H == 0)) :
    Calls Tryd.prog 47 #[Sit.val ⟨some ⟨b, o, none⟩, nf, cf, k, at_, ⟨8, a, bb, c, (m : Nat)⟩, D, nd, cd, (H : Nat)⟩] w fun e w' => e = .returned (toldF ⟨some ⟨b, o, none⟩, nf, cf, k, at_, ⟨8, a, bb, c, (m : Nat)⟩, D, nd, cd, (H : Nat)⟩ q 16).val ∧ Fr (fun _ => False) w w' := by
  unfold Sit.val
  simp only
  have HT1 := hid (fun w => told_any ⟨some ⟨b, o, none⟩, nf, cf, k, at_, ⟨8, a, bb, c, (m : Nat)⟩, D, nd, cd, (H : Nat)⟩ true 16 w)
  have HT0 := hid (fun w => told_any ⟨some ⟨b, o, none⟩, nf, cf, k, at_, ⟨8, a, bb, c, (m : Nat)⟩, D, nd, cd, (H : Nat)⟩ false 16 w)
  unfold Sit.val toldF Flt.val Flt.none at HT1 HT0
  simp only [if_true, if_false, Bool.false_eq_true] at HT1 HT0
  have HR := hid ((Blk.new (w.alloc (.cells #[.slice (some ⟨b, o, none⟩) nf cf, .int .i64 k, .int .i64 at_, .int .i64 8, .int .i64 a, .int .i64 bb, .int .i64 c, .int .i64 (m : Nat), .slice D nd cd, .int .i64 (H : Nat)] 84)) #[.int .i64 0, .int .i64 0, .int .i64 0] 49).at (n := w.heap.size + 1) (by simp))
  have hA := ((Fr.alloc (fun _ => False) w (.cells #[.slice (some ⟨b, o, none⟩) nf cf, .int .i64 k, .int .i64 at_, .int .i64 8, .int .i64 a, .int .i64 bb, .int .i64 c, .int .i64 (m : Nat), .slice D nd cd, .int .i64 (H : Nat)] 84)).trans (Fr.alloc _ _ (.cells #[.int .i64 0, .int .i64 0, .int .i64 0] 49)))
  rw [← cell_keep hA (p := ⟨b, o + m * 2, none⟩) hb (fun h => h)] at hc
  have HA := hid hA
  clear hA
  have HX := hid (less_ne (low_lt needs) (low_of h0 h1).symm hq)
  clear hq
  go_enter Tryd.func47, Tryd.ntmps47
  go_wp2_with fail
  rw [HX.out]
  cases q with
  | true =>
    refine (HT1.out _).mono ?_
    rintro e w3 ⟨rfl, hF3⟩
    have hR := HR.out.keep hF3 (fun h => h)
    have r0 := hR.cell (i := 0) rfl
    have r1 := hR.cell (i := 1) rfl
    have r2 := hR.cell (i := 2) rfl
    have z0 := hR.frozen 0
    have z1 := hR.frozen 1
    have z2 := hR.frozen 2
    go_wp2_with fail
    refine bodyPost_ret (v := .agg #[.int .i64 k, .int .i64 at_, .int .i64 16]) (by simp [results, Tryd.results47, go_sem, r0, r1, r2]; try rfl) rfl ⟨?_, ?_⟩
    · rfl
    · exact Fr.put3 (HA.out.trans hF3) _ _ _ (by omega)
  | false =>
    refine (HT0.out _).mono ?_
    rintro e w3 ⟨rfl, hF3⟩
    have hR := HR.out.keep hF3 (fun h => h)
    have r0 := hR.cell (i := 0) rfl
    have r1 := hR.cell (i := 1) rfl
    have r2 := hR.cell (i := 2) rfl
    have z0 := hR.frozen 0
    have z1 := hR.frozen 1
    have z2 := hR.frozen 2
    go_wp2_with fail
    refine bodyPost_ret (v := .agg #[.int .i64 0, .int .i64 0, .int .i64 0]) (by simp [results, Tryd.results47, go_sem, r0, r1, r2]; try rfl) rfl ⟨?_, ?_⟩
    · rfl
    · exact Fr.put3 (HA.out.trans hF3) _ _ _ (by omega)

set_option maxHeartbeats 1000000 in
theorem handle_other (F : Option Addr) (nf cf : Nat) (k at_ op a bb c n : Int) (D : Option Addr) (nd cd : Nat) (H : Nat) (w : World) (h1 : ¬ op = 9) (h2 : ¬ op = 10) (h3 : ¬ op = 8) :
    Calls Tryd.prog 47 #[Sit.val ⟨F, nf, cf, k, at_, ⟨op, a, bb, c, n⟩, D, nd, cd, (H : Nat)⟩] w fun e w' => e = .returned (toldF ⟨F, nf, cf, k, at_, ⟨op, a, bb, c, n⟩, D, nd, cd, (H : Nat)⟩ false 16).val ∧ Fr (fun _ => False) w w' := by
  have t1 := beq_of_not h1
  have t2 := beq_of_not h2
  have t3 := beq_of_not h3
  unfold Sit.val
  simp only
  have HT1 := hid (fun w => told_any ⟨F, nf, cf, k, at_, ⟨op, a, bb, c, n⟩, D, nd, cd, (H : Nat)⟩ true 16 w)
  have HT0 := hid (fun w => told_any ⟨F, nf, cf, k, at_, ⟨op, a, bb, c, n⟩, D, nd, cd, (H : Nat)⟩ false 16 w)
  unfold Sit.val toldF Flt.val Flt.none at HT1 HT0
  simp only [if_true, if_false, Bool.false_eq_true] at HT1 HT0
  have HR := hid ((Blk.new (w.alloc (.cells #[.slice F nf cf, .int .i64 k, .int .i64 at_, .int .i64 op, .int .i64 a, .int .i64 bb, .int .i64 c, .int .i64 n, .slice D nd cd, .int .i64 (H : Nat)] 84)) #[.int .i64 0, .int .i64 0, .int .i64 0] 49).at (n := w.heap.size + 1) (by simp))
  have hA := ((Fr.alloc (fun _ => False) w (.cells #[.slice F nf cf, .int .i64 k, .int .i64 at_, .int .i64 op, .int .i64 a, .int .i64 bb, .int .i64 c, .int .i64 n, .slice D nd cd, .int .i64 (H : Nat)] 84)).trans (Fr.alloc _ _ (.cells #[.int .i64 0, .int .i64 0, .int .i64 0] 49)))
  have HA := hid hA
  clear hA
  have HX := hid (show (bits .andNot .i64 0 (H : Int) != 0) = false by rw [show (0 : Int) = ((0 : Nat) : Int) from rfl, andNot_nat (by omega)]; simp [less])
  go_enter Tryd.func47, Tryd.ntmps47
  go_wp2_with fail
  rw [HX.out]
  refine (HT0.out _).mono ?_
  rintro e w3 ⟨rfl, hF3⟩
  have hR := HR.out.keep hF3 (fun h => h)
  have r0 := hR.cell (i := 0) rfl
  have r1 := hR.cell (i := 1) rfl
  have r2 := hR.cell (i := 2) rfl
  have z0 := hR.frozen 0
  have z1 := hR.frozen 1
  have z2 := hR.frozen 2
  go_wp2_with fail
  refine bodyPost_ret (v := .agg #[.int .i64 0, .int .i64 0, .int .i64 0]) (by simp [results, Tryd.results47, go_sem, r0, r1, r2]; try rfl) rfl ⟨?_, ?_⟩
  · rfl
  · exact Fr.put3 (HA.out.trans hF3) _ _ _ (by omega)

end Go.Proofs.YtpjcdjooiaefdaaDoor
