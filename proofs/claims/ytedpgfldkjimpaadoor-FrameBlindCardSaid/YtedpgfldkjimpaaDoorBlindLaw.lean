/-
  FrameBlind.
-/
import Derived.Test.YtedpgfldkjimpaaDoorChild
namespace Go.Proofs.YtedpgfldkjimpaaDoor
open Go.RowKit
set_option linter.unusedVariables false

theorem did_blind (F G : Frm) (o a b c : Nat) (n : Int) (hf : F.f = G.f) (hp : F.pc = G.pc) (hr : F.r = G.r) (hs : F.st = G.st) :
    (F.did o a b c n).r = (G.did o a b c n).r ∧ (F.did o a b c n).pc = (G.did o a b c n).pc ∧ (F.did o a b c n).h = F.h := by
  obtain ⟨f, pc, r, h, st⟩ := F
  obtain ⟨f', pc', r', h', st'⟩ := G
  simp only at hf hp hr hs
  subst hf hp hr hs
  unfold Frm.did
  split
  all_goals first
    | exact ⟨rfl, rfl, rfl⟩
    | (simp only
       split <;> exact ⟨rfl, rfl, rfl⟩)

theorem plain_blind (F G : Frm) (i : Ins) (hf : F.f = G.f) (hp : F.pc = G.pc) (hr : F.r = G.r) (hs : F.st = G.st) :
    (F.plain i).r = (G.plain i).r ∧ (F.plain i).pc = (G.plain i).pc ∧ (F.plain i).h = F.h := by
  unfold Frm.plain
  split
  · exact did_blind F G _ _ _ _ _ hf hp hr hs
  · exact ⟨hr, hp, rfl⟩

theorem nselfR (x : Nat → Int) (w : World) : (binOp .neq 22 (.agg #[.int .i64 (x 0), .int .i64 (x 1), .int .i64 (x 2), .int .i64 (x 3), .int .i64 (x 4), .int .i64 (x 5), .int .i64 (x 6), .int .i64 (x 7)]) (.agg #[.int .i64 (x 0), .int .i64 (x 1), .int .i64 (x 2), .int .i64 (x 3), .int .i64 (x 4), .int .i64 (x 5), .int .i64 (x 6), .int .i64 (x 7)])).run Tryd.prog w = .ok (.bool false) w := by
  have h := bopRn x x w
  rw [sameN_self] at h
  exact h
theorem nselfH (x : Nat → Int) (w : World) : (binOp .neq 23 (.agg #[.int .i64 (x 0), .int .i64 (x 1), .int .i64 (x 2), .int .i64 (x 3), .int .i64 (x 4), .int .i64 (x 5), .int .i64 (x 6), .int .i64 (x 7)]) (.agg #[.int .i64 (x 0), .int .i64 (x 1), .int .i64 (x 2), .int .i64 (x 3), .int .i64 (x 4), .int .i64 (x 5), .int .i64 (x 6), .int .i64 (x 7)])).run Tryd.prog w = .ok (.bool false) w := by
  have h := bopHn x x w
  rw [sameN_self] at h
  exact h

/-- A round's beginning. -/
def BlRel (w0 : World) (d : Nat) (x : Value) (wr : World) : Prop := ∃ k : Nat, k ≤ 8 ∧ d = 8 - k ∧ x = .int .i64 k ∧ Fr (fun _ => False) w0 wr

set_option maxRecDepth 100000 in
set_option maxHeartbeats 8000000 in
theorem blindLawC {cel : Frm → Array Value} (hC : Cel cel) (F : Frm) (i : Ins) (y : Nat → Int) (nd : Int) (W : World) (ht : Tabs W) :
    Calls Tryd.prog 10 #[.agg (cel F), i.val, .agg #[.int .i64 (y 0), .int .i64 (y 1), .int .i64 (y 2), .int .i64 (y 3), .int .i64 (y 4), .int .i64 (y 5), .int .i64 (y 6), .int .i64 (y 7), .int .i64 nd]] W (LawPost W) := by
  have HT := hid (fun (w' : World) (F' : Fr (fun _ => False) W w') => ht.same F')
  clear ht
  unfold Ins.val
  obtain ⟨X0, hX0⟩ : ∃ X0 : Frm, X0 = F := ⟨_, rfl⟩
  obtain ⟨X1, hX1⟩ : ∃ X, X = X0.hold 0 (y 0) := ⟨_, rfl⟩
  have p0 : (cel X0).setIfInBounds 10 (.int .i64 (y 0)) = cel X1 := by rw [hX1]; exact hC.hold _ 0 _ (by omega)
  have r0 : (cel X0)[10]? = some (.int .i64 (X0.h 0)) := hC.h _ 0 (by omega)
  obtain ⟨X2, hX2⟩ : ∃ X, X = X1.hold 1 (y 1) := ⟨_, rfl⟩
  have p1 : (cel X1).setIfInBounds 11 (.int .i64 (y 1)) = cel X2 := by rw [hX2]; exact hC.hold _ 1 _ (by omega)
  have r1 : (cel X1)[11]? = some (.int .i64 (X1.h 1)) := hC.h _ 1 (by omega)
  obtain ⟨X3, hX3⟩ : ∃ X, X = X2.hold 2 (y 2) := ⟨_, rfl⟩
  have p2 : (cel X2).setIfInBounds 12 (.int .i64 (y 2)) = cel X3 := by rw [hX3]; exact hC.hold _ 2 _ (by omega)
  have r2 : (cel X2)[12]? = some (.int .i64 (X2.h 2)) := hC.h _ 2 (by omega)
  obtain ⟨X4, hX4⟩ : ∃ X, X = X3.hold 3 (y 3) := ⟨_, rfl⟩
  have p3 : (cel X3).setIfInBounds 13 (.int .i64 (y 3)) = cel X4 := by rw [hX4]; exact hC.hold _ 3 _ (by omega)
  have r3 : (cel X3)[13]? = some (.int .i64 (X3.h 3)) := hC.h _ 3 (by omega)
  obtain ⟨X5, hX5⟩ : ∃ X, X = X4.hold 4 (y 4) := ⟨_, rfl⟩
  have p4 : (cel X4).setIfInBounds 14 (.int .i64 (y 4)) = cel X5 := by rw [hX5]; exact hC.hold _ 4 _ (by omega)
  have r4 : (cel X4)[14]? = some (.int .i64 (X4.h 4)) := hC.h _ 4 (by omega)
  obtain ⟨X6, hX6⟩ : ∃ X, X = X5.hold 5 (y 5) := ⟨_, rfl⟩
  have p5 : (cel X5).setIfInBounds 15 (.int .i64 (y 5)) = cel X6 := by rw [hX6]; exact hC.hold _ 5 _ (by omega)
  have r5 : (cel X5)[15]? = some (.int .i64 (X5.h 5)) := hC.h _ 5 (by omega)
  obtain ⟨X7, hX7⟩ : ∃ X, X = X6.hold 6 (y 6) := ⟨_, rfl⟩
  have p6 : (cel X6).setIfInBounds 16 (.int .i64 (y 6)) = cel X7 := by rw [hX7]; exact hC.hold _ 6 _ (by omega)
  have r6 : (cel X6)[16]? = some (.int .i64 (X6.h 6)) := hC.h _ 6 (by omega)
  obtain ⟨X8, hX8⟩ : ∃ X, X = X7.hold 7 (y 7) := ⟨_, rfl⟩
  have p7 : (cel X7).setIfInBounds 17 (.int .i64 (y 7)) = cel X8 := by rw [hX8]; exact hC.hold _ 7 _ (by omega)
  have r7 : (cel X7)[17]? = some (.int .i64 (X7.h 7)) := hC.h _ 7 (by omega)
  have e8f : X8.f = F.f := by rw [hX8, hX7, hX6, hX5, hX4, hX3, hX2, hX1, hX0]; rfl
  have e8p : X8.pc = F.pc := by rw [hX8, hX7, hX6, hX5, hX4, hX3, hX2, hX1, hX0]; rfl
  have e8r : X8.r = F.r := by rw [hX8, hX7, hX6, hX5, hX4, hX3, hX2, hX1, hX0]; rfl
  have e8s : X8.st = F.st := by rw [hX8, hX7, hX6, hX5, hX4, hX3, hX2, hX1, hX0]; rfl
  have e8h : ∀ k, k < 8 → X8.h k = y k := by
    rw [hX8, hX7, hX6, hX5, hX4, hX3, hX2, hX1]
    intro k hk
    rcases k with _ | _ | _ | _ | _ | _ | _ | _ | k
    all_goals first | rfl | omega
  obtain ⟨b1, b2, b3⟩ := plain_blind F X8 i e8f.symm e8p.symm e8r.symm e8s.symm
  obtain ⟨b4, b5, b6⟩ := plain_blind X8 F i e8f e8p e8r e8s
  obtain ⟨Ga, hGa⟩ : ∃ G, G = F.plain i := ⟨_, rfl⟩
  obtain ⟨Gb, hGb⟩ : ∃ G, G = X8.plain i := ⟨_, rfl⟩
  obtain ⟨pl, hpl⟩ : ∃ b, b = plainB i := ⟨_, rfl⟩
  have HPa := hid (fun (w' : World) (F' : Fr (fun _ => False) W w') => fplain_any hC F i w' (HT.out w' F'))
  have HPb := hid (fun (w' : World) (F' : Fr (fun _ => False) W w') => fplain_any hC X8 i w' (HT.out w' F'))
  rw [← hGa, ← hpl] at HPa
  rw [← hGb, ← hpl] at HPb
  rw [← hGa, ← hGb] at b1 b2 b4 b5
  rw [← hGa] at b3
  rw [← hGb] at b6
  unfold Ins.val at HPa HPb
  have HB1 := hid b1
  have HB2 := hid b2
  have HB3 := hid b3
  have HB6 := hid b6
  have HE8 := hid e8h
  have HAW := hid (fun (w' : World) (F' : Fr (fun _ => False) W w') => awake_any w' (HT.out w' F'))
  have HX0 := hid hX0
  clear hGa hGb hpl b1 b2 b3 b4 b5 b6 e8f e8p e8r e8s e8h hX8 hX7 hX6 hX5 hX4 hX3 hX2 hX1 hX0
  obtain ⟨w1, hw1⟩ : ∃ w1, w1 = ((W.alloc (.cells (cel F) 25)).alloc (.cells #[.int .i64 i.op, .int .i64 i.a, .int .i64 i.b, .int .i64 i.c, .int .i64 i.n] 27)).alloc (.cells #[.int .i64 (y 0), .int .i64 (y 1), .int .i64 (y 2), .int .i64 (y 3), .int .i64 (y 4), .int .i64 (y 5), .int .i64 (y 6), .int .i64 (y 7), .int .i64 nd] 72) := ⟨_, rfl⟩
  obtain ⟨hA, hB, hI, hO⟩ := three W (cel F) #[.int .i64 i.op, .int .i64 i.a, .int .i64 i.b, .int .i64 i.c, .int .i64 i.n] #[.int .i64 (y 0), .int .i64 (y 1), .int .i64 (y 2), .int .i64 (y 3), .int .i64 (y 4), .int .i64 (y 5), .int .i64 (y 6), .int .i64 (y 7), .int .i64 nd] 25 27 72
  rw [← hw1] at hA hB hI hO
  have HA := hid hA
  have HB := hid hB
  have HI := hid hI
  have HO := hid hO
  clear hA hB hI hO
  have HP := hid (And.intro p0 (And.intro p1 (And.intro p2 (And.intro p3 (And.intro p4 (And.intro p5 (And.intro p6 p7)))))))
  have HR := hid (And.intro r0 (And.intro r1 (And.intro r2 (And.intro r3 (And.intro r4 (And.intro r5 (And.intro r6 r7)))))))
  clear p0 p1 p2 p3 p4 p5 p6 p7 r0 r1 r2 r3 r4 r5 r6 r7
  go_enter Tryd.func10, Tryd.ntmps10
  go_upto_region 1 with fail
  rw [← hw1]
  clear hw1
  obtain ⟨N, hN, hN1, hN2⟩ := nineteen
  have hsz : ∀ F, (cel F).size = N := fun F => by rw [hC.size, hN]
  have HN := hid hN
  clear hN
  have HS := hid (show ∀ w', Fr (fun _ => False) w1 w' → (loadCellsFrom ⟨W.heap.size, 0, none⟩ 0 N #[]).run Tryd.prog w' = .ok (cel F) w' ∧ w'.cell? ⟨W.heap.size + 1, 0, none⟩ = some (.int .i64 i.op) ∧ w'.cell? ⟨W.heap.size + 1, 1, none⟩ = some (.int .i64 i.a) ∧ w'.cell? ⟨W.heap.size + 1, 2, none⟩ = some (.int .i64 i.b) ∧ w'.cell? ⟨W.heap.size + 1, 3, none⟩ = some (.int .i64 i.c) ∧ w'.cell? ⟨W.heap.size + 1, 4, none⟩ = some (.int .i64 i.n) ∧ w'.cell? ⟨W.heap.size + 2, 0, none⟩ = some (.int .i64 (y 0)) ∧ w'.cell? ⟨W.heap.size + 2, 1, none⟩ = some (.int .i64 (y 1)) ∧ w'.cell? ⟨W.heap.size + 2, 2, none⟩ = some (.int .i64 (y 2)) ∧ w'.cell? ⟨W.heap.size + 2, 3, none⟩ = some (.int .i64 (y 3)) ∧ w'.cell? ⟨W.heap.size + 2, 4, none⟩ = some (.int .i64 (y 4)) ∧ w'.cell? ⟨W.heap.size + 2, 5, none⟩ = some (.int .i64 (y 5)) ∧ w'.cell? ⟨W.heap.size + 2, 6, none⟩ = some (.int .i64 (y 6)) ∧ w'.cell? ⟨W.heap.size + 2, 7, none⟩ = some (.int .i64 (y 7)) ∧ w'.cell? ⟨W.heap.size + 2, 8, none⟩ = some (.int .i64 nd) from fun w' F' => ⟨load_eq (HB.out.keep F' (fun h => h)) (hsz _), (HI.out.keep F' (fun h => h)).cell rfl, (HI.out.keep F' (fun h => h)).cell rfl, (HI.out.keep F' (fun h => h)).cell rfl, (HI.out.keep F' (fun h => h)).cell rfl, (HI.out.keep F' (fun h => h)).cell rfl, (HO.out.keep F' (fun h => h)).cell rfl, (HO.out.keep F' (fun h => h)).cell rfl, (HO.out.keep F' (fun h => h)).cell rfl, (HO.out.keep F' (fun h => h)).cell rfl, (HO.out.keep F' (fun h => h)).cell rfl, (HO.out.keep F' (fun h => h)).cell rfl, (HO.out.keep F' (fun h => h)).cell rfl, (HO.out.keep F' (fun h => h)).cell rfl, (HO.out.keep F' (fun h => h)).cell rfl⟩)
  obtain ⟨l1, i10, i11, i12, i13, i14, o10, o11, o12, o13, o14, o15, o16, o17, o18⟩ := HS.out w1 (Fr.refl _ _)
  go_wp2_with fail
  refine (usual_any hC F w1).mono ?_
  rintro e w2 ⟨⟨us, rfl⟩, hF2⟩
  clear l1 i10 i11 i12 i13 i14 o10 o11 o12 o13 o14 o15 o16 o17 o18
  cases us
  · go_wp2_with fail
    refine (awake_any w2 (HT.out _ (HA.out.trans hF2))).mono ?_
    rintro e w3 ⟨rfl, hF3⟩
    go_wp2_with fail
    go_ret
    exact ⟨rfl, HA.out.trans (hF2.trans hF3)⟩
  · obtain ⟨l1, i10, i11, i12, i13, i14, o10, o11, o12, o13, o14, o15, o16, o17, o18⟩ := HS.out (w2.alloc (.cells (cel F) 25)) (hF2.trans (Fr.alloc _ _ _))
    obtain ⟨p0, p1, p2, p3, p4, p5, p6, p7⟩ := HP.out
    obtain ⟨r0, r1, r2, r3, r4, r5, r6, r7⟩ := HR.out
    have l2 := (HS.out w2 hF2).1
    have hst1 := store_at (P := Tryd.prog) (Blk.new w2 zeros 25) rfl (hC.size F) (hC.one F)
    have hz1 : (w2.alloc (.cells zeros 25)).setRow w2.heap.size (cel F) = w2.alloc (.cells (cel F) 25) := setRowA _ _ _ _
    rw [hz1] at hst1
    unfold zeros at hst1
    rw [HX0.out] at p0 r0
    obtain ⟨w3, hw3⟩ : ∃ w3, w3 = w2.alloc (.cells (cel X8) 25) := ⟨_, rfl⟩
    have HF3 := hid (show Fr (fun _ => False) w1 w3 by rw [hw3]; exact hF2.trans (Fr.alloc _ _ _))
    have HB3' := hid (show Blk w3 w2.heap.size (cel X8) by rw [hw3]; exact Blk.new _ _ _)
    clear hz1
    go_upto_region 5 with fail
    rw [← hw3]
    clear hw3 hst1 p0 p1 p2 p3 p4 p5 p6 p7 r0 r1 r2 r3 r4 r5 r6 r7 l2 l1 i10 i11 i12 i13 i14 o10 o11 o12 o13 o14 o15 o16 o17 o18
    obtain ⟨l1, i10, i11, i12, i13, i14, _⟩ := HS.out w3 HF3.out
    go_wp2_with fail
    refine (HPa.out _ (HA.out.trans HF3.out)).mono ?_
    rintro e v4 ⟨rfl, hFa⟩
    clear l1 i10 i11 i12 i13 i14
    go_wp2_with (refine row_store rfl 25 _ _ rfl _ _ rfl rfl (Blk.new v4 zeros 25) infoF rfl (hC.size _) (hC.one _) ?_)
    intro w4 hB4 hFb
    have hF34 := (hFa.trans (Fr.alloc _ _ _)).over hFb hFa.size
    have HF4 := hid (HF3.out.trans hF34)
    have HB4 := hid hB4
    have HX4 := hid (HB3'.out.keep hF34 (fun h => h))
    clear hFa hFb hF34 hB4
    obtain ⟨l1, i10, i11, i12, i13, i14, _⟩ := HS.out w4 HF4.out
    have lx := load_eq (P := Tryd.prog) HX4.out (hsz X8)
    go_wp2_with fail
    refine (HPb.out _ (HA.out.trans HF4.out)).mono ?_
    rintro e v5 ⟨rfl, hFa⟩
    clear l1 i10 i11 i12 i13 i14 lx
    go_wp2_with (refine row_store rfl 25 _ _ rfl _ _ rfl rfl (Blk.new v5 zeros 25) infoF rfl (hC.size _) (hC.one _) ?_)
    intro w5 hB5 hFb
    have hF45 := (hFa.trans (Fr.alloc _ _ _)).over hFb hFa.size
    have HF5 := hid (HF4.out.trans hF45)
    have hb4 := HB4.out.keep hF45 (fun h => h)
    have hbf := HB.out.keep HF5.out (fun h => h)
    obtain ⟨a2, a3, a4, a5, a6, a7, a8, a9⟩ := hC.regs Ga hb4
    obtain ⟨c2, c3, c4, c5, c6, c7, c8, c9⟩ := hC.regs Gb hB5
    obtain ⟨a10, a11, a12, a13, a14, a15, a16, a17⟩ := hC.hands Ga hb4
    obtain ⟨c10, c11, c12, c13, c14, c15, c16, c17⟩ := hC.hands Gb hB5
    obtain ⟨f10, f11, f12, f13, f14, f15, f16, f17⟩ := hC.hands F hbf
    have a1 := hb4.cell (hC.pc Ga)
    have c1 := hB5.cell (hC.pc Gb)
    rw [← HB1.out] at c2 c3 c4 c5 c6 c7 c8 c9
    rw [← HB2.out] at c1
    rw [HB3.out] at a10 a11 a12 a13 a14 a15 a16 a17
    have ey : ∀ k, k < 8 → Gb.h k = y k := by rw [HB6.out]; exact HE8.out
    rw [ey 0 (by omega)] at c10
    rw [ey 1 (by omega)] at c11
    rw [ey 2 (by omega)] at c12
    rw [ey 3 (by omega)] at c13
    rw [ey 4 (by omega)] at c14
    rw [ey 5 (by omega)] at c15
    rw [ey 6 (by omega)] at c16
    rw [ey 7 (by omega)] at c17
    obtain ⟨_, _, _, _, _, _, o10, o11, o12, o13, o14, o15, o16, o17, o18⟩ := HS.out w5 HF5.out
    have s1 := nselfR Ga.r
    have s2 := nselfH F.h
    have s3 := nselfH y
    have s4 := selfR' Ga.r
    have s5 := selfH' F.h
    have s6 := selfH' y
    clear ey hFa hFb hF45 hB5 hb4 hbf hsz
    go_upto_region 9 with fail
    clear a1 a2 a3 a4 a5 a6 a7 a8 a9 c1 c2 c3 c4 c5 c6 c7 c8 c9 a10 a11 a12 a13 a14 a15 a16 a17 c10 c11 c12 c13 c14 c15 c16 c17 f10 f11 f12 f13 f14 f15 f16 f17 o10 o11 o12 o13 o14 o15 o16 o17 s1 s2 s3 s4 s5 s6
    have hsz : ∀ F, (cel F).size = N := fun F => by rw [hC.size, HN.out]
    have hl5 := (HS.out w5 HF5.out).1
    obtain ⟨w6, hw6⟩ : ∃ w6, w6 = w5.alloc (.cells #[.int .i64 0, .slice none 0 0, .int .i64 nd, .slice none 0 0] 55) := ⟨_, rfl⟩
    have hF56 : Fr (fun _ => False) w5 w6 := by rw [hw6]; exact Fr.alloc _ _ _
    have hP6 : Blk w6 w5.heap.size #[.int .i64 0, .slice none 0 0, .int .i64 nd, .slice none 0 0] := by rw [hw6]; exact Blk.new _ _ _
    have HF6 := hid (HF5.out.trans hF56)
    have hprg : Prg w6 w6.heap.size (some ⟨w5.heap.size, 0, none⟩) [⟨0, []⟩, ⟨nd, []⟩] := fun _ => by
      refine ⟨_, _, rfl, hP6.lt, fun k f hf => ?_⟩
      rcases k with _ | _ | k
      · simp at hf
        subst hf
        exact ⟨none, 0, hP6.cell rfl, hP6.cell rfl, fun h => absurd h (by simp)⟩
      · simp at hf
        subst hf
        exact ⟨none, 0, hP6.cell rfl, hP6.cell rfl, fun h => absurd h (by simp)⟩
      · simp at hf
    have HCH := hid (child_in hC F (some ⟨w5.heap.size, 0, none⟩) 2 2 [⟨0, []⟩, ⟨nd, []⟩] 0 0 0 1 ⟨nd, []⟩ w6 (HT.out _ (HA.out.trans HF6.out)) rfl hprg rfl (by decide))
    obtain ⟨K, hK⟩ : ∃ K, F.kid 1 (⟨nd, []⟩ : Fn).needs 8 = K := ⟨_, rfl⟩
    rw [hK] at HCH
    have HK := hid hK
    unfold Ins.val at HCH
    clear hK hprg hP6 hF56
    go_wp2_with fail
    rw [← hw6]
    refine HCH.out.mono ?_
    rintro e v7 ⟨rfl, hFa⟩
    clear hw6 hl5 o18
    go_wp2_with (refine row_store rfl 25 _ _ rfl _ _ rfl rfl (Blk.new v7 zeros 25) infoF rfl (hC.size _) (hC.one _) ?_)
    intro w7 hB7 hFb
    have hF67 := (hFa.trans (Fr.alloc _ _ _)).over hFb hFa.size
    have HF7 := hid (HF6.out.trans hF67)
    have HB7 := hid hB7
    have hbf := HB.out.keep HF7.out (fun h => h)
    have hKr : K.r = F.r := by rw [← HK.out]; rfl
    have hKp : K.pc = 0 := by rw [← HK.out]; rfl
    have hKs : K.st = 0 := by rw [← HK.out]; rfl
    have hKf : K.f = 1 := by rw [← HK.out]; rfl
    obtain ⟨a2, a3, a4, a5, a6, a7, a8, a9⟩ := hC.regs K hB7
    obtain ⟨f2, f3, f4, f5, f6, f7, f8, f9⟩ := hC.regs F hbf
    obtain ⟨a0, a1, a18⟩ := hC.all K hB7
    rw [hKr] at a2 a3 a4 a5 a6 a7 a8 a9
    rw [hKf] at a0
    rw [hKp] at a1
    rw [hKs] at a18
    have s1 := nselfR F.r
    have s4 := selfR' F.r
    clear hKr hKp hKs hKf hFa hFb hF67 hB7 hbf hsz
    go_upto_region 12 with fail
    clear a0 a1 a2 a3 a4 a5 a6 a7 a8 a9 a18 f2 f3 f4 f5 f6 f7 f8 f9 s1 s4
    go_wp2_with fail
    go_loopg [14] 8 (fun d x wr => BlRel w7 d x wr)
    case atStart => exact ⟨0, by omega, rfl, rfl, Fr.refl _ _⟩
    case round =>
      obtain ⟨k, hk, hd, rfl, hF⟩ := hrel
      have HD := hid hd
      have HFr := hid hF
      clear hd
      by_cases hlt : k < 8
      · have hk0 : (0 : Int) ≤ k ∧ (k : Int) < 8 := by omega
        have q1 : wr.cell? ⟨v7.heap.size, 10 + k, none⟩ = some (.int .i64 (K.h k)) := (HB7.out.keep hF (fun h => h)).cell (hC.h K k hlt)
        have q2 : wr.cell? ⟨W.heap.size, 10 + k, none⟩ = some (.int .i64 (F.h k)) := (HB.out.keep (HF7.out.trans hF) (fun h => h)).cell (hC.h F k hlt)
        have hu : K.h k = F.h k ∨ K.h k = -1 := by
          rw [← HK.out]
          show (if k < 8 ∧ nbit nd k = true then F.h k else -1) = F.h k ∨ (if k < 8 ∧ nbit nd k = true then F.h k else -1) = -1
          split
          · exact .inl rfl
          · exact .inr rfl
        obtain ⟨u, hu'⟩ : ∃ u, K.h k = u := ⟨_, rfl⟩
        obtain ⟨v, hv'⟩ : ∃ v, F.h k = v := ⟨_, rfl⟩
        rw [hu'] at q1 hu
        rw [hv'] at q2 hu
        clear hu' hv' hF
        go_upto_region 15 with fail
        by_cases huv : u = v
        · subst huv
          have tu : (u != u) = false := by simp
          go_quiet (fail)
          go_wp2_with fail
          go_roundg (8 - (k + 1))
          case rel => exact ⟨k + 1, by omega, by omega, by go_num, HFr.out.trans (Fr.drewN _ _ _)⟩
          case measure => have := HD.out; omega
        · obtain rfl : u = -1 := by omega
          have tu : ((-1 : Int) != v) = true := by simpa using huv
          go_quiet (fail)
          go_wp2_with fail
          go_roundg (8 - (k + 1))
          case rel => exact ⟨k + 1, by omega, by omega, by go_num, HFr.out.trans (Fr.drewN _ _ _)⟩
          case measure => have := HD.out; omega
      · have HF8 := hid (HA.out.trans (HF7.out.trans HFr.out))
        clear hF
        go_wp2_with fail
        refine (HAW.out _ HF8.out).mono ?_
        rintro e w9 ⟨rfl, hF9⟩
        go_wp2_with fail
        go_ret
        exact ⟨rfl, HF8.out.trans hF9⟩

theorem blindLaw (F : Frm) (i : Ins) (y : Nat → Int) (nd : Int) (W : World) (ht : Tabs W) :
    Calls Tryd.prog 10 #[F.val, i.val, .agg #[.int .i64 (y 0), .int .i64 (y 1), .int .i64 (y 2), .int .i64 (y 3), .int .i64 (y 4), .int .i64 (y 5), .int .i64 (y 6), .int .i64 (y 7), .int .i64 nd]] W (LawPost W) := blindLawC cel_is F i y nd W ht

end Go.Proofs.YtedpgfldkjimpaaDoor
