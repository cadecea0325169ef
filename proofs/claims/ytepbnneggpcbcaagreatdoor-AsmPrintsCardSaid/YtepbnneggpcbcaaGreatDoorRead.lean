/-
  asm.Read.
-/
import Derived.Test.YtepbnneggpcbcaaGreatDoorLine
namespace Go.Proofs.YtepbnneggpcbcaaGreatDoor
open Go.RowKit

def RdPost (w : World) (q : Ins × Int) (e : Ending) (w' : World) : Prop := e = .returned (.tuple #[q.1.val, .int .i64 q.2]) ∧ Fr (fun _ => False) w w'

theorem head_words (l : Bs) : ∃ x r, words l = x :: r ∧ (cut 32 l).headD [] = x := by
  obtain ⟨h, t, e⟩ := cut_form 32 l
  have hh := words_head l
  rw [e] at hh
  cases hw : words l with
  | nil => rw [hw] at hh; simp at hh
  | cons x r =>
    rw [hw] at hh
    simp only [List.head?_cons, Option.some.injEq] at hh
    exact ⟨x, r, rfl, by rw [e, List.headD_cons, hh]⟩

theorem rd_name {l : Bs} {x : Bs} (hx : (cut 32 l).headD [] = x) (h : nameIx x = none) : rd l = (Ins.zero, 14) := by
  unfold rd
  rw [hx, h]
theorem rd_form {l : Bs} {x : Bs} {o : Nat} (hx : (cut 32 l).headD [] = x) (h : nameIx x = some o) (hl : (words l).length ≠ 1 + (flds o).length) (ho : o < 17) : rd l = (Ins.zero, 11) := by
  unfold rd
  rw [hx, h]
  have h3 : (flds o).length ≤ 3 := (show ∀ op, op < 17 → (flds op).length ≤ 3 by decide) o ho
  rw [words_len] at hl
  show (if _ then _ else _ : Ins × Int) = _
  rw [if_pos (by omega)]
theorem rd_go {l : Bs} {x : Bs} {o : Nat} (hx : (cut 32 l).headD [] = x) (h : nameIx x = some o) (hl : (words l).length = 1 + (flds o).length) (ho : o < 17) : rd l = rdOps o (flds o) (words l).tail ⟨o, 0, 0, 0, 0⟩ := by
  have h3 : (flds o).length ≤ 3 := (show ∀ op, op < 17 → (flds op).length ≤ 3 by decide) o ho
  have hw : words l = cut 32 l := words_eq l (by rw [words_len] at hl; omega)
  unfold rd
  rw [hx, h]
  show (if _ then _ else _ : Ins × Int) = _
  rw [hw] at hl ⊢
  rw [if_neg (by omega)]

theorem Blk.set5 {w : World} {b : Nat} {x0 x1 x2 x3 x4 : Value} (h : Blk w b #[x0, x1, x2, x3, x4]) (a0 a1 a2 a3 a4 : Value) :
    Blk (((((w.setCell ⟨b, 0, none⟩ a0).setCell ⟨b, 1, none⟩ a1).setCell ⟨b, 2, none⟩ a2).setCell ⟨b, 3, none⟩ a3).setCell ⟨b, 4, none⟩ a4) b #[a0, a1, a2, a3, a4] :=
  ((((h.set 0 a0).set 1 a1).set 2 a2).set 3 a3).set 4 a4

theorem fr_set5 (S : Nat → Prop) (w : World) (b : Nat) (hb : S b) (a0 a1 a2 a3 a4 : Value) :
    Fr S w (((((w.setCell ⟨b, 0, none⟩ a0).setCell ⟨b, 1, none⟩ a1).setCell ⟨b, 2, none⟩ a2).setCell ⟨b, 3, none⟩ a3).setCell ⟨b, 4, none⟩ a4) :=
  ((((Fr.setCell w _ _ hb).trans (Fr.setCell _ _ _ hb)).trans (Fr.setCell _ _ _ hb)).trans (Fr.setCell _ _ _ hb)).trans (Fr.setCell _ _ _ hb)

set_option maxRecDepth 100000 in
set_option maxHeartbeats 4000000 in
theorem read_name (l : Bs) (hl : l.length ≤ 1000000) (w : World) (ht : Tabs w) (x : Bs) (r : List Bs) (hx : words l = x :: r) (hn : nameIx x = none) (hr : rd l = (Ins.zero, 14)) :
    Calls Tryz.prog 9 #[.string (bs l)] w (RdPost w (rd l)) := by
  rw [hr]
  have hA := Fr.alloc (fun _ => False) w (.cells #[.int .i64 0, .int .i64 0, .int .i64 0, .int .i64 0, .int .i64 0] 35)
  have hT := ht.same hA
  have hR := Blk.new w #[.int .i64 0, .int .i64 0, .int .i64 0, .int .i64 0, .int .i64 0] 35
  have HS := hid (split_any l hl _ hT)
  clear hr
  go_enter Tryz.func9, Tryz.ntmps9
  go_wp2_with fail
  refine HS.out.mono ?_
  rintro e w1 ⟨A, cap, rfl, how, hF1⟩
  obtain ⟨n, hln⟩ : ∃ n, (words l).length = n := ⟨_, rfl⟩
  have hn1 : 1 ≤ n := by rw [← hln, hx]; simp
  rw [hln] at how ⊢
  obtain ⟨g, rfl, hg1, hg2, hgc⟩ := how.2.2 (by omega)
  have c0 : w1.cell? ⟨g, 0, none⟩ = some (.string (bs x)) := hgc 0 x (by rw [hx]; rfl)
  have hT1 := hT.same hF1
  have HNM := hid (named_any x w1 hT1)
  rw [hn] at HNM
  unfold nmV at HNM
  have hR1 := hR.keep hF1 (fun h => h)
  have HR1 := hid hR1
  clear how hgc hln hx hn hR1 hR
  go_wp2_with fail
  refine HNM.out.mono ?_
  rintro e w2 ⟨rfl, rfl⟩
  have p0 : w1.cell? ⟨w.heap.size, 0, none⟩ = some (.int .i64 0) := HR1.out.cell rfl
  have p1 : w1.cell? ⟨w.heap.size, 1, none⟩ = some (.int .i64 0) := HR1.out.cell rfl
  have p2 : w1.cell? ⟨w.heap.size, 2, none⟩ = some (.int .i64 0) := HR1.out.cell rfl
  have p3 : w1.cell? ⟨w.heap.size, 3, none⟩ = some (.int .i64 0) := HR1.out.cell rfl
  have p4 : w1.cell? ⟨w.heap.size, 4, none⟩ = some (.int .i64 0) := HR1.out.cell rfl
  have f0 := HR1.out.frozen 0
  have f1 := HR1.out.frozen 1
  have f2 := HR1.out.frozen 2
  have f3 := HR1.out.frozen 3
  have f4 := HR1.out.frozen 4
  have pl := HR1.out.lt
  go_wp2_with fail
  have hR9 := HR1.out.set5 (.int .i64 0) (.int .i64 0) (.int .i64 0) (.int .i64 0) (.int .i64 0)
  have hF9 : Fr (fun k => k = w.heap.size) w1 _ := fr_set5 (fun k => k = w.heap.size) w1 w.heap.size rfl (.int .i64 0) (.int .i64 0) (.int .i64 0) (.int .i64 0) (.int .i64 0)
  obtain ⟨w9, hw9⟩ : ∃ w9, w9 = (((((w1.setCell ⟨w.heap.size, 0, none⟩ (.int .i64 0)).setCell ⟨w.heap.size, 1, none⟩ (.int .i64 0)).setCell ⟨w.heap.size, 2, none⟩ (.int .i64 0)).setCell ⟨w.heap.size, 3, none⟩ (.int .i64 0)).setCell ⟨w.heap.size, 4, none⟩ (.int .i64 0)) := ⟨_, rfl⟩
  rw [← hw9] at hR9 hF9 ⊢
  clear hw9 p0 p1 p2 p3 p4
  have p0 : w9.cell? ⟨w.heap.size, 0, none⟩ = some (.int .i64 0) := hR9.cell rfl
  have p1 : w9.cell? ⟨w.heap.size, 1, none⟩ = some (.int .i64 0) := hR9.cell rfl
  have p2 : w9.cell? ⟨w.heap.size, 2, none⟩ = some (.int .i64 0) := hR9.cell rfl
  have p3 : w9.cell? ⟨w.heap.size, 3, none⟩ = some (.int .i64 0) := hR9.cell rfl
  have p4 : w9.cell? ⟨w.heap.size, 4, none⟩ = some (.int .i64 0) := hR9.cell rfl
  refine bodyPost_ret (v := .tuple #[.agg #[.int .i64 0, .int .i64 0, .int .i64 0, .int .i64 0, .int .i64 0], .int .i64 14]) ?hv rfl ?hp
  case hv => (simp [results, Tryz.results9, go_sem, p0, p1, p2, p3, p4]; try rfl)
  case hp => exact ⟨rfl, (hA.mono (fun _ h => h.elim)).since ((hF1.mono (fun _ h => h.elim)).trans hF9) (fun k hk hkl => by omega)⟩

set_option maxRecDepth 100000 in
set_option maxHeartbeats 4000000 in
theorem read_form (l : Bs) (hl : l.length ≤ 1000000) (w : World) (ht : Tabs w) (x : Bs) (r : List Bs) (hx : words l = x :: r) (o : Nat) (ho : o < 17) (hn : nameIx x = some o) (hc : (words l).length ≠ 1 + (flds o).length) (hr : rd l = (Ins.zero, 11)) :
    Calls Tryz.prog 9 #[.string (bs l)] w (RdPost w (rd l)) := by
  rw [hr]
  have hA := Fr.alloc (fun _ => False) w (.cells #[.int .i64 0, .int .i64 0, .int .i64 0, .int .i64 0, .int .i64 0] 35)
  have hT := ht.same hA
  have hR := Blk.new w #[.int .i64 0, .int .i64 0, .int .i64 0, .int .i64 0, .int .i64 0] 35
  have HS := hid (split_any l hl _ hT)
  clear hr
  go_enter Tryz.func9, Tryz.ntmps9
  go_wp2_with fail
  refine HS.out.mono ?_
  rintro e w1 ⟨A, cap, rfl, how, hF1⟩
  obtain ⟨n, hln⟩ : ∃ n, (words l).length = n := ⟨_, rfl⟩
  have hn1 : 1 ≤ n := by rw [← hln, hx]; simp
  have hn5 : n ≤ 5 := by rw [← hln, words_len]; omega
  obtain ⟨m, hm⟩ : ∃ m, (flds o).length = m := ⟨_, rfl⟩
  have hm3 : m ≤ 3 := by rw [← hm]; exact (show ∀ op, op < 17 → (flds op).length ≤ 3 by decide) o ho
  rw [hln, hm] at hc
  rw [hln] at how ⊢
  obtain ⟨g, rfl, hg1, hg2, hgc⟩ := how.2.2 (by omega)
  have c0 : w1.cell? ⟨g, 0, none⟩ = some (.string (bs x)) := hgc 0 x (by rw [hx]; rfl)
  have hT1 := hT.same hF1
  have HNM := hid (named_any x w1 hT1)
  rw [hn] at HNM
  unfold nmV at HNM
  have HFL := hid (fields_any o ho w1 hT1)
  have hR1 := hR.keep hF1 (fun h => h)
  have HM := hid hm
  have tc : ((n : Int) != 1 + (m : Int)) = true := by simp; omega
  clear how hgc hln hx hn hR hm hc
  go_wp2_with fail
  refine HNM.out.mono ?_
  rintro e w2 ⟨rfl, rfl⟩
  go_wp2_with fail
  refine HFL.out.mono ?_
  rintro e w2 ⟨Af, cf, rfl, hfl, hF2⟩
  rw [HM.out]
  have hR2 := hR1.keep hF2 (fun h => h)
  have HR2 := hid hR2
  clear hR1 hR2 hfl c0
  have p0 : w2.cell? ⟨w.heap.size, 0, none⟩ = some (.int .i64 0) := HR2.out.cell rfl
  have p1 : w2.cell? ⟨w.heap.size, 1, none⟩ = some (.int .i64 0) := HR2.out.cell rfl
  have p2 : w2.cell? ⟨w.heap.size, 2, none⟩ = some (.int .i64 0) := HR2.out.cell rfl
  have p3 : w2.cell? ⟨w.heap.size, 3, none⟩ = some (.int .i64 0) := HR2.out.cell rfl
  have p4 : w2.cell? ⟨w.heap.size, 4, none⟩ = some (.int .i64 0) := HR2.out.cell rfl
  have f0 := HR2.out.frozen 0
  have f1 := HR2.out.frozen 1
  have f2 := HR2.out.frozen 2
  have f3 := HR2.out.frozen 3
  have f4 := HR2.out.frozen 4
  have pl := HR2.out.lt
  go_wp2_with fail
  have hR9 := HR2.out.set5 (.int .i64 0) (.int .i64 0) (.int .i64 0) (.int .i64 0) (.int .i64 0)
  have hF9 : Fr (fun k => k = w.heap.size) w2 _ := fr_set5 (fun k => k = w.heap.size) w2 w.heap.size rfl (.int .i64 0) (.int .i64 0) (.int .i64 0) (.int .i64 0) (.int .i64 0)
  obtain ⟨w9, hw9⟩ : ∃ w9, w9 = (((((w2.setCell ⟨w.heap.size, 0, none⟩ (.int .i64 0)).setCell ⟨w.heap.size, 1, none⟩ (.int .i64 0)).setCell ⟨w.heap.size, 2, none⟩ (.int .i64 0)).setCell ⟨w.heap.size, 3, none⟩ (.int .i64 0)).setCell ⟨w.heap.size, 4, none⟩ (.int .i64 0)) := ⟨_, rfl⟩
  rw [← hw9] at hR9 hF9 ⊢
  clear hw9 p0 p1 p2 p3 p4
  have p0 : w9.cell? ⟨w.heap.size, 0, none⟩ = some (.int .i64 0) := hR9.cell rfl
  have p1 : w9.cell? ⟨w.heap.size, 1, none⟩ = some (.int .i64 0) := hR9.cell rfl
  have p2 : w9.cell? ⟨w.heap.size, 2, none⟩ = some (.int .i64 0) := hR9.cell rfl
  have p3 : w9.cell? ⟨w.heap.size, 3, none⟩ = some (.int .i64 0) := hR9.cell rfl
  have p4 : w9.cell? ⟨w.heap.size, 4, none⟩ = some (.int .i64 0) := hR9.cell rfl
  refine bodyPost_ret (v := .tuple #[.agg #[.int .i64 0, .int .i64 0, .int .i64 0, .int .i64 0, .int .i64 0], .int .i64 11]) ?hv rfl ?hp
  case hv => (simp [results, Tryz.results9, go_sem, p0, p1, p2, p3, p4]; try rfl)
  case hp => exact ⟨rfl, (hA.mono (fun _ h => h.elim)).since (((hF1.trans hF2).mono (fun _ h => h.elim)).trans hF9) (fun k hk hkl => by omega)⟩

end Go.Proofs.YtepbnneggpcbcaaGreatDoor
