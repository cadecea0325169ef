/-
  What a program comes to.
-/
import Derived.Test.YtpjcdjooiaefdaaDoorVAll
import Derived.Test.YtpjcdjooiaefdaaDoorVPrg
namespace Go.Proofs.YtpjcdjooiaefdaaDoor
open Go.RowKit
set_option linter.unusedVariables false

/-- What a run tells. -/
def RunIs (P : List Fn) (fuel : Int) (rows : List Rw) (st : Nat) (er : Int) : Prop :=
  (¬ Acc P ∧ rows = [] ∧ st = 0 ∧ er = 24) ∨ (Acc P ∧ (fuel < 0 ∨ 1048576 < fuel) ∧ rows = [] ∧ st = 0 ∧ er = 10) ∨
  (Acc P ∧ 0 ≤ fuel ∧ fuel ≤ 1048576 ∧ ∃ n o, exec P fuel.toNat n 0 0 rootT rootG = some o ∧ match o with
    | .err c => rows = [] ∧ st = 0 ∧ er = c
    | .done G => rows = G.rows ∧ st = G.st ∧ er = 0)

def RunPost (P : List Fn) (fuel : Int) (w : World) (e : Ending) (w' : World) : Prop :=
  ∃ rows st er A cap, RunIs P fuel rows st er ∧ e = .returned (.tuple #[.slice A rows.length cap, .int .i64 (st : Nat), .int .i64 er]) ∧ OwnR w' w.heap.size 33 7 A rows.length cap (flatR rows) ∧ Fr (fun _ => False) w w'

theorem RunPost.none {P : List Fn} {fuel er : Int} {w w' : World} (h : RunIs P fuel [] 0 er) (f : Fr (fun _ => False) w w') : RunPost P fuel w (.returned (.tuple #[.slice Option.none 0 0, .int .i64 0, .int .i64 er])) w' :=
  ⟨[], 0, er, Option.none, 0, h, rfl, OwnR.nil _ _ _ _, f⟩

theorem runsL_done {l : List Rw} (h : ∀ (i : Nat) r, l[i]? = some r → isDone r) : runsL l = l := by
  unfold runsL
  refine (List.map_congr_left (g := id) fun r hr => ?_).trans (List.map_id l)
  obtain ⟨i, hi⟩ := List.getElem?_of_mem hr
  have := (h i r hi).1
  unfold Rw.runs
  rw [if_neg (by omega)]
  rfl

theorem exec_rows {P : List Fn} {N n : Nat} {G : Gl} (A : Acc P) (hN : N ≤ 1048576) (h : exec P N n 0 0 rootT rootG = some (.done G)) : ∀ (i : Nat) r, G.rows[i]? = some r → isDone r := fun i r hr =>
  (exec_ext A hN _ _ _ _ _ _ (root_inv A N) h).1.done i (by
    show i = 0 ∨ 1 ≤ i
    omega) r hr

set_option maxRecDepth 100000 in
set_option maxHeartbeats 2000000 in
theorem run_in (A : Option Addr) (n c : Nat) (P : List Fn) (fuel : Int) (w : World) (ht : Tabs w) (hp : Prg w w.heap.size A P) (hn : P.length = n) (h2 : 2 ≤ w.heap.size)
    (hacc : ∀ W, Fr (fun _ => False) w W → Calls Tryd.prog 12 #[.agg #[.slice A n c]] W fun e w' => e = .returned (.bool (accB P)) ∧ Fr (fun _ => False) W w') :
    Calls Tryd.prog 9 #[.agg #[.slice A n c], .int .i64 fuel] w (RunPost P fuel w) := by
  have hmf : ∀ (fn : Go.Fn) (first cap : Array Value) (w : World), (Instr.makeFunc fn first cap).run Tryd.prog w = .ok (.func fn first cap) w := fun _ _ _ _ => rfl
  obtain ⟨b, hb⟩ : ∃ b, accB P = b := ⟨_, rfl⟩
  have HB := hid hb
  have HAC := hid hacc
  have HT := hid ht
  have HP := hid hp
  have HN := hid hn
  have H2 := hid h2
  rw [hb] at HAC
  clear hb hacc ht hp hn h2
  obtain ⟨g, hg⟩ : ∃ g, w.heap.size + 1 = g := ⟨_, rfl⟩
  obtain ⟨w1, hw1⟩ : ∃ w1, w1 = ((((w.alloc (.cells #[.slice A n c] 24)).alloc (.cells #[.slice none 0 0] 27)).alloc (.cells #[.int .i64 0] 3)).alloc (.cells #[.int .i64 0] 28)) := ⟨_, rfl⟩
  have HF1 := hid (show Fr (fun _ => False) w w1 by rw [hw1]; exact (((Fr.alloc _ _ _).trans (Fr.alloc _ _ _)).trans (Fr.alloc _ _ _)).trans (Fr.alloc _ _ _))
  have HBX := hid (show TBlk w1 w.heap.size #[.slice A n c] 24 by rw [hw1]; exact (((TBlk.new _ _ _).alloc _).alloc _).alloc _)
  have HBP := hid (show TBlk w1 g #[.slice none 0 0] 27 by rw [hw1, ← hg]; exact (((TBlk.new _ _ _).at (by simp)).alloc _).alloc _)
  have HBQ := hid (show TBlk w1 (g + 1) #[.int .i64 0] 3 by rw [hw1, ← hg]; exact ((TBlk.new _ _ _).at (by simp)).alloc _)
  have HBR := hid (show TBlk w1 (g + 2) #[.int .i64 0] 28 by rw [hw1, ← hg]; exact (TBlk.new _ _ _).at (by simp))
  have hg2 : g + 1 + 1 = g + 2 := rfl
  have HG := hid hg
  go_enter_defers Tryd.func9, Tryd.ntmps9
  go_upto_region 1 with fail
  rw [← hw1]
  clear hw1 hg
  have b1 := (TBlk.blk HBX.out).cell (i := 0) rfl
  simp only [List.getElem_toArray, List.getElem_cons_zero] at b1
  go_wp2_with fail
  refine (HAC.out _ HF1.out).mono ?_
  rintro e w2 ⟨rfl, hF2⟩
  have HF2 := hid hF2
  have HX2 := hid (HBX.out.keep hF2 (fun h => h))
  have HP2 := hid (HBP.out.keep hF2 (fun h => h))
  have HQ2 := hid (HBQ.out.keep hF2 (fun h => h))
  have HR2 := hid (HBR.out.keep hF2 (fun h => h))
  clear b1 hF2 HAC
  have x0 : w2.cell? ⟨w.heap.size, 0, none⟩ = some (.slice A n c) := (TBlk.blk HX2.out).cell rfl
  have p0 : w2.cell? ⟨g, 0, none⟩ = some (.slice none 0 0) := (TBlk.blk HP2.out).cell rfl
  have q0 : w2.cell? ⟨g + 1, 0, none⟩ = some (.int .i64 0) := (TBlk.blk HQ2.out).cell rfl
  have r0 : w2.cell? ⟨g + 2, 0, none⟩ = some (.int .i64 0) := (TBlk.blk HR2.out).cell rfl
  have zp := (TBlk.blk HP2.out).frozen 0
  have zq := (TBlk.blk HQ2.out).frozen 0
  have zr := (TBlk.blk HR2.out).frozen 0
  have lx := (TBlk.blk HX2.out).lt
  have lp := (TBlk.blk HP2.out).lt
  have lq := (TBlk.blk HQ2.out).lt
  have lr := (TBlk.blk HR2.out).lt
  cases b with
  | false =>
    have HNA : Hid (¬ Acc P) := hid (fun h => by have := accB_true.2 h; rw [HB.out] at this; cases this)
    go_wp2_with fail
    have hF3 := ((Fr.setCell (S := fun j => g ≤ j) w2 ⟨g, 0, none⟩ (.slice none 0 0) (Nat.le_refl _)).trans (Fr.setCell (S := fun j => g ≤ j) _ ⟨g + 1, 0, none⟩ (.int .i64 0) (by simp only; omega))).trans (Fr.setCell (S := fun j => g ≤ j) _ ⟨g + 2, 0, none⟩ (.int .i64 24) (by simp only; omega))
    have HF3 := hid (((HF1.out.trans HF2.out).since hF3 (fun j hj hl => by have := HG.out; omega)))
    simp [bodyPostD, Leaves, results, Tryd.results9, go_sem, p0, q0, r0]
    exact RunPost.none (.inl ⟨HNA.out, rfl, rfl, rfl⟩) HF3.out
  | true =>
    have HA := hid (accB_true.1 HB.out)
    by_cases h0 : fuel < 0 ∨ 1048576 < fuel
    · have HR0 := hid h0
      have hF3 := ((Fr.setCell (S := fun j => g ≤ j) w2 ⟨g, 0, none⟩ (.slice none 0 0) (Nat.le_refl _)).trans (Fr.setCell (S := fun j => g ≤ j) _ ⟨g + 1, 0, none⟩ (.int .i64 0) (by simp only; omega))).trans (Fr.setCell (S := fun j => g ≤ j) _ ⟨g + 2, 0, none⟩ (.int .i64 10) (by simp only; omega))
      have HF3 := hid (((HF1.out.trans HF2.out).since hF3 (fun j hj hl => by have := HG.out; omega)))
      clear hF3
      by_cases h1 : fuel < 0
      · clear h0
        go_wp2_with fail
        simp [bodyPostD, Leaves, results, Tryd.results9, go_sem, p0, q0, r0]
        exact RunPost.none (.inr (.inl ⟨HA.out, HR0.out, rfl, rfl, rfl⟩)) HF3.out
      · have h2 : 1048576 < fuel := by omega
        clear h0
        go_wp2_with fail
        simp [bodyPostD, Leaves, results, Tryd.results9, go_sem, p0, q0, r0]
        exact RunPost.none (.inr (.inl ⟨HA.out, HR0.out, rfl, rfl, rfl⟩)) HF3.out
    obtain ⟨N, rfl⟩ : ∃ N : Nat, fuel = N := ⟨fuel.toNat, by omega⟩
    have hN : N ≤ 1048576 := by omega
    have h1 : ¬ (N : Int) < 0 := by omega
    have h2 : ¬ (1048576 : Int) < N := by omega
    obtain ⟨o, ho⟩ := exec_some HA.out hN (N + 1) 0 0 rootT rootG (root_inv HA.out N) (by show N < 0 + (N + 1); omega)
    have HO := hid ho
    have HNN := hid hN
    obtain ⟨rb, hrb⟩ : ∃ rb, w2.heap.size = rb := ⟨_, rfl⟩
    obtain ⟨w3, hw3⟩ : ∃ w3, w3 = w2.alloc (.cells #[.slice A n c, .int .i64 N, .int .i64 0, .slice none 0 0] 47) := ⟨_, rfl⟩
    have HF3 := hid (show Fr (fun _ => False) w2 w3 by rw [hw3]; exact Fr.alloc _ _ _)
    have HR3 := hid (show IsR w3 rb A n c N 0 none 0 0 by rw [hw3, ← hrb]; exact TBlk.new _ _ _)
    have HW3 := hid hw3
    have HRB := hid hrb
    have hwg := HG.out
    have hs1 := HF1.out.size
    have hs2 := HF2.out.size
    have hs3 : rb < w3.heap.size := (TBlk.blk HR3.out).lt
    have HAL := hid (all_do cel_is P w.heap.size rb A n c N w3 HA.out hN HN.out H2.out (by omega) HR3.out (HP.out.same ((HF1.out.trans HF2.out).trans HF3.out) (Nat.le_refl _)) (HT.out.same ((HF1.out.trans HF2.out).trans HF3.out)) (N + 1) o ho)
    have HP3 := hid (HP2.out.keep HF3.out (fun h => h))
    have HQ3 := hid (HQ2.out.keep HF3.out (fun h => h))
    have HR3' := hid (HR2.out.keep HF3.out (fun h => h))
    have HGL := hid (show g + 2 < rb ∧ rb < w3.heap.size ∧ w.heap.size < g from ⟨by omega, hs3, by omega⟩)
    clear h0 hN ho hw3 hwg hs1 hs2 hs3 hrb
    go_wp2_with fail
    rw [HRB.out, ← HW3.out]
    refine HAL.out.mono ?_
    clear p0 q0 r0 zp zq zr lx lp lq lr x0
    cases o with
    | err er =>
      unfold AllPost boom
      rintro e w4 ⟨rfl, hF4⟩
      have hng : ∀ k, k < rb → ¬ k = rb := fun k hk => by omega
      have p0 := (TBlk.blk (HP3.out.keep hF4 (hng _ (by have := HGL.out.1; omega)))).cell (i := 0) rfl
      have q0 := (TBlk.blk (HQ3.out.keep hF4 (hng _ (by have := HGL.out.1; omega)))).cell (i := 0) rfl
      have r0 := (TBlk.blk (HR3'.out.keep hF4 (hng _ (by have := HGL.out.1; omega)))).cell (i := 0) rfl
      have zp := (TBlk.blk (HP3.out.keep hF4 (hng _ (by have := HGL.out.1; omega)))).frozen 0
      have zq := (TBlk.blk (HQ3.out.keep hF4 (hng _ (by have := HGL.out.1; omega)))).frozen 0
      have zr := (TBlk.blk (HR3'.out.keep hF4 (hng _ (by have := HGL.out.1; omega)))).frozen 0
      have HF4 := hid hF4
      clear hF4 hng
      refine leaves_cons (f := 15) (args := #[.pointer (some ⟨g, 0, none⟩), .pointer (some ⟨g + 1, 0, none⟩), .pointer (some ⟨g + 2, 0, none⟩)]) (by simp) (by simp [go_sem]) ?_
      refine (catch_panicking g 0 0 er [] w4 p0 q0 r0 zp zq zr).mono ?_
      rintro e u' w5 ⟨rfl, rfl, ⟨c1, c2, c3⟩, hF5⟩
      have HF5 := hid hF5
      simp [Leaves, settle, results, Tryd.results9, go_sem, c1, c2, c3]
      refine RunPost.none (.inr (.inr ⟨HA.out, by omega, by have := HNN.out; omega, N + 1, .err er, ?_, rfl, rfl, rfl⟩)) ?_
      · rw [Int.toNat_natCast]; exact HO.out
      · have hL := HGL.out
        exact (((HF1.out.trans HF2.out).trans HF3.out).since HF4.out (fun j hj hl => by omega)).since HF5.out (fun j hj hl => by omega)
    | done G =>
      unfold AllPost
      rintro e w4 ⟨rfl, ⟨A', cap, hR4, hO4⟩, hF4⟩
      have hng : ∀ k, k < rb → ¬ k = rb := fun k hk => by omega
      have p0 := (TBlk.blk (HP3.out.keep hF4 (hng _ (by have := HGL.out.1; omega)))).cell (i := 0) rfl
      have q0 := (TBlk.blk (HQ3.out.keep hF4 (hng _ (by have := HGL.out.1; omega)))).cell (i := 0) rfl
      have r0 := (TBlk.blk (HR3'.out.keep hF4 (hng _ (by have := HGL.out.1; omega)))).cell (i := 0) rfl
      simp only [List.getElem_toArray, List.getElem_cons_zero] at p0 q0 r0
      have zp := (TBlk.blk (HP3.out.keep hF4 (hng _ (by have := HGL.out.1; omega)))).frozen 0
      have zq := (TBlk.blk (HQ3.out.keep hF4 (hng _ (by have := HGL.out.1; omega)))).frozen 0
      have zr := (TBlk.blk (HR3'.out.keep hF4 (hng _ (by have := HGL.out.1; omega)))).frozen 0
      have lp := (TBlk.blk (HP3.out.keep hF4 (hng _ (by have := HGL.out.1; omega)))).lt
      have lq := (TBlk.blk (HQ3.out.keep hF4 (hng _ (by have := HGL.out.1; omega)))).lt
      have lr := (TBlk.blk (HR3'.out.keep hF4 (hng _ (by have := HGL.out.1; omega)))).lt
      obtain ⟨st, hst⟩ : ∃ st, G.st = st := ⟨_, rfl⟩
      obtain ⟨ln, hln⟩ : ∃ ln, G.rows.length = ln := ⟨_, rfl⟩
      rw [hst, hln] at hR4
      have s2 : w4.cell? ⟨rb, 2, none⟩ = some (.int .i64 st) := (TBlk.blk hR4).cell rfl
      have s3 : w4.cell? ⟨rb, 3, none⟩ = some (.slice A' ln cap) := (TBlk.blk hR4).cell rfl
      have ls := (TBlk.blk hR4).lt
      have n1 : ¬ rb = g := by have := HGL.out.1; omega
      have n2 : ¬ rb = g + 1 := by have := HGL.out.1; omega
      have n3 : ¬ rb = g + 2 := by have := HGL.out.1; omega
      have HF4 := hid hF4
      have HO4 := hid hO4
      have HST := hid hst
      have HLN := hid hln
      have HF5 := hid (((Fr.setCell (S := fun j => j = g ∨ j = g + 1 ∨ j = g + 2) w4 ⟨g, 0, none⟩ (.slice A' ln cap) (.inl rfl)).trans (Fr.setCell (S := fun j => j = g ∨ j = g + 1 ∨ j = g + 2) _ ⟨g + 1, 0, none⟩ (.int .i64 st) (.inr (.inl rfl)))).trans (Fr.setCell (S := fun j => j = g ∨ j = g + 1 ∨ j = g + 2) _ ⟨g + 2, 0, none⟩ (.int .i64 0) (.inr (.inr rfl))))
      clear hF4 hO4 hst hln hng hR4
      go_upto_region 8 with fail
      go_region_held3 (fun W => W.cell? ⟨rb, 2, none⟩ = some (.int .i64 st) ∧ W.cell? ⟨rb, 3, none⟩ = some (.slice A' ln cap))
        (first | exact ⟨s2, s3⟩ | exact ⟨by simp [go_sem, s2], by simp [go_sem, s3]⟩)
        (fail)
      all_goals
        go_wp2_with fail
        refine leaves_cons (f := 15) (args := #[.pointer (some ⟨g, 0, none⟩), .pointer (some ⟨g + 1, 0, none⟩), .pointer (some ⟨g + 2, 0, none⟩)]) (by simp) (by simp [go_sem]) ?_
        refine (catch_idle _ _ _ _).mono ?_
        rintro e u' w5 ⟨rfl, rfl, rfl⟩
        simp [Leaves, settle, results, Tryd.results9, go_sem, p0, q0, r0]
        have hL := HGL.out
        have hF6 := HF5.out.trans (Fr.drew _ _)
        refine ⟨G.rows, st, 0, A', cap, .inr (.inr ⟨HA.out, by omega, by have := HNN.out; omega, N + 1, .done G, ?_, rfl, HST.out.symm, rfl⟩), ?_, ?_, ?_⟩
        · rw [Int.toNat_natCast]; exact HO.out
        · rw [HLN.out]
        · have h6 := HO4.out
          unfold Rws at h6
          rw [runsL_done (exec_rows HA.out HNN.out HO.out)] at h6
          exact OwnR.less (OwnR.keep h6 hF6 (fun j hj hs => by have := (OwnR.lt h6 j hj).1; omega)) (by have := HF1.out.size; have := HF2.out.size; have := HF3.out.size; omega)
        · exact (((HF1.out.trans HF2.out).trans HF3.out).since HF4.out (fun j hj hl => by omega)).since hF6 (fun j hj hl => by omega)

theorem run_any (A : Option Addr) (n c : Nat) (P : List Fn) (fuel : Int) (w : World) (ht : Tabs w) (hp : Prg w w.heap.size A P) (hn : P.length = n) (hnl : n ≤ 1000) :
    Calls Tryd.prog 9 #[.agg #[.slice A n c], .int .i64 fuel] w (RunPost P fuel w) :=
  run_in A n c P fuel w ht hp hn ht.two (fun W hW => accepts_any A n c P W (ht.same hW) ((hp.same hW (Nat.le_refl _)).more hW.size) hn hnl)

end Go.Proofs.YtpjcdjooiaefdaaDoor
