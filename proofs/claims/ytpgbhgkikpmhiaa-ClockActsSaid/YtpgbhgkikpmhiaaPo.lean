/-
  A clock's line: Pop.
-/
import Derived.Test.YtpgbhgkikpmhiaaPu
namespace Go.Proofs.Ytpgbhgkikpmhiaa
open Go.RowKit
set_option linter.unusedVariables false

theorem OwnR.short {w : World} {B : Nat} {e : TypeId} {k g n m cap : Nat} {xs : List Value} (h : OwnR w B e k (some ⟨g, 0, none⟩) n cap xs) (hm : m ≤ n) : OwnR w B e k (some ⟨g, 0, none⟩) m cap (xs.take (m * k)) := by
  obtain ⟨h1, h2⟩ := h
  have hmk : m * k ≤ n * k := Nat.mul_le_mul_right k hm
  refine ⟨by rw [List.length_take, h1]; omega, ?_⟩
  rcases h2 with ⟨h2, _⟩ | ⟨g', c, cur, hv, hb, hh, hnc, hcm, hcs, htk⟩
  · cases h2
  · injection hv with hA _ hc
    subst hc
    refine .inr ⟨g', cap, cur, by rw [hA], hb, hh, by omega, hcm, hcs, ?_⟩
    rw [← htk, List.take_take, Nat.min_eq_left hmk]

theorem dues_take (L : List Due) (n : Nat) : (dues L).take (n * 2) = dues (L.take n) := by
  induction L generalizing n with
  | nil => simp [dues]
  | cons d L ih =>
    have e : ∀ (d : Due) L, dues (d :: L) = iV d.1 :: iV d.2 :: dues L := fun _ _ => rfl
    cases n with
    | zero => simp [dues]
    | succ n =>
      rw [e, List.take_succ_cons, e, show (n + 1) * 2 = n * 2 + 2 by omega]
      simp only [List.take_succ_cons]
      rw [ih]

section
variable {c : Nat} {now : Int} {A : Option Addr} {cap b : Nat} {L : List Due} (w : World)

set_option maxRecDepth 100000 in
set_option maxHeartbeats 1600000 in
theorem ln_pop (h : IsK w c now A cap b L) (n : Nat) (hn : L.length = n + 1) (hs : n < 100000) : Calls Try.prog 55 #[.pointer (some ⟨c, 1, none⟩)] w fun e w' => e = .returned (dueV (at_ L n)) ∧ IsK w' c now A cap b (L.take n) ∧ Fr (ownK c A b) w w' := by
  obtain ⟨m, hm, hP⟩ := h.map
  have HPL := hid (hP.pop hn)
  have hll : (L.take n).length = n := by rw [List.length_take]; omega
  have HCB := hid h.cb
  have HCA := hid h.cA
  have HBA := hid h.bA
  have HLT := hid h.own_lt
  have hc := h.hc
  have hrow := h.row
  obtain ⟨g, rfl, hg, hcap, hG⟩ := h.gt (i := n) (by omega)
  have hrs := hrow.short (m := n) (by omega)
  rw [dues_take] at hrs
  obtain ⟨x1, y1, -, -⟩ := hG w (fun _ => False) (Fr.refl _ _) id n (by omega)
  obtain ⟨d, hd⟩ : ∃ d, at_ L n = d := ⟨_, rfl⟩
  rw [hd] at x1 y1 HPL ⊢
  obtain ⟨K, hK⟩ : ∃ K, L.take n = K := ⟨_, rfl⟩
  rw [hK] at HPL hll hrs ⊢
  obtain ⟨x, y⟩ := d
  unfold dueV
  simp only at x1 y1 HPL ⊢
  rw [hn] at hc hcap
  have c1 : w.cell? ⟨c, 1, none⟩ = some (.slice (some ⟨g, 0, none⟩) (n + 1) cap) := hc.cell rfl
  have z1 := hc.frozen 1
  have hcl := hc.lt
  have HC := hid hc
  have HR := hid hrs
  have HM := hid hm
  have HLL := hid hll
  clear hc hrow hrs hm h hP hG hd hK hll hn hg
  have hn0 : (n : Int) < n + 1 := by omega
  have hn1 : (n : Int) ≤ cap := by omega
  go_enter Try.func55, Try.ntmps55
  go_upto_region 4 with fail
  have HFA := hid (Fr.setCell (S := fun k => k = c) w ⟨c, 1, none⟩ (.slice (some ⟨g, 0, none⟩) n cap) rfl)
  have HB2 := hid ((TBlk.new (w.setCell ⟨c, 1, none⟩ (.slice (some ⟨g, 0, none⟩) n cap)) #[.int .i64 x, .int .i64 y] 64).at (show _ = w.heap.size by simp))
  have HC2 := hid ((TBlk.set HC.out 1 (.slice (some ⟨g, 0, none⟩) n cap)).alloc (.cells #[.int .i64 x, .int .i64 y] 64))
  have HF2 := hid (HFA.out.trans (Fr.alloc _ _ (.cells #[.int .i64 x, .int .i64 y] 64)))
  obtain ⟨w2, hw2⟩ : ∃ w2, (w.setCell ⟨c, 1, none⟩ (.slice (some ⟨g, 0, none⟩) n cap)).alloc (.cells #[.int .i64 x, .int .i64 y] 64) = w2 := ⟨_, rfl⟩
  rw [hw2] at HB2 HC2 HF2 ⊢
  clear hw2 x1 y1 c1 z1
  have HR2 := hid (OwnR.keep HR.out HF2.out (fun q hq e => HCA.out (e ▸ hq)))
  have HM2 := hid (HM.out.fr HF2.out HCB.out.symm)
  have hcc : (#[.int .i64 now, .slice (some ⟨g, 0, none⟩) (n + 1) cap, .map (some b)] : Array Value).setIfInBounds 1 (.slice (some ⟨g, 0, none⟩) n cap) = #[.int .i64 now, .slice (some ⟨g, 0, none⟩) n cap, .map (some b)] := rfl
  rw [hcc] at HC2
  clear hcc
  have HDB := hid (show w.heap.size ≠ b from fun e => by have := HLT.out b (.inr (.inl rfl)); omega)
  have HS := hid (show ∀ W, Fr (fun k => k = b) w2 W → (∃ m', IsPm W b m') → W.cell? ⟨c, 2, none⟩ = some (.map (some b)) ∧ W.cell? ⟨w.heap.size, 1, none⟩ = some (.int .i64 y) ∧ (Builtin.delete_ #[53, 3] 0 #[.map (some b), .int .i64 y]).run Try.prog W = .ok (.tuple #[]) (delW b y W) from
    fun W F hm' => by
      obtain ⟨m', hm'⟩ := hm'
      exact ⟨(HC2.out.keep F HCB.out).cell rfl, (HB2.out.keep F HDB.out).cell rfl, (del_run hm' y).1⟩)
  go_region_held3 (fun W => W.cell? ⟨c, 2, none⟩ = some (.map (some b)) ∧ W.cell? ⟨w.heap.size, 1, none⟩ = some (.int .i64 y) ∧ (Builtin.delete_ #[53, 3] 0 #[.map (some b), .int .i64 y]).run Try.prog W = .ok (.tuple #[]) (delW b y W))
    (first
      | exact HS.out _ (Fr.refl _ _) ⟨_, HM2.out⟩
      | exact HS.out _ (Fr.drew _ _) ⟨_, HM2.out.fr (Fr.drew (fun _ => False) _) id⟩
      | exact HS.out _ ((Fr.drew _ _).trans (del_run (HM2.out.fr (Fr.drew (fun _ => False) _) id) y).2.2) ⟨_, (del_run (HM2.out.fr (Fr.drew (fun _ => False) _) id) y).2.1⟩)
    (fail)
  all_goals
    have HU := hid (del_run (HM2.out.fr (Fr.drew (fun _ => False) _) id) y)
    have HM3 := hid HU.out.2.1
    have HF3 := hid ((Fr.drew (fun k => k = b) w2).trans HU.out.2.2)
    obtain ⟨w3, hw3⟩ : ∃ w3, delW b y w2.drew = w3 := ⟨_, rfl⟩
    rw [hw3] at HM3 HF3 ⊢
    clear hw3 HU
    have b0 : w3.cell? ⟨w.heap.size, 0, none⟩ = some (.int .i64 x) := (HB2.out.keep HF3.out HDB.out).cell rfl
    have b1 : w3.cell? ⟨w.heap.size, 1, none⟩ = some (.int .i64 y) := (HB2.out.keep HF3.out HDB.out).cell rfl
    go_wp2_with fail
    go_ret
    refine ⟨rfl, ⟨?_, ?_, _, HM3.out, HPL.out⟩, (HF2.out.mono (T := ownK c (some ⟨g, 0, none⟩) b) (fun k hk => .inl hk)).trans (HF3.out.mono (fun k hk => .inr (.inl hk)))⟩
    · rw [HLL.out]; exact HC2.out.keep HF3.out HCB.out
    · rw [HLL.out]; exact OwnR.keep HR2.out HF3.out (fun q hq e => HBA.out (e ▸ hq))
end
end Go.Proofs.Ytpgbhgkikpmhiaa
