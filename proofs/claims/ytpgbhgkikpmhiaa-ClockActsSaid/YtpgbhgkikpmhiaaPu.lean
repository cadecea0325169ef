/-
  A clock's line: Push, Pop.
-/
import Derived.Test.YtpgbhgkikpmhiaaLn
import Derived.Deep.RegionLaw
namespace Go.Proofs.Ytpgbhgkikpmhiaa
open Go.RowKit
set_option linter.unusedVariables false

theorem infodl : (Try.prog.info? 64).map (fun i => (i.zero, i.size, i.bytes)) = some (some (.agg #[.int .i64 0, .int .i64 0]), 2, 16) := by kernel_rfl

theorem own_of {A : Option Addr} {n c g : Nat} (h : (Value.slice A n c).ownBlock = some g) : ownB A g := by
  rcases A with _ | a
  · simp [Value.ownBlock] at h
  · simp only [Value.ownBlock, Option.some.injEq] at h
    exact ⟨a, rfl, h⟩

theorem two_new (w : World) (e : TypeId) (x y : Value) : ∀ j u, ([x, y] : List Value)[j]? = some u → (w.alloc (.cells #[x, y] e)).drew.cell? ((⟨w.heap.size, 0, none⟩ : Addr).add j) = some u := fun j u hu => by
  have ea : ({ block := w.heap.size, off := 0 } : Addr).add j = ⟨w.heap.size, j, none⟩ := by
    unfold Addr.add
    split
    · subst_vars; rfl
    · simp
  rw [ea]
  exact (Blk.new w #[x, y] e).drew.cell (by simpa using hu)

theorem dues_push (L : List Due) (d : Due) : dues L ++ [.int .i64 d.1, .int .i64 d.2] = dues (L ++ [d]) := by rw [dues_app]; rfl

def dueV (d : Due) : Value := .iface 64 (.agg #[.int .i64 d.1, .int .i64 d.2])

theorem dl_is (x y : Int) (W : World) : (Instr.typeAssert (.iface 64 (.agg #[.int .i64 x, .int .i64 y])) 20 64 true).run Try.prog W = .ok (.tuple #[.agg #[.int .i64 x, .int .i64 y], .bool true]) W := by kernel_rfl

/-- What a push leaves. -/
def PushPost (c : Nat) (now : Int) (A : Option Addr) (b : Nat) (L : List Due) (w : World) (e : Ending) (w' : World) : Prop :=
  e = .returned (.tuple #[]) ∧ ∃ A' cap', IsK w' c now A' cap' b L ∧ Fr (ownK c A b) w w' ∧ ∀ k, ownB A' k → ownB A k ∨ w.heap.size ≤ k

section
variable {c : Nat} {now : Int} {A : Option Addr} {cap b : Nat} {L : List Due} (w : World)

set_option maxRecDepth 100000 in
set_option maxHeartbeats 1600000 in
theorem ln_push (h : IsK w c now A cap b L) (d : Due) (hd : ∀ x ∈ L, x.2 ≠ d.2) (hs : L.length < 100000) : Calls Try.prog 56 #[.pointer (some ⟨c, 1, none⟩), dueV d] w (PushPost c now A b (L ++ [d]) w) := by
  obtain ⟨m, hm, hP⟩ := h.map
  have hmd : m d.2 = none := by
    cases hv : m d.2 with
    | none => rfl
    | some v =>
      obtain ⟨i, hi, _, he⟩ := hP.no _ _ hv
      exact absurd he (hd _ (at_mem hi))
  have HPL := hid (hP.push hmd)
  obtain ⟨n, hn⟩ : ∃ n, L.length = n := ⟨_, rfl⟩
  rw [hn] at HPL hs
  have hA := Fr.alloc (fun _ => False) w (.cells #[.int .i64 d.1, .int .i64 d.2] 64)
  have hB := TBlk.new w #[.int .i64 d.1, .int .i64 d.2] 64
  have hrow := h.row
  have hDU := dues_push L d
  have hll : (L ++ [d]).length = n + 1 := by simp [hn]
  have hc := h.hc
  rw [hn] at hrow hc
  obtain ⟨K, hK⟩ : ∃ K, L ++ [d] = K := ⟨_, rfl⟩
  rw [hK] at HPL hll hDU ⊢
  obtain ⟨xs, hxs⟩ : ∃ xs, dues L = xs := ⟨_, rfl⟩
  rw [hxs] at hrow hDU
  obtain ⟨x, y⟩ := d
  unfold dueV
  simp only at hA hB HPL hDU ⊢
  obtain ⟨w1, hw1⟩ : ∃ w1, w.alloc (.cells #[.int .i64 x, .int .i64 y] 64) = w1 := ⟨_, rfl⟩
  rw [hw1] at hA hB
  have HA := hid hA
  have HB := hid hB
  have HC := hid (hc.keep hA id)
  have HR := hid (OwnR.same hrow hA)
  have HM := hid (hm.fr hA id)
  have HLT := hid h.own_lt
  have HCB := hid h.cb
  have HCA := hid h.cA
  have HBA := hid h.bA
  have HDU := hid hDU
  have HLL := hid hll
  have HCL := hid h.hc.lt
  have b0 := hB.cell (i := 0) rfl
  have b1 := hB.cell (i := 1) rfl
  simp only [List.getElem_toArray, List.getElem_cons_zero, List.getElem_cons_succ] at b0 b1
  clear hA hB hc hrow hm h hP hmd hd hK hxs hDU hll hn
  have hTA := dl_is x y
  go_enter Try.func56, Try.ntmps56
  go_upto_region 1 with fail
  clear hw1
  go_upto_region 2 with fail
  have HS := hid (show ∀ W, Fr (fun k => k = b) w1 W → (∃ m', IsPm W b m') → W.cell? ⟨c, 1, none⟩ = some (.slice A n cap) ∧ W.cell? ⟨c, 2, none⟩ = some (.map (some b)) ∧ W.cell? ⟨w.heap.size, 1, none⟩ = some (.int .i64 y) ∧ (Instr.mapUpdate 53 (.map (some b)) (.int .i64 y) (.int .i64 n)).run Try.prog W = .ok () (updW b y n W) from
    fun W F hm' => by
      obtain ⟨m', hm'⟩ := hm'
      have hk := HC.out.keep F HCB.out
      have hb := HB.out.keep F (by have := HLT.out b (.inr (.inl rfl)); omega)
      exact ⟨hk.cell rfl, hk.cell rfl, hb.cell rfl, (upd_run hm' y n).1⟩)
  clear b0 b1
  go_region_held3 (fun W => W.cell? ⟨c, 1, none⟩ = some (.slice A n cap) ∧ W.cell? ⟨c, 2, none⟩ = some (.map (some b)) ∧ W.cell? ⟨w.heap.size, 1, none⟩ = some (.int .i64 y) ∧ (Instr.mapUpdate 53 (.map (some b)) (.int .i64 y) (.int .i64 n)).run Try.prog W = .ok () (updW b y n W))
    (first
      | exact HS.out _ (Fr.refl _ _) ⟨_, HM.out⟩
      | exact HS.out _ (Fr.drew _ _) ⟨_, HM.out.fr (Fr.drew (fun _ => False) _) id⟩
      | exact HS.out _ ((Fr.drew _ _).trans (upd_run (HM.out.fr (Fr.drew (fun _ => False) _) id) y n).2.2) ⟨_, (upd_run (HM.out.fr (Fr.drew (fun _ => False) _) id) y n).2.1⟩)
    (fail)
  all_goals
    have HU := hid (upd_run (HM.out.fr (Fr.drew (fun _ => False) _) id) y n)
    have HM3 := hid HU.out.2.1
    have HF3 := hid ((Fr.drew (fun k => k = b) w1).trans HU.out.2.2)
    obtain ⟨w3, hw3⟩ : ∃ w3, updW b y n w1.drew = w3 := ⟨_, rfl⟩
    rw [hw3] at HM3 HF3 ⊢
    clear hw3 HU
    have HB3 := hid (HB.out.keep HF3.out (by have := HLT.out b (.inr (.inl rfl)); omega))
    have HC3 := hid (HC.out.keep HF3.out HCB.out)
    have HR3 := hid (OwnR.keep HR.out HF3.out (fun q hq e => HBA.out (e ▸ hq)))
    have HDB := hid (show c ≠ w.heap.size ∧ b ≠ w.heap.size ∧ ¬ ownB A w.heap.size from ⟨fun e => by have := HLT.out c (.inl rfl); omega, fun e => by have := HLT.out b (.inr (.inl rfl)); omega, fun e => by have := HLT.out _ (.inr (.inr e)); omega⟩)
    obtain ⟨i0, hi, hz⟩ := Option.map_eq_some_iff.1 infodl
    simp only [Prod.mk.injEq] at hz
    obtain ⟨hy0, hy1, hy2⟩ := hz
    have HII := hid hi
    have HZ0 := hid hy0
    have HZ1 := hid hy1
    have HZ2 := hid hy2
    clear hi hy0 hy1 hy2
    have HOW := hid (show (w3.alloc (.cells #[.int .i64 x, .int .i64 y] 64)).drew.ownsRow 0 64 2 (.slice A n cap) n xs from OwnR.same HR3.out ((Fr.alloc _ _ _).trans (Fr.drew _ _)))
    have HNW := hid (two_new w3 64 (.int .i64 x) (.int .i64 y))
    have HKP := hid (show ∀ W, Fr (ownB A) w3 W → W.cell? ⟨c, 1, none⟩ = some (.slice A n cap) ∧ W.frozen? ⟨c, 1, none⟩ = false from fun W hW => ⟨(HC3.out.keep hW HCA.out).cell rfl, (HC3.out.keep hW HCA.out).frozen 1⟩)
    have c1 : w3.cell? ⟨c, 1, none⟩ = some (.slice A n cap) := HC3.out.cell rfl
    have z1 := HC3.out.frozen 1
    have b0 : w3.cell? ⟨w.heap.size, 0, none⟩ = some (.int .i64 x) := HB3.out.cell rfl
    have b1 : w3.cell? ⟨w.heap.size, 1, none⟩ = some (.int .i64 y) := HB3.out.cell rfl
    have hl1 := HC3.out.lt
    have hl2 := HB3.out.lt
    go_upto_region 3 with fail
    go_region_law ((refine step_append_lies _ (by rfl) _ _ _ (by rfl) 0 64 i0 _ 2 16 Try.underlying54 HII.out HZ0.out HZ1.out HZ2.out rfl (by decide) (.slice A n cap) n _ (by rfl) HOW.out ⟨w3.heap.size, 0, none⟩ 1 1 [.int .i64 x, .int .i64 y] (by rfl) (by rfl) HNW.out (by simp [Value.oneCell']) (by omega) (by unfold maxLen; omega) (by omega) (by simp) (w3.heap.size + 1) (by simp) ?_; intro gg cp w9 hown9 hgrow9 hat9 hlt9; have HO9 := hid hown9; have HF9 := hid ((((Fr.alloc (fun _ => False) w3 _).trans (Fr.drew _ _)).mono (fun _ h => h.elim)).trans (Fr.of_grown hgrow9)); have HAT := hid hat9; have HC9 := hid (HC3.out.keep HF9.out HCA.out); have q1 := (HKP.out w9 HF9.out).1; have q2 := (HKP.out w9 HF9.out).2; clear hown9 hgrow9 hat9))
    all_goals
      go_wp2_with fail
      go_end0
      have hFs := Fr.setCell (S := fun j => j = c) w9 ⟨c, 1, none⟩ (.slice (some ⟨gg, 0, none⟩) (n + 1) cp) rfl
      have hO9 : OwnR w9 0 64 2 (some ⟨gg, 0, none⟩) (n + 1) cp (dues K) := OwnR.eq HO9.out HDU.out
      refine ⟨rfl, some ⟨gg, 0, none⟩, cp, ⟨?_, ?_, _, (HM3.out.fr HF9.out HBA.out).fr hFs HCB.out.symm, HPL.out⟩, ?_, ?_⟩
      · rw [HLL.out]; exact TBlk.set HC9.out 1 (.slice (some ⟨gg, 0, none⟩) (n + 1) cp)
      · rw [HLL.out]; exact OwnR.keep hO9 hFs (fun j hj e => by subst e; exact OwnR.ne hO9 HC9.out (by decide) hj)
      · exact ((HA.out.mono (T := ownK c A b) (fun _ h => h.elim)).trans (HF3.out.mono (fun k hk => .inr (.inl hk)))).trans ((HF9.out.mono (fun k hk => .inr (.inr hk))).trans (hFs.mono (fun k hk => .inl hk)))
      · rintro j ⟨q, hq, hj⟩
        injection hq with hq
        subst hq
        simp only at hj
        subst hj
        rcases HAT.out with h | h
        · exact .inl (own_of h)
        · exact .inr (by have := HA.out.size; have := HF3.out.size; omega)
end
end Go.Proofs.Ytpgbhgkikpmhiaa
