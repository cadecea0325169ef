/-
  Scopes: grow, Open, New (walks).
-/
import Derived.Test.YtoajdknhllaoeaaStp
import Derived.Test.YtoajdknhllaoeaaNew
namespace Go.Proofs.Ytoajdknhllaoeaa
open Go.RowKit
set_option linter.unusedVariables false

theorem infosc : (Try.prog.info? 83).map (fun i => (i.zero, i.size, i.bytes)) = some (some (.agg #[.int .i64 0, .int .i64 0]), 2, 16) := by kernel_rfl

theorem own_of {A : Option Addr} {n c g : Nat} (h : (Value.slice A n c).ownBlock = some g) : ownB A g := by
  rcases A with _ | a
  · simp [Value.ownBlock] at h
  · simp only [Value.ownBlock, Option.some.injEq] at h
    exact ⟨a, rfl, h⟩

theorem news_at (w : World) (e : TypeId) (l : List Value) : ∀ j u, l[j]? = some u → (w.alloc (.cells l.toArray e)).cell? ((⟨w.heap.size, 0, none⟩ : Addr).add j) = some u := fun j u hu => by
  have ea : ({ block := w.heap.size, off := 0 } : Addr).add j = ⟨w.heap.size, j, none⟩ := by
    unfold Addr.add
    split
    · subst_vars; rfl
    · simp
  rw [ea]
  exact (Blk.new w l.toArray e).cell (by simpa using hu)

def GroPost (b : MB) (tb : Nat) (A : Option Addr) (l : List Int) (u n : Nat) (s : List Int) (xs : List Value) (j : Nat) (p : Int) (w w' : World) : Prop :=
  ∃ A' cap', IsM w' b ⟨l, u + 2, stp s j⟩ ∧ TBlk w' tb #[.slice A' (n + 1) cap'] 81 ∧ OwnR w' 0 83 2 A' (n + 1) cap' (xs ++ [.int .i64 p, .int .i64 (u : Nat)]) ∧ Fr (fun k => b.own k ∨ k = tb ∨ ownB A k) w w' ∧ (∀ k, ownB A' k → ownB A k ∨ w.heap.size ≤ k)

section
variable {O : Nat → Prop} {b : MB} {tb : Nat} {T : Sc} (w : World)

set_option maxRecDepth 100000 in
set_option maxHeartbeats 2000000 in
theorem grow_raw (A : Option Addr) (cap : Nat) (l : List Int) (u n : Nat) (s : List Int) (xs : List Value) (j : Nat) (x p : Int) (hx : x = j) (hj : j < s.length) (hn : n < 1000000) (hu : u + 2 ≤ l.length)
    (hm : IsM w b ⟨l, u, s⟩) (ht : TBlk w tb #[.slice A n cap] 81) (hr : OwnR w 0 83 2 A n cap xs) (hbt : ¬ b.own tb) (har : ∀ k, ownB A k → ¬ b.own k) :
    Calls Try.prog 38 #[.pointer (some ⟨tb, 0, none⟩), .pointer (some ⟨b.m, 0, none⟩), .int .i64 x, .int .i64 p] w fun e w' => e = .returned (.tuple #[.int .i64 (n : Nat), .int .i64 0]) ∧ GroPost b tb A l u n s xs j p w w' := by
  subst hx
  have HAL := hid (alloc_ok b ⟨l, u, s⟩ j 2 w hm hj (by omega) hu)
  have HT := hid ht
  have HR := hid hr
  have HM0 := hid hm
  have HBT := hid hbt
  have HAR := hid har
  have HNB := hid hn
  obtain ⟨i0, hi, hz⟩ := Option.map_eq_some_iff.1 infosc
  simp only [Prod.mk.injEq] at hz
  obtain ⟨hy0, hy1, hy2⟩ := hz
  have HII := hid hi
  have HZ0 := hid hy0
  have HZ1 := hid hy1
  have HZ2 := hid hy2
  clear hi hy0 hy1 hy2 hm ht hr hbt har hj hu
  go_enter Try.func38, Try.ntmps38
  go_wp2_with fail
  refine HAL.out.mono ?_
  rintro e w1 ⟨rfl, hm1, hF1⟩
  have HM1 := hid (show IsM w1 b ⟨l, u + 2, stp s j⟩ from hm1)
  have HF1 := hid hF1
  have HT1 := hid (HT.out.keep hF1 HBT.out)
  have HR1 := hid (OwnR.keep HR.out hF1 HAR.out)
  clear hm1 hF1
  have hU : (((⟨l, u, s⟩ : Mach).used : Nat) : Int) = (u : Int) := rfl
  rw [hU]
  have HNE := hid (OwnR.ne HR1.out HT1.out (by decide))
  obtain ⟨v, hv⟩ : ∃ v : Int, (u : Int) = v := ⟨_, rfl⟩
  rw [hv]
  have HV := hid hv
  have c0 : w1.cell? ⟨tb, 0, none⟩ = some (.slice A n cap) := HT1.out.cell rfl
  have z0 := HT1.out.frozen 0
  have htl := HT1.out.lt
  have HOW := hid (show (w1.alloc (.cells #[.int .i64 p, .int .i64 v] 83)).ownsRow 0 83 2 (.slice A n cap) n xs from OwnR.same HR1.out (Fr.alloc _ _ _))
  have HNW := hid (news_at w1 83 [.int .i64 p, .int .i64 v])
  clear hv hU
  go_wp2_with (at_builtin; go_must (refine wpList_append_lies _ rfl _ _ 79 rfl 0 83 i0 (.agg #[.int .i64 0, .int .i64 0]) 2 16 Try.underlying79 HII.out HZ0.out HZ1.out HZ2.out rfl (by decide) (.slice A n cap) n _ rfl HOW.out ⟨w1.heap.size, 0, none⟩ 1 1 [.int .i64 p, .int .i64 v] rfl rfl HNW.out (by simp [Value.oneCell']) (by omega) (by unfold maxLen; omega) (by omega) (by simp) (w1.heap.size + 1) (by simp) ?_; intro g9 c9 w9 hown9 hgrow9 hat9 hlt9; have HO9 := hid (show OwnR w9 0 83 2 (some ⟨g9, 0, none⟩) (n + 1) c9 _ from hown9); have HF9 := hid ((Fr.alloc (ownB A) w1 (.cells #[.int .i64 p, .int .i64 v] 83)).trans (Fr.of_grown hgrow9)); have HAT := hid hat9; have HC9 := hid (HT1.out.keep HF9.out HNE.out); have q1 : w9.cell? ⟨tb, 0, none⟩ = some (.slice A n cap) := HC9.out.cell rfl; have q2 := HC9.out.frozen 0; have q3 := HC9.out.lt; clear hown9 hgrow9 hat9 hlt9))
  have hFs := Fr.setCell (S := fun j => j = tb) w9 ⟨tb, 0, none⟩ (.slice (some ⟨g9, 0, none⟩) (n + 1) c9) rfl
  obtain ⟨wa, hwa⟩ : ∃ wa, w9.setCell ⟨tb, 0, none⟩ (.slice (some ⟨g9, 0, none⟩) (n + 1) c9) = wa := ⟨_, rfl⟩
  have HTa := hid (show TBlk wa tb #[.slice (some ⟨g9, 0, none⟩) (n + 1) c9] 81 from by rw [← hwa]; exact TBlk.set HC9.out 0 _)
  rw [hwa] at hFs ⊢
  go_ret2
  refine ⟨rfl, some ⟨g9, 0, none⟩, c9, ?_, HTa.out, ?_, ?_, ?_⟩
  · exact (HM1.out.keep HF9.out (fun k hk hh => HAR.out k hh hk)).keep hFs (fun k hk e => HBT.out (e ▸ hk))
  · refine OwnR.keep (OwnR.eq HO9.out (by rw [HV.out])) hFs (fun k hk e => ?_)
    subst e
    exact OwnR.ne HO9.out HC9.out (by decide) hk
  · exact (HF1.out.mono (fun k hk => .inl hk)).trans ((HF9.out.mono (fun k hk => .inr (.inr hk))).trans (hFs.mono (fun k hk => .inr (.inl hk))))
  · rintro k ⟨q, hq, hk⟩
    injection hq with hq
    subst hq
    simp only at hk
    subst hk
    rcases HAT.out with h | h
    · exact .inl (own_of h)
    · exact .inr (by have := HF1.out.size; omega)
end
end Go.Proofs.Ytoajdknhllaoeaa
