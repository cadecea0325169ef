/-
  Scopes that are made, and looked at; what is plain; what passes.
-/
import Derived.Test.YtpjcdjooiaefdaaDoorVSer
import Derived.Test.YtpjcdjooiaefdaaDoorVPl
import Derived.Deep.LoopGhost
import Derived.RegionDies
import Derived.Deep.RegionHeld3
import Derived.Laws.EntriesVeiled
namespace Go.Proofs.YtpjcdjooiaefdaaDoor
open Go.RowKit
set_option linter.unusedVariables false

/-- An error that ends all. -/
def boom (c : Int) : Ending := .panicked [{ v := .iface 28 (.int .i64 c), recovered := false }]

theorem made_ok (w : World) (b d k0 k : Nat) (s0 : Bool) (A0 : Option Addr) (hB : TBlk w b (scel A0 d k0 s0) 69) (hd : d < 32) :
    Calls Tryd.prog 39 #[.pointer (some ⟨b, 0, none⟩), .int .i64 k] w fun e w' => ∃ g, e = .returned (.pointer (some ⟨g, 0, none⟩)) ∧ TBlk w' g (scel (some ⟨b, 0, none⟩) (d + 1) k false) 69 ∧ w.heap.size ≤ g ∧ Fr (fun _ => False) w w' := by
  have HB := hid hB
  have c1 : w.cell? ⟨b, 1, none⟩ = some (.int .i64 d) := (TBlk.blk hB).cell rfl
  have t1 : ((d : Int) == 32) = false := beq_eq_false_iff_ne.2 (by omega)
  clear hB
  go_enter Tryd.func39, Tryd.ntmps39
  go_wp2_with fail
  go_ret
  refine ⟨_, rfl, ?_, Nat.le_refl _, Fr.alloc _ _ _⟩
  have h := TBlk.new w (scel (some ⟨b, 0, none⟩) (d + 1) k false) 69
  unfold scel at h ⊢
  rw [show ((d + 1 : Nat) : Int) = (d : Int) + 1 by omega] at h ⊢
  exact h

theorem made_deep (w : World) (b k0 : Nat) (k : Int) (s0 : Bool) (A0 : Option Addr) (hB : TBlk w b (scel A0 32 k0 s0) 69) :
    Calls Tryd.prog 39 #[.pointer (some ⟨b, 0, none⟩), .int .i64 k] w fun e w' => e = boom 23 ∧ Fr (fun _ => False) w w' := by
  have c1 : w.cell? ⟨b, 1, none⟩ = some (.int .i64 32) := (TBlk.blk hB).cell rfl
  clear hB
  go_enter Tryd.func39, Tryd.ntmps39
  go_wp2_with fail
  exact ⟨rfl, rfl, Fr.refl _ _⟩

def CcRel (l : List (Nat × Bool)) (w : World) (d : Nat) (x : Value) (wr : World) : Prop := ∃ (l' : List (Nat × Bool)) (A : Option Addr), x = .pointer A ∧ Chn w l' A ∧ d = l'.length ∧ askd l = askd l' ∧ wr = w

theorem cancelled_any (l : List (Nat × Bool)) (A : Option Addr) (w : World) (h : Chn w l A) :
    Calls Tryd.prog 38 #[.pointer A] w fun e w' => e = .returned (.bool (askd l)) ∧ w = w' := by
  have H := hid h
  clear h
  go_enter Tryd.func38, Tryd.ntmps38
  go_wp2_with fail
  go_loopg [0] l.length (fun d x wr => CcRel l w d x wr)
  case atStart => exact ⟨l, A, rfl, H.out, rfl, rfl, rfl⟩
  case round =>
    obtain ⟨l', A', rfl, hc, hd, hl, rfl⟩ := hrel
    have HD := hid hd
    have HL := hid hl
    clear hd hl
    cases l' with
    | nil =>
      obtain rfl : A' = none := hc
      go_wp2_with fail
      go_ret
      exact ⟨ret_bool HL.out.symm, rfl⟩
    | cons x r =>
      obtain ⟨b, A2, rfl, hb, hr⟩ := hc
      obtain ⟨k, s⟩ := x
      have c0 : wr.cell? ⟨b, 0, none⟩ = some (.pointer A2) := (TBlk.blk hb).cell rfl
      have c3 : wr.cell? ⟨b, 3, none⟩ = some (.bool s) := (TBlk.blk hb).cell rfl
      have HR := hid hr
      clear hb hr
      cases s with
      | true =>
        go_wp2_with fail
        go_ret
        exact ⟨ret_bool (HL.out.trans rfl).symm, rfl⟩
      | false =>
        go_wp2_with fail
        go_roundg (r.length)
        case rel => exact ⟨r, A2, rfl, HR.out, rfl, HL.out.trans rfl, rfl⟩
        case measure => have := HD.out; simp only [List.length_cons] at this; omega

section
variable {cel : Frm → Array Value} (hC : Cel cel) (tb rb a : Nat) (r : Rw) (F : Frm) (I : Value) (op : Int) (C K : Value) (w : World)

theorem pass_any (i : Ins) (hC : Cel cel) (h : IsT w cel tb rb a r F I op C K) :
    Calls Tryd.prog 36 #[.pointer (some ⟨tb, 0, none⟩), i.val] w fun e w' => e = .returned (.tuple #[]) ∧ IsT w' cel tb rb a r F.on I op C K ∧ Fr (fun j => j = tb) w w' := by
  obtain ⟨N, hN, hN1, hN2⟩ := nineteen
  unfold Ins.val
  have hA := Fr.alloc (fun _ => False) w (.cells #[.int .i64 i.op, .int .i64 i.a, .int .i64 i.b, .int .i64 i.c, .int .i64 i.n] 43)
  obtain ⟨w1, hw1⟩ : ∃ w1, w1 = w.alloc (.cells #[.int .i64 i.op, .int .i64 i.a, .int .i64 i.b, .int .i64 i.c, .int .i64 i.n] 43) := ⟨_, rfl⟩
  rw [← hw1] at hA
  have HA := hid hA
  have HT := hid (h.keep hA (fun h => h))
  have hl := HT.out.load hC hN
  have hlt := HT.out.lt
  have hsz : ∀ F, (cel F).size = N := fun F => by rw [hC.size, hN]
  have hN0 : ¬ N = 0 := by omega
  clear hA h hN
  go_enter Tryd.func36, Tryd.ntmps36
  go_upto_region 1 with fail
  rw [← hw1]
  clear hw1
  go_wp2_with fail
  refine (passed_any hC F w1).mono ?_
  rintro e w2 ⟨rfl, hF2⟩
  have HT2 := hid (HT.out.keep hF2 (fun h => h))
  have hst := HT2.out.store hC F.on
  have HF2 := hid (HA.out.trans hF2)
  clear hF2 hl
  go_wp2_with fail
  go_end0
  exact ⟨rfl, HT2.out.put hC _, (HF2.out.mono (fun _ h => h.elim)).trans (setRow_fr _ _ _ rfl)⟩
end

end Go.Proofs.YtpjcdjooiaefdaaDoor

/-
  What is plain; a Cancel; an Open.
-/
namespace Go.Proofs.YtpjcdjooiaefdaaDoor
open Go.RowKit
set_option linter.unusedVariables false

section
variable {cel : Frm → Array Value} (tb rb a : Nat) (r : Rw) (F : Frm) (I : Value) (op : Int) (C K : Value) (w : World)

set_option maxHeartbeats 1000000 in
theorem plain_do (i : Ins) (hC : Cel cel) (ht : Tabs w) (hk : chk i = 0) (h7 : i.op ≤ 7) (h : IsT w cel tb rb a r F I op C K) :
    Calls Tryd.prog 29 #[.pointer (some ⟨tb, 0, none⟩), i.val] w fun e w' => e = .returned (.tuple #[]) ∧ IsT w' cel tb rb a r (F.did i.op.toNat i.a.toNat i.b.toNat i.c.toNat i.n) I op C K ∧ Fr (fun j => j = tb) w w' := by
  obtain ⟨o, x, y, z, n, ho, hx, hy, hz, rfl⟩ := chk_letters hk
  obtain ⟨N, hN, hN1, hN2⟩ := nineteen
  have HM := hid (fun W (hW : Tabs W) => plain_in hC F o x y z n W hW hk ho hx hy hz)
  simp only [Int.toNat_natCast] at *
  obtain ⟨G, hG⟩ : ∃ G, F.did o x y z n = G := ⟨_, rfl⟩
  rw [hG] at HM ⊢
  clear hG
  unfold Ins.val at *
  simp only at *
  have hA := Fr.alloc (fun _ => False) w (.cells #[.int .i64 o, .int .i64 x, .int .i64 y, .int .i64 z, .int .i64 n] 43)
  have hB := Blk.new w #[.int .i64 o, .int .i64 x, .int .i64 y, .int .i64 z, .int .i64 n] 43
  obtain ⟨w1, hw1⟩ : ∃ w1, w1 = w.alloc (.cells #[.int .i64 o, .int .i64 x, .int .i64 y, .int .i64 z, .int .i64 n] 43) := ⟨_, rfl⟩
  rw [← hw1] at hA hB
  have HA := hid hA
  have HB := hid hB
  have HT := hid (h.keep hA (fun h => h))
  have hlt := HT.out.lt
  have htl : tb < w.heap.size := h.lt
  have hsz : ∀ F, (cel F).size = N := fun F => by rw [hC.size, hN]
  have hN0 : ¬ N = 0 := by omega
  have hl := HT.out.load hC hN
  have hl' := IsT.load (w := w1.drew) hC HT.out hN
  have s0 := HB.out.cell (i := 0) rfl
  have s1 := HB.out.cell (i := 1) rfl
  have s2 := HB.out.cell (i := 2) rfl
  have s3 := HB.out.cell (i := 3) rfl
  have s4 := HB.out.cell (i := 4) rfl
  simp only [List.getElem_toArray, List.getElem_cons_zero, List.getElem_cons_succ] at s0 s1 s2 s3 s4
  have HTB := hid ht
  clear hA hB h hN hk
  go_enter Tryd.func29, Tryd.ntmps29
  go_upto_region 1 with fail
  rw [← hw1]
  clear hw1
  go_region_with ((go_at_call 48; (with_reducible refine (HM.out _ (HTB.out.same (HA.out.trans (Fr.drew _ _)))).mono ?_); rintro e w7 ⟨rfl, hF7⟩; have HF7 := hid (HA.out.trans ((Fr.drew _ _).trans hF7)); have HT7 := hid (HT.out.keep ((Fr.drew (fun _ => False) _).trans hF7) (fun h => h)); have hst := HT7.out.store hC G; clear hF7))
  all_goals
    go_wp2_with fail
    go_end0
    exact ⟨rfl, HT7.out.put hC _, (HF7.out.mono (fun _ h => h.elim)).trans (setRow_fr _ _ _ rfl)⟩

theorem cancel_do (i : Ins) (hC : Cel cel) (ib d k0 : Nat) (s0 : Bool) (A0 : Option Addr) (hI : TBlk w ib (scel A0 d k0 s0) 69) (h : IsT w cel tb rb a r F (.pointer (some ⟨ib, 0, none⟩)) op C K) :
    Calls Tryd.prog 35 #[.pointer (some ⟨tb, 0, none⟩), i.val] w fun e w' => e = .returned (.tuple #[]) ∧ TBlk w' ib (scel A0 d k0 true) 69 ∧ IsT w' cel tb rb a r F.on (.pointer (some ⟨ib, 0, none⟩)) op C K ∧ Fr (fun j => j = tb ∨ j = ib) w w' := by
  obtain ⟨N, hN, hN1, hN2⟩ := nineteen
  have hne : tb ≠ ib := TBlk.ne h hI (by decide)
  have HP := hid (fun W (hW : IsT W cel tb rb a r F (.pointer (some ⟨ib, 0, none⟩)) op C K) => pass_any (cel := cel) tb rb a r F (.pointer (some ⟨ib, 0, none⟩)) op C K W i hC hW)
  unfold Ins.val at *
  have hA := Fr.alloc (fun _ => False) w (.cells #[.int .i64 i.op, .int .i64 i.a, .int .i64 i.b, .int .i64 i.c, .int .i64 i.n] 43)
  have hB := Blk.new w #[.int .i64 i.op, .int .i64 i.a, .int .i64 i.b, .int .i64 i.c, .int .i64 i.n] 43
  obtain ⟨w1, hw1⟩ : ∃ w1, w1 = w.alloc (.cells #[.int .i64 i.op, .int .i64 i.a, .int .i64 i.b, .int .i64 i.c, .int .i64 i.n] 43) := ⟨_, rfl⟩
  rw [← hw1] at hA hB
  have HA := hid hA
  have HT := hid (h.keep hA (fun h => h))
  have hI1 := hI.keep hA (fun h => h)
  have c28 := (HT.out.hi hC).1
  have z3 := (TBlk.blk hI1).frozen 3
  have x3 : w1.cell? ⟨ib, 3, none⟩ = some (.bool s0) := (TBlk.blk hI1).cell rfl
  have hil := (TBlk.blk hI).lt
  have hlt := HT.out.lt
  have hN0 : ¬ N = 0 := by omega
  have hI2 : TBlk (w1.setCell ⟨ib, 3, none⟩ (.bool true)) ib (scel A0 d k0 true) 69 := by
    have h2 := TBlk.set hI1 3 (.bool true)
    exact h2
  have hB2 := hB.far 3 (.bool true) (b' := ib) (by omega)
  have b0 := hB2.cell (i := 0) rfl
  have b1 := hB2.cell (i := 1) rfl
  have b2 := hB2.cell (i := 2) rfl
  have b3 := hB2.cell (i := 3) rfl
  have b4 := hB2.cell (i := 4) rfl
  simp only [List.getElem_toArray, List.getElem_cons_zero, List.getElem_cons_succ] at b0 b1 b2 b3 b4
  have hF2 := Fr.setCell (S := fun j => j = tb ∨ j = ib) w1 ⟨ib, 3, none⟩ (.bool true) (.inr rfl)
  have hF1 := Fr.setCell (S := fun j => j = ib) w1 ⟨ib, 3, none⟩ (.bool true) rfl
  have HT2 := hid (HT.out.keep hF1 hne)
  have HI2 := hid hI2
  have HF2 := hid ((HA.out.mono (fun _ h => h.elim)).trans hF2)
  clear hA hB h hN hI hI1 hI2 hB2 hF2 hF1
  go_enter Tryd.func35, Tryd.ntmps35
  go_upto_region 1 with fail
  rw [← hw1]
  clear hw1
  go_wp2_with fail
  refine (HP.out _ HT2.out).mono ?_
  rintro e w3 ⟨rfl, hT3, hF3⟩
  have HT3 := hid hT3
  have HI3 := hid (HI2.out.keep hF3 (fun h => hne h.symm))
  have HF3 := hid (HF2.out.trans (hF3.mono (fun _ h => .inl h)))
  clear hT3 hF3
  go_wp2_with fail
  go_end0
  exact ⟨rfl, HI3.out, HT3.out, HF3.out⟩
end

end Go.Proofs.YtpjcdjooiaefdaaDoor

/-
  An Open.
-/
namespace Go.Proofs.YtpjcdjooiaefdaaDoor
open Go.RowKit
set_option linter.unusedVariables false

section
variable {cel : Frm → Array Value} (tb rb a : Nat) (r : Rw) (F : Frm) (op : Int) (C K : Value) (w : World)

set_option maxHeartbeats 1000000 in
theorem open_ok (i : Ins) (hC : Cel cel) (ib d k0 n : Nat) (s0 : Bool) (A0 : Option Addr) (hn : n < 2000000) (hd : d < 32) (hI : TBlk w ib (scel A0 d k0 s0) 69) (h : IsT w cel tb rb a r F (.pointer (some ⟨ib, 0, none⟩)) n C K) :
    Calls Tryd.prog 33 #[.pointer (some ⟨tb, 0, none⟩), i.val] w fun e w' => ∃ g, e = .returned (.tuple #[]) ∧ TBlk w' g (scel (some ⟨ib, 0, none⟩) (d + 1) (n + 1) false) 69 ∧ w.heap.size ≤ g ∧ IsT w' cel tb rb a r F.on (.pointer (some ⟨g, 0, none⟩)) (n + 1 : Nat) C K ∧ Fr (fun j => j = tb) w w' := by
  have HP := hid (fun W I op (hW : IsT W cel tb rb a r F I op C K) => pass_any (cel := cel) tb rb a r F I op C K W i hC hW)
  unfold Ins.val at *
  obtain ⟨N, hN, hN1, hN2⟩ := nineteen
  have hA := Fr.alloc (fun _ => False) w (.cells #[.int .i64 i.op, .int .i64 i.a, .int .i64 i.b, .int .i64 i.c, .int .i64 i.n] 43)
  have hB := Blk.new w #[.int .i64 i.op, .int .i64 i.a, .int .i64 i.b, .int .i64 i.c, .int .i64 i.n] 43
  obtain ⟨w1, hw1⟩ : ∃ w1, w1 = w.alloc (.cells #[.int .i64 i.op, .int .i64 i.a, .int .i64 i.b, .int .i64 i.c, .int .i64 i.n] 43) := ⟨_, rfl⟩
  rw [← hw1] at hA hB
  have HA := hid hA
  have HB := hid hB
  have HT := hid (h.keep hA (fun h => h))
  have hlt := HT.out.lt
  have htl : tb < w.heap.size := h.lt
  have hsz : ∀ F, (cel F).size = N := fun F => by rw [hC.size, hN]
  have hN0 : ¬ N = 0 := by omega
  have HN := hid hN
  have HI := hid (hI.keep hA (fun h => h))
  obtain ⟨c28, c29, c30, c31⟩ := HT.out.hi hC
  have HN1 := hid (show (n : Int) + 1 = (n + 1 : Nat) by omega)
  have hwr : IntKind.i64.wrap ((n : Int) + 1) = (n : Int) + 1 := IntWalk.i64_in _ (by omega)
  have HMD := hid (fun W (hW : Fr (fun _ => False) w1 W) => made_ok W ib d k0 (n + 1) s0 A0 (HI.out.keep hW (fun h => h)) hd)
  rw [← HN1.out] at HMD
  clear hA hB h hN hI
  go_enter Tryd.func33, Tryd.ntmps33
  go_upto_region 1 with fail
  rw [← hw1]
  clear hw1
  go_region_with ((go_at_call 39; (with_reducible refine (HMD.out _ (Fr.drew _ _)).mono ?_); rintro e w7 ⟨g, rfl, hG, hg, hF7⟩; have HG7 := hid hG; have HGL := hid (Nat.le_trans HA.out.size hg); have HF7 := hid (HA.out.trans ((Fr.drew _ _).trans hF7)); have HB7 := hid (HB.out.keep ((Fr.drew (fun _ => False) _).trans hF7) (fun h => h)); have HT7 := hid (HT.out.keep ((Fr.drew (fun _ => False) _).trans hF7) (fun h => h)); have d28 := (HT7.out.hi hC).1; have z28 := HT7.out.frozen 28; clear hF7 hG hg))
  all_goals
    have hT8 := HT7.out.set_hi hC (j := 0) (v := .pointer (some ⟨g, 0, none⟩)) (I' := .pointer (some ⟨g, 0, none⟩)) (op' := n) (C' := C) (K' := K) rfl
    have hF8 := Fr.setCell (S := fun j => j = tb) w7 ⟨tb, 28, none⟩ (.pointer (some ⟨g, 0, none⟩)) rfl
    have hne : g ≠ tb := by have := HGL.out; omega
    have hG8 := HG7.out.keep hF8 hne
    have hB8 := HB7.out.keep hF8 (by omega)
    simp only [Nat.add_zero] at hT8
    obtain ⟨w8, hw8⟩ : ∃ w8, w8 = w7.setCell ⟨tb, 28, none⟩ (.pointer (some ⟨g, 0, none⟩)) := ⟨_, rfl⟩
    rw [← hw8] at hT8 hF8 hG8 hB8 ⊢
    clear hw8 c28 c29 c30 c31 d28 z28 HMD
    have HT8 := hid hT8
    have HF8 := hid ((HF7.out.mono (fun _ h => h.elim)).trans hF8)
    have HG8 := hid hG8
    obtain ⟨_, d29, _, _⟩ := HT8.out.hi hC
    have z29 := HT8.out.frozen 29
    have hl8 := HT8.out.lt
    have hT9 := HT8.out.set_hi hC (j := 1) (v := .int .i64 ((n : Int) + 1)) (I' := .pointer (some ⟨g, 0, none⟩)) (op' := (n : Int) + 1) (C' := C) (K' := K) rfl
    have hF9 := Fr.setCell (S := fun j => j = tb) w8 ⟨tb, 29, none⟩ (.int .i64 ((n : Int) + 1)) rfl
    have HG9 := hid (HG8.out.keep hF9 hne)
    have hB9 := hB8.keep hF9 (by omega)
    have HT9 := hid hT9
    have HF9 := hid (HF8.out.trans hF9)
    have b0 := hB9.cell (i := 0) rfl
    have b1 := hB9.cell (i := 1) rfl
    have b2 := hB9.cell (i := 2) rfl
    have b3 := hB9.cell (i := 3) rfl
    have b4 := hB9.cell (i := 4) rfl
    simp only [List.getElem_toArray, List.getElem_cons_zero, List.getElem_cons_succ] at b0 b1 b2 b3 b4
    clear hT8 hF8 hG8 hB8 hT9 hF9 hB9
    go_wp2_with fail
    refine (HP.out _ _ _ HT9.out).mono ?_
    rintro e w10 ⟨rfl, hT10, hF10⟩
    have HT10 := hid hT10
    have HG10 := hid (HG9.out.keep hF10 hne)
    have HF10 := hid (HF9.out.trans hF10)
    clear hT10 hF10
    go_wp2_with fail
    go_end0
    rw [HN1.out] at HT10
    exact ⟨g, rfl, HG10.out, HGL.out, HT10.out, HF10.out⟩

set_option maxHeartbeats 1000000 in
theorem open_deep (i : Ins) (hC : Cel cel) (ib k0 n : Nat) (s0 : Bool) (A0 : Option Addr) (hn : n < 2000000) (hI : TBlk w ib (scel A0 32 k0 s0) 69) (h : IsT w cel tb rb a r F (.pointer (some ⟨ib, 0, none⟩)) n C K) :
    Calls Tryd.prog 33 #[.pointer (some ⟨tb, 0, none⟩), i.val] w fun e w' => e = boom 23 ∧ Fr (fun _ => False) w w' := by
  unfold Ins.val at *
  obtain ⟨N, hN, hN1, hN2⟩ := nineteen
  have hA := Fr.alloc (fun _ => False) w (.cells #[.int .i64 i.op, .int .i64 i.a, .int .i64 i.b, .int .i64 i.c, .int .i64 i.n] 43)
  have hB := Blk.new w #[.int .i64 i.op, .int .i64 i.a, .int .i64 i.b, .int .i64 i.c, .int .i64 i.n] 43
  obtain ⟨w1, hw1⟩ : ∃ w1, w1 = w.alloc (.cells #[.int .i64 i.op, .int .i64 i.a, .int .i64 i.b, .int .i64 i.c, .int .i64 i.n] 43) := ⟨_, rfl⟩
  rw [← hw1] at hA hB
  have HA := hid hA
  have HB := hid hB
  have HT := hid (h.keep hA (fun h => h))
  have hlt := HT.out.lt
  have htl : tb < w.heap.size := h.lt
  have hsz : ∀ F, (cel F).size = N := fun F => by rw [hC.size, hN]
  have hN0 : ¬ N = 0 := by omega
  have HN := hid hN
  have HI := hid (hI.keep hA (fun h => h))
  obtain ⟨c28, c29, c30, c31⟩ := HT.out.hi hC
  have HMD := hid (fun W k (hW : Fr (fun _ => False) w1 W) => made_deep W ib k0 k s0 A0 (HI.out.keep hW (fun h => h)))
  clear hA hB h hN hI
  go_enter Tryd.func33, Tryd.ntmps33
  go_upto_region 1 with fail
  rw [← hw1]
  clear hw1
  go_region_dies
  all_goals
    refine (HMD.out _ _ (Fr.drew _ _)).mono ?_
    unfold boom
    rintro e w7 ⟨rfl, hF7⟩
    have HF7 := hid (HA.out.trans ((Fr.drew _ _).trans hF7))
    exact ⟨rfl, rfl, HF7.out⟩
end

end Go.Proofs.YtpjcdjooiaefdaaDoor

/-
  A Panic, a Return.
-/
namespace Go.Proofs.YtpjcdjooiaefdaaDoor
open Go.RowKit
set_option linter.unusedVariables false

section
variable {cel : Frm → Array Value} (tb rb a : Nat) (r : Rw) (F : Frm) (op : Int) (C K : Value) (w : World)

set_option maxHeartbeats 1000000 in
theorem end_do (i : Ins) (hC : Cel cel) (I : Value) (hk : chk i = 0) (h : IsT w cel tb rb a r F I op C K) :
    Calls Tryd.prog 31 #[.pointer (some ⟨tb, 0, none⟩), i.val] w fun e w' => e = .returned (.tuple #[]) ∧ IsT w' cel tb rb a { r with kind := if i.op = 15 then 3 else 2, v := F.r i.a.toNat } F.on I op C K ∧ Fr (fun j => j = tb) w w' := by
  have HP := hid (fun W r (hW : IsT W cel tb rb a r F I op C K) => pass_any (cel := cel) tb rb a r F I op C K W i hC hW)
  obtain ⟨o, x, y, z, n, ho, hx, hy, hz, rfl⟩ := chk_letters hk
  simp only [Int.toNat_natCast] at *
  unfold Ins.val at *
  simp only at *
  clear hk
  obtain ⟨N, hN, hN1, hN2⟩ := nineteen
  have hA := Fr.alloc (fun _ => False) w (.cells #[.int .i64 o, .int .i64 x, .int .i64 y, .int .i64 z, .int .i64 n] 43)
  have hB := Blk.new w #[.int .i64 o, .int .i64 x, .int .i64 y, .int .i64 z, .int .i64 n] 43
  obtain ⟨w1, hw1⟩ : ∃ w1, w1 = w.alloc (.cells #[.int .i64 o, .int .i64 x, .int .i64 y, .int .i64 z, .int .i64 n] 43) := ⟨_, rfl⟩
  rw [← hw1] at hA hB
  have HA := hid hA
  have HB := hid hB
  have HT := hid (h.keep hA (fun h => h))
  have hlt := HT.out.lt
  have htl : tb < w.heap.size := h.lt
  have hsz : ∀ F, (cel F).size = N := fun F => by rw [hC.size, hN]
  have hN0 : ¬ N = 0 := by omega
  have HN := hid hN
  obtain ⟨v, hv⟩ : ∃ v, F.r x = v := ⟨_, rfl⟩
  have HV := hid hv
  have hx0 : (0 : Int) ≤ x ∧ (x : Int) < 8 := by omega
  have HS := hid (show ∀ w' r', Fr (fun j => j = tb) w1 w' → IsT w' cel tb rb a r' F I op C K → w'.cell? ⟨w.heap.size, 1, none⟩ = some (.int .i64 x) ∧ w'.cell? ⟨tb, 11 + x, none⟩ = some (.int .i64 v) from fun w' r' F' hT => by
    have hb := HB.out.keep F' (by omega)
    refine ⟨hb.cell rfl, ?_⟩
    have h2 := hT.mid hC (j := 2 + x) (by omega) (hC.r F x hx)
    rw [← hv, show 11 + x = 9 + (2 + x) by omega]
    exact h2)
  have HD := hid (Fr.drew (fun j => j = tb) w1)
  have hT5 := fun (v5 : Int) => IsT.set_lo (w := w1.drew) HT.out (j := 5) (by omega) (v := .int .i64 v5) (r' := { r with kind := v5 }) (a' := a) rfl
  have hT6 := fun (v6 : Int) => IsT.set_lo (w := w1.drew) HT.out (j := 6) (by omega) (v := .int .i64 v6) (r' := { r with v := v6 }) (a' := a) rfl
  have HT56 := hid (show ∀ v5 v6, IsT ((w1.drew.setCell ⟨tb, 5, none⟩ (.int .i64 v5)).setCell ⟨tb, 6, none⟩ (.int .i64 v6)) cel tb rb a { r with kind := v5, v := v6 } F I op C K from fun v5 v6 => (hT5 v5).set_lo (j := 6) (by omega) rfl)
  have HT65 := hid (show ∀ v5 v6, IsT ((w1.drew.setCell ⟨tb, 6, none⟩ (.int .i64 v6)).setCell ⟨tb, 5, none⟩ (.int .i64 v5)) cel tb rb a { r with kind := v5, v := v6 } F I op C K from fun v5 v6 => (hT6 v6).set_lo (j := 5) (by omega) rfl)
  have HT5 := hid hT5
  have HT6 := hid hT6
  obtain ⟨_, _, _, _, _, c5, c6, _, _⟩ := HT.out.lo
  have z5 := HT.out.frozen 5
  have z6 := HT.out.frozen 6
  clear hA hB h hN hT5 hT6 hv
  go_enter Tryd.func31, Tryd.ntmps31
  go_upto_region 1 with fail
  rw [← hw1]
  clear hw1
  go_region_held3 (fun w' => w'.cell? ⟨w.heap.size, 1, none⟩ = some (.int .i64 x) ∧ w'.cell? ⟨tb, 11 + x, none⟩ = some (.int .i64 v))
    (first | exact HS.out _ _ HD.out HT.out | exact HS.out _ _ (HD.out.trans (Fr.setCell _ _ _ rfl)) (HT5.out _) | exact HS.out _ _ (HD.out.trans (Fr.setCell _ _ _ rfl)) (HT6.out _) | exact HS.out _ _ ((HD.out.trans (Fr.setCell _ _ _ rfl)).trans (Fr.setCell _ _ _ rfl)) (HT56.out _ _) | exact HS.out _ _ ((HD.out.trans (Fr.setCell _ _ _ rfl)).trans (Fr.setCell _ _ _ rfl)) (HT65.out _ _))
    (fail)
  all_goals
    first
    | (obtain ⟨w8, hw8⟩ : ∃ w8, w8 = ((w1.setCell ⟨tb, 5, none⟩ (.int .i64 2)).setCell ⟨tb, 6, none⟩ (.int .i64 v)).drew := ⟨_, rfl⟩
       rw [← hw8]
       have HT8 := hid (show IsT w8 cel tb rb a { r with kind := 2, v := v } F I op C K by rw [hw8]; exact HT56.out 2 v))
    | (obtain ⟨w8, hw8⟩ : ∃ w8, w8 = ((w1.setCell ⟨tb, 6, none⟩ (.int .i64 v)).setCell ⟨tb, 5, none⟩ (.int .i64 2)).drew := ⟨_, rfl⟩
       rw [← hw8]
       have HT8 := hid (show IsT w8 cel tb rb a { r with kind := 2, v := v } F I op C K by rw [hw8]; exact HT65.out 2 v))
  all_goals
    have HF18 := hid (show Fr (fun j => j = tb) w1 w8 by rw [hw8]; exact ((Fr.setCell (S := fun j => j = tb) _ _ _ rfl).trans (Fr.setCell (S := fun j => j = tb) _ _ _ rfl)).trans (Fr.drew _ _))
    have HF8 := hid ((HA.out.mono (fun _ h => h.elim)).trans HF18.out)
    clear hw8 c5 c6 z5 z6
    have hB8 := HB.out.keep HF18.out (by omega)
    have b0 := hB8.cell (i := 0) rfl
    have b1 := hB8.cell (i := 1) rfl
    have b2 := hB8.cell (i := 2) rfl
    have b3 := hB8.cell (i := 3) rfl
    have b4 := hB8.cell (i := 4) rfl
    simp only [List.getElem_toArray, List.getElem_cons_zero, List.getElem_cons_succ] at b0 b1 b2 b3 b4
    have z5 := HT8.out.frozen 5
    obtain ⟨_, _, _, _, _, c5, _, _, _⟩ := HT8.out.lo
    have hl8 := HT8.out.lt
    by_cases h15 : (o : Int) = 15
    · have t15 : ((o : Int) == 15) = true := beq_iff_eq.2 h15
      have hT9 := HT8.out.set_lo (j := 5) (by omega) (v := .int .i64 3) (r' := { r with kind := 3, v := v }) (a' := a) rfl
      have hF9 := Fr.setCell (S := fun j => j = tb) w8 ⟨tb, 5, none⟩ (.int .i64 3) rfl
      have hB9 := hB8.keep hF9 (by omega)
      have e0 := hB9.cell (i := 0) rfl
      have e1 := hB9.cell (i := 1) rfl
      have e2 := hB9.cell (i := 2) rfl
      have e3 := hB9.cell (i := 3) rfl
      have e4 := hB9.cell (i := 4) rfl
      simp only [List.getElem_toArray, List.getElem_cons_zero, List.getElem_cons_succ] at e0 e1 e2 e3 e4
      have HT9 := hid hT9
      have HF9 := hid (HF8.out.trans hF9)
      have H15 := hid h15
      clear hT9 hF9 hB9 hB8 h15
      go_wp2_with fail
      refine (HP.out _ _ HT9.out).mono ?_
      rintro e w10 ⟨rfl, hT10, hF10⟩
      have HT10 := hid hT10
      have HF10 := hid (HF9.out.trans hF10)
      clear hT10 hF10
      go_wp2_with fail
      go_end0
      rw [HV.out]
      exact ⟨rfl, HT10.out, HF10.out⟩
    · have t15 : ((o : Int) == 15) = false := beq_eq_false_iff_ne.2 h15
      have H15 := hid h15
      clear hB8 h15
      go_wp2_with fail
      refine (HP.out _ _ HT8.out).mono ?_
      rintro e w10 ⟨rfl, hT10, hF10⟩
      have HT10 := hid hT10
      have HF10 := hid (HF8.out.trans hF10)
      clear hT10 hF10
      go_wp2_with fail
      go_end0
      rw [HV.out]
      exact ⟨rfl, HT10.out, HF10.out⟩
end

end Go.Proofs.YtpjcdjooiaefdaaDoor

/-
  What does each instruction: a row of method values.
-/
namespace Go.Proofs.YtpjcdjooiaefdaaDoor
open Go.RowKit
set_option linter.unusedVariables false

def mv (f tb : Nat) : Value := .func (.func f) #[.pointer (some ⟨tb, 0, none⟩)] #[]
def dcel (tb : Nat) : Array Value := #[mv 29 tb, mv 29 tb, mv 29 tb, mv 29 tb, mv 29 tb, mv 29 tb, mv 29 tb, mv 29 tb, mv 32 tb, mv 30 tb, mv 30 tb, mv 33 tb, mv 34 tb, mv 35 tb, mv 36 tb, mv 31 tb, mv 31 tb]

theorem info54 : (Tryd.prog.info? 54).map (·.size) = some 17 := by kernel_rfl

theorem does_do (tb : Nat) (w : World) : Calls Tryd.prog 19 #[.pointer (some ⟨tb, 0, none⟩)] w fun e w' => e = .returned (.agg (dcel tb)) ∧ Fr (fun _ => False) w w' := by
  go_enter Tryd.func19, Tryd.ntmps19
  go_wp2_with fail
  obtain ⟨dc, hdc⟩ : ∃ dc, dcel tb = dc := ⟨_, rfl⟩
  have hA := Fr.alloc (fun _ => False) w (.cells (dcel tb) 54)
  have hB := Blk.new w (dcel tb) 54
  refine bodyPost_ret (res_one rfl rfl hB Tryd.underlying54 rfl info54 rfl) rfl ⟨rfl, hA⟩

end Go.Proofs.YtpjcdjooiaefdaaDoor
