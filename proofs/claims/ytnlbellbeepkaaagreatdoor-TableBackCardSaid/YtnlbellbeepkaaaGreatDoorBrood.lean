/-
  Stage 7: rows of rows of numbers; the kids of each row.
-/
import Derived.Test.YtnlbellbeepkaaaGreatDoorKids
import Derived.Test.YtnlbellbeepkaaaGreatDoorGrw
import Derived.Test.YtnlbellbeepkaaaGreatDoorUnder
import Derived.Deep.RegionLaw
import Derived.Deep.AppendLies
namespace Go.Proofs.YtnlbellbeepkaaaGreatDoor
open Go.RowKit
set_option linter.unusedVariables false

/-- Rows of numbers, one row's slice a cell. -/
structure Bro (w : World) (B G n : Nat) (f : Nat → List Int) (c : Array Value) (As : Nat → Option Addr) (cp : Nat → Nat) : Prop where
  blk : TBlk w G c 54
  low : B ≤ G
  size : c.size = n
  cell : ∀ i, i < n → c[i]? = some (.slice (As i) (f i).length (cp i))
  own : ∀ i, i < n → OwnR w B 3 1 (As i) (f i).length (cp i) (intsV (f i))
  apart : ∀ i j, i < n → j < n → i ≠ j → ∀ k, ownB (As i) k → ¬ ownB (As j) k

theorem Bro.keep {w w' : World} {B G n : Nat} {f : Nat → List Int} {c : Array Value} {As : Nat → Option Addr} {cp : Nat → Nat} (h : Bro w B G n f c As cp) {S : Nat → Prop} (hf : Fr S w w') (hG : ¬ S G) (hS : ∀ i, i < n → ∀ k, ownB (As i) k → ¬ S k) : Bro w' B G n f c As cp :=
  ⟨h.blk.keep hf hG, h.low, h.size, h.cell, fun i hi => (h.own i hi).keep hf (hS i hi), h.apart⟩
theorem Bro.same {w w' : World} {B G n : Nat} {f : Nat → List Int} {c : Array Value} {As : Nat → Option Addr} {cp : Nat → Nat} (h : Bro w B G n f c As cp) (hf : Fr (fun _ => False) w w') : Bro w' B G n f c As cp := h.keep hf (fun h => h) (fun _ _ _ _ h => h)
theorem Bro.eq {w : World} {B G n : Nat} {f g : Nat → List Int} {c : Array Value} {As : Nat → Option Addr} {cp : Nat → Nat} (h : Bro w B G n f c As cp) (he : ∀ i, i < n → f i = g i) : Bro w B G n g c As cp :=
  ⟨h.blk, h.low, h.size, fun i hi => by rw [← he i hi]; exact h.cell i hi, fun i hi => by rw [← he i hi]; exact h.own i hi, h.apart⟩

theorem Bro.at_ {w : World} {B G n : Nat} {f : Nat → List Int} {c : Array Value} {As : Nat → Option Addr} {cp : Nat → Nat} (h : Bro w B G n f c As cp) {i : Nat} (hi : i < n) : w.cell? ⟨G, i, none⟩ = some (.slice (As i) (f i).length (cp i)) := (TBlk.blk h.blk).cell (h.cell i hi)

theorem Fr.of_grown' {w w' : World} {v : Value} {A : Option Addr} {n c : Nat} (h : w.grownBy w' v.ownBlock) (hv : v = .slice A n c) : Fr (ownB A) w w' := by
  subst hv
  exact Fr.of_grown h

/-- Row p has one number more. -/
theorem Bro.push {w w' : World} {B G n : Nat} {f g : Nat → List Int} {c : Array Value} {As : Nat → Option Addr} {cp : Nat → Nat} (h : Bro w B G n f c As cp) {p : Nat} (hp : p < n) {x : Int} {gg cap : Nat}
    (hF : Fr (ownB (As p)) w w') (hO : OwnR w' B 3 1 (some ⟨gg, 0, none⟩) ((f p).length + 1) cap (intsV (f p ++ [x]))) (hat : ownB (As p) gg ∨ w.heap.size ≤ gg)
    (hg : g p = f p ++ [x]) (hg2 : ∀ i, i < n → i ≠ p → g i = f i) :
    Bro (w'.setCell ⟨G, p, none⟩ (.slice (some ⟨gg, 0, none⟩) ((f p).length + 1) cap)) B G n g (c.setIfInBounds p (.slice (some ⟨gg, 0, none⟩) ((f p).length + 1) cap)) (fun i => if i = p then some ⟨gg, 0, none⟩ else As i) (fun i => if i = p then cap else cp i) := by
  have hGn : ∀ i, i < n → ¬ ownB (As i) G := fun i hi => (h.own i hi).ne h.blk (by decide)
  have hB' := h.blk.keep hF (hGn p hp)
  have hgG : gg ≠ G := by
    rintro rfl
    exact (hO.ne hB' (by decide)) ⟨_, rfl, rfl⟩
  have hs : Fr (fun k => k = G) w' (w'.setCell ⟨G, p, none⟩ (.slice (some ⟨gg, 0, none⟩) ((f p).length + 1) cap)) := Fr.setCell _ _ _ rfl
  have hlen : (g p).length = (f p).length + 1 := by rw [hg, List.length_append]; rfl
  refine ⟨hB'.set _ _, h.low, by simp [h.size], fun i hi => ?_, fun i hi => ?_, fun i j hi hj hij k hk hk2 => ?_⟩
  · rw [Array.getElem?_setIfInBounds]
    by_cases e : p = i
    · subst e
      rw [if_pos rfl, if_pos (by rw [h.size]; exact hp), if_pos rfl, if_pos rfl, hlen]
    · rw [if_neg e, if_neg (Ne.symm e), if_neg (Ne.symm e), hg2 i hi (Ne.symm e)]
      exact h.cell i hi
  · by_cases e : i = p
    · subst e
      rw [if_pos rfl, if_pos rfl, hlen, hg]
      exact hO.keep hs (fun k hk e => hgG (by obtain ⟨a, ha, rfl⟩ := hk; injection ha with ha; subst ha; exact e))
    · rw [if_neg e, if_neg e, hg2 i hi e]
      exact ((h.own i hi).keep hF (fun k hk hk2 => h.apart i p hi hp e k hk hk2)).keep hs (fun k hk e2 => hGn i hi (by rw [← e2]; exact hk))
  · have fresh : ∀ i, i < n → i ≠ p → ¬ ownB (As i) gg := fun i hi e hh => by
      rcases hat with h1 | h1
      · exact h.apart i p hi hp e gg hh h1
      · have := ((h.own i hi).lt gg hh).2
        omega
    have one : ∀ k, ownB (some (⟨gg, 0, none⟩ : Addr)) k → k = gg := fun k hk => by
      obtain ⟨a, ha, rfl⟩ := hk
      injection ha with ha
      subst ha
      rfl
    by_cases e1 : i = p
    · rw [if_pos e1] at hk
      have := one k hk
      subst this
      rw [if_neg (by omega)] at hk2
      exact fresh j hj (by omega) hk2
    · rw [if_neg e1] at hk
      by_cases e2 : j = p
      · rw [if_pos e2] at hk2
        have := one k hk2
        subst this
        exact fresh i hi e1 hk
      · rw [if_neg e2] at hk2
        exact h.apart i j hi hj hij k hk hk2

theorem infosl : (Tryz.prog.info? 54).map (fun i => (i.zero, i.size, i.bytes)) = some (some (.slice none 0 0), 1, 24) := by kernel_rfl

/-- Rows that have nothing. -/
theorem bro_new (w : World) (B n : Nat) (hB : B ≤ w.heap.size) : Bro (w.alloc (.cells (madeCells #[.slice none 0 0] n) 54)) B w.heap.size n (fun _ => []) (madeCells #[.slice none 0 0] n) (fun _ => none) (fun _ => 0) :=
  ⟨TBlk.new _ _ _, hB, size_madeCells _ _, fun i hi => by
    unfold madeCells
    simp [hi, Nat.mod_one], fun i hi => OwnR.nil _ _ _ _, fun i j _ _ _ k hk => by
    obtain ⟨a, ha, _⟩ := hk
    cases ha⟩

/-- Where the loop stands. -/
def BrRel (l : List Tw) (n G : Nat) (w : World) (d : Nat) (k : Value) (wr : World) : Prop :=
  ∃ (j : Nat) (c : Array Value) (As : Nat → Option Addr) (cp : Nat → Nat), j ≤ n ∧ d = n + 1 - j ∧ k = .int .i64 j ∧ Bro wr w.heap.size G n (fun i => kidsN l i j) c As cp ∧ Fr (fun _ => False) w wr

def BrPost (l : List Tw) (n : Nat) (w : World) (e : Ending) (w' : World) : Prop :=
  ∃ (G : Nat) (c : Array Value) (As : Nat → Option Addr) (cp : Nat → Nat), e = .returned (.slice (some ⟨G, 0, none⟩) n n) ∧ Bro w' w.heap.size G n (fun i => kidsN l i n) c As cp ∧ Fr (fun _ => False) w w'

set_option maxRecDepth 100000 in
set_option maxHeartbeats 4000000 in
theorem broods_any (A : Option Addr) (n c : Nat) (l : List Tw) (w : World) (hA : RdT w A l) (hl : l.length = n) (hn : n ≤ 4000000) (ht : Tabl l) :
    Calls Tryz.prog 18 #[.slice A n c] w (BrPost l n w) := by
  have HL := hid hl
  have HTB := hid ht
  have HCE := hid (fun (W : World) (hW : Fr (fun _ => False) w W) (j : Nat) (r : Tw) (hr : l[j]? = some r) => (hA.same hW).cell hr)
  obtain ⟨s0, hsi, hsz⟩ := Option.map_eq_some_iff.1 infosl
  simp only [Prod.mk.injEq] at hsz
  obtain ⟨hs0, hs1, hs2⟩ := hsz
  have hmk := run_make (P := Tryz.prog) w 52 54 s0 (.slice none 0 0) Tryz.underlying52 hsi hs0 .i64 .i64 n n (by omega) (by omega) (by rw [hs2]; omega) (by omega)
  rw [hs1] at hmk
  simp only [Int.toNat_natCast, Nat.mul_one] at hmk
  obtain ⟨w1, hw1⟩ : ∃ w1, w1 = w.alloc (.cells (madeCells #[.slice none 0 0] n) 54) := ⟨_, rfl⟩
  have hmk2 : (Instr.makeSlice 52 (.int .i64 n) (.int .i64 n)).run Tryz.prog w = .ok (.slice (some ⟨w.heap.size, 0, none⟩) n n) w1 := by rw [hw1]; exact hmk
  have HB1 := hid (show Bro w1 w.heap.size w.heap.size n (fun _ => []) (madeCells #[.slice none 0 0] n) (fun _ => none) (fun _ => 0) by rw [hw1]; exact bro_new w _ n (Nat.le_refl _))
  have HF1 := hid (show Fr (fun _ => False) w w1 by rw [hw1]; exact Fr.alloc _ _ _)
  obtain ⟨i0, hii, hzz⟩ := Option.map_eq_some_iff.1 infoint
  simp only [Prod.mk.injEq] at hzz
  obtain ⟨hy0, hy1, hy2⟩ := hzz
  have HII := hid hii
  have HZ0 := hid hy0
  have HZ1 := hid hy1
  have HZ2 := hid hy2
  clear hw1 hmk hsi hs0 hs1 hs2 hl ht hA hii hy0 hy1 hy2
  obtain ⟨B, hBB⟩ : ∃ B, w.heap.size = B := ⟨_, rfl⟩
  rw [hBB] at hmk2 HB1
  have HBB := hid hBB
  clear hBB
  go_enter Tryz.func18, Tryz.ntmps18
  go_wp2_with fail
  clear hmk2
  go_loopg [11] (n + 1) (fun d k wr => BrRel l n B w d k wr)
  case atStart => exact ⟨0, _, _, _, by omega, by omega, rfl, by rw [HBB.out]; exact HB1.out, HF1.out⟩
  case round =>
    obtain ⟨j, cs, As, cp, hj, hd, rfl, hBro, hF⟩ := hrel
    rw [HBB.out] at hBro
    have HBR := hid hBro
    have HD := hid hd
    have HF := hid hF
    clear hBro hd hF
    by_cases hlt : j < n
    · obtain ⟨r, hr⟩ : ∃ r, l[j]? = some r := ⟨_, List.getElem?_eq_getElem (by rw [HL.out]; omega)⟩
      obtain ⟨ga, oga, rfl, hga, hcc⟩ := HCE.out wr HF.out j r hr
      have q0 : wr.cell? ⟨ga, oga + j * 7, none⟩ = some (.int .i64 r.par) := hcc 0 _ rfl
      have q1 := hcc 1 _ rfl
      have q2 := hcc 2 _ rfl
      have q3 := hcc 3 _ rfl
      have q4 := hcc 4 _ rfl
      have q5 := hcc 5 _ rfl
      have q6 := hcc 6 _ rfl
      have HR := hid hr
      have HPR := hid (parAt_of' hr)
      have hlow : r.par = -1 ∨ (0 ≤ r.par ∧ r.par < n) := by
        rw [← HPR.out]
        by_cases h0 : j = 0
        · left
          rw [h0]
          exact HTB.out.1 (by rintro rfl; have := HL.out; simp at this; omega)
        · right
          have := HTB.out.2 j (by omega) (by rw [HL.out]; omega)
          omega
      have hj0 : (0 : Int) ≤ j ∧ (j : Int) < n := by omega
      clear hr hcc
      go_upto_region 5 with fail
      have hB4 := TBlk.new wr #[.int .i64 r.par, .int .i64 r.in_, .int .i64 r.fn, .int .i64 r.kind, .int .i64 r.v, .int .i64 r.st, .string r.cl] 34
      have hF4 := HF.out.trans (Fr.alloc _ wr (.cells #[.int .i64 r.par, .int .i64 r.in_, .int .i64 r.fn, .int .i64 r.kind, .int .i64 r.v, .int .i64 r.st, .string r.cl] 34))
      have hBro4 := HBR.out.same (Fr.alloc _ wr (.cells #[.int .i64 r.par, .int .i64 r.in_, .int .i64 r.fn, .int .i64 r.kind, .int .i64 r.v, .int .i64 r.st, .string r.cl] 34))
      obtain ⟨w4, hw4⟩ : ∃ w4, w4 = wr.alloc (.cells #[.int .i64 r.par, .int .i64 r.in_, .int .i64 r.fn, .int .i64 r.kind, .int .i64 r.v, .int .i64 r.st, .string r.cl] 34) := ⟨_, rfl⟩
      rw [← hw4] at hB4 hF4 hBro4 ⊢
      clear hw4 q0 q1 q2 q3 q4 q5 q6
      have b0 := (TBlk.blk hB4).cell (i := 0) rfl
      simp only [List.getElem_toArray, List.getElem_cons_zero] at b0
      have l4 := (TBlk.blk hB4).lt
      have HF4 := hid hF4
      have HBR4 := hid hBro4
      have HB4 := hid hB4
      clear hF4 hBro4 hB4
      obtain ⟨pa, hpa⟩ : ∃ x, r.par = x := ⟨_, rfl⟩
      rw [hpa] at b0 HPR hlow
      have HPA := hid hpa
      clear hpa
      by_cases hpn : pa = -1
      · have t1 : (pa != -1) = false := by simp [hpn]
        have HPN := hid hpn
        clear hpn hlow
        go_wp2_with fail
        go_roundg (n + 1 - (j + 1))
        case rel => exact ⟨j + 1, cs, As, cp, by omega, rfl, by go_num, by
          rw [HBB.out]
          exact HBR4.out.eq (fun i hi => by
            simp only [kidsN]
            rw [if_neg (by rw [HPR.out, HPN.out]; omega), List.append_nil]), HF4.out⟩
        case measure => have := HD.out; omega
      · have t1 : (pa != -1) = true := by simpa using hpn
        obtain ⟨z, rfl⟩ : ∃ z : Nat, pa = z := ⟨pa.toNat, by omega⟩
        have hz0 : (0 : Int) ≤ z ∧ (z : Int) < n := by omega
        have hzn : z < n := by omega
        clear hpn hlow
        obtain ⟨Ap, hAp⟩ : ∃ x, As z = x := ⟨_, rfl⟩
        obtain ⟨cap, hcap⟩ : ∃ x, cp z = x := ⟨_, rfl⟩
        obtain ⟨m, hm⟩ : ∃ x, (kidsN l z j).length = x := ⟨_, rfl⟩
        have hmj : m ≤ j := by rw [← hm]; exact kidsN_len l z j
        have c0 := HBR4.out.at_ hzn
        rw [hAp, hcap, hm] at c0
        have hz3 := (TBlk.blk HBR4.out.blk).frozen z
        have hlG := (TBlk.blk HBR4.out.blk).lt
        have HA2 := hid ((Fr.alloc (fun _ => False) w4 (.cells #[.int .i64 j] 3)).trans (Fr.drew _ _))
        have hown := HBR4.out.own z hzn
        rw [hAp, hcap, hm] at hown
        have HOW := hid (show (w4.alloc (.cells #[.int .i64 j] 3)).drew.ownsRow B 3 1 (.slice Ap m cap) m (intsV (kidsN l z j)) from OwnR.same hown HA2.out)
        have HNW := hid (show ∀ i u, ([.int .i64 j] : List Value)[i]? = some u → (w4.alloc (.cells #[.int .i64 j] 3)).drew.cell? ((⟨w4.heap.size, 0, none⟩ : Addr).add i) = some u from newk w4 3 (.int .i64 j))
        have HNB := hid ((HBR4.out.own z hzn).ne HB4.out (by decide))
        have HNG := hid ((HBR4.out.own z hzn).ne HBR4.out.blk (by decide))
        have hbs : B ≤ w4.heap.size := by have := HF4.out.size; rw [← HBB.out]; exact this
        have HKP := hid (show ∀ W, Fr (ownB Ap) w4 W → W.cell? ⟨B, z, none⟩ = some (.slice Ap m cap) ∧ W.frozen? ⟨B, z, none⟩ = false ∧ W.cell? ⟨wr.heap.size, 0, none⟩ = some (.int .i64 z) from fun W hW => by
          have h1 := TBlk.blk (HBR4.out.blk.keep hW (by rw [← hAp]; exact HNG.out))
          have h2 := TBlk.blk (HB4.out.keep hW (by rw [← hAp]; exact HNB.out))
          refine ⟨h1.cell ?_, h1.frozen z, h2.cell (by rw [← HPA.out]; rfl)⟩
          have := HBR4.out.cell z hzn
          rw [hAp, hcap, hm] at this
          exact this)
        have HAP := hid hAp
        have HCP := hid hcap
        have HM := hid hm
        clear hAp hcap hm hown
        go_upto_region 6 with fail
        go_region_law ((refine step_append_lies _ (by rfl) _ _ _ (by rfl) B 3 i0 (.int .i64 0) 1 8 Tryz.underlying54 HII.out HZ0.out HZ1.out HZ2.out rfl (by decide) (.slice Ap m cap) m _ (by rfl) HOW.out ⟨w4.heap.size, 0, none⟩ 1 1 [.int .i64 j] (by rfl) (by rfl) HNW.out (by simp [Value.oneCell']) (by omega) (by unfold maxLen; omega) (by omega) (by simp; omega) (w4.heap.size + 1) (by simp) ?_; intro gg cq w9 hown9 hgrow9 hat9 hlt9; have HO9 := hid hown9; have HF9 := hid ((HA2.out.mono (fun _ h => h.elim)).trans (Fr.of_grown' hgrow9 rfl)); have HAT := hid hat9; have r1 := (HKP.out w9 HF9.out).1; have r2 := (HKP.out w9 HF9.out).2.1; have r3 := (HKP.out w9 HF9.out).2.2; clear hown9 hgrow9 hat9))
        all_goals
          go_wp2_with fail
          go_roundg (n + 1 - (j + 1))
          case rel =>
            have hp := HBR4.out.push (g := fun i => kidsN l i (j + 1)) hzn (x := (j : Int)) (gg := gg) (cap := cq) (by rw [HAP.out]; exact HF9.out) (by
                have := HO9.out
                rw [HM.out]
                unfold intsV at this ⊢
                rw [List.map_append]
                exact this) (by
                rw [HAP.out]
                rcases HAT.out with h | h
                · left
                  rcases Ap with _ | y
                  · simp [Value.ownBlock] at h
                  · simp only [Value.ownBlock, Option.some.injEq] at h
                    exact ⟨y, rfl, h⟩
                · right; omega) (by
                simp only [kidsN]
                rw [if_pos HPR.out]) (fun i hi hne => by
                simp only [kidsN]
                rw [if_neg (by rw [HPR.out]; omega), List.append_nil])
            rw [HM.out] at hp
            refine ⟨j + 1, _, _, _, by omega, rfl, by go_num, by rw [HBB.out]; exact hp, ?_⟩
            have h1 := HF4.out.since HF9.out (fun i hi hl => by
              have h2 := (HBR4.out.own z hzn).lt i (by rw [HAP.out]; exact hi)
              have := HBB.out
              show False
              omega)
            exact h1.since (Fr.setCell (S := fun k => k = B) _ _ _ rfl) (fun i hi hl => by
              have := HBB.out
              show False
              omega)
          case measure => have := HD.out; omega
    · have hjn : j = n := by omega
      have HBN := hid (show Bro wr B B n (fun i => kidsN l i n) cs As cp from HBR.out.eq (fun i hi => by rw [hjn]))
      clear hjn
      go_wp2_with fail
      go_ret
      exact ⟨B, cs, As, cp, rfl, by rw [HBB.out]; exact HBN.out, HF.out⟩

end Go.Proofs.YtnlbellbeepkaaaGreatDoor
