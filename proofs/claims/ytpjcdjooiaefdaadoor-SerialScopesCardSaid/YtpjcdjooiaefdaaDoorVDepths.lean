/-
  Depths.
-/
import Derived.Test.YtpjcdjooiaefdaaDoorVSmall
import Derived.Deep.LoopGhost
import Derived.Laws.CopyOwn
import Derived.Deep.RegionHeld3
import Derived.Deep.RegionLaw
namespace Go.Proofs.YtpjcdjooiaefdaaDoor
open Go.RowKit

/-- Numbers are handed back. -/
def NumPost (w : World) (L : List Int) (e : Ending) (w' : World) : Prop :=
  ∃ A n c, e = .returned (.slice A n c) ∧ L.length = n ∧ Nums w' w'.heap.size A L ∧ Fr (fun _ => False) w w'

theorem Fr.to_none {w w' : World} (h : Fr (fun k => w.heap.size ≤ k) w w') : Fr (fun _ => False) w w' :=
  ⟨h.os, h.tape, h.output, h.size, fun k hk _ => h.block k hk (by omega)⟩

theorem ints_snoc (l : List Int) (x : Int) : ints (l ++ [x]) = ints l ++ ints [x] := by simp [ints]

def DpRel (l : List Ins) (w : World) (B : Nat) (d : Nat) (out dv k : Value) (wr : World) : Prop :=
  ∃ (j : Nat) (A : Option Addr) (cap : Nat) (x : Int), j ≤ l.length ∧ d = l.length - j ∧ k = .int .i64 j ∧ out = .slice A j cap ∧ dv = .int .i64 x ∧ x = dend 0 (l.take j) ∧ OwnN wr B A j cap (dep 0 (l.take j)) ∧ Fr (fun k => B ≤ k) w wr

set_option maxRecDepth 100000 in
set_option maxHeartbeats 2000000 in
theorem depths_any (A : Option Addr) (n c : Nat) (l : List Ins) (w : World) (hl : l.length = n) (hn : n ≤ 1000) (hp : Cod w w.heap.size A l) :
    Calls Tryd.prog 42 #[.slice A n c] w (NumPost w (dep 0 l)) := by
  have HN := hid hl
  clear hl
  obtain ⟨B, hB⟩ : ∃ B, B = w.heap.size := ⟨_, rfl⟩
  rw [← hB] at hp
  have HB := hid hB
  have hBl : B ≤ w.heap.size := by omega
  obtain ⟨i0, hi, hz⟩ := Option.map_eq_some_iff.1 Tryd.infon
  simp only [Prod.mk.injEq] at hz
  obtain ⟨hz0, hz1, hz2⟩ := hz
  obtain ⟨w1, hmk, hown, hgrow⟩ := run_make_own (P := Tryd.prog) w B 80 3 i0 (.int .i64 0) 1 Tryd.underlying80 hi hz0 hz1 .i64 .i64 n (by rw [hz2]; omega) (by unfold maxLen; omega) hBl
  have HI := hid hi
  have HZ0 := hid hz0
  have HZ1 := hid hz1
  have HZ2 := hid hz2
  clear hi hz0 hz1 hz2 hB
  have hF1 : Fr (fun _ => False) w w1 := ⟨hgrow.os, hgrow.tape, hgrow.output, hgrow.size, fun k hk _ => hgrow.block k hk (by simp)⟩
  have HF1 := hid hF1
  have hs1 : w.heap.size ≤ w1.heap.size := hF1.size
  have HO := hid (show OwnN w1 B (some ⟨w.heap.size, 0, none⟩) 0 n (dep 0 (l.take 0)) from hown)
  clear hown hgrow hF1
  go_enter Tryd.func42, Tryd.ntmps42
  go_wp2_with fail
  go_loopg [3, 4, 12] n (fun d out dv k wr => DpRel l w B d out dv k wr)
  case atStart => exact ⟨0, _, n, 0, by omega, by rw [HN.out, Nat.sub_zero], rfl, rfl, rfl, rfl, HO.out, HF1.out.mono (fun _ h => h.elim)⟩
  case round =>
    obtain ⟨wo, rfl⟩ : ∃ wo, wo = wr := ⟨_, rfl⟩
    obtain ⟨k, Ab, cb, x, hk, hd, rfl, rfl, rfl, hx, hown, hF⟩ := hrel
    rw [HN.out] at hk hd
    have hxb := dend_bound 0 (l.take k)
    rw [← hx] at hxb
    have hxl : (l.take k).length ≤ k := by simp; omega
    have x1 : -1000 ≤ x := by omega
    have x2 : x ≤ 1000 := by omega
    clear hxb hxl
    have HX := hid hx
    have HD := hid hd
    have HOW := hid hown
    clear hx hd hown hmk hs1
    have HF := hid hF
    by_cases hlt : k < n
    · obtain ⟨⟨op, a, b, ci, m⟩, hik⟩ : ∃ i, l[k]? = some i := ⟨_, List.getElem?_eq_getElem (by rw [HN.out]; exact hlt)⟩
      obtain ⟨g, o, rfl, hg, hcell⟩ := (hp.keep hF hBl (fun _ h1 h2 => by omega)) (by rw [HN.out]; omega)
      obtain ⟨s0, s1, s2, s3, s4⟩ := hcell k _ hik
      simp only at s0 s1 s2 s3 s4
      have HIK := hid hik
      have hBr : B ≤ wo.heap.size := Nat.le_trans hBl hF.size
      have hgl : g < wo.heap.size := Nat.lt_of_lt_of_le hg hBr
      have HNX := hid (show dend 0 (l.take (k + 1)) = dstep op x by rw [take_snoc' hik, dend_snoc, ← HX.out])
      have HDX := hid (show dep 0 (l.take (k + 1)) = dep 0 (l.take k) ++ [x] by rw [take_snoc' hik, dep_snoc, ← HX.out])
      clear hik hcell hF
      obtain ⟨wa, hwa⟩ : ∃ wa, wa = wo.alloc (.cells #[.int .i64 op, .int .i64 a, .int .i64 b, .int .i64 ci, .int .i64 m] 43) := ⟨_, rfl⟩
      have hFa : Fr (fun _ => False) wo wa := by rw [hwa]; exact Fr.alloc _ _ _
      have HBI := hid (show Blk wa wo.heap.size #[.int .i64 op, .int .i64 a, .int .i64 b, .int .i64 ci, .int .i64 m] by rw [hwa]; exact Blk.new _ _ _)
      have HIT := hid (show TBlk wa wo.heap.size #[.int .i64 op, .int .i64 a, .int .i64 b, .int .i64 ci, .int .i64 m] 43 by rw [hwa]; exact TBlk.new _ _ _)
      have HFA := hid hFa
      have HOW2 := hid ((OwnR.same HOW.out hFa).same (Fr.alloc _ wa (.cells #[.int .i64 x] 3)))
      have HNW := hid (news_int wa x (b := wo.heap.size + 1) (by rw [hwa]; simp))
      have hBa : B ≤ wa.heap.size := Nat.le_trans hBr hFa.size
      rw [hwa] at HOW2 HNW hBa
      have HWA := hid hwa
      clear hFa hwa
      have hm : op = 11 ∨ op = 12 ∨ (¬ op = 11 ∧ ¬ op = 12) := by omega
      rcases hm with rfl | rfl | ⟨h11, h12⟩
      · have HV := hid (HNX.out.trans (show dstep 11 x = x + 1 by simp [dstep]))
        go_wp2_with (at_builtin; (refine wpList_append_own _ rfl _ _ 80 rfl B 3 i0 (.int .i64 0) 1 8 Tryd.underlying80 HI.out HZ0.out HZ1.out HZ2.out rfl (by decide) (.slice Ab k cb) k _ rfl HOW2.out ⟨wo.heap.size + 1, 0, none⟩ 1 1 (ints [x]) rfl rfl HNW.out (ints_one _) (by unfold maxLen; omega) (by omega) (by simp; omega) ?_; intro v2 w2 hown2 hgrow2 hnil2; clear hnil2; obtain ⟨A2, c2, rfl, ho2⟩ := OwnR.form hown2; have HO2 := hid ho2; have HG2 := hid hgrow2; clear hown2 hgrow2 ho2; have hbi := HBI.out.keep (((Fr.alloc (fun _ => False) _ _).mono (fun _ h => h.elim)).trans (Fr.of_grown (by have := HG2.out; rw [← HWA.out] at this; exact this))) (fun h => OwnR.ne (OwnR.same HOW.out HFA.out) HIT.out (by decide) h); have s0 := hbi.cell (i := 0) rfl; have HBI2 := hid hbi; clear hbi))
        go_roundg (n - (k + 1))
        case rel => exact ⟨k + 1, A2, c2, _, by rw [HN.out]; omega, by rw [HN.out], by go_num, rfl, rfl, HV.out.symm, OwnR.eq HO2.out (by rw [HDX.out, ints_snoc]), HF.out.trans ((((Fr.alloc (fun _ => False) _ _).trans (Fr.alloc _ _ _)).mono (fun _ h => h.elim)).trans ((Fr.of_grown HG2.out).mono (fun q h => (OwnR.lt HOW.out q h).1)))⟩
        case measure => have := HD.out; omega
      · have HV := hid (HNX.out.trans (show dstep 12 x = x - 1 by simp [dstep]))
        go_wp2_with (at_builtin; (refine wpList_append_own _ rfl _ _ 80 rfl B 3 i0 (.int .i64 0) 1 8 Tryd.underlying80 HI.out HZ0.out HZ1.out HZ2.out rfl (by decide) (.slice Ab k cb) k _ rfl HOW2.out ⟨wo.heap.size + 1, 0, none⟩ 1 1 (ints [x]) rfl rfl HNW.out (ints_one _) (by unfold maxLen; omega) (by omega) (by simp; omega) ?_; intro v2 w2 hown2 hgrow2 hnil2; clear hnil2; obtain ⟨A2, c2, rfl, ho2⟩ := OwnR.form hown2; have HO2 := hid ho2; have HG2 := hid hgrow2; clear hown2 hgrow2 ho2; have hbi := HBI.out.keep (((Fr.alloc (fun _ => False) _ _).mono (fun _ h => h.elim)).trans (Fr.of_grown (by have := HG2.out; rw [← HWA.out] at this; exact this))) (fun h => OwnR.ne (OwnR.same HOW.out HFA.out) HIT.out (by decide) h); have s0 := hbi.cell (i := 0) rfl; have HBI2 := hid hbi; clear hbi))
        go_roundg (n - (k + 1))
        case rel => exact ⟨k + 1, A2, c2, _, by rw [HN.out]; omega, by rw [HN.out], by go_num, rfl, rfl, HV.out.symm, OwnR.eq HO2.out (by rw [HDX.out, ints_snoc]), HF.out.trans ((((Fr.alloc (fun _ => False) _ _).trans (Fr.alloc _ _ _)).mono (fun _ h => h.elim)).trans ((Fr.of_grown HG2.out).mono (fun q h => (OwnR.lt HOW.out q h).1)))⟩
        case measure => have := HD.out; omega
      · have HV := hid (HNX.out.trans (show dstep op x = x by simp [dstep, h11, h12]))
        have t1 : (op == 11) = false := beq_eq_false_iff_ne.2 h11
        have t2 : (op == 12) = false := beq_eq_false_iff_ne.2 h12
        go_wp2_with (at_builtin; (refine wpList_append_own _ rfl _ _ 80 rfl B 3 i0 (.int .i64 0) 1 8 Tryd.underlying80 HI.out HZ0.out HZ1.out HZ2.out rfl (by decide) (.slice Ab k cb) k _ rfl HOW2.out ⟨wo.heap.size + 1, 0, none⟩ 1 1 (ints [x]) rfl rfl HNW.out (ints_one _) (by unfold maxLen; omega) (by omega) (by simp; omega) ?_; intro v2 w2 hown2 hgrow2 hnil2; clear hnil2; obtain ⟨A2, c2, rfl, ho2⟩ := OwnR.form hown2; have HO2 := hid ho2; have HG2 := hid hgrow2; clear hown2 hgrow2 ho2; have hbi := HBI.out.keep (((Fr.alloc (fun _ => False) _ _).mono (fun _ h => h.elim)).trans (Fr.of_grown (by have := HG2.out; rw [← HWA.out] at this; exact this))) (fun h => OwnR.ne (OwnR.same HOW.out HFA.out) HIT.out (by decide) h); have s0 := hbi.cell (i := 0) rfl; have HBI2 := hid hbi; clear hbi))
        go_roundg (n - (k + 1))
        case rel => exact ⟨k + 1, A2, c2, _, by rw [HN.out]; omega, by rw [HN.out], by go_num, rfl, rfl, HV.out.symm, OwnR.eq HO2.out (by rw [HDX.out, ints_snoc]), HF.out.trans ((((Fr.alloc (fun _ => False) _ _).trans (Fr.alloc _ _ _)).mono (fun _ h => h.elim)).trans ((Fr.of_grown HG2.out).mono (fun q h => (OwnR.lt HOW.out q h).1)))⟩
        case measure => have := HD.out; omega
    · go_wp2_with fail
      go_ret
      refine ⟨Ab, k, cb, rfl, ?_, ?_, ?_⟩
      · rw [dep_len, HN.out]; omega
      · have h := OwnN.nums HOW.out
        rw [List.take_of_length_le (by rw [HN.out]; omega)] at h
        exact h
      · exact Fr.to_none (by rw [← HB.out]; exact HF.out)

end Go.Proofs.YtpjcdjooiaefdaaDoor

/-
  slices.Repeat of one number.
-/
namespace Go.Proofs.YtpjcdjooiaefdaaDoor
open Go.RowKit

theorem and_u64 (y : Nat) (hy : y ≤ 1000) : bits .and .u64 (y : Int) 4294967295 = y := by
  unfold bits
  have e1 : (BitVec.ofInt IntKind.u64.bits 4294967295).toNat = 2 ^ 32 - 1 := by decide
  have e2 : (BitVec.ofInt IntKind.u64.bits (y : Int)).toNat = y := by
    rw [BitVec.ofInt_natCast, BitVec.toNat_ofNat]
    exact Nat.mod_eq_of_lt (Nat.lt_of_le_of_lt hy (by decide))
  simp only [BitVec.toNat_and]
  rw [e1, e2, Nat.and_two_pow_sub_one_eq_mod, Nat.mod_eq_of_lt (Nat.lt_of_le_of_lt hy (by decide))]
  simp [IntKind.wrap, IntKind.bits, IntKind.signed]
  omega

set_option maxHeartbeats 400000 in
theorem mul64_one (y : Nat) (hy : y ≤ 1000) (w : World) : Calls Tryd.prog 80 #[.int .u64 1, .int .u64 y] w fun e w' => e = .returned (.tuple #[.int .u64 0, .int .u64 y]) ∧ w = w' := by
  have q1 : bits .and .u64 1 4294967295 = 1 := by decide
  have q2 := and_u64 y hy
  have q3 : bits .and .u64 0 4294967295 = 0 := by decide
  have q4 : (y : Int) / 4294967296 = 0 := by omega
  have q5 : (1 : Int) / 4294967296 = 0 := by omega
  go_enter Tryd.func80, Tryd.ntmps80
  go_wp2_with fail
  go_ret2
  exact ⟨rfl, rfl⟩

set_option maxHeartbeats 400000 in
theorem mul_one_ (y : Nat) (hy : y ≤ 1000) (w : World) : Calls Tryd.prog 77 #[.int .u64 1, .int .u64 y] w fun e w' => e = .returned (.tuple #[.int .u64 0, .int .u64 y]) ∧ w = w' := by
  go_enter Tryd.func77, Tryd.ntmps77
  go_wp2_with fail
  refine (mul64_one y hy _).mono ?_
  rintro e w' ⟨rfl, rfl⟩
  go_wp2_with fail
  go_ret2
  exact ⟨rfl, rfl⟩

/-- The new row: its first k cells bear x. -/
def RpRel (w : World) (n : Nat) (x : Int) (d : Nat) (kv : Value) (wr : World) : Prop :=
  ∃ (k : Nat) (cur : List Value), 1 ≤ k ∧ k ≤ n ∧ d = n + 1 - k ∧ kv = .int .i64 k ∧ wr.heap[w.heap.size]? = some (.cells cur.toArray 3 (0, 0)) ∧ cur.length = n ∧ (∀ j, j < k → cur[j]? = some (.int .i64 x)) ∧ Below w.heap.size w wr

theorem Fr.of_below {w w' : World} (h : Below w.heap.size w w') : Fr (fun _ => False) w w' :=
  ⟨h.os, h.tape, h.output, h.size, fun k hk _ => h.block k hk⟩

/-- A new row is handed back, all of one number. -/
def RowPost (w : World) (n : Nat) (x : Int) (e : Ending) (w' : World) : Prop :=
  ∃ g, e = .returned (.slice (some ⟨g, 0, none⟩) n n) ∧ w.heap.size ≤ g ∧ TBlk w' g (ints (List.replicate n x)).toArray 3 ∧ Fr (fun _ => False) w w'

theorem row_made (n : Nat) : madeCells #[Value.int .i64 0] n = (ints (List.replicate n 0)).toArray := by
  unfold madeCells ints
  apply Array.ext'
  simp [Array.range, List.map_replicate]
  apply List.ext_getElem
  · simp
  · intro i h1 h2
    simp [Nat.mod_one]

theorem splice_front {cur : List Value} {k n m : Nat} {v : Value} (hl : cur.length = n) (hk : k + m ≤ n) (hv : ∀ j, j < k → cur[j]? = some v) : (splice cur k (List.replicate m v)).length = n ∧ ∀ j, j < k + m → (splice cur k (List.replicate m v))[j]? = some v := by
  refine ⟨by rw [length_splice _ _ _ (by simp; omega)]; exact hl, fun j hj => ?_⟩
  unfold splice
  rcases Nat.lt_or_ge j k with h | h
  · rw [List.getElem?_append_left (by simp; omega), List.getElem?_take, if_pos h]
    exact hv j h
  · rw [List.getElem?_append_right (by simp; omega), List.getElem?_append_left (by simp; omega), List.getElem?_replicate, if_pos (by simp; omega)]

set_option maxRecDepth 100000 in
set_option maxHeartbeats 600000 in
theorem repeat_pos (b : Nat) (x : Int) (n : Nat) (w : World) (hb : b < w.heap.size) (hx : w.cell? ⟨b, 0, none⟩ = some (.int .i64 x)) (h1 : 1 ≤ n) (hn : n ≤ 1000) :
    Calls Tryd.prog 56 #[.slice (some ⟨b, 0, none⟩) 1 1, .int .i64 n] w (RowPost w n x) := by
  obtain ⟨i0, hi, hz⟩ := Option.map_eq_some_iff.1 Tryd.infon
  simp only [Prod.mk.injEq] at hz
  obtain ⟨hz0, hz1, hz2⟩ := hz
  have m1 := run_make (P := Tryd.prog) w 80 3 i0 (.int .i64 0) Tryd.underlying80 hi hz0 .i64 .i64 n n (by omega) (by omega) (by rw [hz2]; omega) (by omega)
  rw [hz1, Nat.mul_one, show (Value.int .i64 0).cells = #[.int .i64 0] from rfl, row_made] at m1
  simp only [Int.toNat_natCast] at m1
  have hinf : (Tryd.prog.info? 3).map (·.size) = some 1 := by kernel_rfl
  have HI := hid hinf
  clear hinf hi hz0 hz1 hz2
  have HB1 := hid (TBlk.new w (ints (List.replicate n 0)).toArray 3)
  have HX := hid (fun j u (h : ([Value.int .i64 x] : List Value)[j]? = some u) => show (w.alloc (.cells (ints (List.replicate n 0)).toArray 3)).cell? ((⟨b, 0, none⟩ : Addr).add j) = some u by
    obtain ⟨rfl, rfl⟩ : j = 0 ∧ u = .int .i64 x := by
      rcases j with _ | j
      · simp at h; exact ⟨rfl, h.symm⟩
      · simp at h
    rw [add_none]
    exact (cell_keep (Fr.alloc (fun _ => False) _ _) (p := ⟨b, 0, none⟩) hb (fun h => h)).trans hx)
  have HBL := hid (show Below w.heap.size w (w.alloc (.cells (ints (List.replicate n 0)).toArray 3)) from (Fr.alloc (fun _ => False) _ _).below (Nat.le_refl _) (fun _ h => h.elim))
  have d1 : decide ((n : Int) < 0) = false := by simp
  have d2 : decide ((9223372036854775807 : Int) < (n : Int)) = false := decide_eq_false (by omega)
  clear hx
  go_enter Tryd.func56, Tryd.ntmps56
  go_wp2_with fail
  refine (mul_one_ n hn _).mono ?_
  rintro e w' ⟨rfl, rfl⟩
  go_wp2_with (refine wpList_copy_splice (o := ⟨some 33, _, _, _, _, _⟩) rfl (.tmp 31) (.tmp 32) 80 80 rfl 3 Tryd.underlying80 HI.out (some ⟨w.heap.size, 0, none⟩) (some ⟨b, 0, none⟩) n n 1 1 rfl rfl w.heap.size 0 (ints (List.replicate n 0)) 3 HB1.out [.int .i64 x] (by show 1 = min 1 n; omega) (fun _ => ⟨rfl, _, rfl, HX.out⟩) (by simp [ints]; omega) (by simp [Value.oneCell']) w.heap.size w HBL.out (Nat.le_refl _) ?_; intro w2 hw2 hb2)
  have HW2 := hid hw2.out
  have HB2 := hid hb2
  clear hw2 hb2 m1
  go_loopg [8] n (fun d kv wr => RpRel w n x d kv wr)
  case atStart =>
    have h := splice_front (cur := ints (List.replicate n 0)) (k := 0) (m := 1) (n := n) (v := .int .i64 x) (by simp [ints]) (by omega) (fun j hj => by omega)
    exact ⟨1, splice (ints (List.replicate n 0)) 0 [Value.int .i64 x], by omega, h1, by omega, rfl, HW2.out, h.1, fun j hj => h.2 j (by omega), HB2.out⟩
  case round =>
    obtain ⟨wo, rfl⟩ : ∃ wo, wo = wr := ⟨_, rfl⟩
    obtain ⟨k, cur, hk1, hk, hd, rfl, hh, hl, hv, hB⟩ := hrel
    have HD := hid hd
    have HH := hid hh
    have HL := hid hl
    have HV := hid hv
    have HBB := hid hB
    clear hd hh hl hv hB
    by_cases hlt : k < n
    · obtain ⟨m, hm⟩ : ∃ m, m = min k (n - k) := ⟨_, rfl⟩
      have HM := hid hm
      have hm1 : 1 ≤ m := by omega
      have hm2 : k + m ≤ n := by omega
      have hm3 : m ≤ k := by omega
      have hne : ¬ n = k := by omega
      clear hm
      have HS := hid (fun j u (h : (List.replicate m (Value.int .i64 x))[j]? = some u) => show wo.drew.cell? ((⟨w.heap.size, 0, none⟩ : Addr).add j) = some u by
        rw [List.getElem?_replicate] at h
        split at h
        · rename_i hj
          cases h
          rw [add_none, Nat.zero_add]
          exact Blk.cell (w := wo) (c := cur.toArray) ⟨_, HH.out⟩ (by simp [HV.out j (by omega)])
        · cases h)
      go_wp2_with fail
      go_region_law (refine step_copy_splice (by rfl) (.tmp 41) (.tmp 44) 80 80 (by rfl) 3 Tryd.underlying80 HI.out (some ⟨w.heap.size, k, none⟩) (some ⟨w.heap.size, 0, none⟩) (n - k) (n - k) k n (by go_simp) (by go_simp) w.heap.size k cur 3 HH.out (List.replicate m (.int .i64 x)) (by rw [List.length_replicate]; exact HM.out) (fun _ => ⟨rfl, _, rfl, HS.out⟩) (by rw [List.length_replicate, HL.out]; exact hm2) (by simp [Value.oneCell']) w.heap.size w (HBB.out.drew) (Nat.le_refl _) ?_; intro w3 hw3 hb3; have HW3 := hid hw3.out; have HB3 := hid hb3; clear hw3 hb3)
      have hsp := splice_front (v := .int .i64 x) HL.out hm2 HV.out
      have HSP := hid hsp
      clear hsp
      go_wp2_with fail
      go_roundg (n + 1 - (k + m))
      case rel => exact ⟨k + m, _, by omega, hm2, rfl, by rw [show IntKind.i64.wrap ((k : Int) + (m : Int)) = (k : Int) + m from IntWalk.i64_in _ (by omega)]; go_num, HW3.out, HSP.out.1, HSP.out.2, HB3.out⟩
      case measure => have := HD.out; omega
    · go_wp2_with fail
      go_ret
      refine ⟨w.heap.size, rfl, Nat.le_refl _, ?_, Fr.of_below HBB.out⟩
      have h := HH.out
      have e : cur = ints (List.replicate n x) := by
        apply List.ext_getElem?
        intro j
        rcases Nat.lt_or_ge j n with hj | hj
        · rw [HV.out j (by omega)]
          simp [ints, hj]
        · rw [List.getElem?_eq_none (by rw [HL.out]; exact hj), List.getElem?_eq_none (by simp [ints]; exact hj)]
      rw [e] at h
      exact h

set_option maxRecDepth 100000 in
set_option maxHeartbeats 600000 in
theorem repeat_zero (b : Nat) (w : World) : Calls Tryd.prog 56 #[.slice (some ⟨b, 0, none⟩) 1 1, .int .i64 0] w fun e w' => ∃ g, e = .returned (.slice (some ⟨g, 0, none⟩) 0 0) ∧ Fr (fun _ => False) w w' := by
  obtain ⟨i0, hi, hz⟩ := Option.map_eq_some_iff.1 Tryd.infon
  simp only [Prod.mk.injEq] at hz
  obtain ⟨hz0, hz1, hz2⟩ := hz
  have m1 := run_make (P := Tryd.prog) w 80 3 i0 (.int .i64 0) Tryd.underlying80 hi hz0 .i64 .i64 0 0 (by omega) (by omega) (by rw [hz2]; omega) (by omega)
  rw [hz1] at m1
  simp only [Int.toNat_zero, Nat.zero_mul] at m1
  have hinf : (Tryd.prog.info? 3).map (·.size) = some 1 := by kernel_rfl
  have HI := hid hinf
  obtain ⟨w1, hw1⟩ : ∃ w1, w.alloc (.cells (madeCells (Value.int .i64 0).cells 0) 3) = w1 := ⟨_, rfl⟩
  have HF := hid (show Fr (fun _ => False) w w1 by rw [← hw1]; exact Fr.alloc _ _ _)
  rw [hw1] at m1
  clear hinf hi hz0 hz1 hz2 hw1
  go_enter Tryd.func56, Tryd.ntmps56
  go_wp2_with fail
  refine (mul_one_ 0 (by omega) _).mono ?_
  rintro e w' ⟨rfl, rfl⟩
  go_wp2_with (refine wpList_copy_nothing (o := ⟨some 33, _, _, _, _, _⟩) rfl (.tmp 31) (.tmp 32) 80 80 rfl 3 Tryd.underlying80 HI.out (some ⟨w.heap.size, 0, none⟩) (some ⟨b, 0, none⟩) 0 0 1 1 rfl rfl rfl ?_)
  go_loopg [8] 0 (fun d kv wr => kv = .int .i64 0 ∧ wr = w1)
  case atStart => exact ⟨rfl, rfl⟩
  case round =>
    obtain ⟨rfl, rfl⟩ := hrel
    go_wp2_with fail
    go_ret
    exact ⟨_, rfl, HF.out⟩

end Go.Proofs.YtpjcdjooiaefdaaDoor
