/-
  The document's handles that are held.
-/
import Derived.Test.YthpkhcompkfcaaaDoorRefWo
import Derived.Test.YthpkhcompkfcaaaDoorSite3
namespace Go.Proofs.YthpkhcompkfcaaaDoor
open Go.RowKit
set_option linter.unusedVariables false

/-- The row when handles below h are done, and handle h up to the i-th instruction. -/
noncomputable def mixRow (f : Fn) (n h i : Nat) : List Nat := (List.range n).map fun j => maskOf (holds f j) (if j < i then h + 1 else h)

theorem mixRow_at {f : Fn} {n h i j : Nat} (hj : j < n) : (mixRow f n h i)[j]? = some (maskOf (holds f j) (if j < i then h + 1 else h)) := by simp [mixRow, hj]
theorem mixRow_len (f : Fn) (n h i : Nat) : (mixRow f n h i).length = n := by simp [mixRow]

theorem mixRow_end (f : Fn) (n h : Nat) : mixRow f n h n = mixRow f n (h + 1) 0 := by
  unfold mixRow
  apply List.map_congr_left
  intro j hj
  rw [List.mem_range] at hj
  rw [if_pos hj, if_neg (by omega)]

theorem mixRow_zero (f : Fn) (n : Nat) : mixRow f n 0 0 = List.replicate n 0 := by
  apply List.ext_getElem?
  intro j
  rcases Nat.lt_or_ge j n with hj | hj
  · rw [mixRow_at hj, if_neg (by omega), List.getElem?_replicate, if_pos hj]
    rfl
  · rw [List.getElem?_eq_none (by rw [mixRow_len]; exact hj), List.getElem?_eq_none (by simp; exact hj)]

theorem mixRow_done (f : Fn) : mixRow f f.code.length 8 0 = heldL f := by
  unfold mixRow heldL
  apply List.map_congr_left
  intro j hj
  rw [if_neg (by omega)]
  rfl

theorem mixRow_keep {f : Fn} {n h i : Nat} (hi : holds f i h = false) : mixRow f n h (i + 1) = mixRow f n h i := by
  unfold mixRow
  apply List.map_congr_left
  intro j hj
  by_cases e : j = i
  · subst e
    rw [if_pos (by omega), if_neg (by omega), sum_mask, hi]
    simp
  · by_cases e2 : j < i
    · rw [if_pos e2, if_pos (by omega)]
    · rw [if_neg e2, if_neg (by omega)]

theorem mixRow_set {f : Fn} {n h i : Nat} (hin : i < n) (hi : holds f i h = true) : mixRow f n h (i + 1) = (mixRow f n h i).set i (maskOf (holds f i) h + 2 ^ h) := by
  apply List.ext_getElem?
  intro j
  rcases Nat.lt_or_ge j n with hj | hj
  · rw [mixRow_at hj, List.getElem?_set]
    by_cases e : i = j
    · subst e
      rw [if_pos (by omega), if_pos rfl, if_pos (by rw [mixRow_len]; exact hj), sum_mask, hi]
      simp
    · rw [if_neg e, mixRow_at hj]
      by_cases e2 : j < i
      · rw [if_pos e2, if_pos (by omega)]
      · rw [if_neg e2, if_neg (by omega)]
  · rw [List.getElem?_eq_none (by rw [mixRow_len]; exact hj), List.getElem?_eq_none (by rw [List.length_set, mixRow_len]; exact hj)]

structure RhM (w : World) (f : Fn) (A : Option Addr) (n c h i : Nat) (wr : World) : Prop where
  row : TBlk wr (w.heap.size + 1) (rowOf (mixRow f n h i)) 3
  box : Blk wr w.heap.size #[.int .i64 f.needs, .slice A n c]
  fr : Fr (fun k => w.heap.size ≤ k) w wr

theorem RhM.same {w : World} {f : Fn} {A : Option Addr} {n c h i : Nat} {wr wx : World} (m : RhM w f A n c h i wr) (F : Fr (fun _ => False) wr wx) : RhM w f A n c h i wx :=
  ⟨m.row.keep F (fun h => h), m.box.keep F (fun h => h), m.fr.trans (F.mono (fun _ h => h.elim))⟩

def RhRel (w : World) (f : Fn) (A : Option Addr) (n c : Nat) (d : Nat) (kv : Value) (wr : World) : Prop := ∃ h, h ≤ 8 ∧ d = 8 - h ∧ kv = .int .i64 (h : Nat) ∧ RhM w f A n c h 0 wr
def RiRel (w : World) (f : Fn) (A : Option Addr) (n c h : Nat) (w3 : World) (d : Nat) (kv : Value) (wr : World) : Prop := ∃ i, i ≤ n ∧ d = n - i ∧ kv = .int .i64 (i : Nat) ∧ RhM w f A n c h i wr ∧ Fr (fun k => k = w.heap.size + 1) w3 wr

theorem mask_lt (p : Nat → Bool) {h : Nat} (hh : h < 8) : maskOf p h < 128 := by
  have h1 := maskOf_lt p h
  have h2 : 2 ^ h ≤ 2 ^ 7 := Nat.pow_le_pow_right (by omega) (by omega)
  omega

set_option maxRecDepth 100000 in
set_option maxHeartbeats 4000000 in
theorem rheld_any (f : Fn) (A : Option Addr) (n c : Nat) (w : World) (hn : f.code.length = n) (hnl : n ≤ 1000) (hp : Cod w w.heap.size A f.code) :
    Calls Tryd.prog 15 #[.agg #[.int .i64 f.needs, .slice A n c]] w (NumPost w (natsI (heldL f))) := by
  have HN := hid hn
  have HP := hid hp
  clear hn hp
  obtain ⟨i0, hi, hz⟩ := Option.map_eq_some_iff.1 Tryd.infon
  simp only [Prod.mk.injEq] at hz
  obtain ⟨hz0, hz1, hz2⟩ := hz
  obtain ⟨w1, hw1⟩ : ∃ w1, w1 = w.alloc (.cells #[.int .i64 f.needs, .slice A n c] 29) := ⟨_, rfl⟩
  have m1 := run_make (P := Tryd.prog) w1 25 3 i0 (.int .i64 0) Tryd.underlying25 hi hz0 .i64 .i64 n n (by omega) (by omega) (by rw [hz2]; omega) (by omega)
  rw [hz1, Nat.mul_one, show (Value.int .i64 0).cells = #[.int .i64 0] from rfl, row_made] at m1
  simp only [Int.toNat_natCast] at m1
  clear hi hz0 hz1 hz2
  have hF1 : Fr (fun _ => False) w w1 := by rw [hw1]; exact Fr.alloc _ _ _
  have hb1 : Blk w1 w.heap.size #[.int .i64 f.needs, .slice A n c] := by rw [hw1]; exact Blk.new _ _ _
  have hz : w1.heap.size = w.heap.size + 1 := by rw [hw1]; simp
  obtain ⟨w2, hw2⟩ : ∃ w2, w2 = w1.alloc (.cells (ints (List.replicate n 0)).toArray 3) := ⟨_, rfl⟩
  have hF2 : Fr (fun _ => False) w1 w2 := by rw [hw2]; exact Fr.alloc _ _ _
  have hr2 : TBlk w2 (w.heap.size + 1) (ints (List.replicate n 0)).toArray 3 := by rw [hw2]; exact (TBlk.new _ _ _).at hz
  rw [← hw2, hz] at m1
  have HM := hid (show RhM w f A n c 0 0 w2 from ⟨by rw [mixRow_zero]; have e : (ints (List.replicate n 0)).toArray = rowOf (List.replicate n 0) := (by unfold rowOf natsI; simp [ints]); rw [← e]; exact hr2, hb1.keep hF2 (fun h => h), (hF1.trans hF2).mono (fun _ h => h.elim)⟩)
  have b1 := hb1.cell (i := 1) rfl
  have bl := hb1.lt
  simp only [List.getElem_toArray, List.getElem_cons_zero, List.getElem_cons_succ] at b1
  clear hF1 hb1 hF2 hr2 hw2 hz
  go_enter Tryd.func15, Tryd.ntmps15
  go_upto_region 1 with fail
  rw [← hw1]
  clear hw1
  go_wp2_with fail
  go_loopg [4] 8 (fun d kv wr => RhRel w f A n c d kv wr)
  case atStart => exact ⟨0, by omega, rfl, rfl, HM.out⟩
  case round =>
    obtain ⟨wo, rfl⟩ : ∃ wo, wo = wr := ⟨_, rfl⟩
    obtain ⟨h, hh, hd, rfl, hm⟩ := hrel
    have HD := hid hd
    have HMO := hid hm
    have b0 := hm.box.cell (i := 0) rfl
    have b1 := hm.box.cell (i := 1) rfl
    have bl := hm.box.lt
    simp only [List.getElem_toArray, List.getElem_cons_zero, List.getElem_cons_succ] at b0 b1
    clear hd
    by_cases hlt : h < 8
    · have HCO := hid ((HP.out.keep hm.fr (Nat.le_refl _) (fun k h1 h2 => by omega)).more hm.fr.size)
      have HBT := hid (fun w' => rbit_any f.needs h w' hlt)
      obtain ⟨tb, htb⟩ : ∃ tb, (low f.needs).testBit h = tb := ⟨_, rfl⟩
      rw [htb] at HBT
      have HTB := hid htb
      have ew := wrap_pow hlt
      obtain ⟨p, hp⟩ : ∃ p, p = 2 ^ h := ⟨_, rfl⟩
      have hp8 : p ≤ 128 := by rw [hp]; have : 2 ^ h ≤ 2 ^ 7 := Nat.pow_le_pow_right (by omega) (by omega); omega
      rw [← hp] at ew
      have HPW := hid hp
      have hro := hm.row.blk.lt
      clear hm htb hp
      go_wp2_with fail
      refine (rwithout_any A n c h f.code wo hlt HN.out hnl HCO.out).mono ?_
      rintro e w3 ⟨Al, nl, cl, rfl, hlen, hbo, hnew, hF3⟩
      obtain rfl : n = nl := by rw [freeL_len, HN.out] at hlen; exact hlen
      have HBO := hid hbo
      have HNW := hid hnew
      have HM3 := hid (HMO.out.same hF3)
      have HF3 := hid hF3
      clear hlen hbo hnew hF3 b0 b1 bl
      go_wp2_with fail
      go_loopg [6] n (fun d kv wr => RiRel w f A n c h w3 d kv wr)
      case atStart => exact ⟨0, by omega, rfl, rfl, HM3.out, Fr.refl _ _⟩
      case round =>
        obtain ⟨wp, rfl⟩ : ∃ wp, wp = wr := ⟨_, rfl⟩
        obtain ⟨i, hi, hd2, rfl, hm2, hF2⟩ := hrel
        have HD2 := hid hd2
        have HM2 := hid hm2
        have HF2 := hid hF2
        have b0 := hm2.box.cell (i := 0) rfl
        have bl := hm2.box.lt
        simp only [List.getElem_toArray, List.getElem_cons_zero] at b0
        clear hd2
        by_cases hin : i < n
        · obtain ⟨gl, ol, rfl, hgl, hcl⟩ := HBO.out (by rw [freeL_len, HN.out]; omega)
          have hgn : ¬ gl = w.heap.size + 1 := by have := HNW.out gl ⟨_, rfl, rfl⟩; omega
          obtain ⟨fb, hfb⟩ : ∃ fb, (freeL f.code h)[i]? = some fb := ⟨_, List.getElem?_eq_getElem (by rw [freeL_len, HN.out]; exact hin)⟩
          have c0 := (cell_keep hF2 (p := ⟨gl, ol + i, none⟩) hgl (by show ¬ gl = w.heap.size + 1; exact hgn)).trans (hcl i fb hfb)
          have hgl2 : gl < wp.heap.size := Nat.lt_of_lt_of_le hgl hF2.size
          have hho : holds f i h = (tb || !fb) := by
            have h1 := freeL_at f.code h (k := i) (by rw [HN.out]; exact hin)
            rw [hfb] at h1
            unfold holds
            rw [HTB.out]
            congr 1
            congr 1
            exact (Option.some.inj h1).symm
          obtain ⟨v, hv⟩ : ∃ v, v = maskOf (holds f i) h := ⟨_, rfl⟩
          have hv2 : v < 128 := by rw [hv]; exact mask_lt _ hlt
          have r0 := hm2.row.blk.cell (rowOf_at (show (mixRow f n h i)[i]? = some v by rw [mixRow_at hin, if_neg (by omega), hv]))
          have z0 := hm2.row.blk.frozen i
          have rl := hm2.row.blk.lt
          have HHO := hid hho
          have HV := hid hv
          clear hm2 hF2 hcl hfb hho hv
          have hcase : tb = true ∨ (tb = false ∧ fb = false) ∨ (tb = false ∧ fb = true) := by cases tb <;> cases fb <;> simp
          rcases hcase with rfl | ⟨rfl, rfl⟩ | ⟨rfl, rfl⟩
          · go_wp2_with fail
            refine (HBT.out _).mono ?_
            rintro e w5 ⟨rfl, rfl⟩
            go_wp2_with fail
            go_roundg (n - (i + 1))
            case rel =>
              have hFs : Fr (fun k => k = w.heap.size + 1) wp (wp.setCell ⟨w.heap.size + 1, i, none⟩ (.int .i64 ((v + p : Nat) : Int))) := Fr.setCell _ _ _ rfl
              rw [show ((v : Int) + (p : Int)) = ((v + p : Nat) : Int) by omega]
              exact ⟨i + 1, by omega, rfl, by go_num, ⟨by rw [mixRow_set hin (by rw [HHO.out]; rfl), ← HV.out, ← HPW.out, ← rowOf_set]; exact HM2.out.row.set i _, HM2.out.box.keep hFs (by omega), HM2.out.fr.trans (hFs.mono fun k hk => by omega)⟩, HF2.out.trans hFs⟩
            case measure => have := HD2.out; omega
          · go_wp2_with fail
            refine (HBT.out _).mono ?_
            rintro e w5 ⟨rfl, rfl⟩
            go_wp2_with fail
            go_roundg (n - (i + 1))
            case rel =>
              have hFs : Fr (fun k => k = w.heap.size + 1) wp (wp.setCell ⟨w.heap.size + 1, i, none⟩ (.int .i64 ((v + p : Nat) : Int))) := Fr.setCell _ _ _ rfl
              rw [show ((v : Int) + (p : Int)) = ((v + p : Nat) : Int) by omega]
              exact ⟨i + 1, by omega, rfl, by go_num, ⟨by rw [mixRow_set hin (by rw [HHO.out]; rfl), ← HV.out, ← HPW.out, ← rowOf_set]; exact HM2.out.row.set i _, HM2.out.box.keep hFs (by omega), HM2.out.fr.trans (hFs.mono fun k hk => by omega)⟩, HF2.out.trans hFs⟩
            case measure => have := HD2.out; omega
          · go_wp2_with fail
            refine (HBT.out _).mono ?_
            rintro e w5 ⟨rfl, rfl⟩
            go_wp2_with fail
            go_roundg (n - (i + 1))
            case rel => exact ⟨i + 1, by omega, rfl, by go_num, ⟨by rw [mixRow_keep (by rw [HHO.out]; rfl)]; exact HM2.out.row, HM2.out.box, HM2.out.fr⟩, HF2.out⟩
            case measure => have := HD2.out; omega
        · obtain rfl : i = n := by omega
          clear hm2 hF2
          go_wp2_with fail
          go_roundg (8 - (h + 1))
          case rel => exact ⟨h + 1, by omega, rfl, by go_num, ⟨by rw [← mixRow_end]; exact HM2.out.row, HM2.out.box, HM2.out.fr⟩⟩
          case measure => have := HD.out; omega
    · obtain rfl : h = 8 := by omega
      clear hm b0 b1 bl
      go_wp2_with fail
      go_ret
      have e : mixRow f n 8 0 = heldL f := by rw [← HN.out]; exact mixRow_done f
      refine ⟨_, n, n, rfl, by rw [natsI_len, heldL_len, HN.out], fun _ => ⟨w.heap.size + 1, 0, rfl, HMO.out.row.blk.lt, fun k x hx => ?_⟩, Fr.to_none HMO.out.fr⟩
      rw [Nat.zero_add]
      have hr := HMO.out.row
      rw [e] at hr
      refine hr.blk.cell ?_
      unfold rowOf ints
      simp [hx]

end Go.Proofs.YthpkhcompkfcaaaDoor
