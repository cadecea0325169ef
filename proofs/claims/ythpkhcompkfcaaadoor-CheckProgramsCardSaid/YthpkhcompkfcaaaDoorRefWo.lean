/-
  The document's search, handle by handle.
-/
import Derived.Test.YthpkhcompkfcaaaDoorRefBhd
import Derived.Test.YthpkhcompkfcaaaDoorBools
import Derived.Deep.AppendLies
namespace Go.Proofs.YthpkhcompkfcaaaDoor
open Go.RowKit Go.Shelf
set_option linter.unusedVariables false

def BooPost (w : World) (L : List Bool) (e : Ending) (w' : World) : Prop := ∃ A n c, e = .returned (.slice A n c) ∧ L.length = n ∧ Boos w' w'.heap.size A L ∧ (∀ b, ownB A b → w.heap.size ≤ b) ∧ Fr (fun _ => False) w w'

theorem Tryd.infob : (Tryd.prog.info? 4).map (fun i => (i.zero, i.size, i.bytes)) = some (some (.bool false), 1, 1) := by kernel_rfl

theorem bools_made (n : Nat) : madeCells #[Value.bool false] n = (truths (List.replicate n false)).toArray := by
  unfold madeCells truths
  apply Array.ext'
  simp [Array.range, List.map_replicate]
  apply List.ext_getElem
  · simp
  · intro i h1 h2
    simp [Nat.mod_one]

theorem truths_set (l : List Bool) (k : Nat) (x : Bool) : ((truths l).toArray).setIfInBounds k (.bool x) = (truths (l.set k x)).toArray := by
  apply Array.ext'
  simp [truths, List.map_set]

theorem truths_at {l : List Bool} {k : Nat} {x : Bool} (h : l[k]? = some x) : ((truths l).toArray)[k]? = some (.bool x) := by simp [truths, h]

/-- What lies in memory. -/
structure WoM (w : World) (go : Nat) (O : List Bool) (T : List Nat) (AT : Option Addr) (cap : Nat) (wr : World) : Prop where
  row : TBlk wr go (truths O).toArray 4
  own : OwnN wr w.heap.size AT T.length cap (natsI T)
  fr : Fr (fun k => w.heap.size ≤ k) w wr

theorem WoM.same {w : World} {go : Nat} {O : List Bool} {T : List Nat} {AT : Option Addr} {cap : Nat} {wr wx : World} (h : WoM w go O T AT cap wr) (F : Fr (fun _ => False) wr wx) : WoM w go O T AT cap wx :=
  ⟨h.row.keep F (fun h => h), OwnR.keep h.own F (fun _ _ h => h), h.fr.trans (F.mono (fun _ h => h.elim))⟩

/-- A store, then an append. -/
theorem WoM.grow {w : World} {go : Nat} {O : List Bool} {T : List Nat} {AT : Option Addr} {cap tn y g2 c2 : Nat} {wr w7 : World} (h : WoM w go O T AT cap wr) (htn : T.length = tn) (hgo : w.heap.size ≤ go)
    (ho : OwnR w7 w.heap.size 3 1 (some ⟨g2, 0, none⟩) (tn + 1) c2 (ints (natsI T) ++ ints [(y : Int)])) (hF : Fr (ownB AT) ((wr.setCell ⟨go, y, none⟩ (.bool true)).alloc (.cells #[.int .i64 (y : Int)] 3)) w7) : WoM w go (O.set y true) (T ++ [y]) (some ⟨g2, 0, none⟩) c2 w7 := by
  obtain ⟨w5, hw5⟩ : ∃ w5, w5 = wr.setCell ⟨go, y, none⟩ (.bool true) := ⟨_, rfl⟩
  rw [← hw5] at hF
  have hF5 : Fr (fun k => k = go) wr w5 := by rw [hw5]; exact Fr.setCell _ _ _ rfl
  have hr5 : TBlk w5 go (truths (O.set y true)).toArray 4 := by rw [hw5, ← truths_set]; exact h.row.set y _
  have hne := OwnR.ne h.own h.row (by decide)
  have hF7 : Fr (ownB AT) w5 w7 := (Fr.alloc _ _ _).trans hF
  refine ⟨hr5.keep hF7 hne, ?_, (h.fr.trans (hF5.mono fun k hk => by omega)).trans (hF7.mono fun k hk => (OwnR.lt h.own k hk).1)⟩
  unfold OwnN
  rw [List.length_append, htn]
  exact OwnR.eq ho (by rw [natsI_app]; simp [ints, natsI])

theorem own_of' {A : Option Addr} {n c g : Nat} (h : (Value.slice A n c).ownBlock = some g) : ownB A g := by
  rcases A with _ | a
  · simp [Value.ownBlock] at h
  · simp only [Value.ownBlock, Option.some.injEq] at h
    exact ⟨a, rfl, h⟩

def WoRel (w : World) (l : List Ins) (h n go : Nat) (d : Nat) (td : Value) (wr : World) : Prop :=
  ∃ O T AT cap, d = 2 * offs O + T.length ∧ td = .slice AT T.length cap ∧ WoM w go O T AT cap wr ∧ WInv l h (fun i => i ∈ T) O ∧ (∀ t ∈ T, Free l h t) ∧ 2 * offs O + T.length ≤ 3000

def WnRel (w : World) (l : List Ins) (h n go i d0 lo hi : Nat) (A3 : Option Addr) (m c3 : Nat) (d : Nat) (td kv : Value) (wr : World) : Prop :=
  ∃ k O T AT cap, k ≤ m ∧ d = m - k ∧ kv = .int .i64 (k : Nat) ∧ td = .slice AT T.length cap ∧ WoM w go O T AT cap wr ∧ WIn l h (fun i => i ∈ T) i ((bhd l i).take k) O ∧ (∀ t ∈ T, Free l h t) ∧ 2 * offs O + T.length ≤ d0 ∧
    OwnN wr lo A3 m c3 (natsI (bhd l i)) ∧ hi ≤ wr.heap.size ∧ (∀ j, ownB AT j → j < lo ∨ hi ≤ j)

theorem Tryd.ownB_lt {w : World} {B : Nat} {e : TypeId} {k : Nat} {A : Option Addr} {n cap : Nat} {xs : List Value} (h : OwnR w B e k A n cap xs) : ∀ j, ownB A j → j < w.heap.size := fun j hj => (OwnR.lt h j hj).2

theorem wo_start {w w1 : World} {l : List Ins} {h n : Nat} (hl : l.length = n) (h1 : 1 ≤ n) (hn : n ≤ 1000) (hF : Fr (fun _ => False) w w1) (hr : TBlk w1 w.heap.size (truths (List.replicate n false)).toArray 4) :
    WoRel w l h n w.heap.size (2 * offs ((List.replicate n false).set 0 true) + 1) (.slice (some ⟨w1.heap.size, 0, none⟩) 1 1) ((w1.setCell ⟨w.heap.size, 0, none⟩ (.bool true)).alloc (.cells #[.int .i64 0] 3)) := by
  obtain ⟨w2, hw2⟩ : ∃ w2, w2 = w1.setCell ⟨w.heap.size, 0, none⟩ (.bool true) := ⟨_, rfl⟩
  have hz2 : w2.heap.size = w1.heap.size := by rw [hw2]; simp [World.setCell]
  have hF2 : Fr (fun k => k = w.heap.size) w1 w2 := by rw [hw2]; exact Fr.setCell _ _ _ rfl
  have hr2 : TBlk w2 w.heap.size (truths ((List.replicate n false).set 0 true)).toArray 4 := by rw [hw2, ← truths_set]; exact hr.set 0 _
  rw [← hw2]
  obtain ⟨w3, hw3⟩ : ∃ w3, w3 = w2.alloc (.cells #[.int .i64 0] 3) := ⟨_, rfl⟩
  have hF3 : Fr (fun _ => False) w2 w3 := by rw [hw3]; exact Fr.alloc _ _ _
  have hb3 : TBlk w3 w1.heap.size #[.int .i64 0] 3 := by rw [hw3]; exact (TBlk.new _ _ _).at hz2
  rw [← hw3]
  have hle := offs_le ((List.replicate n false).set 0 true)
  rw [List.length_set, List.length_replicate] at hle
  refine ⟨(List.replicate n false).set 0 true, [0], some ⟨w1.heap.size, 0, none⟩, 1, rfl, rfl, ⟨hr2.keep hF3 (fun h => h), ?_, (hF.mono (fun _ h => h.elim)).trans ((hF2.mono fun k hk => by omega).trans (hF3.mono (fun _ h => h.elim)))⟩, ?_, fun t ht => by simp at ht; subst ht; exact .start (by omega), by simp; omega⟩
  · exact ⟨rfl, .inr ⟨w1.heap.size, 1, #[.int .i64 0], rfl, hF.size, hb3, Nat.le_refl _, by unfold maxLen; omega, rfl, rfl⟩⟩
  · have h := WInv.begin_ l h
    rw [hl] at h
    exact ⟨h.len, h.start, h.snd, fun i x hS => h.cls i x (fun e => hS (by simp [e]))⟩

set_option maxRecDepth 100000 in
set_option maxHeartbeats 4000000 in
theorem rwithout_any (A : Option Addr) (n c h : Nat) (l : List Ins) (w : World) (hh : h < 8) (hl : l.length = n) (hn : n ≤ 1000) (hp : Cod w w.heap.size A l) :
    Calls Tryd.prog 27 #[.slice A n c, .int .i64 h] w (BooPost w (freeL l h)) := by
  have HL := hid hl
  have HP := hid hp
  clear hl hp
  obtain ⟨ib, hib, hzb⟩ := Option.map_eq_some_iff.1 Tryd.infob
  simp only [Prod.mk.injEq] at hzb
  obtain ⟨hzb0, hzb1, hzb2⟩ := hzb
  have m0 := run_make (P := Tryd.prog) w 42 4 ib (.bool false) Tryd.underlying42 hib hzb0 .i64 .i64 0 0 (by omega) (by omega) (by rw [hzb2]; omega) (by omega)
  rw [hzb1] at m0
  simp only [Int.toNat_zero, Nat.zero_mul] at m0
  have m1 := run_make (P := Tryd.prog) w 42 4 ib (.bool false) Tryd.underlying42 hib hzb0 .i64 .i64 n n (by omega) (by omega) (by rw [hzb2]; omega) (by omega)
  rw [hzb1, Nat.mul_one, show (Value.bool false).cells = #[.bool false] from rfl, bools_made] at m1
  simp only [Int.toNat_natCast] at m1
  obtain ⟨i0, hi, hz⟩ := Option.map_eq_some_iff.1 Tryd.infon
  simp only [Prod.mk.injEq] at hz
  obtain ⟨hz0, hz1, hz2⟩ := hz
  have HI := hid hi
  have HZ0 := hid hz0
  have HZ1 := hid hz1
  have HZ2 := hid hz2
  clear hi hz0 hz1 hz2 hib hzb0 hzb1 hzb2
  rcases Nat.eq_zero_or_pos n with h0 | h0
  · subst h0
    clear m1
    go_enter Tryd.func27, Tryd.ntmps27
    go_wp2_with fail
    go_ret
    exact ⟨_, _, _, rfl, by rw [freeL_len, HL.out], fun hh => by rw [freeL_len, HL.out] at hh; omega, fun b h => by obtain ⟨a, ha, rfl⟩ := h; cases ha; exact Nat.le_refl _, Fr.alloc _ _ _⟩
  · clear m0
    obtain ⟨w1, hw1⟩ : ∃ w1, w1 = w.alloc (.cells (truths (List.replicate n false)).toArray 4) := ⟨_, rfl⟩
    have hF1 : Fr (fun _ => False) w w1 := by rw [hw1]; exact Fr.alloc _ _ _
    have hr1 : TBlk w1 w.heap.size (truths (List.replicate n false)).toArray 4 := by rw [hw1]; exact TBlk.new _ _ _
    have HF1 := hid hF1
    have HR1 := hid hr1
    have z0 := hr1.blk.frozen 0
    have r0 : w1.cell? ⟨w.heap.size, 0, none⟩ = some (.bool false) := hr1.blk.cell (truths_at (by rw [List.getElem?_replicate, if_pos h0]))
    have rl := hr1.blk.lt
    have n0 : ((n : Int) == 0) = false := by rw [beq_eq_false_iff_ne]; omega
    rw [← hw1] at m1
    clear hF1 hr1 hw1
    go_enter Tryd.func27, Tryd.ntmps27
    go_wp2_with fail
    go_loopg [6] (2 * offs ((List.replicate n false).set 0 true) + 1) (fun d td wr => WoRel w l h n w.heap.size d td wr)
    case atStart => exact wo_start HL.out h0 hn HF1.out HR1.out
    case round =>
      obtain ⟨wo, rfl⟩ : ∃ wo, wo = wr := ⟨_, rfl⟩
      obtain ⟨O, T, AT, cap, hd, rfl, hm, hI, hTn, hb⟩ := hrel
      have HD := hid hd
      have HM := hid hm
      have HIV := hid hI
      have HTN := hid hTn
      have HBD := hid hb
      obtain ⟨tn, htn⟩ : ∃ tn, T.length = tn := ⟨_, rfl⟩
      rw [htn] at hb ⊢
      have HTL := hid htn
      have ht3 : tn ≤ 3000 := by omega
      clear hd hI hTn hb htn z0 r0 rl
      rcases Nat.eq_zero_or_pos tn with ht | ht
      · subst ht
        obtain rfl : T = [] := List.eq_nil_of_length_eq_zero HTL.out
        clear hm
        go_wp2_with fail
        go_ret
        have hfin := WInv.fin (l := l) (h := h) (O := O) ⟨HIV.out.len, HIV.out.start, HIV.out.snd, fun i x hS => HIV.out.cls i x (fun e => by simp at e)⟩
        refine ⟨_, _, _, rfl, by rw [freeL_len, HL.out], fun _ => ⟨w.heap.size, 0, rfl, HM.out.row.blk.lt, fun k x hx => ?_⟩, fun b h => by obtain ⟨a, ha, rfl⟩ := h; cases ha; exact Nat.le_refl _, Fr.to_none HM.out.fr⟩
        rw [Nat.zero_add]
        rw [← hfin] at hx
        exact HM.out.row.blk.cell (truths_at hx)
      · obtain ⟨q, rfl⟩ : ∃ q, tn = q + 1 := ⟨tn - 1, by omega⟩
        obtain ⟨T0, i, hT⟩ : ∃ T0 i, T = T0 ++ [i] := ⟨_, _, (List.dropLast_concat_getLast (l := T) (by intro h; have := HTL.out; rw [h] at this; simp at this)).symm⟩
        subst hT
        have hT0 : T0.length = q := by have := HTL.out; simp at this; exact this
        have hfree : Free l h i := HTN.out i (by simp)
        have hin : i < n := by have := hfree.lt; rw [HL.out] at this; exact this
        have HFREE := hid hfree
        clear hfree
        obtain ⟨gT, rfl, hgT1, hgT2, _, hcT⟩ := OwnR.cell hm.own (by simp)
        have hcap : q + 1 ≤ cap := by have := OwnR.cap_le hm.own (by simp); simp [hT0] at this; exact this
        have c0 : wo.cell? ⟨gT, q, none⟩ = some (.int .i64 (i : Int)) := hcT q _ (by simp [ints, natsI, hT0])
        obtain ⟨⟨op, ia, ib, ic, im⟩, hx⟩ : ∃ x, l[i]? = some x := ⟨_, List.getElem?_eq_getElem (by rw [HL.out]; exact hin)⟩
        have hcodo : Cod wo w.heap.size A l := HP.out.keep hm.fr (Nat.le_refl _) (fun k h1 h2 => by omega)
        obtain ⟨b, o, rfl, hb, hcell⟩ := hcodo (by rw [HL.out]; omega)
        obtain ⟨s0, s1, s2, s3, s4⟩ := hcell i _ hx
        simp only at s0 s1 s2 s3 s4
        have hbl : b < wo.heap.size := Nat.lt_of_lt_of_le hb hm.fr.size
        have HX := hid hx
        have HT0 := hid hT0
        have hsh : OwnN wo w.heap.size (some ⟨gT, 0, none⟩) T0.length cap (natsI T0) := by
          have h := OwnR.short (m := q) hm.own (by simp [hT0]) (by simp)
          unfold OwnN
          rw [hT0]
          exact OwnR.eq h (by simp [ints, natsI, hT0])
        have HM0 := hid (show WoM w w.heap.size O T0 (some ⟨gT, 0, none⟩) cap wo from ⟨hm.row, hsh, hm.fr⟩)
        have HCO := hid (hcodo.more hm.fr.size)
        have hq1 : ((q : Int) + 1 - 1) = q := by omega
        have v1 : ((q + 1 : Nat) : Int) = (q : Int) + 1 := by omega
        clear hm hT0 hx hcell hcT hsh hcodo s2 s3 s4
        by_cases hf : op = 8 ∧ ia = (h : Int)
        · obtain ⟨rfl, rfl⟩ := hf
          go_wp2_with fail
          go_roundg (2 * offs O + q)
          case rel => exact ⟨O, T0, _, cap, by rw [HT0.out], by rw [HT0.out], HM0.out, WInv.skip (at_ := i) ⟨HIV.out.len, HIV.out.start, HIV.out.snd, fun j x hS => HIV.out.cls j x (fun e => hS (by rw [List.mem_append] at e; rcases e with e | e; exact .inl e; simp at e; exact .inr e))⟩ HX.out ⟨rfl, rfl⟩, fun t ht => HTN.out t (by simp [ht]), by have := HBD.out; have := HT0.out; simp at *; omega⟩
          case measure => have := HD.out; have := HT0.out; simp at *; omega
        · have HNF := hid (show ¬ forks ⟨op, ia, ib, ic, im⟩ h from hf)
          have HIV0 := hid (show WInv l h (fun j => j ∈ T0 ∨ j = i) O from ⟨HIV.out.len, HIV.out.start, HIV.out.snd, fun j x hS => HIV.out.cls j x (fun e => hS (by rw [List.mem_append] at e; rcases e with e | e; exact .inl e; simp at e; exact .inr e))⟩)
          have hbl2 := bhd_len l i
          have hgTn : ¬ w.heap.size = gT := fun e => OwnR.ne HM.out.own HM.out.row (by decide) ⟨_, rfl, e.symm⟩
          have HGT := hid hgTn
          clear hgTn
          have hcase : (op == 8) = false ∨ ((op == 8) = true ∧ (ia == (h : Int)) = false) := by
            by_cases h8 : op = 8
            · exact .inr ⟨by simp [h8], beq_eq_false_iff_ne.2 (fun e => hf ⟨h8, e⟩)⟩
            · exact .inl (beq_eq_false_iff_ne.2 h8)
          clear hf
          rcases hcase with t8 | ⟨t8, t9⟩
          all_goals
            go_wp2_with fail
            refine (rbehind_any (some ⟨b, o, none⟩) n c i l _ wo HL.out hn HX.out HCO.out).mono ?_
            rintro e w3 ⟨A3, m, c3, rfl, hlen, hown3, hF3⟩
            rw [natsI_len] at hlen
            have hm2 : m ≤ 2 := by omega
            have HLEN := hid hlen
            have HO3 := hid hown3
            have HF3 := hid hF3
            have HM3 := hid (HM0.out.same hF3)
            clear hlen hown3 hF3 c0 s0 s1
            go_wp2_with fail
            go_loopg [6, 9] m (fun d td kv wr => WnRel w l h n w.heap.size i (2 * offs O + q) wo.heap.size w3.heap.size A3 m c3 d td kv wr)
            case atStart => exact ⟨0, O, T0, some ⟨gT, 0, none⟩, cap, by omega, by omega, rfl, by rw [HT0.out], HM3.out, ⟨HIV0.out, HFREE.out, fun j hj => by simp at hj⟩, fun t ht => HTN.out t (by simp [ht]), by rw [HT0.out]; exact Nat.le_refl _, HO3.out, Nat.le_refl _, fun j hj => .inl (OwnR.lt HM0.out.own j hj).2⟩
            case round =>
              obtain ⟨wp, rfl⟩ : ∃ wp, wp = wr := ⟨_, rfl⟩
              obtain ⟨k, O2, T2, AT2, cap2, hk, hd2, rfl, rfl, hm2', hI2, hT2, hb2, ho3, hhi, hsep⟩ := hrel
              have HD2 := hid hd2
              have HMM := hid hm2'
              have HI2 := hid hI2
              have HT2 := hid hT2
              have HB2 := hid hb2
              have HO32 := hid ho3
              have HSEP := hid hsep
              have HHI := hid hhi
              obtain ⟨t2, ht2⟩ : ∃ t2, T2.length = t2 := ⟨_, rfl⟩
              rw [ht2] at hb2 ⊢
              have HTL2 := hid ht2
              have hq3 : 2 * offs O + q ≤ 3000 := by have := HBD.out; have := HT0.out; simp at *; omega
              have ht23 : t2 ≤ 3000 := by omega
              clear hd2 hI2 hT2 ht2 hsep hb2 hq3
              by_cases hkm : k < m
              · obtain ⟨y, hy⟩ : ∃ y, (bhd l i)[k]? = some y := ⟨_, List.getElem?_eq_getElem (by rw [HLEN.out]; exact hkm)⟩
                have hyb : y ∈ bhd l i := List.mem_of_getElem? hy
                have hyn : y < n := by have := bhd_lt hyb; rw [HL.out] at this; exact this
                obtain ⟨g3, hA3, hg31, hg32, _, hc3⟩ := OwnR.cell ho3 (by omega)
                subst hA3
                have c3' := hc3 k (.int .i64 (y : Int)) (by simp [ints, natsI, hy])
                obtain ⟨oy, hoy⟩ : ∃ oy, O2[y]? = some oy := ⟨_, List.getElem?_eq_getElem (by rw [HI2.out.inv.len, HL.out]; exact hyn)⟩
                have r0 := hm2'.row.blk.cell (truths_at hoy)
                have rl := hm2'.row.blk.lt
                have z0 := hm2'.row.blk.frozen y
                have hg3n : ¬ g3 = w.heap.size := fun e => OwnR.ne ho3 hm2'.row (by decide) ⟨_, rfl, e⟩
                have HY := hid hy
                have HYB := hid hyb
                have HOY := hid hoy
                have v2 : (y : Int) < (n : Int) := by omega
                clear hm2' ho3 hc3 hy hyb hoy
                cases oy with
                | true =>
                  go_wp2_with fail
                  go_roundg (m - (k + 1))
                  case rel => exact ⟨k + 1, O2, T2, AT2, cap2, by omega, rfl, by go_num, by rw [HTL2.out], HMM.out, by rw [take_snoc' HY.out]; exact HI2.out.same HOY.out, HT2.out, HB2.out, HO32.out, HHI.out, HSEP.out⟩
                  case measure => have := HD2.out; omega
                | false =>
                  have hFs : Fr (fun j => j = w.heap.size) wp (wp.setCell ⟨w.heap.size, y, none⟩ (.bool true)) := Fr.setCell _ _ _ rfl
                  have hne2 := OwnR.ne HMM.out.own HMM.out.row (by decide)
                  have HOWN := hid (OwnR.same (OwnR.keep HMM.out.own hFs (fun j hj e => hne2 (e ▸ hj))) (Fr.alloc (fun _ => False) _ (.cells #[.int .i64 (y : Int)] 3)))
                  have s0 : (wp.setCell ⟨w.heap.size, y, none⟩ (.bool true)).cell? ⟨g3, k, none⟩ = some (.int .i64 (y : Int)) := (cell_keep hFs (p := ⟨g3, k, none⟩) hg32 hg3n).trans c3'
                  have HSZ := hid (show (wp.setCell ⟨w.heap.size, y, none⟩ (.bool true)).heap.size = wp.heap.size by simp [World.setCell])
                  have hsz : w.heap.size ≤ wp.heap.size := HMM.out.fr.size
                  rw [HTL2.out] at HOWN
                  have HNEWS := hid (news_int (wp.setCell ⟨w.heap.size, y, none⟩ (.bool true)) (y : Int) HSZ.out)
                  clear hFs hne2
                  go_wp2_with (at_builtin; (refine wpList_append_lies _ rfl _ _ 25 rfl w.heap.size 3 i0 (.int .i64 0) 1 8 Tryd.underlying25 HI.out HZ0.out HZ1.out HZ2.out rfl (by decide) (.slice AT2 t2 cap2) t2 _ rfl HOWN.out ⟨wp.heap.size, 0, none⟩ 1 1 (ints [(y : Int)]) rfl rfl HNEWS.out (ints_one _) (by omega) (by unfold maxLen; omega) (by omega) (by simp [World.setCell]; omega) (wp.heap.size + 1) (by simp [World.setCell]) ?_; intro g5 c5 w5 hown5 hgrow5 hat5 hlt5; have HO5 := hid hown5; have HG5 := hid hgrow5; have HAT5 := hid hat5; have HLT5 := hid hlt5; clear hown5 hgrow5 hat5 hlt5))
                  go_roundg (m - (k + 1))
                  case rel =>
                    have hgr := Fr.of_grown HG5.out
                    have hoffs := offs_set HOY.out
                    have hF75 : Fr (fun j => j = w.heap.size ∨ ownB AT2 j) wp w5 := ((Fr.setCell (S := fun j => j = w.heap.size ∨ ownB AT2 j) wp ⟨w.heap.size, y, none⟩ (.bool true) (.inl rfl)).trans (Fr.alloc _ _ _)).trans (hgr.mono fun j h => .inr h)
                    refine ⟨k + 1, O2.set y true, T2 ++ [y], some ⟨g5, 0, none⟩, c5, by omega, rfl, by go_num, by rw [List.length_append, HTL2.out]; rfl, HMM.out.grow HTL2.out (Nat.le_refl _) HO5.out hgr, ?_, fun t ht => ?_, ?_, ?_, ?_, ?_⟩
                    · rw [take_snoc' HY.out]
                      have h := HI2.out.set HX.out HNF.out HYB.out
                      exact ⟨⟨h.inv.len, h.inv.start, h.inv.snd, fun j x hS => h.inv.cls j x (fun e => hS (by rcases e with (e | e) | e; exact .inl (List.mem_append.2 (.inl e)); exact .inl (List.mem_append.2 (.inr (by simp [e]))); exact .inr e))⟩, h.free, h.part⟩
                    · rcases List.mem_append.1 ht with ht | ht
                      · exact HT2.out t ht
                      · simp at ht
                        subst ht
                        exact .go HFREE.out HX.out HNF.out HYB.out
                    · have := HB2.out
                      rw [List.length_append]
                      simp only [List.length_cons, List.length_nil]
                      omega
                    · refine OwnR.keep HO32.out hF75 (fun j hj e => ?_)
                      obtain ⟨a3, ha3, hb3⟩ := hj
                      cases ha3
                      simp only at hb3
                      subst hb3
                      rcases e with e | e
                      · exact hg3n e
                      · have := HSEP.out _ e
                        have h1 := HO3.out
                        have := (OwnR.lt h1 _ ⟨_, rfl, rfl⟩)
                        simp only at this
                        omega
                    · exact Nat.le_trans HHI.out hF75.size
                    · rintro j ⟨a5, ha5, rfl⟩
                      cases ha5
                      rcases HAT5.out with e | e
                      · exact HSEP.out _ (own_of' e)
                      · have := HHI.out
                        exact .inr (by show w3.heap.size ≤ g5; omega)
                  case measure => have := HD2.out; omega
              · obtain rfl : k = m := by omega
                clear hm2' ho3
                go_wp2_with fail
                go_roundg (2 * offs O2 + t2)
                case rel =>
                  have h := HI2.out
                  rw [List.take_of_length_le (by rw [HLEN.out]; exact Nat.le_refl _)] at h
                  refine ⟨O2, T2, AT2, cap2, by rw [HTL2.out], by rw [HTL2.out], HMM.out, h.done, HT2.out, ?_⟩
                  have := HB2.out
                  have := HBD.out
                  have := HT0.out
                  simp at *
                  omega
                case measure =>
                  have := HD.out
                  have := HB2.out
                  have := HT0.out
                  have := HTL2.out
                  simp at *
                  omega

end Go.Proofs.YthpkhcompkfcaaaDoor
