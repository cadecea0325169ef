/-
  The reference's Line.
-/
import Derived.Test.YtepbnneggpcbcaaGreatDoorRefCut
import Derived.Deep.RegionHeld3
import Derived.Deep.DeepCutAuto
namespace Go.Proofs.YtepbnneggpcbcaaGreatDoor
open Go.RowKit

def pre (o : Nat) (f : Nat → Int) (k : Nat) : Bs := names.getD o [] ++ ((List.range k).filter fun j => ak o j != 0).flatMap fun j => 32 :: wrOpd (ak o j) (f j)

theorem glue_flat (c : UInt8) (x : Bs) (l : List Bs) : glue c (x :: l) = x ++ l.flatMap (c :: ·) := by
  induction l generalizing x with
  | nil => simp [glue]
  | cons y r ih => rw [glue_cons, ih]; simp

theorem txt_pre (i : Ins) : txt i = pre i.op.toNat i.fld 4 := by
  unfold txt wordsOf pre flds
  rw [glue_flat, List.flatMap_map]

theorem pre_no {o k : Nat} (f : Nat → Int) (h : ak o k = 0) : pre o f (k + 1) = pre o f k := by
  unfold pre
  rw [List.range_succ, List.filter_append]
  simp [h]

theorem pre_yes {o k : Nat} (f : Nat → Int) (h : ak o k ≠ 0) : pre o f (k + 1) = pre o f k ++ [32] ++ mk (ak o k) ++ Lib.itoa (f k) := by
  unfold pre
  rw [List.range_succ, List.filter_append]
  simp [h, wrOpd]

def NmsPost (w : World) (o : Nat) (nm : Bs) (e : Ending) (w' : World) : Prop :=
  e = .returned (.slice (some ⟨w.heap.size, 0, none⟩) 17 17) ∧ w.heap.size < w'.heap.size ∧ w'.cell? ⟨w.heap.size, o, none⟩ = some (.string (bs nm)) ∧ Fr (fun _ => False) w w'

theorem names_at (o : Nat) (ho : o < 17) (w : World) : Calls Tryz.prog 36 #[] w (NmsPost w o (names.getD o [])) := by
  refine (names_any w).mono ?_
  rintro e w' ⟨rfl, rfl⟩
  refine ⟨rfl, by simp, ?_, Fr.alloc _ _ _⟩
  refine (Blk.new w (strs names).toArray 9).cell ?_
  unfold strs
  rw [List.getElem?_toArray, List.getElem?_map, List.getD_eq_getElem?_getD, List.getElem?_eq_getElem (show o < names.length from ho)]
  rfl

theorem one_byte (S : ByteArray) (k : Nat) (h : k < S.size) : S.extract k (k + 1) = bs [S[k]] := by
  obtain ⟨l, rfl⟩ := bs_of S
  rw [bs_size] at h
  have h3 : (bs l)[k]'(by rw [bs_size]; exact h) = l[k] := rfl
  rw [h3, bs_extract, List.take_succ_eq_append_getElem h, List.drop_append_of_le_length (by rw [List.length_take]; omega), List.drop_of_length_le (by rw [List.length_take]; omega), List.nil_append]

def RlRel (o : Nat) (f : Nat → Int) (W : World) (d : Nat) (s3 s6 : Value) (wr : World) : Prop :=
  ∃ k : Nat, k ≤ 4 ∧ d = 4 - k ∧ s3 = .string (bs (pre o f k)) ∧ s6 = .int .i64 k ∧ Fr (fun _ => False) W wr

set_option maxRecDepth 100000 in
set_option maxHeartbeats 4000000 in
theorem rline_in (o : Nat) (a b c n : Int) (ho : o < 17) (f : Nat → Int) (hf : f = fun k => [a, b, c, n].getD k 0) (w : World) (hb : ∀ k, k < 4 → -4294967296 < f k ∧ f k < 4294967296 ∧ (ak o k ≠ 4 → 0 ≤ f k)) (hlen : ∀ k, k ≤ 4 → (pre o f k).length ≤ 100) :
    Calls Tryz.prog 19 #[.agg #[.int .i64 (o : Int), .int .i64 a, .int .i64 b, .int .i64 c, .int .i64 n]] w (NumPost w (pre o f 4)) := by
  have z0 : (0 : Int) ≤ (o : Int) := by omega
  have z1 : (o : Int) < 17 := by omega
  have hbx := Blk.new w #[.int .i64 (o : Int), .int .i64 a, .int .i64 b, .int .i64 c, .int .i64 n] 35
  have hA := Fr.alloc (fun _ => False) w (.cells #[.int .i64 (o : Int), .int .i64 a, .int .i64 b, .int .i64 c, .int .i64 n] 35)
  have HFM := hid (forms_any (o : Int) z0 z1)
  rw [show ((o : Int)).toNat = o by omega] at HFM
  have HBD := hid hb
  have HLN := hid hlen
  have HFF := hid hf
  obtain ⟨S, hS⟩ : ∃ S, bs (fm o) = S := ⟨_, rfl⟩
  have hS4 : S.size = 4 := by rw [← hS, bs_size]; exact fm_len o ho
  have hSK : ∀ k (h : k < S.size), S[k] = lt (ak o k) := by
    intro k h
    subst hS
    have h2 := fm_at o ho k (by omega)
    have h3 : (bs (fm o))[k] = (fm o)[k]'(by rw [bs_size] at h; exact h) := rfl
    rw [h3]
    rw [List.getElem?_eq_getElem (by rw [bs_size] at h; exact h)] at h2
    exact Option.some.inj h2
  rw [hS] at HFM
  have HSK := hid hSK
  have HSS := hid hS
  clear hb hlen hf hSK hS
  have hnms := names_at o ho
  obtain ⟨nm, hnm⟩ : ∃ nm, names.getD o [] = nm := ⟨_, rfl⟩
  rw [hnm] at hnms
  have HNMS := hid hnms
  have HNM := hid hnm
  clear hnms hnm
  go_enter Tryz.func19, Tryz.ntmps19
  go_upto_region 1 with fail
  go_cut [3] (fun u wx => u = .string (bs nm) ∧ Fr (fun _ => False) (w.alloc (.cells #[.int .i64 (o : Int), .int .i64 a, .int .i64 b, .int .i64 c, .int .i64 n] 35)) wx)
  case first =>
    have c00 := hbx.cell (i := 0) rfl
    have l00 := hbx.lt
    go_region_with (first
      | (go_at_call 36; refine (HNMS.out _).mono ?_; rintro e w2 ⟨rfl, hl2, cn, hF2⟩; have cn2 : w2.cell? ⟨w.heap.size + 1, o, none⟩ = some (.string (bs nm)) := (by simpa using cn); have l2 : w.heap.size + 1 < w2.heap.size := (by simpa using hl2); clear cn hl2; have c0 := (hbx.drew.keep hF2 (fun h => h)).cell (i := 0) rfl; have l0 := (hbx.drew.keep hF2 (fun h => h)).lt))
    all_goals
      go_wp2_with fail
      go_meet
      exact ⟨rfl, (Fr.drew _ _).trans hF2⟩
  case rest =>
    obtain ⟨rfl, hF2⟩ := hcut
    have c0 := (hbx.keep hF2 (fun h => h)).cell (i := 0) rfl
    have c1 := (hbx.keep hF2 (fun h => h)).cell (i := 1) rfl
    have c2 := (hbx.keep hF2 (fun h => h)).cell (i := 2) rfl
    have c3 := (hbx.keep hF2 (fun h => h)).cell (i := 3) rfl
    have c4 := (hbx.keep hF2 (fun h => h)).cell (i := 4) rfl
    have l0 := (hbx.keep hF2 (fun h => h)).lt
    go_wp2_with fail
    refine (HFM.out wc).mono ?_
    rintro e w3 ⟨rfl, rfl⟩
    have hFW := (hA.trans hF2).trans (Fr.alloc _ wc (.cells #[.int .i64 a, .int .i64 b, .int .i64 c, .int .i64 n] 66))
    have hb4 := Blk.new wc #[.int .i64 a, .int .i64 b, .int .i64 c, .int .i64 n] 66
    have HFW := hid hFW
    have HB4 := hid hb4
    clear hFW hb4
    go_wp2_with fail
    go_loopg [3, 6] 4 (fun d s3 s6 wr => RlRel o f (wc.alloc (.cells #[.int .i64 a, .int .i64 b, .int .i64 c, .int .i64 n] 66)) d s3 s6 wr)
    case atStart => exact ⟨0, by omega, rfl, by rw [show pre o f 0 = nm by unfold pre; rw [HNM.out]; simp], rfl, Fr.refl _ _⟩
    case round =>
      obtain ⟨k, hk, hd, rfl, rfl, hF⟩ := hrel
      have HD := hid hd
      clear hd
      by_cases hlt : k < 4
      · have hks : k < S.size := by omega
        have hv := HSK.out k hks
        have cb : wr.cell? ⟨wc.heap.size, k, none⟩ = some (.int .i64 (f k)) := (HB4.out.keep hF (fun h => h)).cell (by
          rw [HFF.out]
          have : k = 0 ∨ k = 1 ∨ k = 2 ∨ k = 3 := by omega
          rcases this with rfl | rfl | rfl | rfl <;> rfl)
        have lb : wc.heap.size < wr.heap.size := (HB4.out.keep hF (fun h => h)).lt
        obtain ⟨hb0, hb1, hb2⟩ := HBD.out k hlt
        have hp1 := HLN.out k hk
        have hp2 := HLN.out (k + 1) (by omega)
        have zk0 : (0 : Int) ≤ (k : Int) := by omega
        have zk1 : (k : Int) < 4 := by omega
        obtain ⟨x, hx⟩ : ∃ x, f k = x := ⟨_, rfl⟩
        by_cases hA0 : ak o k = 0
        · have hpre := pre_no f hA0
          have t1 : S[k].toNat = 32 := by rw [hv, hA0]; rfl
          have HP := hid hpre
          clear hv hpre
          go_wp2_with fail
          go_roundg (4 - (k + 1))
          case rel => exact ⟨k + 1, by omega, rfl, by rw [HP.out], by go_num, hF⟩
          case measure => have := HD.out; omega
        · have hpre := pre_yes f hA0
          rw [hx] at hpre cb hb0 hb1 hb2
          have q5 : ∀ W, (Op.stringOp .add (bs (pre o f k)) ⟨#[32]⟩).run Tryz.prog W = .ok (.string (bs (pre o f k ++ [32]))) W := by
            rw [← bs_add]
            exact add_ok (bs (pre o f k)) ⟨#[32]⟩ (by rw [bs_size]; omega) (by decide)
          by_cases hA4 : ak o k = 4
          · have t1 : S[k].toNat = 110 := by rw [hv, hA4]; rfl
            rw [hA4, show mk 4 = [] from rfl, List.append_nil] at hpre
            have q6 := add_ok (bs (pre o f k ++ [32])) (bs (Lib.itoa x)) (by rw [bs_size, List.length_append]; simp; omega) (by rw [bs_size]; rw [hpre, List.length_append] at hp2; omega)
            rw [bs_add, ← hpre] at q6
            have HN := hid (number_ref x (by omega) (by omega))
            clear hv hpre
            go_wp2_with fail
            refine (HN.out _).mono ?_
            rintro e w4 ⟨rfl, hF4⟩
            go_wp2_with fail
            go_roundg (4 - (k + 1))
            case rel => exact ⟨k + 1, by omega, rfl, rfl, by go_num, hF.trans hF4⟩
            case measure => have := HD.out; omega
          · obtain ⟨kf1, _⟩ := kinds_fit o ho k hlt
            obtain ⟨m1, m2, m3⟩ := lt_mk (ak o k) (by omega) (by omega)
            have hx0 := hb2 hA4
            obtain ⟨y, rfl⟩ : ∃ y : Nat, x = (y : Int) := ⟨x.toNat, by omega⟩
            rw [m1, itoa_nat] at hpre
            have hE : S.extract k (k + 1) = bs [lt (ak o k)] := by rw [← hv]; exact one_byte S k hks
            have n1 : S[k].toNat ≠ 110 := fun h => m3 (UInt8.toNat_inj.1 (by rw [← hv, h]; rfl))
            have n2 : S[k].toNat ≠ 32 := fun h => m2 (UInt8.toNat_inj.1 (by rw [← hv, h]; rfl))
            have t1 : ((S[k].toNat : Int) == 110) = false := beq_eq_false_iff_ne.2 (by omega)
            have t2 : ((S[k].toNat : Int) != 32) = true := by simp; omega
            have t3 : (S[k].toNat == 110) = false := beq_eq_false_iff_ne.2 n1
            have t4 : (S[k].toNat != 32) = true := by simpa using n2
            have z9 : (k : Int) + 1 ≤ (S.size : Int) := by omega
            have z10 : (k : Int) ≤ (k : Int) + 1 := by omega
            have z13 : (k : Int) + 1 ≤ 4 := by omega
            have z14 : (k : Int) ≤ 4 := by omega
            have z15 : (k : Int) ≤ (S.size : Int) := by omega
            have z11 : ((k : Int) + 1).toNat = k + 1 := by omega
            have z12 : (0 : Int) ≤ (k : Int) + 1 := by omega
            have hl1 : (pre o f k ++ [32] ++ [lt (ak o k)]).length ≤ 200 := by simp only [List.length_append, List.length_cons, List.length_nil]; omega
            have q6 : ∀ W, (Op.stringOp .add (bs (pre o f k ++ [32])) (S.extract k (k + 1))).run Tryz.prog W = .ok (.string (bs (pre o f k ++ [32] ++ [lt (ak o k)]))) W := by
              rw [hE, ← bs_add]
              exact add_ok _ _ (by rw [bs_add, bs_size, List.length_append]; simp; omega) (by rw [bs_size]; simp)
            have q7 : ∀ W, (Op.stringOp .add (bs (pre o f k ++ [32] ++ [lt (ak o k)])) (bs (Lib.decDigits y))).run Tryz.prog W = .ok (.string (bs (pre o f (k + 1)))) W := by
              rw [hpre, ← bs_add _ (Lib.decDigits y)]
              exact add_ok _ _ (by rw [bs_size]; omega) (by rw [bs_size]; rw [hpre, List.length_append] at hp2; omega)
            obtain ⟨y0, hy0⟩ : ∃ y0, bs (pre o f k) = y0 := ⟨_, rfl⟩
            obtain ⟨y1, hy1⟩ : ∃ y1, bs (pre o f k ++ [32]) = y1 := ⟨_, rfl⟩
            obtain ⟨y2, hy2⟩ : ∃ y2, bs (pre o f k ++ [32] ++ [lt (ak o k)]) = y2 := ⟨_, rfl⟩
            obtain ⟨y3, hy3⟩ : ∃ y3, bs (pre o f (k + 1)) = y3 := ⟨_, rfl⟩
            obtain ⟨y4, hy4⟩ : ∃ y4, bs (Lib.decDigits y) = y4 := ⟨_, rfl⟩
            have HY3 := hid hy3
            have hNN := num_any y (by omega)
            unfold NumPost at hNN
            rw [hy4] at hNN q7
            rw [hy3, hy2] at q7
            rw [hy2, hy1] at q6
            rw [hy1, hy0] at q5
            rw [hy0]
            have HN := hid hNN
            clear hy0 hy1 hy2 hy3 hy4 hNN
            have z7 : IntKind.i64.wrap ((k : Int) + 1) = (k : Int) + 1 := wrap_small _ (by omega) (by omega)
            have z8 : wrap64 ((k : Int) + 1) = (k : Int) + 1 := by unfold wrap64; omega
            have HC := hid (fun W (hW : Fr (fun _ => False) wr W) => (cell_keep hW (p := ⟨wc.heap.size, k, none⟩) lb (fun h => h)).trans cb)
            clear hv hpre hE m1 m2 m3 n1 n2
            go_wp2_with fail
            go_region_held3 (fun W => W.cell? ⟨wc.heap.size, k, none⟩ = some (.int .i64 (y : Int)))
              (first | exact HC.out _ (Fr.refl _ _) | exact HC.out _ (Fr.drew _ _) | exact HC.out _ ((Fr.drew _ _).trans hF4))
              (first
                | (go_at_call 18; refine (HN.out _).mono ?_; rintro e w4 ⟨rfl, hF4⟩))
            clear z7 z8
            go_wp2_with fail
            go_roundg (4 - (k + 1))
            case rel => exact ⟨k + 1, by omega, rfl, by rw [HY3.out], by go_num, hF.trans ((Fr.drew _ _).trans hF4)⟩
            case measure => have := HD.out; omega
      · obtain rfl : k = 4 := by omega
        go_wp2_with fail
        go_ret
        exact ⟨rfl, HFW.out.trans hF⟩

theorem pre_len (i : Ins) (h : chk i = 0) (k : Nat) (hk : k ≤ 4) : (pre i.op.toNat i.fld k).length ≤ 100 := by
  have key : ∀ d, k + d ≤ 4 → (pre i.op.toNat i.fld k).length ≤ (pre i.op.toNat i.fld (k + d)).length := by
    intro d
    induction d with
    | zero => intro _; exact Nat.le_refl _
    | succ d ih =>
      intro hd
      refine Nat.le_trans (ih (by omega)) ?_
      by_cases h0 : ak i.op.toNat (k + d) = 0
      · rw [← Nat.add_assoc, pre_no _ h0]; exact Nat.le_refl _
      · rw [← Nat.add_assoc, pre_yes _ h0, List.length_append, List.length_append, List.length_append]; omega
  have h4 := key (4 - k) (by omega)
  rw [show k + (4 - k) = 4 by omega, ← txt_pre] at h4
  have := txt_len i h
  omega

/-- The document's text of an instruction. -/
theorem rline_any (i : Ins) (h : chk i = 0) (w : World) : Calls Tryz.prog 19 #[i.val] w (NumPost w (txt i)) := by
  have hp := pre_len i h
  obtain ⟨ho, hop, hb⟩ := chk_zero h
  have hf : ∀ k, k < 4 → -4294967296 < i.fld k ∧ i.fld k < 4294967296 ∧ (ak i.op.toNat k ≠ 4 → 0 ≤ i.fld k) := by
    intro k hk
    obtain ⟨_, _, c3, _, _, _, c7, c8⟩ := kinds_fit _ ho k hk
    have h1 := hb k hk
    simp only [bad, Bool.or_eq_false_iff, decide_eq_false_iff_not] at h1
    exact ⟨by omega, by omega, fun h4 => by have := c3 h4; omega⟩
  have := rline_in i.op.toNat i.a i.b i.c i.n ho i.fld rfl w hf hp
  rw [hop, ← txt_pre] at this
  exact this

end Go.Proofs.YtepbnneggpcbcaaGreatDoor
