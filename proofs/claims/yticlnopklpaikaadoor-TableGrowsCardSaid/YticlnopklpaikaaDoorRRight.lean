/-
  Stage 7: what is wrong with a row: the document's answer.
-/
import Derived.Test.YticlnopklpaikaaDoorSite2
namespace Go.Proofs.YticlnopklpaikaaDoor
open Go.RowKit
set_option linter.unusedVariables false
set_option linter.unusedSimpArgs false

theorem binL_false {l : List UInt8} {j : Nat} {b : UInt8} (hb : l[j]? = some b) (h : b ≠ 48 ∧ b ≠ 49) : binL l = false := by
  unfold binL
  rw [List.all_eq_false]
  exact ⟨b, List.mem_of_getElem? hb, by simp [h.1, h.2]⟩
theorem binL_true {l : List UInt8} (h : ∀ (i : Nat) b, l[i]? = some b → b = 48 ∨ b = 49) : binL l = true := by
  unfold binL
  rw [List.all_eq_true]
  intro r hr
  obtain ⟨i, hi, rfl⟩ := List.getElem_of_mem hr
  have := h i _ (List.getElem?_eq_getElem hi)
  simpa using this

def BnRel (s : ByteArray) (d : Nat) (k : Value) : Prop := ∃ j : Nat, j ≤ s.size ∧ d = s.size + 1 - j ∧ k = .int .i64 j ∧ (∀ (i : Nat) b, i < j → s.data.toList[i]? = some b → b = 48 ∨ b = 49)

theorem byte_at (s : ByteArray) {j : Nat} (h : j < s.size) : s.data.toList[j]? = some s[j] := by
  rw [Array.getElem?_toList, Array.getElem?_eq_getElem h]
  rfl

set_option maxRecDepth 100000 in
set_option maxHeartbeats 1000000 in
theorem binary_any (s : ByteArray) (w : World) (hs : s.size ≤ 4000000) :
    Calls Tryd.prog 43 #[.string s] w fun e w' => e = .returned (.bool (binL s.data.toList)) ∧ w = w' := by
  go_enter Tryd.func43, Tryd.ntmps43
  go_wp2_with fail
  go_loopg [3] (s.size + 1) (fun d k wr => BnRel s d k ∧ w = wr)
  case atStart => exact ⟨⟨0, by omega, by omega, rfl, fun i b h => by omega⟩, rfl⟩
  case round =>
    obtain ⟨⟨j, hj, hd, rfl, hall⟩, rfl⟩ := hrel
    have HA := hid hall
    have HD := hid hd
    clear hall hd
    by_cases hlt : j < s.size
    · have HB := hid (byte_at s hlt)
      by_cases h0 : s[j] = 48
      · have t0 : ((s[j].toNat : Int) != 48) = false := by rw [h0]; rfl
        have H0 := hid h0
        clear h0
        go_wp2_with fail
        go_roundg (s.size + 1 - (j + 1))
        case rel => exact ⟨⟨j + 1, by omega, rfl, by go_num, fun i b hi hb => by
          rcases Nat.lt_or_ge i j with h | h
          · exact HA.out i b h hb
          · obtain rfl : i = j := by omega
            rw [HB.out] at hb
            injection hb with hb
            rw [← hb]
            exact .inl H0.out⟩, rfl⟩
        case measure => have := HD.out; omega
      · have t0 : ((s[j].toNat : Int) != 48) = true := by
          rw [bne_iff_ne]
          intro hh
          exact h0 (UInt8.toNat.inj (by simpa using (by omega : s[j].toNat = 48)))
        have H0 := hid h0
        clear h0
        by_cases h1 : s[j] = 49
        · have t1 : ((s[j].toNat : Int) != 49) = false := by rw [h1]; rfl
          have H1 := hid h1
          clear h1
          go_wp2_with fail
          go_roundg (s.size + 1 - (j + 1))
          case rel => exact ⟨⟨j + 1, by omega, rfl, by go_num, fun i b hi hb => by
            rcases Nat.lt_or_ge i j with h | h
            · exact HA.out i b h hb
            · obtain rfl : i = j := by omega
              rw [HB.out] at hb
              injection hb with hb
              rw [← hb]
              exact .inr H1.out⟩, rfl⟩
          case measure => have := HD.out; omega
        · have t1 : ((s[j].toNat : Int) != 49) = true := by
            rw [bne_iff_ne]
            intro hh
            exact h1 (UInt8.toNat.inj (by simpa using (by omega : s[j].toNat = 49)))
          have H1 := hid h1
          clear h1
          go_wp2_with fail
          go_ret
          exact ⟨ret_bool (binL_false HB.out ⟨H0.out, H1.out⟩).symm, rfl⟩
    · go_wp2_with fail
      go_ret
      exact ⟨ret_bool (binL_true fun i b hb => HA.out i b (by
        have := (List.getElem?_eq_some_iff.1 hb).1
        have h2 : s.data.toList.length = s.size := by simp
        omega) hb).symm, rfl⟩

theorem rightE_par {a : List Tw} {r : Tw} (h : parB a r.par = false) : rightE a r = 11 := by unfold rightE; rw [if_pos h]
theorem rightE_rng {a : List Tw} {r : Tw} (h : parB a r.par = true) (h2 : rngB a r = false) : rightE a r = 10 := by unfold rightE; rw [if_neg (by simp [h]), if_pos h2]
theorem rightE_bin {a : List Tw} {r : Tw} (h : parB a r.par = true) (h2 : rngB a r = true) (h3 : binB r = false) : rightE a r = 11 := by unfold rightE; rw [if_neg (by simp [h]), if_neg (by simp [h2]), if_pos h3]
theorem rightE_val {a : List Tw} {r : Tw} (h : parB a r.par = true) (h2 : rngB a r = true) (h3 : binB r = true) (h4 : (valB r && begB r) = false) : rightE a r = 19 := by
  unfold rightE
  rw [if_neg (by simp [h]), if_neg (by simp [h2]), if_neg (by simp [h3])]
  cases h5 : valB r
  · simp
  · rw [h5] at h4
    simp at h4
    simp [h4]
theorem rightE_kin {a : List Tw} {r : Tw} (h : parB a r.par = true) (h2 : rngB a r = true) (h3 : binB r = true) (h4 : (valB r && begB r) = true) : rightE a r = tol (!kinB a r) 19 := by
  simp only [Bool.and_eq_true] at h4
  unfold rightE tol
  rw [if_neg (by simp [h]), if_neg (by simp [h2]), if_neg (by simp [h3]), if_neg (by simp [h4]), if_neg (by simp [h4])]
  cases kinB a r <;> simp

theorem not_empty {cl : ByteArray} (h : 0 < cl.size) : cl.toList ≠ [] := fun hh => by
  rw [ByteArray.toList_eq] at hh
  have := congrArg List.length hh
  simp at this
  have h4 : cl.size = cl.data.size := rfl
  rw [h4, this] at h
  simp at h

def rowC (r : Tw) : Array Value := #[.int .i64 r.par, .int .i64 r.in_, .int .i64 r.fn, .int .i64 r.kind, .int .i64 r.v, .int .i64 r.st, .string r.cl]

def RgPost (l : List Tw) (i : Nat) (r : Tw) (w : World) (e : Ending) (w' : World) : Prop := e = .returned (.int .i64 (rightE (l.take i) r)) ∧ Fr (fun _ => False) w w'

set_option maxRecDepth 100000 in
set_option maxHeartbeats 8000000 in
theorem rright_any (A : Option Addr) (n c : Nat) (l : List Tw) (i : Nat) (r : Tw) (w : World) (hA : RdT w A l) (hl : l.length = n) (hn : n ≤ 4000000) (hr : l[i]? = some r) (hR : RightN l i) (hcl : r.cl.size ≤ 4000000) :
    Calls Tryd.prog 26 #[.slice A n c, .int .i64 (i : Int)] w (RgPost l i r w) := by
  have hin : i < n := by rw [← hl]; exact (List.getElem?_eq_some_iff.1 hr).1
  obtain ⟨g, og, rfl, hg, hc⟩ := hA.cell hr
  have q0 : w.cell? ⟨g, og + i * 7, none⟩ = some (.int .i64 r.par) := hc 0 _ rfl
  have q1 := hc 1 _ rfl
  have q2 := hc 2 _ rfl
  have q3 := hc 3 _ rfl
  have q4 := hc 4 _ rfl
  have q5 := hc 5 _ rfl
  have q6 := hc 6 _ rfl
  have HWT := hid (fun W (hW : Fr (fun _ => False) w W) (x t : Int) => rwithin_any (some ⟨g, og, none⟩) n c l x t W (hA.same hW) hl hn)
  have HPD := hid (fun h : 0 < i => parB_doc (l := l) h (by omega) hR.tabl r.par)
  have HBN := hid (fun W => binary_any r.cl W hcl)
  have HCA := hid (fun W (hW : Fr (fun _ => False) w W) (z : Nat) (q : Tw) (hq : l[z]? = some q) => (hA.same hW).cell hq)
  have HL := hid hl
  have HCR := hid (rcame_any r)
  have HR := hid hR
  have hlt : (l.take i).length = i := by rw [List.length_take]; omega
  have HLT := hid hlt
  have hi0 : (0 : Int) ≤ i ∧ (i : Int) < n := by omega
  clear hc hA hl hr hR hcl hlt
  have hF0 := Fr.alloc (fun _ => False) w (.cells (rowC r) 40)
  have hB0 := Blk.new w (rowC r) 40
  unfold rowC at hF0 hB0
  obtain ⟨w1, hw1⟩ : ∃ w1, w1 = w.alloc (.cells #[.int .i64 r.par, .int .i64 r.in_, .int .i64 r.fn, .int .i64 r.kind, .int .i64 r.v, .int .i64 r.st, .string r.cl] 40) := ⟨_, rfl⟩
  rw [← hw1] at hF0 hB0
  have HF0 := hid hF0
  have HB0 := hid hB0
  have b0 := hB0.cell (i := 0) rfl
  have b1 := hB0.cell (i := 1) rfl
  have b2 := hB0.cell (i := 2) rfl
  have b3 := hB0.cell (i := 3) rfl
  have b4 := hB0.cell (i := 4) rfl
  have b5 := hB0.cell (i := 5) rfl
  have b6 := hB0.cell (i := 6) rfl
  simp only [List.getElem_toArray, List.getElem_cons_zero, List.getElem_cons_succ] at b0 b1 b2 b3 b4 b5 b6
  have l0 := hB0.lt
  clear hB0 hF0
  go_enter Tryd.func26, Tryd.ntmps26
  go_upto_region 2 with fail
  rw [← hw1]
  clear hw1 q0 q1 q2 q3 q4 q5 q6
  obtain ⟨xp, hxp⟩ : ∃ x, parB (l.take i) r.par = x := ⟨_, rfl⟩
  obtain ⟨xr, hxr⟩ : ∃ x, rngB (l.take i) r = x := ⟨_, rfl⟩
  obtain ⟨xb, hxb⟩ : ∃ x, binB r = x := ⟨_, rfl⟩
  obtain ⟨xv, hxv⟩ : ∃ x, (valB r && begB r) = x := ⟨_, rfl⟩
  obtain ⟨xk, hxk⟩ : ∃ x, kinB (l.take i) r = x := ⟨_, rfl⟩
  have HXP := hid hxp
  have HXR := hid hxr
  have HXB := hid hxb
  have HXV := hid hxv
  have HXK := hid hxk
  clear hxp hxr hxb hxv hxk
  obtain ⟨p, in_, f, k, v, st, cl⟩ := r
  simp only at HXP HBN HCR HPD b0 b1 b2 b3 b4 b5 b6
  go_cut [40] from 10 to 40 (fun u wx => u = .bool (!xp) ∧ Fr (fun _ => False) w1 wx)
  case first =>
    by_cases h0 : 0 < i
    · have t0 : ((i : Int) == 0) = false := beq_eq_false_iff_ne.2 (by omega)
      by_cases p0 : p < 0
      · have HX := hid (show xp = false by
          rw [← HXP.out, ← Bool.not_eq_true]
          intro hh
          have := ((HPD.out h0).1 hh).1
          omega)
        go_wp2_with fail
        go_meet
        case rel => exact ⟨by rw [HX.out]; rfl, Fr.refl _ _⟩
      · by_cases p1 : (i : Int) ≤ p
        · have HX := hid (show xp = false by
            rw [← HXP.out, ← Bool.not_eq_true]
            intro hh
            have := ((HPD.out h0).1 hh).2.1
            omega)
          go_wp2_with fail
          go_meet
          case rel => exact ⟨by rw [HX.out]; rfl, Fr.refl _ _⟩
        · have HX := hid (show wth l p (n + 1) ((i : Int) - 1) = xp by
            rw [← HXP.out, Bool.eq_iff_iff, HPD.out h0, HL.out]
            exact ⟨fun hh => ⟨by omega, by omega, hh⟩, fun hh => hh.2.2⟩)
          go_wp2_with fail
          refine (HWT.out _ HF0.out _ _).mono ?_
          rintro e w2 ⟨rfl, hF2⟩
          rw [HX.out]
          go_wp2_with fail
          go_meet
          case rel => exact ⟨rfl, hF2⟩
    · have t0 : ((i : Int) == 0) = true := beq_iff_eq.2 (by omega)
      have HX := hid (show (p != -1) = !xp by
        rw [← HXP.out, show i = 0 by omega, List.take_zero, parB_nil, Bool.eq_iff_iff]
        simp only [bne_iff_ne, Bool.not_eq_true', decide_eq_false_iff_not]
        omega)
      obtain ⟨y, hy⟩ : ∃ y, (p != -1) = y := ⟨_, rfl⟩
      have HY := hid hy
      cases y with
      | false =>
        go_wp2_with fail
        go_meet
        case rel => exact ⟨by rw [← HX.out, HY.out], Fr.refl _ _⟩
      | true =>
        go_wp2_with fail
        go_meet
        case rel => exact ⟨by rw [← HX.out, HY.out], Fr.refl _ _⟩
  case rest =>
    obtain ⟨rfl, hF2⟩ := hcut
    cases xp with
    | false =>
      go_wp2_with fail
      go_ret
      exact ⟨ret_int (rightE_par HXP.out).symm, HF0.out.trans hF2⟩
    | true =>
      have hB2 := HB0.out.keep hF2 (fun h => h)
      have b0 := hB2.cell (i := 0) rfl
      have b1 := hB2.cell (i := 1) rfl
      have b2 := hB2.cell (i := 2) rfl
      have b3 := hB2.cell (i := 3) rfl
      have b4 := hB2.cell (i := 4) rfl
      have b5 := hB2.cell (i := 5) rfl
      have b6 := hB2.cell (i := 6) rfl
      simp only [List.getElem_toArray, List.getElem_cons_zero, List.getElem_cons_succ] at b0 b1 b2 b3 b4 b5 b6
      have l0 := hB2.lt
      have HB2 := hid hB2
      have HF2 := hid hF2
      clear hB2 hF2
      go_upto_region 4 with fail
      go_cut [82] from 41 to 82 (fun u wx => u = .bool (!xr) ∧ wx = wc)
      case first =>
        have hng : xr = true ↔ (¬ in_ < 0 ∧ ¬ (i = 0 ∧ in_ ≠ 0) ∧ (0 ≤ f ∧ f ≤ 31) ∧ (0 ≤ k ∧ k ≤ 4) ∧ (0 ≤ st ∧ st ≤ 1048576)) := by
          rw [← HXR.out]
          unfold rngB
          rw [HLT.out]
          simp only [decide_eq_true_eq]
        have HNG := hid hng
        clear hng
        by_cases h0 : 0 < i
        · have t0 : ((i : Int) == 0) = false := beq_eq_false_iff_ne.2 (by omega)
          go_wp2_with fail
          all_goals
            go_meet
            case rel => exact ⟨congrArg Value.bool (by
              rw [Bool.eq_iff_iff, Bool.not_eq_true', ← Bool.not_eq_true, HNG.out]
              simp only [Bool.or_eq_true, decide_eq_true_eq, bne_iff_ne, true_iff, Bool.false_eq_true, false_iff]
              omega), rfl⟩
        · have t0 : ((i : Int) == 0) = true := beq_iff_eq.2 (by omega)
          by_cases i0 : in_ = 0
          · have t1 : (in_ != 0) = false := by simp [i0]
            have I0 := hid i0
            clear i0
            go_wp2_with fail
            all_goals
              go_meet
              case rel => exact ⟨congrArg Value.bool (by
                have := I0.out
                rw [Bool.eq_iff_iff, Bool.not_eq_true', ← Bool.not_eq_true, HNG.out]
                simp only [Bool.or_eq_true, decide_eq_true_eq, bne_iff_ne, true_iff, Bool.false_eq_true, false_iff]
                omega), rfl⟩
          · have t1 : (in_ != 0) = true := by simpa using i0
            go_wp2_with fail
            all_goals
              go_meet
              case rel => exact ⟨congrArg Value.bool (by
                rw [Bool.eq_iff_iff, Bool.not_eq_true', ← Bool.not_eq_true, HNG.out]
                simp only [Bool.or_eq_true, decide_eq_true_eq, bne_iff_ne, true_iff, Bool.false_eq_true, false_iff]
                omega), rfl⟩
      case rest =>
        obtain ⟨rfl, rfl⟩ := hcut
        cases xr with
        | false =>
          go_wp2_with fail
          go_ret
          exact ⟨ret_int (rightE_rng HXP.out HXR.out).symm, HF0.out.trans HF2.out⟩
        | true =>
          go_wp2_with fail
          refine (HBN.out _).mono ?_
          rintro e w3 ⟨rfl, rfl⟩
          rw [show binL cl.data.toList = xb from HXB.out]
          cases xb with
          | false =>
            go_wp2_with fail
            go_ret
            exact ⟨ret_int (rightE_bin HXP.out HXR.out HXB.out).symm, HF0.out.trans HF2.out⟩
          | true =>
            go_upto_region 8 with fail
            go_cut [114] from 87 to 114 (fun u wx => u = .bool (!xv) ∧ wx = wc)
            case first =>
              have hx2 : (valB ⟨p, in_, f, k, v, st, cl⟩ = true ∧ ((v != 0) = false ∨ ((v != 0) = true ∧ ((k != 2) = false ∨ ((k != 2) = true ∧ (k != 3) = false))))) ∨ (valB ⟨p, in_, f, k, v, st, cl⟩ = false ∧ (v != 0) = true ∧ (k != 2) = true ∧ (k != 3) = true) := by
                obtain ⟨x, hx⟩ : ∃ x, valB ⟨p, in_, f, k, v, st, cl⟩ = x := ⟨_, rfl⟩
                unfold valB at hx ⊢
                simp only at hx ⊢
                simp only [decide_eq_true_eq, decide_eq_false_iff_not, bne_iff_ne, bne_eq_false_iff_eq]
                omega
              have hx3 : (begB ⟨p, in_, f, k, v, st, cl⟩ = true ∧ ((k == 0) = false ∨ ((k == 0) = true ∧ (st != 0) = false ∧ cl.size = 0))) ∨ (begB ⟨p, in_, f, k, v, st, cl⟩ = false ∧ (k == 0) = true ∧ ((st != 0) = true ∨ ((st != 0) = false ∧ 0 < cl.size))) := by
                unfold begB
                simp only [decide_eq_true_eq, decide_eq_false_iff_not, bne_iff_ne, bne_eq_false_iff_eq, beq_iff_eq, beq_eq_false_iff_ne]
                omega
              rcases hx2 with ⟨e1, hx2⟩ | ⟨e1, t1, t2, t3⟩
              · rcases hx3 with ⟨e2, hx3⟩ | ⟨e2, t4, hx3⟩
                · have HX := hid (show xv = true by rw [← HXV.out, e1, e2]; rfl)
                  clear e1 e2
                  rcases hx2 with t1 | ⟨t1, t2 | ⟨t2, t3⟩⟩
                  all_goals
                    rcases hx3 with t4 | ⟨t4, t5, t6⟩
                    · go_wp2_with fail
                      go_meet
                      case rel => exact ⟨by rw [HX.out]; rfl, rfl⟩
                    · have HE := hid (empty_of t6)
                      have e5 : cl.toList = [] := by rw [HE.out, ByteArray.toList_eq]
                      clear t6
                      go_wp2_with fail
                      go_meet
                      case rel => exact ⟨by rw [HX.out]; rfl, rfl⟩
                · have HX := hid (show xv = false by rw [← HXV.out, e1, e2]; rfl)
                  clear e1 e2
                  rcases hx2 with t1 | ⟨t1, t2 | ⟨t2, t3⟩⟩
                  all_goals
                    rcases hx3 with t5 | ⟨t5, t6⟩
                    · go_wp2_with fail
                      go_meet
                      case rel => exact ⟨by rw [HX.out]; rfl, rfl⟩
                    · have e0 := not_empty t6
                      have e1 : cl.toList.isEmpty = false := by cases hh : cl.toList with | nil => exact absurd hh e0 | cons a b => rfl
                      have e2 : (cl.toList == []) = false := by rw [beq_eq_false_iff_ne]; exact e0
                      go_wp2_with fail
                      go_meet
                      case rel => exact ⟨by rw [HX.out]; rfl, rfl⟩
              · have HX := hid (show xv = false by rw [← HXV.out, e1]; rfl)
                clear e1 hx3
                go_wp2_with fail
                go_meet
                case rel => exact ⟨by rw [HX.out]; rfl, rfl⟩
            case rest =>
              obtain ⟨rfl, rfl⟩ := hcut
              cases xv with
              | false =>
                go_wp2_with fail
                go_ret
                exact ⟨ret_int (rightE_val HXP.out HXR.out HXB.out HXV.out).symm, HF0.out.trans HF2.out⟩
              | true =>
                go_upto_region 10 with fail
                go_cut [138] from 115 to 138 (fun u wx => u = .bool (!xk) ∧ Fr (fun _ => False) wc wx)
                case first =>
                  by_cases h0 : 0 < i
                  · have hpp := (HPD.out h0).1 HXP.out
                    obtain ⟨z, hz⟩ : ∃ z : Nat, p = z := ⟨p.toNat, by omega⟩
                    have hzn : z < i := by omega
                    have hz1 : (0 : Int) ≤ z ∧ (z : Int) < n := by omega
                    obtain ⟨q, hq⟩ : ∃ q, l[z]? = some q := ⟨_, List.getElem?_eq_getElem (by rw [HL.out]; omega)⟩
                    have hqt : (l.take i)[z]? = some q := by rw [List.getElem?_take, if_pos hzn]; exact hq
                    obtain ⟨br, hbr⟩ : ∃ b, cameB ⟨p, in_, f, k, v, st, cl⟩ = b := ⟨_, rfl⟩
                    obtain ⟨bq, hbq⟩ : ∃ b, cameB q = b := ⟨_, rfl⟩
                    have hx2 : ((q.kind == 0) = true ∧ xk = false) ∨ ((q.kind == 0) = false ∧ bq = false ∧ xk = true) ∨ ((q.kind == 0) = false ∧ bq = true ∧ xk = br) := by
                      rw [← HXK.out, ← hbq, ← hbr]
                      unfold kinB
                      simp only
                      rw [hz, kindAt_of hqt, HLT.out]
                      by_cases k0 : q.kind = 0
                      · exact .inl ⟨beq_iff_eq.2 k0, decide_eq_false (fun hh => (hh h0).1 k0)⟩
                      · by_cases k1 : 2 ≤ q.kind
                        · refine .inr (.inr ⟨beq_eq_false_iff_ne.2 k0, decide_eq_true k1, ?_⟩)
                          unfold cameB
                          rw [Bool.eq_iff_iff]
                          simp only [decide_eq_true_eq]
                          exact ⟨fun hh => (hh h0).2 k1, fun hh _ => ⟨k0, fun _ => hh⟩⟩
                        · exact .inr (.inl ⟨beq_eq_false_iff_ne.2 k0, decide_eq_false k1, decide_eq_true (fun _ => ⟨k0, fun hh => absurd hh k1⟩)⟩)
                    obtain ⟨ga, oga, hga, _, hcc⟩ := HCA.out _ (HF0.out.trans HF2.out) z q hq
                    injection hga with hga
                    injection hga with hga hoa
                    subst hga hoa
                    have c0 := hcc 0 _ rfl
                    have c1 := hcc 1 _ rfl
                    have c2 := hcc 2 _ rfl
                    have c3 := hcc 3 _ rfl
                    have c4 := hcc 4 _ rfl
                    have c5 := hcc 5 _ rfl
                    have c6 := hcc 6 _ rfl
                    simp only [Nat.add_zero] at c0
                    have HCQ := hid (rcame_any q)
                    rw [hbq] at HCQ
                    rw [hbr] at HCR
                    clear hpp hcc hq hqt hbr hbq hzn
                    obtain ⟨qp, qi, qf, qk, qv, qs, qc⟩ := q
                    simp only at hx2 HCQ
                    subst hz
                    rcases hx2 with ⟨h1, hx⟩ | ⟨h1, h2, hx⟩ | ⟨h1, h2, hx⟩
                    · have HX := hid hx
                      clear hx
                      go_wp2_with fail
                      go_meet
                      case rel => exact ⟨by rw [HX.out]; rfl, Fr.refl _ _⟩
                    · have HX := hid hx
                      subst h2
                      clear hx
                      go_wp2_with fail
                      refine (HCQ.out _).mono ?_
                      rintro e w3 ⟨rfl, hF3⟩
                      go_wp2_with fail
                      go_meet
                      case rel => exact ⟨by rw [HX.out]; rfl, hF3⟩
                    · have HX := hid hx
                      subst h2
                      clear hx
                      go_wp2_with fail
                      refine (HCQ.out _).mono ?_
                      rintro e w3 ⟨rfl, hF3⟩
                      have hB3 := HB2.out.keep hF3 (fun h => h)
                      have d0 := hB3.cell (i := 0) rfl
                      have d1 := hB3.cell (i := 1) rfl
                      have d2 := hB3.cell (i := 2) rfl
                      have d3 := hB3.cell (i := 3) rfl
                      have d4 := hB3.cell (i := 4) rfl
                      have d5 := hB3.cell (i := 5) rfl
                      have d6 := hB3.cell (i := 6) rfl
                      simp only [List.getElem_toArray, List.getElem_cons_zero, List.getElem_cons_succ] at d0 d1 d2 d3 d4 d5 d6
                      have l3 := hB3.lt
                      go_wp2_with fail
                      refine (HCR.out _).mono ?_
                      rintro e w4 ⟨rfl, hF4⟩
                      go_wp2_with fail
                      go_meet
                      case rel => exact ⟨by rw [HX.out], hF3.trans hF4⟩
                  · have hxk2 : xk = true := by
                      rw [← HXK.out]
                      refine decide_eq_true (fun hh => ?_)
                      rw [HLT.out] at hh
                      exact absurd hh h0
                    have HX := hid hxk2
                    clear hxk2
                    go_wp2_with fail
                    go_meet
                    case rel => exact ⟨by rw [HX.out]; rfl, Fr.refl _ _⟩
                case rest =>
                  obtain ⟨rfl, hF4⟩ := hcut
                  have HRK := hid (rightE_kin HXP.out HXR.out HXB.out HXV.out)
                  cases xk with
                  | false =>
                    go_wp2_with fail
                    go_ret
                    exact ⟨ret_int (by rw [HRK.out, HXK.out]; rfl), HF0.out.trans (HF2.out.trans hF4)⟩
                  | true =>
                    go_wp2_with fail
                    go_ret
                    exact ⟨ret_int (by rw [HRK.out, HXK.out]; rfl), HF0.out.trans (HF2.out.trans hF4)⟩

end Go.Proofs.YticlnopklpaikaaDoor
