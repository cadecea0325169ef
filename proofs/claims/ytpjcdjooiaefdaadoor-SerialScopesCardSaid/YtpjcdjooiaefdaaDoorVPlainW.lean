/-
  SerialPlain: the walk.
-/
import Derived.Test.YtpjcdjooiaefdaaDoorVAwk
import Derived.Test.YtpjcdjooiaefdaaDoorVSmallC
import Derived.Test.YtpjcdjooiaefdaaDoorVPlainF
namespace Go.Proofs.YtpjcdjooiaefdaaDoor
open Go.RowKit
set_option linter.unusedVariables false

theorem run_calm {P : List Fn} {fuel : Int} {rows : List Rw} {st : Nat} {er : Int} (h : RunIs P fuel rows st er) (hp : plainP P = true) : ∀ (j : Nat) r, rows[j]? = some r → (r.kind = 2 ∨ r.kind = 3) ∧ ∀ b ∈ r.cl, b = false := by
  intro j r hr
  rcases h with ⟨_, rfl, _⟩ | ⟨_, _, rfl, _⟩ | ⟨A, h0, h1, n, o, he, ho⟩
  · cases hr
  · cases hr
  · cases o with
    | err c =>
      obtain ⟨rfl, _⟩ := ho
      cases hr
    | done G =>
      obtain ⟨rfl, _, _⟩ := ho
      have hN : fuel.toNat ≤ 1048576 := by omega
      have hpl : ∀ (q : Nat) f, P[q]? = some f → ∀ (j : Nat) i, f.code[j]? = some i → i.op ≠ 13 := fun q f hq j i hi e => by
        unfold plainP at hp
        rw [List.all_eq_true] at hp
        have h2 := hp f (List.mem_of_getElem? hq)
        rw [List.all_eq_true] at h2
        have h3 := h2 i (List.mem_of_getElem? hi)
        unfold plainI at h3
        rw [e] at h3
        simp at h3
      have hc := exec_plain A hN hpl n 0 0 rootT rootG G (root_inv A _) rfl (by simp [rootT]) (by
        intro r hr
        simp only [rootG, List.mem_singleton] at hr
        subst hr
        exact ⟨by decide, by simp [Rw.new]⟩) he r (List.mem_of_getElem? hr)
      have hd := exec_rows A hN he j r hr
      exact ⟨by have := hd.1; have := hd.2; have := hc.1; omega, hc.2⟩

theorem mem_set {l : List Rw} {i : Nat} {x y : Rw} (h : y ∈ l.set i x) : y = x ∨ y ∈ l := by
  rcases List.mem_or_eq_of_mem_set h with h | h
  · exact .inr h
  · exact .inl h

theorem exec_cls {P : List Fn} {N : Nat} (A : Acc P) (hN : N ≤ 1048576) : ∀ (n base a : Nat) (T : Tk) (G G' : Gl), Inv P N base a T G → (∀ r ∈ G.rows, r.cl.length ≤ N) → exec P N n base a T G = some (.done G') → ∀ r ∈ G'.rows, r.cl.length ≤ N := by
  intro n
  induction n with
  | zero => intro base a T G G' I _ h; cases h
  | succ n ih =>
    intro base a T G G' I hR h
    have hok := act_ok A hN I
    have hfm := act_form (P := P) N base a T G (insAt P T.F)
    unfold exec at h
    generalize act P N base a T G (insAt P T.F) = x at h hok hfm
    cases x with
    | stop e => cases h
    | fin T' kind v G1 =>
      obtain ⟨hk, hr, _, hcl⟩ := hfm
      simp only [Option.some.injEq, Out.done.injEq] at h
      subst h
      intro r hr2
      simp only at hr2
      rw [hr] at hr2
      rcases mem_set hr2 with rfl | h
      · show T'.cl.length ≤ N
        rw [hcl]
        have := I.cls
        have := I.steps
        omega
      · exact hR r h
    | go T' G1 =>
      refine ih _ _ _ _ _ hok.1 ?_ h
      intro r hr
      rcases hfm.1 with e | ⟨e, _⟩
      · rw [e] at hr; exact hR r hr
      · rw [e] at hr
        rcases List.mem_append.1 hr with h | h
        · exact hR r h
        · rw [List.mem_singleton.1 h]
          simp [Rw.lost, kidRow, Rw.new]
    | sub K T' G1 =>
      obtain ⟨IK, hs, _, hr, hst, hpar⟩ := hok
      obtain ⟨_, _, e, _⟩ := hfm
      simp only at h
      split at h
      · cases h
      · cases h
      · rename_i G2 hk
        obtain ⟨E2, hle2⟩ := exec_ext A hN n _ _ K G1 G2 IK hk
        refine ih _ _ _ _ _ (hpar G2 E2 hle2) (ih _ _ _ _ _ IK ?_ hk) h
        intro r hr
        rw [e] at hr
        rcases List.mem_append.1 hr with h | h
        · exact hR r h
        · rw [List.mem_singleton.1 h]
          simp [kidRow, Rw.new]

theorem run_cls {P : List Fn} {fuel : Int} {rows : List Rw} {st : Nat} {er : Int} (h : RunIs P fuel rows st er) : ∀ (j : Nat) r, rows[j]? = some r → (clS r.cl).size ≤ 1048576 := by
  intro j r hr
  have hl : (clS r.cl).size = r.cl.length := by simp [clS, clB, ByteArray.size]
  rw [hl]
  rcases h with ⟨_, rfl, _⟩ | ⟨_, _, rfl, _⟩ | ⟨A, h0, h1, n, o, he, ho⟩
  · cases hr
  · cases hr
  · cases o with
    | err c =>
      obtain ⟨rfl, _⟩ := ho
      cases hr
    | done G =>
      obtain ⟨rfl, _, _⟩ := ho
      have hN : fuel.toNat ≤ 1048576 := by omega
      have := exec_cls A hN n 0 0 rootT rootG G (root_inv A _) (by
        intro r hr
        simp only [rootG, List.mem_singleton] at hr
        subst hr
        simp [Rw.new]) he r (List.mem_of_getElem? hr)
      omega

theorem run_few {P : List Fn} {fuel : Int} {rows : List Rw} {st : Nat} {er : Int} (h : RunIs P fuel rows st er) : rows.length ≤ 1048577 ∧ st ≤ 1048576 := by
  rcases h with ⟨_, rfl, rfl, _⟩ | ⟨_, _, rfl, rfl, _⟩ | ⟨A, h0, h1, n, o, he, ho⟩
  · simp
  · simp
  · cases o with
    | err c =>
      obtain ⟨rfl, rfl, _⟩ := ho
      simp
    | done G =>
      obtain ⟨rfl, rfl, _⟩ := ho
      have hN : fuel.toNat ≤ 1048576 := by omega
      obtain ⟨E, hle⟩ := exec_ext A hN _ _ _ _ _ _ (root_inv A _) he
      have h1 := E.few
      have h2 := E.len
      have e1 : rootG.rows.length = 1 := rfl
      have e2 : rootG.st = 0 := rfl
      omega

theorem clS_at {l : List Bool} {k : Nat} (hk : k < (clS l).size) (h : ∀ b ∈ l, b = false) : ∀ W, (Instr.index 9 (.string (clS l)) (.int .i64 k)).run Tryd.prog W = .ok (.int .u8 48) W := by
  intro W
  have hl : (clS l).size = l.length := by simp [clS, clB, ByteArray.size]
  rw [run_index_string W 9 (clS l) .i64 k Tryd.underlying9, dif_pos (by omega)]
  have hb : (clS l)[(k : Int).toNat]'(by rw [Int.toNat_natCast]; exact hk) = 48 := by
    have e : (clS l)[(k : Int).toNat]'(by rw [Int.toNat_natCast]; exact hk) = (clB l)[k]'(by simp [clB]; omega) := by
      simp only [Int.toNat_natCast]
      rfl
    rw [e]
    simp only [clB, List.getElem_map]
    have := h (l[k]'(by omega)) (List.getElem_mem _)
    rw [this]
    rfl
  rw [hb]
  rfl

def OuRel (n : Nat) (w0 : World) (d : Nat) (k : Value) (wr : World) : Prop := ∃ j : Nat, j ≤ n ∧ d = n + 1 - j ∧ k = .int .i64 j ∧ Fr (fun _ => False) w0 wr

set_option maxRecDepth 100000 in
set_option maxHeartbeats 2000000 in
theorem plain_law (A : Option Addr) (c : Nat) (P : List Fn) (fuel : Int) (w : World) (ht : Tabs w) (hp : Prg w w.heap.size A P) :
    Calls Tryd.prog 4 #[.agg #[.slice A P.length c], .int .i64 fuel] w (LawPost w) := by
  obtain ⟨n, hn⟩ : ∃ n, P.length = n := ⟨_, rfl⟩
  obtain ⟨w1, hw1⟩ : ∃ w1, w1 = w.alloc (.cells #[.slice A n c] 24) := ⟨_, rfl⟩
  have HF1 := hid (show Fr (fun _ => False) w w1 by rw [hw1]; exact Fr.alloc _ _ _)
  have HX := hid (show TBlk w1 w.heap.size #[.slice A n c] 24 by rw [hw1]; exact TBlk.new _ _ _)
  have HP := hid (fun W (hW : Fr (fun _ => False) w W) => (hp.same hW (Nat.le_refl _)).more hW.size)
  have HT := hid (fun W (hW : Fr (fun _ => False) w W) => ht.same hW)
  have HN := hid hn
  rw [hn]
  have HSM := hid (fun W (hW : Fr (fun _ => False) w W) => small_any A n c P fuel W (HP.out W hW) hn)
  have HAW := hid (fun W (hW : Fr (fun _ => False) w W) => awake_any W (HT.out W hW))
  clear hp ht hn
  go_enter Tryd.func4, Tryd.ntmps4
  go_upto_region 1 with fail
  rw [← hw1]
  clear hw1
  have p1 := (TBlk.blk HX.out).cell (i := 0) rfl
  simp only [List.getElem_toArray, List.getElem_cons_zero] at p1
  have l1 := (TBlk.blk HX.out).lt
  go_wp2_with fail
  refine (HSM.out _ HF1.out).mono ?_
  rintro e w2 ⟨b, rfl, hb, hF2⟩
  have HF2 := hid (HF1.out.trans hF2)
  have HX2 := hid (HX.out.keep hF2 (fun h => h))
  have p2 := (TBlk.blk HX2.out).cell (i := 0) rfl
  simp only [List.getElem_toArray, List.getElem_cons_zero] at p2
  have l2 := (TBlk.blk HX2.out).lt
  have HB := hid hb
  clear hb hF2 p1 l1
  cases b with
  | false =>
    go_wp2_with fail
    refine (HAW.out _ HF2.out).mono ?_
    rintro e w3 ⟨rfl, hF3⟩
    go_wp2_with fail
    go_ret
    exact ⟨rfl, HF2.out.trans hF3⟩
  | true =>
    obtain ⟨b1, b2, b3⟩ := HB.out rfl
    have HPL := hid (plain_any A n c P w2 (HP.out _ HF2.out) HN.out (by have := HN.out; omega) (fun k f hf => by have := b3 k f hf; omega))
    have HRU := hid (fun W (hW : Fr (fun _ => False) w W) => run_any A n c P fuel W (HT.out _ hW) (HP.out _ hW) HN.out (by have := HN.out; omega))
    clear b1 b2 b3
    obtain ⟨pl, hpl⟩ : ∃ pl, plainP P = pl := ⟨_, rfl⟩
    have HPP := hid hpl
    rw [hpl] at HPL
    clear hpl
    go_wp2_with fail
    refine HPL.out.mono ?_
    rintro e w3 ⟨rfl, hF3⟩
    have HF3 := hid (HF2.out.trans hF3)
    have HX3 := hid (HX2.out.keep hF3 (fun h => h))
    have p3 := (TBlk.blk HX3.out).cell (i := 0) rfl
    simp only [List.getElem_toArray, List.getElem_cons_zero] at p3
    have l3 := (TBlk.blk HX3.out).lt
    clear hF3 p2 l2 HPL
    cases pl with
    | false =>
      go_wp2_with fail
      refine (HAW.out _ HF3.out).mono ?_
      rintro e w4 ⟨rfl, hF4⟩
      go_wp2_with fail
      go_ret
      exact ⟨rfl, HF3.out.trans hF4⟩
    | true =>
      go_wp2_with fail
      refine (HRU.out _ HF3.out).mono ?_
      rintro e w4 ⟨rows, st, er, A4, cap4, hri, rfl, hO4, hF4⟩
      have HCM := hid (run_calm hri HPP.out)
      have HCZ := hid (run_cls hri)
      have HFW := hid (run_few hri).1
      have HRD := hid (OwnR.rdR hO4)
      have HF4 := hid (HF3.out.trans hF4)
      obtain ⟨ln, hln⟩ : ∃ ln, rows.length = ln := ⟨_, rfl⟩
      rw [hln]
      have HLN := hid hln
      clear hri hO4 hF4 hln p3 l3
      go_wp2_with fail
      go_loopg [8] (ln + 1) (fun d k wr => OuRel ln w4 d k wr)
      case atStart => exact ⟨0, by omega, by omega, rfl, Fr.refl _ _⟩
      case round =>
        obtain ⟨wo, rfl⟩ : ∃ wo, wo = wr := ⟨_, rfl⟩
        obtain ⟨j, hj, hd, rfl, hF⟩ := hrel
        have HF := hid hF
        have HD := hid hd
        clear hF hd
        by_cases hlt : j < ln
        · obtain ⟨r, hr⟩ : ∃ r, rows[j]? = some r := ⟨_, List.getElem?_eq_getElem (by rw [HLN.out]; exact hlt)⟩
          obtain ⟨hk, hcl⟩ := HCM.out j r hr
          have hcz := HCZ.out j r hr
          obtain ⟨gr, hg, hgl, hc⟩ := (HRD.out.same HF.out).cell hr
          subst hg
          obtain ⟨M, hM, hM1⟩ := sizeRow
          have hM0 : ¬ M = 0 := by omega
          obtain ⟨kd, hkd⟩ : ∃ kd, r.kind = kd := ⟨_, rfl⟩
          obtain ⟨s, hs⟩ : ∃ s, clS r.cl = s := ⟨_, rfl⟩
          have g3 : wo.cell? ⟨gr, j * M + 3, none⟩ = some (.int .i64 kd) := by rw [hM, ← hkd]; exact hc 3 _ rfl
          have g6 := fun W (hW : Fr (fun _ => False) wo W) => show W.cell? ⟨gr, j * M + 6, none⟩ = some (.string s) by
            rw [cell_keep hW (p := ⟨gr, j * M + 6, none⟩) hgl (fun h => h), hM, ← hs]
            exact hc 6 _ rfl
          have HG6 := hid g6
          have HIX := hid (show ∀ k : Nat, k < s.size → ∀ W, (Instr.index 9 (.string s) (.int .i64 k)).run Tryd.prog W = .ok (.int .u8 48) W from fun k h => by rw [← hs] at h ⊢; exact clS_at h hcl)
          obtain ⟨m, hm⟩ : ∃ m, s.size = m := ⟨_, rfl⟩
          have hmb : m ≤ 1048576 := by rw [← hm, ← hs]; exact hcz
          have hlb : ln ≤ 1048577 := by have := HFW.out; rw [HLN.out] at this; exact this
          have hj0 : (0 : Int) ≤ j ∧ (j : Int) < ln := by omega
          rw [hkd] at hk
          clear hr hcl hc hkd hs g6 hM hcz
          have key : (kd != 2) = true ∧ (kd != 3) = false ∨ (kd != 2) = false := by
            rcases hk with rfl | rfl
            · exact .inr rfl
            · exact .inl ⟨rfl, rfl⟩
          clear hk
          rcases key with ⟨t2, t3⟩ | t2
          all_goals
            go_wp2_with fail
            go_loopg [9] (m + 1) (fun d k wr => OuRel m wo d k wr)
            case atStart => exact ⟨0, by omega, by omega, rfl, Fr.refl _ _⟩
            case round =>
              obtain ⟨i, hi, hdi, rfl, hFi⟩ := hrel
              have HFi := hid hFi
              have HDI := hid hdi
              clear hdi
              have g6 := HG6.out wr hFi
              have hgl2 : gr < wr.heap.size := Nat.lt_of_lt_of_le hgl hFi.size
              clear hFi
              by_cases hik : i < m
              · have hix := HIX.out i (by rw [hm]; exact hik)
                have hi0 : (i : Int) < m := by omega
                go_wp2_with fail
                go_roundg (m + 1 - (i + 1))
                case rel => exact ⟨i + 1, by omega, rfl, by go_num, HFi.out⟩
                case measure => have := HDI.out; omega
              · have hi0 : ¬ (i : Int) < m := by omega
                go_wp2_with fail
                go_roundg (ln + 1 - (j + 1))
                case rel => exact ⟨j + 1, by omega, rfl, by go_num, HF.out.trans HFi.out⟩
                case measure => have := HD.out; omega
        · go_wp2_with fail
          refine (HAW.out _ (HF4.out.trans HF.out)).mono ?_
          rintro e w5 ⟨rfl, hF5⟩
          go_wp2_with fail
          go_ret
          exact ⟨rfl, (HF4.out.trans HF.out).trans hF5⟩

end Go.Proofs.YtpjcdjooiaefdaaDoor
