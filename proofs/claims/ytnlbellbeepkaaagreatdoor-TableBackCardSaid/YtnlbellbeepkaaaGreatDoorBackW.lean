/-
  Stage 7: TableBack, the walk, from Parse's contract.
-/
import Derived.Test.YtnlbellbeepkaaaGreatDoorLawM
import Derived.Test.YtnlbellbeepkaaaGreatDoorLaid
import Derived.Test.YtnlbellbeepkaaaGreatDoorPut
namespace Go.Proofs.YtnlbellbeepkaaaGreatDoor
open Go.RowKit
set_option linter.unusedVariables false
set_option linter.unusedSimpArgs false

/-- What Parse leaves. -/
def PaPost (s : Bs) (w : World) (e : Ending) (w' : World) : Prop :=
  (∃ (m : List Tw) (n : Nat) (A : Option Addr) (cap : Nat), s ≠ [] ∧ Steps (lns s) m ∧ m.length = n ∧ e = .returned (.tuple #[.slice A n cap, .int .i64 0, .int .i64 0]) ∧ OwnR w' w.heap.size 34 7 A n cap (flatT m) ∧ Fr (fun _ => False) w w') ∨
  (¬ (s ≠ [] ∧ ∃ m, Steps (lns s) m) ∧ ∃ k e0 : Int, e0 ≠ 0 ∧ e = .returned (.tuple #[.slice none 0 0, .int .i64 k, .int .i64 e0]) ∧ Fr (fun _ => False) w w')

theorem lns_len' (s : Bs) : (lns s).length ≤ s.length := by
  have h1 := congrArg List.length (lns_flatten s)
  have h2 := lines_flat (lns s) (lns_ne s)
  omega

set_option maxRecDepth 100000 in
set_option maxHeartbeats 8000000 in
theorem back_law (hPA : ∀ (s : Bs) (W' : World), s.length ≤ 131072 → Tabz W' → Calls Tryz.prog 7 #[.string (bs s)] W' (PaPost s W')) (A : Option Addr) (n c : Nat) (l : List Tw) (s : Bs) (W : World) (hT : Tabz W) (ho : Opn W A n c l) (hs : s.length ≤ 9223372036854775807) :
    Calls Tryz.prog 3 #[.slice A n c, .string (bs s)] W (LawPost W) := by
  have HAW := hid (fun W' (h : Fr (fun _ => False) W W') => awake_ok W' (hT.same h).tabs)
  have HFW := hid (few_any A n c l W ho.rd ho.len (by have := ho.nc; have := ho.cb; omega) ho.cls)
  have HO := hid ho
  have HT := hid hT
  have HPA := hid hPA
  have HF := hid (Fr.refl (fun _ => False) W)
  obtain ⟨S, hS⟩ : ∃ S, bs s = S := ⟨_, rfl⟩
  have HS := hid hS
  have hsz : S.size = s.length := by rw [← hS]; rfl
  have hsz2 : S.size ≤ 9223372036854775807 := by omega
  rw [hS]
  clear hT ho hPA hS
  unfold LawPost at HAW
  go_enter Tryz.func3, Tryz.ntmps3
  go_wp2_with fail
  refine HFW.out.mono ?_
  rintro e w1 ⟨b, rfl, hb, rfl⟩
  have HQ := hid hb
  clear hb
  cases b with
  | false =>
    go_wp2_with fail
    refine (HAW.out _ HF.out).mono ?_
    rintro e w2 ⟨rfl, hF⟩
    go_wp2_with fail
    go_ret
    exact ⟨rfl, hF⟩
  | true =>
    have hfew := HQ.out rfl
    clear HQ
    by_cases h3 : 3000 < S.size
    · go_wp2_with fail
      refine (HAW.out _ HF.out).mono ?_
      rintro e w2 ⟨rfl, hF⟩
      go_wp2_with fail
      go_ret
      exact ⟨rfl, hF⟩
    · have h60 := HO.out.n60 hfew
      have HFT := hid (HO.out.fits hfew)
      have HPR := hid (print_any A n c l W HT.out.tabs HO.out.rd HO.out.len (by omega) HO.out.nc (fun _ => HFT.out) hfew.t)
      have HCK := hid (fun W' (h : Fr (fun _ => False) W W') => check_any A n c l W' (HO.out.rd.same h) HO.out.len (by omega) HO.out.nc hfew.t)
      have HS3 := hid (show s.length ≤ 3000 by omega)
      have hEND : ∀ (W5 : World), Fr (fun _ => False) W W5 → Calls Tryz.prog 7 #[.string S] W5 (PaPost s W5) := fun W5 h => by
        rw [← HS.out]
        exact HPA.out s W5 (by have := HS3.out; omega) (HT.out.same h)
      have HPS := hid hEND
      have HHF := hid hfew
      unfold PrPost at HPR
      unfold CkPost at HCK
      obtain ⟨x, hx⟩ : ∃ x, chk l = x := ⟨_, rfl⟩
      obtain ⟨t, ht⟩ : ∃ t, bs (prV l) = t := ⟨_, rfl⟩
      rw [hx, ht] at HPR
      rw [hx] at HCK
      have HX := hid hx
      have HTT := hid ht
      clear hEND hfew hx ht
      go_wp2_with fail
      refine HPR.out.mono ?_
      rintro e w2 ⟨rfl, hF⟩
      have HF := hid hF
      clear hF
      by_cases hx0 : x = 0
      · have t1 : (x == 0) = true := beq_iff_eq.2 hx0
        have HX0 := hid (HX.out.trans hx0)
        have HT2 := hid (show t = bs (tabT l) by rw [← HTT.out]; unfold prV; rw [if_pos HX0.out])
        have hP1 : ∀ (W5 : World), Fr (fun _ => False) W W5 → Calls Tryz.prog 7 #[.string t] W5 (PaPost (tabT l) W5) := fun W5 h => by
          rw [HT2.out]
          exact HPA.out _ W5 HFT.out.len (HT.out.same h)
        have HP1 := hid hP1
        clear hx0 hP1
        go_wp2_with fail
        refine (HP1.out _ HF.out).mono ?_
        rintro e w3 hps
        obtain ⟨hst, hne⟩ := steps_of HX0.out HO.out.bnd
        rcases hps with ⟨m, k, A2, cap, _, hst2, hmk, rfl, hO, hF⟩ | ⟨hno, _⟩
        · have hml := (hst2.uniq hst).symm
          subst hml
          have HF := hid (HF.out.trans hF)
          obtain rfl : k = n := by rw [← hmk]; exact HO.out.len
          have HRW := hid (rows_any A A2 k c k cap l l w3 (HO.out.rd.same HF.out) hO.rdT HO.out.len HO.out.len (by omega) (by omega))
          rw [dec_self] at HRW
          clear hst hne hst2 hmk hO hF
          go_wp2_with fail
          refine HRW.out.mono ?_
          rintro e w4 ⟨rfl, hF⟩
          have HF := hid (HF.out.trans hF)
          clear hF
          go_wp2_with fail
          refine (HPS.out _ HF.out).mono ?_
          rintro e w8 hps
          rcases hps with ⟨m, k, A2, cap, hne, hst, hmk, rfl, hO, hF⟩ | ⟨hno, k, e0, he0, rfl, hF⟩
          · obtain ⟨g1, g2, g3⟩ := steps_back hne hst
            have HF := hid (HF.out.trans hF)
            have hml : k ≤ 3000 := by
              have h5 := hst.len
              have h6 := lns_len' s
              have h7 := HS3.out
              omega
            have hfm : Fits m := ⟨fun i r h => (g3 i r h).1, fun i r h => by have := (g3 i r h).2; have := HS3.out; omega, by rw [g2]; have := HS3.out; omega⟩
            have hle := hO.le
            have HPR2 := hid (print_any A2 k cap m w8 (HT.out.same HF.out).tabs hO.rdT hmk (by omega) hle.1 (fun _ => hfm) hfm.few)
            have HOO := hid hO
            have HCK2 := hid (fun W' (h : Fr (fun _ => False) w8 W') => check_any A2 k cap m W' (HOO.out.same h).rdT hmk (by omega) hle.1 hfm.few)
            unfold PrPost at HPR2
            unfold CkPost at HCK2
            rw [g1, show bs (prV m) = S by unfold prV; rw [if_pos g1, g2]; exact HS.out] at HPR2
            rw [g1] at HCK2
            have tS : (S.toList == S.toList) = true := by simp
            clear hne hst hmk hO hF g1 g2 g3 hml hfm hle
            go_wp2_with fail
            refine HPR2.out.mono ?_
            rintro e w9 ⟨rfl, hF9⟩
            go_wp2_with fail
            refine (HCK2.out _ hF9).mono ?_
            rintro e w10 ⟨rfl, hF10⟩
            go_wp2_with fail
            refine (HAW.out _ ((HF.out.trans hF9).trans hF10)).mono ?_
            rintro e w11 ⟨rfl, hF11⟩
            go_wp2_with fail
            go_ret
            exact ⟨rfl, ((HF.out.trans hF9).trans hF10).trans hF11⟩
          · have t9 : (e0 != 0) = true := by simpa using he0
            have HF := hid (HF.out.trans hF)
            clear hno hF he0
            go_wp2_with fail
            refine (HAW.out _ HF.out).mono ?_
            rintro e w9 ⟨rfl, hF⟩
            go_wp2_with fail
            go_ret
            exact ⟨rfl, HF.out.trans hF⟩
        · exact absurd ⟨hne, _, hst⟩ hno
      · have t1 : (x == 0) = false := beq_eq_false_iff_ne.2 hx0
        have t2 : (x != x) = false := by simp
        clear hx0
        go_wp2_with fail
        refine (HCK.out _ HF.out).mono ?_
        rintro e w4 ⟨rfl, hF⟩
        have HF := hid (HF.out.trans hF)
        clear hF
        go_wp2_with fail
        refine (HPS.out _ HF.out).mono ?_
        rintro e w8 hps
        rcases hps with ⟨m, k, A2, cap, hne, hst, hmk, rfl, hO, hF⟩ | ⟨hno, k, e0, he0, rfl, hF⟩
        · obtain ⟨g1, g2, g3⟩ := steps_back hne hst
          have HF := hid (HF.out.trans hF)
          have hml : k ≤ 3000 := by
            have h5 := hst.len
            have h6 := lns_len' s
            have h7 := HS3.out
            omega
          have hfm : Fits m := ⟨fun i r h => (g3 i r h).1, fun i r h => by have := (g3 i r h).2; have := HS3.out; omega, by rw [g2]; have := HS3.out; omega⟩
          have hle := hO.le
          have HPR2 := hid (print_any A2 k cap m w8 (HT.out.same HF.out).tabs hO.rdT hmk (by omega) hle.1 (fun _ => hfm) hfm.few)
          have HOO := hid hO
          have HCK2 := hid (fun W' (h : Fr (fun _ => False) w8 W') => check_any A2 k cap m W' (HOO.out.same h).rdT hmk (by omega) hle.1 hfm.few)
          unfold PrPost at HPR2
          unfold CkPost at HCK2
          rw [g1, show bs (prV m) = S by unfold prV; rw [if_pos g1, g2]; exact HS.out] at HPR2
          rw [g1] at HCK2
          have tS : (S.toList == S.toList) = true := by simp
          clear hne hst hmk hO hF g1 g2 g3 hml hfm hle
          go_wp2_with fail
          refine HPR2.out.mono ?_
          rintro e w9 ⟨rfl, hF9⟩
          go_wp2_with fail
          refine (HCK2.out _ hF9).mono ?_
          rintro e w10 ⟨rfl, hF10⟩
          go_wp2_with fail
          refine (HAW.out _ ((HF.out.trans hF9).trans hF10)).mono ?_
          rintro e w11 ⟨rfl, hF11⟩
          go_wp2_with fail
          go_ret
          exact ⟨rfl, ((HF.out.trans hF9).trans hF10).trans hF11⟩
        · have t9 : (e0 != 0) = true := by simpa using he0
          have HF := hid (HF.out.trans hF)
          clear hno hF he0
          go_wp2_with fail
          refine (HAW.out _ HF.out).mono ?_
          rintro e w9 ⟨rfl, hF⟩
          go_wp2_with fail
          go_ret
          exact ⟨rfl, HF.out.trans hF⟩

end Go.Proofs.YtnlbellbeepkaaaGreatDoor
