/-
  A clock: what Set and Drop do (walks).
-/
import Derived.Test.YtpgbhgkikpmhiaaCm
namespace Go.Proofs.Ytpgbhgkikpmhiaa
open Go.RowKit
set_option linter.unusedVariables false

section
variable {c : Nat} {now : Int} {O : Nat → Prop} {T : List Due} (w : World)

set_option maxHeartbeats 400000 in
theorem ck_set_nil (id n : Int) : Calls Try.prog 23 #[.pointer none, .int .i64 id, .int .i64 n] w fun e w' => e = .returned (.int .i64 2) ∧ w = w' := by
  go_enter Try.func23, Try.ntmps23
  go_wp2
  go_ret
  exact ⟨rfl, rfl⟩

set_option maxHeartbeats 400000 in
theorem ck_set_range (id n : Int) (h : Ckm w O c now T) (hr : id < 0 ∨ n < 1 ∨ 1099511627776 < n) : Calls Try.prog 23 #[.pointer (some ⟨c, 0, none⟩), .int .i64 id, .int .i64 n] w fun e w' => e = .returned (.int .i64 10) ∧ w = w' := by
  clear h
  by_cases h1 : id < 0
  · go_enter Try.func23, Try.ntmps23
    go_wp2
    go_ret
    exact ⟨rfl, rfl⟩
  by_cases h2 : n < 1
  · go_enter Try.func23, Try.ntmps23
    go_wp2
    go_ret
    exact ⟨rfl, rfl⟩
  have h3 : 1099511627776 < n := by omega
  go_enter Try.func23, Try.ntmps23
  go_wp2
  go_ret
  exact ⟨rfl, rfl⟩

set_option maxHeartbeats 400000 in
theorem ck_set_there (id n : Int) (h : Ckm w O c now T) (h1 : 0 ≤ id) (h2 : 1 ≤ n) (h3 : n ≤ 1099511627776) (ht : ∃ x ∈ T, x.2 = id) : Calls Try.prog 23 #[.pointer (some ⟨c, 0, none⟩), .int .i64 id, .int .i64 n] w fun e w' => e = .returned (.int .i64 18) ∧ w = w' := by
  obtain ⟨A, cap, b, L, k1, k2, k3, k4⟩ := h.ex
  obtain ⟨m, hm, hP⟩ := k1.map
  obtain ⟨x, hx, rfl⟩ := ht
  obtain ⟨i, hi, rfl⟩ := mem_at (k3.symm.subset hx)
  have hk := hm.look (at_ L i).2
  rw [hP.yes i hi] at hk
  unfold lookV iV at hk
  simp only [Option.getD_some, Option.isSome_some] at hk
  have c2 := k1.c2
  have hl := k1.hc.lt
  obtain ⟨y, hy⟩ : ∃ y, (at_ L i).2 = y := ⟨_, rfl⟩
  rw [hy] at hk h1 ⊢
  have g1 : ¬ y < 0 := by omega
  have g2 : ¬ n < 1 := by omega
  have g3 : ¬ 1099511627776 < n := by omega
  clear h k1 k2 k3 k4 hm hP hx hi hy h1 h2 h3
  go_enter Try.func23, Try.ntmps23
  go_wp2
  go_ret
  exact ⟨rfl, rfl⟩

theorem not_mem {m : Int → Option Int} {L : List Due} (hP : Plc m L) {id : Int} (h : ∀ x ∈ L, x.2 ≠ id) : m id = none := by
  cases hv : m id with
  | none => rfl
  | some v =>
    obtain ⟨i, hi, _, he⟩ := hP.no _ _ hv
    exact absurd he (h _ (at_mem hi))

set_option maxRecDepth 100000 in
set_option maxHeartbeats 1600000 in
theorem ck_set_ok (id n : Int) (h : Ckm w O c now T) (h1 : 0 ≤ id) (h2 : 1 ≤ n) (h3 : n ≤ 1099511627776) (ht : ∀ x ∈ T, x.2 ≠ id) (hn0 : 0 ≤ now) (hn1 : now ≤ 1099511627776) (hs : T.length < 90000) : Calls Try.prog 23 #[.pointer (some ⟨c, 0, none⟩), .int .i64 id, .int .i64 n] w fun e w' => e = .returned (.int .i64 0) ∧ CkPost O c now (ins (now + n, id) T) w w' := by
  obtain ⟨A, cap, b, L, k1, k2, k3, k4⟩ := h.ex
  obtain ⟨m, hm, hP⟩ := k1.map
  have hL : ∀ x ∈ L, x.2 ≠ id := fun x hx => ht x (k3.subset hx)
  have hk := hm.look id
  rw [not_mem hP hL] at hk
  unfold lookV iV at hk
  simp only [Option.getD_none, Option.isSome_none] at hk
  have HPU := hid (fun W (F : Fr (fun _ => False) w W) => hp_push W (k1.same F) (now + n, id) hL k2 (by rw [k3.length_eq]; exact hs))
  have HS := hid (show ∀ W, Fr (fun _ => False) w W → W.cell? ⟨c, 0, none⟩ = some (.int .i64 now) from fun W F => (k1.same F).c0)
  have c0 := k1.c0
  have c2 := k1.c2
  have hl := k1.hc.lt
  have HEND := hid (show ∀ K : List Due, K.Perm (L ++ [(now + n, id)]) → K.Perm (ins (now + n, id) T) from fun K hK => (hK.trans List.perm_append_comm).trans (((List.Perm.cons _ k3)).trans (ins_perm _ _).symm))
  have HSRT := hid (ins_srt (x := (now + n, id)) h.srt ht)
  have HO := hid k4
  have HLT := hid h.lt
  obtain ⟨s, hsum⟩ : ∃ s, now + n = s := ⟨_, rfl⟩
  rw [hsum] at HPU HEND HSRT ⊢
  have q1 : IntKind.i64.wrap (now + n) = s := by rw [IntKind.wrap_i64]; omega
  have g1 : ¬ id < 0 := by omega
  have g2 : ¬ n < 1 := by omega
  have g3 : ¬ 1099511627776 < n := by omega
  unfold dueV lnV at HPU
  simp only at HPU
  clear h k1 k2 k3 k4 hm hP h1 h2 h3 ht hL hs hsum
  go_enter Try.func23, Try.ntmps23
  go_upto_region 8 with fail
  have HFd := hid (Fr.refl (fun _ => False) w)
  go_region_held3 (fun W => W.cell? ⟨c, 0, none⟩ = some (.int .i64 now))
    (first | exact HS.out _ (Fr.refl _ _) | exact HS.out _ (Fr.drew _ _) | exact HCC.out | exact HCC.out.drew)
    (first
      | (go_at_call 31; (with_reducible refine (HPU.out _ (by first | exact Fr.drew _ _ | exact Fr.refl _ _)).mono ?_); rintro e w6 ⟨rfl, A', cap', K, hK, hH, hPm, hF, hA⟩; have HK := hid hK; have HH := hid hH; have HPM := hid hPm; have HF6 := hid hF; have HA := hid hA; have HCC := hid hK.c0; clear hK hH hPm hF hA))
  all_goals
    go_wp2_with fail
    go_ret
    refine ⟨rfl, ownK c A' b, ⟨⟨A', cap', b, K, HK.out, HH.out, HEND.out _ HPM.out, fun _ h => h⟩, HSRT.out, HK.out.own_lt⟩, (Fr.drew O w).trans (HF6.out.mono HO.out), ?_⟩
    rintro k (hk | hk | hk)
    · exact .inl (HO.out k (.inl hk))
    · exact .inl (HO.out k (.inr (.inl hk)))
    · rcases HA.out k hk with h | h
      · exact .inl (HO.out k (.inr (.inr h)))
      · exact .inr h

/-! ### Drop -/

set_option maxHeartbeats 400000 in
theorem ck_drop_nil (id : Int) : Calls Try.prog 19 #[.pointer none, .int .i64 id] w fun e w' => e = .returned (.bool false) ∧ w = w' := by
  go_enter Try.func19, Try.ntmps19
  go_wp2
  go_ret
  exact ⟨rfl, rfl⟩

set_option maxHeartbeats 400000 in
theorem ck_drop_no (id : Int) (h : Ckm w O c now T) (ht : ∀ x ∈ T, x.2 ≠ id) : Calls Try.prog 19 #[.pointer (some ⟨c, 0, none⟩), .int .i64 id] w fun e w' => e = .returned (.bool false) ∧ w = w' := by
  obtain ⟨A, cap, b, L, k1, k2, k3, k4⟩ := h.ex
  obtain ⟨m, hm, hP⟩ := k1.map
  have hL : ∀ x ∈ L, x.2 ≠ id := fun x hx => ht x (k3.subset hx)
  have hk := hm.look id
  rw [not_mem hP hL] at hk
  unfold lookV iV at hk
  simp only [Option.getD_none, Option.isSome_none] at hk
  have c2 := k1.c2
  have hl := k1.hc.lt
  clear h k1 k2 k3 k4 hm hP ht hL
  go_enter Try.func19, Try.ntmps19
  go_wp2
  go_ret
  exact ⟨rfl, rfl⟩

theorem drp_perm2 {L K T : List Due} {x : Due} (h1 : L.Perm (x :: K)) (h2 : L.Perm T) (hi : Ids T) (hx : x ∈ T) : K.Perm (drp x.2 T) :=
  List.perm_cons x |>.1 (h1.symm.trans (h2.trans (drp_perm hi hx rfl)))

set_option maxRecDepth 100000 in
set_option maxHeartbeats 1600000 in
theorem ck_drop_ok (id : Int) (h : Ckm w O c now T) (ht : ∃ x ∈ T, x.2 = id) (hs : T.length < 90000) : Calls Try.prog 19 #[.pointer (some ⟨c, 0, none⟩), .int .i64 id] w fun e w' => e = .returned (.bool true) ∧ CkPost O c now (drp id T) w w' := by
  obtain ⟨A, cap, b, L, k1, k2, k3, k4⟩ := h.ex
  obtain ⟨m, hm, hP⟩ := k1.map
  obtain ⟨x, hx, rfl⟩ := ht
  obtain ⟨i, hi, rfl⟩ := mem_at (k3.symm.subset hx)
  have hk := hm.look (at_ L i).2
  rw [hP.yes i hi] at hk
  unfold lookV iV at hk
  simp only [Option.getD_some, Option.isSome_some] at hk
  have HRM := hid (hp_remove w k1 i hi k2 (by rw [k3.length_eq]; exact hs))
  have HEND := hid (show ∀ K : List Due, L.Perm (at_ L i :: K) → K.Perm (drp (at_ L i).2 T) from fun K hK => drp_perm2 hK k3 h.ids hx)
  have HSRT := hid (drp_srt (id := (at_ L i).2) h.srt)
  have HO := hid k4
  have c2 := k1.c2
  have hl := k1.hc.lt
  obtain ⟨y, hy⟩ : ∃ y, (at_ L i).2 = y := ⟨_, rfl⟩
  rw [hy] at hk HEND HSRT ⊢
  unfold lnV at HRM
  clear h k1 k2 k3 k4 hm hP hx hi hy hs
  go_enter Try.func19, Try.ntmps19
  go_wp2_with fail
  refine HRM.out.mono ?_
  rintro e w1 ⟨rfl, K, hK, hH, hP, hF⟩
  have HK := hid hK
  have HH := hid hH
  have HP := hid hP
  have HF := hid hF
  clear hK hH hP hF
  unfold dueV
  go_wp2_with fail
  go_ret
  exact ⟨rfl, ownK c A b, ⟨⟨A, cap, b, K, HK.out, HH.out, HEND.out _ HP.out, fun _ h => h⟩, HSRT.out, HK.out.own_lt⟩, HF.out.mono HO.out, fun k hk => .inl (HO.out k hk)⟩
end
end Go.Proofs.Ytpgbhgkikpmhiaa
