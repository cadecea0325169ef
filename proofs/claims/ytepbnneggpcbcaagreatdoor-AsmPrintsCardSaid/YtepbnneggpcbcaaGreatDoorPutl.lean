/-
  asm.put.
-/
import Derived.Test.YtepbnneggpcbcaaGreatDoorExtend
namespace Go.Proofs.YtepbnneggpcbcaaGreatDoor
open Go.RowKit

theorem suf_yes {l : Bs} (h : l.getLast? = some 10) : Lib.hasSuffix l [10] = true ∧ Lib.trimSuffix l [10] = l.dropLast := by
  have hl := last_split h
  have h1 : Lib.hasSuffix l [10] = true := by
    unfold Lib.hasSuffix
    rw [List.isSuffixOf_iff_suffix]
    exact ⟨l.dropLast, hl.symm⟩
  refine ⟨h1, ?_⟩
  unfold Lib.trimSuffix
  rw [if_pos h1, List.dropLast_eq_take]
  rfl

theorem suf_no {l : Bs} (h : l.getLast? ≠ some 10) : Lib.hasSuffix l [10] = false := by
  cases hh : Lib.hasSuffix l [10] with
  | false => rfl
  | true =>
    unfold Lib.hasSuffix at hh
    rw [List.isSuffixOf_iff_suffix] at hh
    obtain ⟨t, ht⟩ := hh
    exact absurd (by rw [← ht]; simp) h

theorem PgPost.later {w w1 w' : World} {B : Nat} {A : Option Addr} {L : List Fo} {q : List Fn × Int} {e : Ending} (hF : Fr (fun _ => False) w w1) (h : PgPost w1 B A L q e w') : PgPost w B A L q e w' := by
  obtain ⟨A', cap', L', h1, h2, h3, h4, h5⟩ := h
  exact ⟨A', cap', L', h1, h2, h3, (hF.mono (fun _ h => h.elim)).trans h4, fun j hj => (h5 j hj).imp id (fun h => Nat.le_trans hF.size h)⟩

set_option maxRecDepth 100000 in
set_option maxHeartbeats 2000000 in
theorem put_no (w : World) (B : Nat) (A : Option Addr) (cap n : Nat) (L : List Fo) (l : Bs) (hl : l.length ≤ 1000000) (h : l.getLast? ≠ some 10) :
    Calls Tryz.prog 26 #[.slice A n cap, .string (bs l)] w (PgPost w B A L (putL (L.map (·.f)) l)) := by
  have HQ := hid (show putL (L.map (·.f)) l = ([], 11) by unfold putL; rw [if_pos h])
  have hs := suf_no h
  have hC := Tryz.strings_CutSuffix (bs l) (bs [10]) w (by rw [bs_size]; omega)
  rw [bs_data, bs_data, hs] at hC
  have HC := hid hC
  clear hC hs h
  unfold bs at HC
  go_enter Tryz.func26, Tryz.ntmps26
  go_wp2_with fail
  refine HC.out.mono ?_
  rintro e w1 ⟨rfl, rfl⟩
  go_wp2_with fail
  go_ret2
  exact (PgPost.bad rfl (Fr.refl _ _)).eq HQ.out

set_option maxRecDepth 100000 in
set_option maxHeartbeats 4000000 in
theorem put_go (w : World) (ht : Tabs w) (B : Nat) (A : Option Addr) (cap : Nat) (L : List Fo) (l : Bs) (hl : l.length ≤ 1000000) (h : l.getLast? = some 10) (ho : OwnP w B A cap L) (hB : B ≤ w.heap.size) (h32 : L.length ≤ 32) (h128 : ∀ x ∈ L, x.f.code.length ≤ 128) :
    Calls Tryz.prog 26 #[.slice A L.length cap, .string (bs l)] w (PgPost w B A L (putL (L.map (·.f)) l)) := by
  obtain ⟨s1, s2⟩ := suf_yes h
  have hC := Tryz.strings_CutSuffix (bs l) (bs [10]) w (by rw [bs_size]; omega)
  rw [bs_data, bs_data, s1, s2] at hC
  have hC : Calls Tryz.prog 46 #[.string (bs l), .string ⟨#[10]⟩] w fun e w' => e = .returned (.tuple #[.string (bs l.dropLast), .bool true]) ∧ w' = w := hC
  have hd : l.dropLast.length ≤ 1000000 := by rw [List.length_dropLast]; omega
  obtain ⟨d, hdd⟩ : ∃ d, l.dropLast = d := ⟨_, rfl⟩
  have hp : putL (L.map (·.f)) l = if (cut 32 d).headD [] = wFunc then begF (L.map (·.f)) (words d) else extF (L.map (·.f)) d := by
    unfold putL
    rw [if_neg (by rw [h]; simp), hdd]
  rw [hdd] at hC hd
  have HS := hid (split_any d hd w ht)
  have HC := hid hC
  have HP := hid hp
  have HE := hid (fun (W : World) (hW : Fr (fun _ => False) w W) => extend_any W (ht.same hW) B A cap L d hd (ho.same hW) (Nat.le_trans hB hW.size) h32 h128)
  have HBG := hid (fun (W : World) (hW : Fr (fun _ => False) w W) (A2 : Option Addr) (c2 : Nat) (hw : OwnW W w.heap.size A2 (words d).length c2 (words d)) => begin_any W (ht.same hW) B w.heap.size A A2 cap c2 L (words d) hw (ho.same hW) (Nat.le_trans hB hW.size) hB h32 (fun x hx => Nat.le_trans (words_short d x hx) hd))
  obtain ⟨x, r, hx, hh⟩ := head_words d
  rw [hh] at HP
  clear hC hp s1 s2 hdd h ho hh
  obtain ⟨N, hN⟩ : ∃ N, L.length = N := ⟨_, rfl⟩
  rw [hN] at HE HBG ⊢
  clear hN
  go_enter Tryz.func26, Tryz.ntmps26
  go_wp2_with fail
  refine HC.out.mono ?_
  rintro e w1 ⟨rfl, rfl⟩
  go_wp2_with fail
  refine HS.out.mono ?_
  rintro e w2 ⟨A2, c2, rfl, how, hF2⟩
  obtain ⟨n, hn⟩ : ∃ n, (words d).length = n := ⟨_, rfl⟩
  have hn1 : 1 ≤ n := by rw [← hn, hx]; simp
  obtain ⟨g, rfl, hg1, hg2, hgc⟩ := how.2.2 (by omega)
  have c0 : w2.cell? ⟨g, 0, none⟩ = some (.string (bs x)) := hgc 0 x (by rw [hx]; rfl)
  have HB2 := hid (HBG.out w2 hF2 _ c2 how)
  have HE2 := hid (HE.out w2 hF2)
  rw [hn] at HB2 ⊢
  clear how hgc hn hx HBG HE
  by_cases hf : x = wFunc
  · have HQ := hid (show putL (L.map (·.f)) l = begF (L.map (·.f)) (words d) by rw [HP.out, if_pos hf])
    have t : ((bs x).toList == [102, 117, 110, 99]) = true := by rw [bs_toList, hf]; rfl
    clear hf
    go_wp2_with fail
    refine HB2.out.mono ?_
    rintro e w3 ⟨A3, c3, L3, rfl, q1, q2, q3, q4⟩
    have HX := hid (show PgPost w1 B A L (begF (L.map (·.f)) (words d)) _ w3 from PgPost.later hF2 ⟨A3, c3, L3, rfl, q1, q2, q3, q4⟩)
    clear q1 q2 q3 q4
    go_wp2_with fail
    go_ret2
    exact HX.out.eq HQ.out
  · have HQ := hid (show putL (L.map (·.f)) l = extF (L.map (·.f)) d by rw [HP.out, if_neg hf])
    have t : ((bs x).toList == [102, 117, 110, 99]) = false := by rw [bs_toList]; exact beq_eq_false_iff_ne.2 hf
    clear hf
    go_wp2_with fail
    refine HE2.out.mono ?_
    rintro e w3 ⟨A3, c3, L3, rfl, q1, q2, q3, q4⟩
    have HX := hid (show PgPost w1 B A L (extF (L.map (·.f)) d) _ w3 from PgPost.later hF2 ⟨A3, c3, L3, rfl, q1, q2, q3, q4⟩)
    clear q1 q2 q3 q4
    go_wp2_with fail
    go_ret2
    exact HX.out.eq HQ.out

theorem put_any' (w : World) (ht : Tabs w) (B : Nat) (A : Option Addr) (cap : Nat) (L : List Fo) (l : Bs) (hl : l.length ≤ 1000000) (ho : OwnP w B A cap L) (hB : B ≤ w.heap.size) (h32 : L.length ≤ 32) (h128 : ∀ x ∈ L, x.f.code.length ≤ 128) :
    Calls Tryz.prog 26 #[.slice A L.length cap, .string (bs l)] w (PgPost w B A L (putL (L.map (·.f)) l)) := by
  by_cases h : l.getLast? = some 10
  · exact put_go w ht B A cap L l hl h ho hB h32 h128
  · exact put_no w B A cap L.length L l hl h

end Go.Proofs.YtepbnneggpcbcaaGreatDoor
