/-
  CodeCut's walk.
-/
import Derived.Test.YtecobbojbdfffaaDoorPure
import Derived.Test.YtecobbojbdfffaaDoorPacks
namespace Go.Proofs.YtecobbojbdfffaaDoor
open Go.RowKit

theorem OwnB.src {w : World} {B : Nat} {A : Option Addr} {n cap : Nat} {l : List Int} (h : OwnB w B A n cap l) (hl : AllB l) : Src w w.heap.size A n cap l := by
  refine ⟨h.len, ?_, ?_, h.bys, hl⟩
  · obtain ⟨h1, h2⟩ := h
    rcases h2 with ⟨h2, rfl⟩ | ⟨g, c, cur, hv, _, _, hc, _⟩
    · exact Nat.zero_le _
    · injection hv with _ _ hv
      subst hv
      exact hc
  · obtain ⟨h1, h2⟩ := h
    rcases h2 with ⟨h2, rfl⟩ | ⟨g, c, cur, hv, _, _, _, hc, _⟩
    · injection h2 with _ _ h2
      subst h2
      exact Nat.zero_le _
    · injection hv with _ _ hv
      subst hv
      exact hc

set_option maxRecDepth 100000 in
set_option maxHeartbeats 1000000 in
theorem cutWalk_long (A : Option Addr) (n cap : Nat) (m x : Int) (w : World) (ht : Tabs w) (h : 4000 < n) :
    Calls Tryd.prog 10 #[.slice A n cap, .int .i64 m, .int .u8 x] w fun e w' => e = .returned (.bool true) ∧ Fr (fun _ => False) w w' := by
  go_enter Tryd.func10, Tryd.ntmps10
  go_wp2_with fail
  refine (awake_ok w ht).mono ?_
  rintro e w3 ⟨rfl, hF3⟩
  go_wp2_with fail
  go_ret
  exact ⟨rfl, hF3⟩

set_option maxRecDepth 100000 in
set_option maxHeartbeats 1000000 in
theorem cutWalk_err (A : Option Addr) (n cap : Nat) (l : List Int) (m x : Int) (w : World) (ht : Tabs w) (hs : Src w w.heap.size A n cap l) (h : n ≤ 4000) (he : (unProg l).err ≠ 0) :
    Calls Tryd.prog 10 #[.slice A n cap, .int .i64 m, .int .u8 x] w fun e w' => e = .returned (.bool true) ∧ Fr (fun _ => False) w w' := by
  have HA := hid awake_ok
  have HU := hid (unpack_any A n cap l w ht hs (by omega))
  obtain ⟨⟨P, at_, err⟩, hr⟩ : ∃ r, unProg l = r := ⟨_, rfl⟩
  rw [hr] at HU he
  simp only at he
  have t1 : (err != 0) = true := by simpa using he
  clear hr hs he
  go_enter Tryd.func10, Tryd.ntmps10
  go_wp2_with fail
  refine HU.out.mono ?_
  rintro e w1 ⟨A1, c1, L1, rfl, _, _, hF1⟩
  simp only
  obtain ⟨a, ha⟩ : ∃ a, P.length = a := ⟨_, rfl⟩
  simp only [ha]
  clear ha
  go_wp2_with fail
  have hF2 := hF1.trans (Fr.alloc (fun _ => False) w1 (.cells #[.slice A1 a c1] 42))
  refine (HA.out _ (ht.same hF2)).mono ?_
  rintro e w3 ⟨rfl, hF3⟩
  go_wp2_with fail
  go_ret
  exact ⟨rfl, hF2.trans hF3⟩

set_option maxRecDepth 100000 in
set_option maxHeartbeats 4000000 in
theorem cutWalk_ok (A : Option Addr) (n cap : Nat) (l : List Int) (m x : Int) (w : World) (ht : Tabs w) (hs : Src w w.heap.size A n cap l) (h : n ≤ 4000) (he : (unProg l).err = 0) (hx : 0 ≤ x ∧ x ≤ 255) :
    Calls Tryd.prog 10 #[.slice A n cap, .int .i64 m, .int .u8 x] w fun e w' => e = .returned (.bool true) ∧ Fr (fun _ => False) w w' := by
  have HA := hid awake_ok
  have HU := hid (unpack_any A n cap l w ht hs (by omega))
  obtain ⟨hl, hc, hm, hb, hall⟩ := hs
  have hpos : n ≠ 0 := by have := (unProg_parts he).1; omega
  obtain ⟨hpe, hpb⟩ := unProg_back hall he
  have hlen := unProg_len l
  have HT := hid (unProg_tail x he)
  have hallx : AllB (l ++ [x]) := fun y hy => by
    rw [List.mem_append] at hy
    rcases hy with hy | hy
    · exact hall y hy
    · simp at hy
      subst hy
      exact hx
  have HCUT := hid (fun (k : Nat) (hk : k < n) => unProg_cut (l := l) (m := k) (by omega) he)
  obtain ⟨⟨P, at_, err⟩, hr⟩ : ∃ r, unProg l = r := ⟨_, rfl⟩
  rw [hr] at HU he hpe hpb hlen
  simp only at he hpe hpb hlen
  subst he
  have HPE := hid hpe
  have HPB := hid hpb
  have HL := hid hl
  clear hr hpe hpb
  obtain ⟨bk, o, rfl, hbl, hcell⟩ := hb (by omega)
  obtain ⟨i0, hi, hz⟩ := Option.map_eq_some_iff.1 Tryd.infob
  simp only [Prod.mk.injEq] at hz
  obtain ⟨hz0, hz1, hz2⟩ := hz
  have HI := hid hi
  have HZ0 := hid hz0
  have HZ1 := hid hz1
  have HZ2 := hid hz2
  clear hi hz0 hz1 hz2 hl
  go_enter Tryd.func10, Tryd.ntmps10
  go_wp2_with fail
  refine HU.out.mono ?_
  rintro e w1 ⟨A1, c1, L1, rfl, hP1, hm1, hF1⟩
  simp only at hm1 ⊢
  have hQ1 := hP1.prg
  rw [hm1] at hQ1
  have hFa := Fr.alloc (fun _ => False) w1 (.cells #[.slice A1 P.length c1] 42)
  have HPK := hid (pack_any A1 c1 P _ (ht.same (hF1.trans hFa)) ((hQ1.same hFa (Nat.le_refl _)).more hFa.size))
  obtain ⟨a, ha⟩ : ∃ a, P.length = a := ⟨_, rfl⟩
  rw [ha] at HPK hFa hlen ⊢
  clear hP1 hm1 ha hQ1
  go_wp2_with fail
  refine HPK.out.mono ?_
  intro e w2 hpa
  obtain ⟨A2, n2, c2, rfl, hn2, ho2, hF2⟩ := hpa.own
  rw [HPE.out, if_pos rfl, HPB.out] at ho2
  rw [HPE.out]
  have hn2' : n = n2 := by have := ho2.len; have := HL.out; omega
  subst hn2'
  have hF02 := hF1.trans (hFa.trans hF2)
  have hb2 : Bys w2 w2.heap.size (some ⟨bk, o, none⟩) l := fun _ => ⟨bk, o, rfl, Nat.lt_of_lt_of_le hbl hF02.size, fun k v hv => (cell_keep hF02 (p := ⟨bk, o + k, none⟩) hbl (fun h => h)).trans (hcell k v hv)⟩
  have HB := hid (bytes_any _ _ (some ⟨bk, o, none⟩) A2 n n cap c2 l l w2 hb2 ho2.bys HL.out HL.out (by omega) (by omega))
  rw [show SameB l l = true by simp [SameB]] at HB
  clear hpa ho2 hb2
  go_wp2_with fail
  refine HB.out.mono ?_
  rintro e w3 ⟨rfl, hF3⟩
  have hF03 := hF02.trans hF3
  by_cases hm0 : 0 ≤ m
  · have d0 : decide (0 ≤ m) = true := by simpa using hm0
    by_cases hmn : m < n
    · obtain ⟨k, rfl⟩ := Int.eq_ofNat_of_zero_le hm0
      have hk : k < n := by omega
      obtain ⟨hcu1, hcu2⟩ := HCUT.out k hk
      have htl : (l.take k).length = k := by rw [List.length_take, HL.out]; omega
      have hsk : Src w3 w3.heap.size (some ⟨bk, o, none⟩) k cap (l.take k) := ⟨htl, by omega, hm, fun _ => ⟨bk, o, rfl, Nat.lt_of_lt_of_le hbl hF03.size, fun j v hv => by
        rw [List.getElem?_take] at hv
        split at hv
        · exact (cell_keep hF03 (p := ⟨bk, o + j, none⟩) hbl (fun h => h)).trans (hcell j v hv)
        · cases hv⟩, fun y hy => hall y (List.mem_of_mem_take hy)⟩
      have HUK := hid (unpack_any (some ⟨bk, o, none⟩) k cap (l.take k) w3 (ht.same hF03) hsk (by omega))
      obtain ⟨⟨P5, at5, err5⟩, hr5⟩ : ∃ r, unProg (l.take k) = r := ⟨_, rfl⟩
      rw [hr5] at HUK hcu1 hcu2
      simp only at hcu1 hcu2
      subst hcu1
      clear hr5 hsk htl HCUT
      have d1 : (k : Int) < (n : Int) := by omega
      go_wp2_with fail
      refine HUK.out.mono ?_
      rintro e w4 ⟨A5, c5, L5, rfl, _, _, hF4⟩
      simp only
      obtain ⟨a5, ha5⟩ : ∃ a5, P5.length = a5 := ⟨_, rfl⟩
      simp only [ha5]
      clear ha5
      have d2 : ¬ (k : Int) < (at5 : Int) := by omega
      have hFw := hF03.trans (hF4.trans (Fr.alloc (fun _ => False) w4 (.cells #[.slice A5 a5 c5] 42)))
      have hs5 := hFw.size
      have HO0 := hid (OwnB.nil (w4.alloc (.cells #[.slice A5 a5 c5] 42)) w.heap.size)
      have HN0 := hid (show ∀ (j : Nat) (u : Value), (byts l)[j]? = some u → ((w4.alloc (.cells #[.slice A5 a5 c5] 42))).cell? ((⟨bk, o, none⟩ : Addr).add j) = some u from fun j u hu => by
        simp only [byts, List.getElem?_map, Option.map_eq_some_iff] at hu
        obtain ⟨v, hv, rfl⟩ := hu
        rw [add_none]
        exact (cell_keep hFw (p := ⟨bk, o + j, none⟩) hbl (fun h => h)).trans (hcell j v hv))
      go_wp2_with (first
        | (at_builtin; refine wpList_append_own _ rfl _ _ 29 rfl w.heap.size 5 i0 (.int .u8 0) 1 1 Tryd.underlying29 HI.out HZ0.out HZ1.out HZ2.out rfl (by decide) (.slice none 0 0) 0 _ rfl HO0.out ⟨bk, o, none⟩ n cap (byts l) rfl (by first | rfl | simp [byts, HL.out]) HN0.out (byts_one _) (by first | (unfold maxLen; omega) | decide) (by omega) (by first | omega | (simp; omega)) ?_; intro v2 w6 hown6 hgrow6 hnil6; clear hnil6; obtain ⟨A6, c6, rfl, ho6⟩ := own_form (l := l) (by simpa [byts] using hown6); have hF6 : Fr (fun _ => False) (w4.alloc (.cells #[.slice A5 a5 c5] 42)) w6 := (Fr.of_grown hgrow6).none; have HO6 := hid (ho6.same (Fr.alloc _ w6 (.cells #[.int .u8 x] 5))); have HO6' := hid ho6; clear hown6 hgrow6 ho6; have hs6 := hF6.size; have HN6 := hid (news8 w6 5 (byts [x])))
        | (at_builtin; refine wpList_append_own _ rfl _ _ 29 rfl w.heap.size 5 i0 (.int .u8 0) 1 1 Tryd.underlying29 HI.out HZ0.out HZ1.out HZ2.out rfl (by decide) (.slice A6 n c6) n _ rfl HO6.out ⟨w6.heap.size, 0, none⟩ 1 1 (byts [x]) rfl (by first | rfl | simp [byts, HL.out]) HN6.out (byts_one _) (by first | (unfold maxLen; omega) | decide) (by omega) (by first | omega | (simp; omega)) ?_; intro v3 w7 hown7 hgrow7 hnil7; clear hnil7; obtain ⟨A7, c7, rfl, ho7⟩ := own_form (l := l ++ [x]) (by simpa [byts] using hown7); have hF7 := (Fr.alloc (ownB A6) w6 (.cells #[.int .u8 x] 5)).trans (Fr.of_grown hgrow7); have HO7 := hid ho7; clear hown7 hgrow7 ho7))
      have hF67 : Fr (fun _ => False) w w7 := Fr.to_none ((hFw.mono (fun _ h => h.elim)).trans ((hF6.mono (fun _ h => h.elim)).trans (hF7.mono (fun k hk => (HO6'.out.lt k hk).1))))
      have HU7 := hid (unpack_any A7 (n + 1) c7 (l ++ [x]) w7 (ht.same hF67) (HO7.out.src hallx) (by omega))
      rw [HT.out] at HU7
      refine HU7.out.mono ?_
      rintro e w8 ⟨A8, c8, L8, rfl, _, hm8, hF8⟩
      simp only [List.length_nil, HL.out] at hm8 ⊢
      go_wp2_with fail
      have hF9 := hF67.trans (hF8.trans (Fr.alloc (fun _ => False) w8 (.cells #[.slice A8 0 c8] 42)))
      refine (HA.out _ (ht.same hF9)).mono ?_
      rintro e w9 ⟨rfl, hFz⟩
      go_wp2_with fail
      go_ret
      exact ⟨rfl, hF9.trans hFz⟩
    · have d1 : ¬ m < (n : Int) := by omega
      have d2 : decide (m < (n : Int)) = false := by simpa using d1
      have hFw := hF03
      have hs5 := hFw.size
      have HO0 := hid (OwnB.nil w3 w.heap.size)
      have HN0 := hid (show ∀ (j : Nat) (u : Value), (byts l)[j]? = some u → (w3).cell? ((⟨bk, o, none⟩ : Addr).add j) = some u from fun j u hu => by
        simp only [byts, List.getElem?_map, Option.map_eq_some_iff] at hu
        obtain ⟨v, hv, rfl⟩ := hu
        rw [add_none]
        exact (cell_keep hFw (p := ⟨bk, o + j, none⟩) hbl (fun h => h)).trans (hcell j v hv))
      go_wp2_with (first
        | (at_builtin; refine wpList_append_own _ rfl _ _ 29 rfl w.heap.size 5 i0 (.int .u8 0) 1 1 Tryd.underlying29 HI.out HZ0.out HZ1.out HZ2.out rfl (by decide) (.slice none 0 0) 0 _ rfl HO0.out ⟨bk, o, none⟩ n cap (byts l) rfl (by first | rfl | simp [byts, HL.out]) HN0.out (byts_one _) (by first | (unfold maxLen; omega) | decide) (by omega) (by first | omega | (simp; omega)) ?_; intro v2 w6 hown6 hgrow6 hnil6; clear hnil6; obtain ⟨A6, c6, rfl, ho6⟩ := own_form (l := l) (by simpa [byts] using hown6); have hF6 : Fr (fun _ => False) w3 w6 := (Fr.of_grown hgrow6).none; have HO6 := hid (ho6.same (Fr.alloc _ w6 (.cells #[.int .u8 x] 5))); have HO6' := hid ho6; clear hown6 hgrow6 ho6; have hs6 := hF6.size; have HN6 := hid (news8 w6 5 (byts [x])))
        | (at_builtin; refine wpList_append_own _ rfl _ _ 29 rfl w.heap.size 5 i0 (.int .u8 0) 1 1 Tryd.underlying29 HI.out HZ0.out HZ1.out HZ2.out rfl (by decide) (.slice A6 n c6) n _ rfl HO6.out ⟨w6.heap.size, 0, none⟩ 1 1 (byts [x]) rfl (by first | rfl | simp [byts, HL.out]) HN6.out (byts_one _) (by first | (unfold maxLen; omega) | decide) (by omega) (by first | omega | (simp; omega)) ?_; intro v3 w7 hown7 hgrow7 hnil7; clear hnil7; obtain ⟨A7, c7, rfl, ho7⟩ := own_form (l := l ++ [x]) (by simpa [byts] using hown7); have hF7 := (Fr.alloc (ownB A6) w6 (.cells #[.int .u8 x] 5)).trans (Fr.of_grown hgrow7); have HO7 := hid ho7; clear hown7 hgrow7 ho7))
      have hF67 : Fr (fun _ => False) w w7 := Fr.to_none ((hFw.mono (fun _ h => h.elim)).trans ((hF6.mono (fun _ h => h.elim)).trans (hF7.mono (fun k hk => (HO6'.out.lt k hk).1))))
      have HU7 := hid (unpack_any A7 (n + 1) c7 (l ++ [x]) w7 (ht.same hF67) (HO7.out.src hallx) (by omega))
      rw [HT.out] at HU7
      refine HU7.out.mono ?_
      rintro e w8 ⟨A8, c8, L8, rfl, _, hm8, hF8⟩
      simp only [List.length_nil, HL.out] at hm8 ⊢
      go_wp2_with fail
      have hF9 := hF67.trans (hF8.trans (Fr.alloc (fun _ => False) w8 (.cells #[.slice A8 0 c8] 42)))
      refine (HA.out _ (ht.same hF9)).mono ?_
      rintro e w9 ⟨rfl, hFz⟩
      go_wp2_with fail
      go_ret
      exact ⟨rfl, hF9.trans hFz⟩
  · have d0 : decide (0 ≤ m) = false := by simpa using hm0
    have hFw := hF03
    have hs5 := hFw.size
    have HO0 := hid (OwnB.nil w3 w.heap.size)
    have HN0 := hid (show ∀ (j : Nat) (u : Value), (byts l)[j]? = some u → (w3).cell? ((⟨bk, o, none⟩ : Addr).add j) = some u from fun j u hu => by
      simp only [byts, List.getElem?_map, Option.map_eq_some_iff] at hu
      obtain ⟨v, hv, rfl⟩ := hu
      rw [add_none]
      exact (cell_keep hFw (p := ⟨bk, o + j, none⟩) hbl (fun h => h)).trans (hcell j v hv))
    go_wp2_with (first
      | (at_builtin; refine wpList_append_own _ rfl _ _ 29 rfl w.heap.size 5 i0 (.int .u8 0) 1 1 Tryd.underlying29 HI.out HZ0.out HZ1.out HZ2.out rfl (by decide) (.slice none 0 0) 0 _ rfl HO0.out ⟨bk, o, none⟩ n cap (byts l) rfl (by first | rfl | simp [byts, HL.out]) HN0.out (byts_one _) (by first | (unfold maxLen; omega) | decide) (by omega) (by first | omega | (simp; omega)) ?_; intro v2 w6 hown6 hgrow6 hnil6; clear hnil6; obtain ⟨A6, c6, rfl, ho6⟩ := own_form (l := l) (by simpa [byts] using hown6); have hF6 : Fr (fun _ => False) w3 w6 := (Fr.of_grown hgrow6).none; have HO6 := hid (ho6.same (Fr.alloc _ w6 (.cells #[.int .u8 x] 5))); have HO6' := hid ho6; clear hown6 hgrow6 ho6; have hs6 := hF6.size; have HN6 := hid (news8 w6 5 (byts [x])))
      | (at_builtin; refine wpList_append_own _ rfl _ _ 29 rfl w.heap.size 5 i0 (.int .u8 0) 1 1 Tryd.underlying29 HI.out HZ0.out HZ1.out HZ2.out rfl (by decide) (.slice A6 n c6) n _ rfl HO6.out ⟨w6.heap.size, 0, none⟩ 1 1 (byts [x]) rfl (by first | rfl | simp [byts, HL.out]) HN6.out (byts_one _) (by first | (unfold maxLen; omega) | decide) (by omega) (by first | omega | (simp; omega)) ?_; intro v3 w7 hown7 hgrow7 hnil7; clear hnil7; obtain ⟨A7, c7, rfl, ho7⟩ := own_form (l := l ++ [x]) (by simpa [byts] using hown7); have hF7 := (Fr.alloc (ownB A6) w6 (.cells #[.int .u8 x] 5)).trans (Fr.of_grown hgrow7); have HO7 := hid ho7; clear hown7 hgrow7 ho7))
    have hF67 : Fr (fun _ => False) w w7 := Fr.to_none ((hFw.mono (fun _ h => h.elim)).trans ((hF6.mono (fun _ h => h.elim)).trans (hF7.mono (fun k hk => (HO6'.out.lt k hk).1))))
    have HU7 := hid (unpack_any A7 (n + 1) c7 (l ++ [x]) w7 (ht.same hF67) (HO7.out.src hallx) (by omega))
    rw [HT.out] at HU7
    refine HU7.out.mono ?_
    rintro e w8 ⟨A8, c8, L8, rfl, _, hm8, hF8⟩
    simp only [List.length_nil, HL.out] at hm8 ⊢
    go_wp2_with fail
    have hF9 := hF67.trans (hF8.trans (Fr.alloc (fun _ => False) w8 (.cells #[.slice A8 0 c8] 42)))
    refine (HA.out _ (ht.same hF9)).mono ?_
    rintro e w9 ⟨rfl, hFz⟩
    go_wp2_with fail
    go_ret
    exact ⟨rfl, hF9.trans hFz⟩

theorem cutWalk (A : Option Addr) (n cap : Nat) (l : List Int) (m x : Int) (w : World) (ht : Tabs w) (hs : Src w w.heap.size A n cap l) (hx : 0 ≤ x ∧ x ≤ 255) :
    Calls Tryd.prog 10 #[.slice A n cap, .int .i64 m, .int .u8 x] w fun e w' => e = .returned (.bool true) ∧ Fr (fun _ => False) w w' := by
  by_cases h : 4000 < n
  · exact cutWalk_long A n cap m x w ht h
  · by_cases he : (unProg l).err = 0
    · exact cutWalk_ok A n cap l m x w ht hs (by omega) he hx
    · exact cutWalk_err A n cap l m x w ht hs (by omega) he

end Go.Proofs.YtecobbojbdfffaaDoor
