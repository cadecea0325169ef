/-
  CodeBack's walk: what is encoded is decoded, and the other way.
-/
import Derived.Test.YtecobbojbdfffaaDoorRefDecode
namespace Go.Proofs.YtecobbojbdfffaaDoor
open Go.RowKit

theorem chk_fields {i : Ins} (h : chk i = 0) : (0 ≤ i.op ∧ i.op ≤ 16) ∧ (0 ≤ i.a ∧ i.a ≤ 7) ∧ (0 ≤ i.b ∧ i.b ≤ 7) ∧ (0 ≤ i.c ∧ i.c ≤ 7) ∧ (-2147483648 ≤ i.n ∧ i.n ≤ 2147483647) := by
  have hn := chk_n h
  by_cases ho : i.op < 0 ∨ 16 < i.op
  · unfold chk at h
    rw [if_pos ho] at h
    cases h
  · unfold chk at h
    rw [if_neg ho] at h
    have hw : i.wrong = false := by
      cases hh : i.wrong
      · rfl
      · rw [hh] at h
        cases h
    unfold Ins.wrong at hw
    simp only [Bool.or_eq_false_iff] at hw
    have h0 := not_bad hw.1.1.1
    have h1 := not_bad hw.1.1.2
    have h2 := not_bad hw.1.2
    have hh : ∀ o, o ≤ 16 → (lo o 0 = 0 ∧ hi o 0 ≤ 7) ∧ (lo o 1 = 0 ∧ hi o 1 ≤ 7) ∧ (lo o 2 = 0 ∧ hi o 2 ≤ 7) := by decide
    have := hh i.op.toNat (by omega)
    omega

theorem encB_len (i : Ins) : (encB i).length = 8 := rfl

theorem encB_all (i : Ins) : AllB (encB i) := by
  intro x hx
  simp only [encB, List.mem_cons, List.not_mem_nil, or_false] at hx
  omega

theorem dec_enc {i : Ins} (h : chk i = 0) : dec (encB i) = i := by
  obtain ⟨h0, h1, h2, h3, h4⟩ := chk_fields h
  obtain ⟨op, a, b, c, n⟩ := i
  simp only at h0 h1 h2 h3 h4
  show (⟨op % 256, a % 256, b % 256, c % 256, sgn (decN (n % 4294967296 / 16777216) (n % 4294967296 / 65536 % 256) (n % 4294967296 / 256 % 256) (n % 256))⟩ : Ins) = _
  have e0 : op % 256 = op := by omega
  have e1 : a % 256 = a := by omega
  have e2 : b % 256 = b := by omega
  have e3 : c % 256 = c := by omega
  have e4 : decN (n % 4294967296 / 16777216) (n % 4294967296 / 65536 % 256) (n % 4294967296 / 256 % 256) (n % 256) = n % 4294967296 := by
    unfold decN
    omega
  have e5 : sgn (n % 4294967296) = n := by
    unfold sgn
    split <;> omega
  rw [e0, e1, e2, e3, e4, e5]

theorem decErr_enc {i : Ins} (h : chk i = 0) : decErr (encB i) = 0 := by
  unfold decErr
  rw [if_pos (encB_len i), dec_enc h, h]

theorem decIns_enc {i : Ins} (h : chk i = 0) : decIns (encB i) = i := by
  unfold decIns
  rw [if_pos (decErr_enc h), dec_enc h]

theorem enc_dec {l : List Int} (h8 : l.length = 8) (hl : AllB l) : encB (dec l) = l := by
  match l, h8 with
  | [x0, x1, x2, x3, x4, x5, x6, x7], _ =>
    have b0 := hl.getD 0
    have b1 := hl.getD 1
    have b2 := hl.getD 2
    have b3 := hl.getD 3
    have b4 := hl.getD 4
    have b5 := hl.getD 5
    have b6 := hl.getD 6
    have b7 := hl.getD 7
    simp only [List.getD_eq_getElem?_getD, List.getElem?_cons_zero, List.getElem?_cons_succ, Option.getD_some] at b0 b1 b2 b3 b4 b5 b6 b7
    show [x0 % 256, x1 % 256, x2 % 256, x3 % 256, sgn (decN x4 x5 x6 x7) % 4294967296 / 16777216, sgn (decN x4 x5 x6 x7) % 4294967296 / 65536 % 256, sgn (decN x4 x5 x6 x7) % 4294967296 / 256 % 256, sgn (decN x4 x5 x6 x7) % 256] = _
    have e : sgn (decN x4 x5 x6 x7) % 4294967296 = decN x4 x5 x6 x7 := by
      unfold sgn decN
      split <;> omega
    have e' : sgn (decN x4 x5 x6 x7) % 256 = x7 := by
      unfold sgn decN
      split <;> omega
    rw [e, e']
    unfold decN
    have f0 : x0 % 256 = x0 := by omega
    have f1 : x1 % 256 = x1 := by omega
    have f2 : x2 % 256 = x2 := by omega
    have f3 : x3 % 256 = x3 := by omega
    have f4 : (x4 * 16777216 + x5 * 65536 + x6 * 256 + x7) / 16777216 = x4 := by omega
    have f5 : (x4 * 16777216 + x5 * 65536 + x6 * 256 + x7) / 65536 % 256 = x5 := by omega
    have f6 : (x4 * 16777216 + x5 * 65536 + x6 * 256 + x7) / 256 % 256 = x6 := by omega
    rw [f0, f1, f2, f3, f4, f5, f6]

theorem decErr_eq {l : List Int} (h : l.length = 8) : decErr l = chk (dec l) := by
  unfold decErr
  rw [if_pos h]

theorem chk_ways (i : Ins) : chk i = 0 ∨ chk i = 10 ∨ chk i = 13 := by
  unfold chk
  split
  · exact .inr (.inr rfl)
  · split
    · exact .inr (.inl rfl)
    · exact .inl rfl

set_option maxRecDepth 100000 in
set_option maxHeartbeats 2000000 in
theorem backWalk_no (i : Ins) (x0 x1 x2 x3 x4 x5 x6 x7 : Int) (w : World) (ht : Tabs w) (hy : AllB [x0, x1, x2, x3, x4, x5, x6, x7]) (h : chk i ≠ 0) :
    Calls Tryd.prog 6 #[i.val, .agg #[.int .u8 x0, .int .u8 x1, .int .u8 x2, .int .u8 x3, .int .u8 x4, .int .u8 x5, .int .u8 x6, .int .u8 x7]] w fun e w' => e = .returned (.bool true) ∧ Fr (fun _ => False) w w' := by
  have HE := hid (fun W hW => encode_no i W hW h)
  have HC := hid (check_any i)
  have HA := hid awake_ok
  obtain ⟨x, hx⟩ : ∃ x, chk i = x := ⟨_, rfl⟩
  rw [hx] at HE HC h
  have t1 : (x == 0) = false := by simpa using h
  clear hx h
  have hA : Fr (fun _ => False) w ((w.alloc (.cells #[.int .i64 i.op, .int .i64 i.a, .int .i64 i.b, .int .i64 i.c, .int .i64 i.n] 23)).alloc (.cells #[.int .u8 x0, .int .u8 x1, .int .u8 x2, .int .u8 x3, .int .u8 x4, .int .u8 x5, .int .u8 x6, .int .u8 x7] 38)) := (Fr.alloc _ _ _).trans (Fr.alloc _ _ _)
  have hB := (Blk.new w #[.int .i64 i.op, .int .i64 i.a, .int .i64 i.b, .int .i64 i.c, .int .i64 i.n] 23).alloc (.cells #[.int .u8 x0, .int .u8 x1, .int .u8 x2, .int .u8 x3, .int .u8 x4, .int .u8 x5, .int .u8 x6, .int .u8 x7] 38)
  have hE := (Blk.new (w.alloc (.cells #[.int .i64 i.op, .int .i64 i.a, .int .i64 i.b, .int .i64 i.c, .int .i64 i.n] 23)) #[.int .u8 x0, .int .u8 x1, .int .u8 x2, .int .u8 x3, .int .u8 x4, .int .u8 x5, .int .u8 x6, .int .u8 x7] 38).at (size_alloc _ _)
  unfold Ins.val at *
  go_enter Tryd.func6, Tryd.ntmps6
  go_wp2_with fail
  refine (HE.out _ (ht.same hA)).mono ?_
  rintro e w1 ⟨rfl, hF1⟩
  have hB1 := hB.keep hF1 (fun h => h)
  obtain ⟨p0, p1, p2, p3, p4⟩ := hB1.five
  have l1 := hB1.lt
  go_wp2_with fail
  refine (HC.out _ (ht.same (hA.trans hF1))).mono ?_
  rintro e w2 ⟨rfl, hF2⟩
  clear p0 p1 p2 p3 p4
  have hF0 := hA.trans (hF1.trans hF2)
  have hE0 := hE.keep (hF1.trans hF2) (fun h => h)
  have lE := hE0.lt
  have HD := hid (decode_any (some ⟨w.heap.size + 1, 0, none⟩) 8 8 [x0, x1, x2, x3, x4, x5, x6, x7] w2 (ht.same hF0) ((REnc.bys hE0).more hE0.lt) rfl hy)
  obtain ⟨j, hj⟩ : ∃ j, decIns [x0, x1, x2, x3, x4, x5, x6, x7] = j := ⟨_, rfl⟩
  obtain ⟨y, hyy⟩ : ∃ y, decErr [x0, x1, x2, x3, x4, x5, x6, x7] = y := ⟨_, rfl⟩
  rw [hj, hyy] at HD
  have hw : y = 0 ∨ y = 10 ∨ y = 13 := by rw [← hyy]; rw [decErr_eq rfl]; exact chk_ways _
  have hok : y = 0 → chk j = 0 ∧ encB j = [x0, x1, x2, x3, x4, x5, x6, x7] := fun h0 => by
    rw [h0] at hyy
    have e : decIns [x0, x1, x2, x3, x4, x5, x6, x7] = dec [x0, x1, x2, x3, x4, x5, x6, x7] := by unfold decIns; rw [if_pos hyy]
    rw [← hj, e]
    refine ⟨?_, enc_dec rfl hy⟩
    rwa [decErr_eq rfl] at hyy
  clear hj hyy
  have HOK := hid hok
  clear hok
  obtain ⟨op, a, b, c, m⟩ := j
  unfold Ins.val at HD
  simp only at HD
  go_wp2_with fail
  refine HD.out.mono ?_
  rintro e v1 ⟨rfl, hG1⟩
  have hG2 := Fr.alloc (fun _ => False) v1 (.cells #[.int .i64 op, .int .i64 a, .int .i64 b, .int .i64 c, .int .i64 m] 23)
  have hFv := hF0.trans (hG1.trans hG2)
  rcases hw with rfl | rfl | rfl
  · obtain ⟨hc0, he0⟩ := HOK.out rfl
    have HE2 := hid (encode_ok ⟨op, a, b, c, m⟩ (v1.alloc (.cells #[.int .i64 op, .int .i64 a, .int .i64 b, .int .i64 c, .int .i64 m] 23)) (ht.same hFv) hc0)
    unfold Ins.val at HE2
    simp only at HE2
    have HEQ := hid he0
    clear hc0 he0
    go_wp2_with fail
    refine HE2.out.mono ?_
    rintro e v2 ⟨A2, c2, rfl, ho2, hG3⟩
    have hE3 := (hE0.keep (hG1.trans (hG2.trans hG3)) (fun h => h))
    have lE3 := hE3.lt
    have HB := hid (bytes_any _ _ A2 (some ⟨w.heap.size + 1, 0, none⟩) 8 8 c2 8 _ _ v2 ho2.bys (REnc.bys (l := [x0, x1, x2, x3, x4, x5, x6, x7]) hE3) rfl rfl (by omega) (by omega))
    rw [HEQ.out, show SameB [x0, x1, x2, x3, x4, x5, x6, x7] [x0, x1, x2, x3, x4, x5, x6, x7] = true by simp [SameB]] at HB
    clear ho2
    go_wp2_with fail
    refine HB.out.mono ?_
    rintro e v3 ⟨rfl, hG4⟩
    go_wp2_with fail
    refine (HA.out _ (ht.same ((hFv.trans hG3).trans hG4))).mono ?_
    rintro e v4 ⟨rfl, hG5⟩
    go_wp2_with fail
    go_ret
    exact ⟨rfl, ((hFv.trans hG3).trans hG4).trans hG5⟩
  · go_wp2_with fail
    refine (HA.out _ (ht.same hFv)).mono ?_
    rintro e v4 ⟨rfl, hG5⟩
    go_wp2_with fail
    go_ret
    exact ⟨rfl, hFv.trans hG5⟩
  · go_wp2_with fail
    refine (HA.out _ (ht.same hFv)).mono ?_
    rintro e v4 ⟨rfl, hG5⟩
    go_wp2_with fail
    go_ret
    exact ⟨rfl, hFv.trans hG5⟩

set_option maxRecDepth 100000 in
set_option maxHeartbeats 2000000 in
theorem backWalk_ok (i : Ins) (x0 x1 x2 x3 x4 x5 x6 x7 : Int) (w : World) (ht : Tabs w) (hy : AllB [x0, x1, x2, x3, x4, x5, x6, x7]) (h : chk i = 0) :
    Calls Tryd.prog 6 #[i.val, .agg #[.int .u8 x0, .int .u8 x1, .int .u8 x2, .int .u8 x3, .int .u8 x4, .int .u8 x5, .int .u8 x6, .int .u8 x7]] w fun e w' => e = .returned (.bool true) ∧ Fr (fun _ => False) w w' := by
  have HE := hid (fun W hW => encode_ok i W hW h)
  have HC := hid (check_any i)
  have HA := hid awake_ok
  rw [h] at HC
  have HH := hid h
  clear h
  have hA : Fr (fun _ => False) w ((w.alloc (.cells #[.int .i64 i.op, .int .i64 i.a, .int .i64 i.b, .int .i64 i.c, .int .i64 i.n] 23)).alloc (.cells #[.int .u8 x0, .int .u8 x1, .int .u8 x2, .int .u8 x3, .int .u8 x4, .int .u8 x5, .int .u8 x6, .int .u8 x7] 38)) := (Fr.alloc _ _ _).trans (Fr.alloc _ _ _)
  have hB := (Blk.new w #[.int .i64 i.op, .int .i64 i.a, .int .i64 i.b, .int .i64 i.c, .int .i64 i.n] 23).alloc (.cells #[.int .u8 x0, .int .u8 x1, .int .u8 x2, .int .u8 x3, .int .u8 x4, .int .u8 x5, .int .u8 x6, .int .u8 x7] 38)
  have hE := (Blk.new (w.alloc (.cells #[.int .i64 i.op, .int .i64 i.a, .int .i64 i.b, .int .i64 i.c, .int .i64 i.n] 23)) #[.int .u8 x0, .int .u8 x1, .int .u8 x2, .int .u8 x3, .int .u8 x4, .int .u8 x5, .int .u8 x6, .int .u8 x7] 38).at (size_alloc _ _)
  unfold Ins.val at *
  go_enter Tryd.func6, Tryd.ntmps6
  go_wp2_with fail
  refine (HE.out _ (ht.same hA)).mono ?_
  rintro e w1 ⟨A1, c1, rfl, ho1, hF1⟩
  have HO1 := hid ho1
  clear ho1
  have hB1 := hB.keep hF1 (fun h => h)
  obtain ⟨p0, p1, p2, p3, p4⟩ := hB1.five
  have l1 := hB1.lt
  go_wp2_with fail
  refine (HC.out _ (ht.same (hA.trans hF1))).mono ?_
  rintro e w2 ⟨rfl, hF2⟩
  clear p0 p1 p2 p3 p4
  have HX := hid (decode_any A1 8 c1 (encB i) w2 (ht.same (hA.trans (hF1.trans hF2))) (HO1.out.same hF2).bys rfl (encB_all i))
  rw [decErr_enc HH.out, decIns_enc HH.out] at HX
  unfold Ins.val at HX
  go_wp2_with fail
  refine HX.out.mono ?_
  rintro e w3 ⟨rfl, hF3⟩
  have hF4 := Fr.alloc (fun _ => False) w3 (.cells #[.int .i64 i.op, .int .i64 i.a, .int .i64 i.b, .int .i64 i.c, .int .i64 i.n] 23)
  have hB4 := hB1.keep (hF2.trans hF3) (fun h => h)
  obtain ⟨p0, p1, p2, p3, p4⟩ := hB4.five
  have l4 := hB4.lt
  have hF0 := hA.trans (hF1.trans (hF2.trans (hF3.trans hF4)))
  have hE0 := hE.keep (hF1.trans (hF2.trans (hF3.trans hF4))) (fun h => h)
  have lE := hE0.lt
  have HD := hid (decode_any (some ⟨w.heap.size + 1, 0, none⟩) 8 8 [x0, x1, x2, x3, x4, x5, x6, x7] (w3.alloc (.cells #[.int .i64 i.op, .int .i64 i.a, .int .i64 i.b, .int .i64 i.c, .int .i64 i.n] 23)) (ht.same hF0) ((REnc.bys hE0).more hE0.lt) rfl hy)
  obtain ⟨j, hj⟩ : ∃ j, decIns [x0, x1, x2, x3, x4, x5, x6, x7] = j := ⟨_, rfl⟩
  obtain ⟨y, hyy⟩ : ∃ y, decErr [x0, x1, x2, x3, x4, x5, x6, x7] = y := ⟨_, rfl⟩
  rw [hj, hyy] at HD
  have hw : y = 0 ∨ y = 10 ∨ y = 13 := by rw [← hyy]; rw [decErr_eq rfl]; exact chk_ways _
  have hok : y = 0 → chk j = 0 ∧ encB j = [x0, x1, x2, x3, x4, x5, x6, x7] := fun h0 => by
    rw [h0] at hyy
    have e : decIns [x0, x1, x2, x3, x4, x5, x6, x7] = dec [x0, x1, x2, x3, x4, x5, x6, x7] := by unfold decIns; rw [if_pos hyy]
    rw [← hj, e]
    refine ⟨?_, enc_dec rfl hy⟩
    rwa [decErr_eq rfl] at hyy
  clear hj hyy
  have HOK := hid hok
  clear hok
  obtain ⟨op, a, b, c, m⟩ := j
  unfold Ins.val at HD
  simp only at HD
  go_wp2_with fail
  refine HD.out.mono ?_
  rintro e v1 ⟨rfl, hG1⟩
  have hG2 := Fr.alloc (fun _ => False) v1 (.cells #[.int .i64 op, .int .i64 a, .int .i64 b, .int .i64 c, .int .i64 m] 23)
  have hFv := hF0.trans (hG1.trans hG2)
  rcases hw with rfl | rfl | rfl
  · obtain ⟨hc0, he0⟩ := HOK.out rfl
    have HE2 := hid (encode_ok ⟨op, a, b, c, m⟩ (v1.alloc (.cells #[.int .i64 op, .int .i64 a, .int .i64 b, .int .i64 c, .int .i64 m] 23)) (ht.same hFv) hc0)
    unfold Ins.val at HE2
    simp only at HE2
    have HEQ := hid he0
    clear hc0 he0
    go_wp2_with fail
    refine HE2.out.mono ?_
    rintro e v2 ⟨A2, c2, rfl, ho2, hG3⟩
    have hE3 := (hE0.keep (hG1.trans (hG2.trans hG3)) (fun h => h))
    have lE3 := hE3.lt
    have HB := hid (bytes_any _ _ A2 (some ⟨w.heap.size + 1, 0, none⟩) 8 8 c2 8 _ _ v2 ho2.bys (REnc.bys (l := [x0, x1, x2, x3, x4, x5, x6, x7]) hE3) rfl rfl (by omega) (by omega))
    rw [HEQ.out, show SameB [x0, x1, x2, x3, x4, x5, x6, x7] [x0, x1, x2, x3, x4, x5, x6, x7] = true by simp [SameB]] at HB
    clear ho2
    go_wp2_with fail
    refine HB.out.mono ?_
    rintro e v3 ⟨rfl, hG4⟩
    go_wp2_with fail
    refine (HA.out _ (ht.same ((hFv.trans hG3).trans hG4))).mono ?_
    rintro e v4 ⟨rfl, hG5⟩
    go_wp2_with fail
    go_ret
    exact ⟨rfl, ((hFv.trans hG3).trans hG4).trans hG5⟩
  · go_wp2_with fail
    refine (HA.out _ (ht.same hFv)).mono ?_
    rintro e v4 ⟨rfl, hG5⟩
    go_wp2_with fail
    go_ret
    exact ⟨rfl, hFv.trans hG5⟩
  · go_wp2_with fail
    refine (HA.out _ (ht.same hFv)).mono ?_
    rintro e v4 ⟨rfl, hG5⟩
    go_wp2_with fail
    go_ret
    exact ⟨rfl, hFv.trans hG5⟩

theorem backWalk (i : Ins) (l : List Int) (w : World) (ht : Tabs w) (h8 : l.length = 8) (hy : AllB l) :
    Calls Tryd.prog 6 #[i.val, .agg (byts l).toArray] w fun e w' => e = .returned (.bool true) ∧ Fr (fun _ => False) w w' := by
  match l, h8 with
  | [x0, x1, x2, x3, x4, x5, x6, x7], _ =>
    by_cases h : chk i = 0
    · exact backWalk_ok i x0 x1 x2 x3 x4 x5 x6 x7 w ht hy h
    · exact backWalk_no i x0 x1 x2 x3 x4 x5 x6 x7 w ht hy h

end Go.Proofs.YtecobbojbdfffaaDoor
