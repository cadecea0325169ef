/-
  The bytes of a program.
-/
import Derived.Test.YtepbnneggpcbcaaGreatDoorPacked
namespace Go.Proofs.YtepbnneggpcbcaaGreatDoor
open Go.RowKit

theorem OwnB.lit (w : World) (B : Nat) (l : List Int) (n : Nat) (hB : B ≤ w.heap.size) (hn : l.length = n) (hm : n ≤ 1000000) : OwnB (w.alloc (.cells (byts l).toArray 5)) B (some ⟨w.heap.size, 0, none⟩) n n l := by
  refine ⟨by simp [byts, hn], .inr ⟨w.heap.size, n, (byts l).toArray, rfl, hB, ?_, Nat.le_refl _, by unfold maxLen; omega, by simp [byts, hn], ?_⟩⟩
  · show (w.heap.push _)[w.heap.size]? = _
    simp
  · rw [Nat.mul_one]
    exact List.take_of_length_le (by simp [byts, hn])

theorem OwnB.eq {w : World} {B : Nat} {A : Option Addr} {n cap : Nat} {l l' : List Int} (h : OwnB w B A n cap l) (e : l = l') : OwnB w B A n cap l' := e ▸ h

def PaRel (w : World) (B : Nat) (P : List Fn) (d : Nat) (b k : Value) (wr : World) : Prop :=
  ∃ (j : Nat) (A : Option Addr) (n cap : Nat), j ≤ P.length ∧ d = P.length - j ∧ k = .int .i64 j ∧ b = .slice A n cap ∧ n ≤ 1 + j * 1026 ∧ OwnB wr B A n cap ([(P.length : Int)] ++ (P.take j).flatMap fnBytes) ∧ prgErr (P.take j) = 0 ∧ Fr (fun k => B ≤ k) w wr

def PbRel (w : World) (B n0 : Nat) (pre : List Int) (l : List Ins) (d : Nat) (b k : Value) (wr : World) : Prop :=
  ∃ (j : Nat) (A : Option Addr) (n cap : Nat), j ≤ l.length ∧ d = l.length - j ∧ k = .int .i64 j ∧ b = .slice A n cap ∧ n ≤ n0 + j * 8 ∧ OwnB wr B A n cap (pre ++ (l.take j).flatMap encB) ∧ Fr (fun k => B ≤ k) w wr

def PackPost (w : World) (l : List Int) (e : Ending) (w' : World) : Prop :=
  ∃ A n cap, e = .returned (.tuple #[.slice A n cap, .int .i64 0]) ∧ n ≤ 33000 ∧ OwnB w' w.heap.size A n cap l ∧ Fr (fun _ => False) w w'

theorem fnErr_zero {needs : Int} {l : List Ins} (h : fnErr ⟨needs, l⟩ = 0) : 0 ≤ needs ∧ needs ≤ 255 ∧ 1 ≤ l.length ∧ l.length ≤ 128 ∧ codeErr l = 0 := by
  unfold fnErr at h
  simp only at h
  split at h
  · cases h
  · split at h
    · cases h
    · exact ⟨by omega, by omega, by omega, by omega, h⟩

theorem tuple2 {a : Value} {x y : Int} (h : x = y) : Ending.returned (.tuple #[a, .int .i64 x]) = .returned (.tuple #[a, .int .i64 y]) := by rw [h]

def PackAny (w : World) (P : List Fn) (e : Ending) (w' : World) : Prop :=
  (packErr P = 0 ∧ PackPost w (packBytes P) e w') ∨ (packErr P ≠ 0 ∧ e = .returned (.tuple #[.slice none 0 0, .int .i64 (packErr P)]) ∧ Fr (fun _ => False) w w')

set_option maxHeartbeats 400000 in
theorem pack_long (A : Option Addr) (n c : Nat) (w : World) (h : n < 1 ∨ 32 < n) :
    Calls Tryz.prog 11 #[.agg #[.slice A n c]] w fun e w' => e = .returned (.tuple #[.slice none 0 0, .int .i64 12]) ∧ Fr (fun _ => False) w w' := by
  go_enter Tryz.func11, Tryz.ntmps11
  go_wp2_with fail
  refine (within_no _ _ _ (by omega)).mono ?_
  rintro e w' ⟨rfl, rfl⟩
  go_wp2_with fail
  go_ret2
  exact ⟨rfl, Fr.alloc _ _ _⟩

theorem Fr.to_none {w w' : World} (h : Fr (fun k => w.heap.size ≤ k) w w') : Fr (fun _ => False) w w' :=
  ⟨h.os, h.tape, h.output, h.size, fun k hk _ => h.block k hk (by omega)⟩

set_option maxRecDepth 100000 in
set_option maxHeartbeats 4000000 in
theorem pack_in (A : Option Addr) (n c : Nat) (P : List Fn) (w : World) (ht : Tabs w) (hp : Prg w w.heap.size A P) (hn : P.length = n) (h1 : 1 ≤ n) (h2 : n ≤ 32) :
    Calls Tryz.prog 11 #[.agg #[.slice A n c]] w (PackAny w P) := by
  have HN := hid hn
  clear hn
  obtain ⟨i0, hi, hz⟩ := Option.map_eq_some_iff.1 Tryz.infob
  simp only [Prod.mk.injEq] at hz
  obtain ⟨hz0, hz1, hz2⟩ := hz
  have HI := hid hi
  have HZ0 := hid hz0
  have HZ1 := hid hz1
  have HZ2 := hid hz2
  clear hi hz0 hz1 hz2
  obtain ⟨B, hB⟩ : ∃ B, B = w.heap.size := ⟨_, rfl⟩
  have hp := hp
  rw [← hB] at hp
  have HB := hid hB
  have h2B : 12 ≤ B := by rw [hB]; exact ht.two
  have hBl : B ≤ w.heap.size := by omega
  clear hB
  have hpe : packErr P = prgErr P := by unfold packErr; rw [if_neg (by rw [HN.out]; omega)]
  have HPE := hid hpe
  clear hpe
  go_enter Tryz.func11, Tryz.ntmps11
  go_wp2_with fail
  refine (within_yes _ _ _ (by omega)).mono ?_
  rintro e w' ⟨rfl, rfl⟩
  go_wp2_with fail
  go_loopg [4, 23] n (fun d b k wr => PaRel w B P d b k wr)
  case atStart =>
    refine ⟨0, _, 1, 1, by omega, by rw [HN.out, Nat.sub_zero], rfl, rfl, by omega, ?_, rfl, (Fr.alloc _ _ _).trans (Fr.alloc _ _ _)⟩
    have h := OwnB.lit (w.alloc (.cells #[.slice A n c] 24)) B [(n : Int)] 1 (by simp; omega) rfl (by omega)
    rw [size_alloc] at h
    exact h.eq (by rw [HN.out]; simp)
  case round =>
    obtain ⟨wo, rfl⟩ : ∃ wo, wo = wr := ⟨_, rfl⟩
    obtain ⟨k, Ab, nb, cb, hk, hd, rfl, rfl, hnb, hown, he, hF⟩ := hrel
    rw [HN.out] at hk hd
    have HE := hid he
    have HD := hid hd
    have HO := hid hown
    clear he hd hown
    by_cases hlt : k < n
    · obtain ⟨⟨needs, l⟩, hfk⟩ : ∃ f, P[k]? = some f := ⟨_, List.getElem?_eq_getElem (by rw [HN.out]; exact hlt)⟩
      obtain ⟨g, o, rfl, hg, hcell⟩ := (hp.keep hF hBl (fun _ h1 h2 => by omega)) (by rw [HN.out]; omega)
      obtain ⟨A', c', p0, p1, hcod⟩ := hcell k _ hfk
      simp only at p0 p1 hcod
      have HFK := hid hfk
      clear hfk hcell
      have hBr : B ≤ wo.heap.size := Nat.le_trans hBl hF.size
      have hgl : g < wo.heap.size := Nat.lt_of_lt_of_le hg hBr
      obtain ⟨wa, hwa⟩ : ∃ wa, wa = wo.alloc (.cells #[.int .i64 needs, .slice A' l.length c'] 32) := ⟨_, rfl⟩
      have hFa : Fr (fun _ => False) wo wa := by rw [hwa]; exact Fr.alloc _ _ _
      have hT := ht.keep (hF.trans (hFa.mono (fun _ h => h.elim))) (fun k hk => by omega)
      have HK := hid (packed_any B A' c' ⟨needs, l⟩ wa hT (Nat.le_trans hBr hFa.size) (hcod.same hFa hBr))
      simp only at HK
      rw [hwa] at HK hFa
      clear hwa hT
      by_cases hch : fnErr ⟨needs, l⟩ = 0
      · obtain ⟨q1, q2, q3, q4, q5⟩ := fnErr_zero hch
        have hk2 := HK.out
        rw [hch] at hk2
        have HK2 := hid hk2
        have HCH := hid hch
        clear HK hk2 hch q5
        obtain ⟨ln, hln⟩ : ∃ ln, l.length = ln := ⟨_, rfl⟩
        rw [hln] at HK2 p1 hFa q3 q4
        have HLN := hid hln
        clear hln
        go_wp2_with fail
        refine HK2.out.mono ?_
        rintro e w1 ⟨rfl, hF1⟩
        have hBk := (Blk.new wo #[.int .i64 needs, .slice A' ln c'] 32).keep hF1 (fun h => h)
        have r0 : w1.cell? ⟨wo.heap.size, 0, none⟩ = some (.int .i64 needs) := hBk.cell rfl
        have r1 : w1.cell? ⟨wo.heap.size, 1, none⟩ = some (.slice A' ln c') := hBk.cell rfl
        have hl1 := hBk.lt
        have HO1 := hid ((HO.out.same (hFa.trans hF1)).same (Fr.alloc _ w1 (.cells #[.int .u8 needs, .int .u8 ln] 5)))
        have HN1 := hid (news8 w1 5 (byts [needs, (ln : Int)]))
        have hBw1 : B ≤ w1.heap.size := Nat.le_trans hBr (hFa.trans hF1).size
        have hAl := HO.out.lt
        have HAL := hid hAl
        clear hAl
        go_wp2_with (at_builtin; refine wpList_append_own _ rfl _ _ 40 rfl B 5 i0 (.int .u8 0) 1 1 Tryz.underlying40 HI.out HZ0.out HZ1.out HZ2.out rfl (by decide) (.slice Ab nb cb) nb _ rfl HO1.out ⟨w1.heap.size, 0, none⟩ 2 2 (byts [needs, (ln : Int)]) rfl rfl HN1.out (byts_one _) (by unfold maxLen; omega) (by omega) (by simp; omega) ?_; intro v2 w2 hown2 hgrow2 hnil2; clear hnil2; obtain ⟨A2, c2, rfl, ho2⟩ := own_form (l := ([(P.length : Int)] ++ (P.take k).flatMap fnBytes) ++ [needs, (ln : Int)]) (by simpa [byts] using hown2); have hF2 := ((Fr.alloc (fun _ => False) w1 _).mono (fun _ h => h.elim)).trans (Fr.of_grown hgrow2); have HO2 := hid ho2; clear hown2 hgrow2 ho2; have r1 : w2.cell? ⟨wo.heap.size, 1, none⟩ = some (.slice A' ln c') := (hBk.keep hF2 (fun h => by have := HAL.out _ h; omega)).cell rfl)
        have hF02 : Fr (fun k => B ≤ k) wo w2 := ((hFa.trans hF1).mono (fun _ h => h.elim)).trans (hF2.mono (fun k h => (HAL.out k h).1))
        clear r0
        go_loopg [4, 45] ln (fun d b k' wq => PbRel wo B (nb + 2) (([(P.length : Int)] ++ (P.take k).flatMap fnBytes) ++ [needs, (ln : Int)]) l d b k' wq)
        case atStart => exact ⟨0, A2, nb + 2, c2, by omega, by rw [HLN.out, Nat.sub_zero], rfl, rfl, by omega, HO2.out.eq (by simp), hF02⟩
        case round =>
          obtain ⟨k', A3, n3, c3, hk', hd', rfl, rfl, hn3, hown3, hF3⟩ := hrel
          rw [HLN.out] at hk' hd'
          have HD' := hid hd'
          have HO3 := hid hown3
          clear hd' hown3 r1
          have hB3 : B ≤ wr.heap.size := Nat.le_trans hBr hF3.size
          by_cases hlt' : k' < ln
          · obtain ⟨⟨op, a, b, ci, m⟩, hik⟩ : ∃ i, l[k']? = some i := ⟨_, List.getElem?_eq_getElem (by rw [HLN.out]; exact hlt')⟩
            obtain ⟨g2, o2, rfl, hg2, hcell2⟩ := (hcod.keep hF3 hBr (fun _ h1 h2 => by omega)) (by rw [HLN.out]; omega)
            obtain ⟨s0, s1, s2, s3, s4⟩ := hcell2 k' _ hik
            simp only at s0 s1 s2 s3 s4
            have HIK := hid hik
            clear hik hcell2
            have hgl2 : g2 < wr.heap.size := Nat.lt_of_lt_of_le hg2 hB3
            have hFb := Fr.alloc (fun _ => False) wr (.cells #[.int .i64 op, .int .i64 a, .int .i64 b, .int .i64 ci, .int .i64 m] 35)
            have HP := hid (put_any B A3 n3 c3 _ ⟨op, a, b, ci, m⟩ _ (HO3.out.same hFb) (by omega) (Nat.le_trans hB3 hFb.size))
            unfold Ins.val at HP
            go_wp2_with fail
            refine HP.out.mono ?_
            rintro e w4 ⟨A4, c4, rfl, ho4, hF4⟩
            have HO4 := hid ho4
            clear ho4
            go_wp2_with fail
            go_roundg (ln - (k' + 1))
            case rel => exact ⟨k' + 1, A4, n3 + 8, c4, by rw [HLN.out]; omega, by rw [HLN.out], by go_num, rfl, by omega, HO4.out.eq (by rw [snoc_flat encB HIK.out, List.append_assoc]), hF3.trans ((hFb.mono (fun _ h => h.elim)).trans (hF4.mono (fun q h => (HO3.out.lt q h).1)))⟩
            case measure => have := HD'.out; omega
          · go_wp2_with fail
            go_roundg (n - (k + 1))
            case rel => exact ⟨k + 1, A3, n3, c3, by rw [HN.out]; omega, by rw [HN.out], by go_num, rfl, by omega, HO3.out.eq (by
                rw [snoc_flat fnBytes HFK.out, List.take_of_length_le (l := l) (by rw [HLN.out]; omega)]
                unfold fnBytes
                simp only [HLN.out]
                rw [Int.emod_eq_of_lt (by omega) (by omega)]
                simp), prgErr_snoc HE.out HFK.out HCH.out, hF.trans hF3⟩
            case measure => have := HD.out; omega
      · obtain ⟨x, hx⟩ : ∃ x, fnErr ⟨needs, l⟩ = x := ⟨_, rfl⟩
        have hk2 := HK.out
        have hfin : packErr P = x := by rw [HPE.out, ← hx]; exact prgErr_take HE.out HFK.out hch
        rw [hx] at hk2 hch
        have HK2 := hid hk2
        have HFIN := hid hfin
        have HX := hid hch
        have q1 : (x != 0) = true := by simpa using hch
        clear HK hk2 hch hx hfin
        go_wp2_with fail
        refine HK2.out.mono ?_
        rintro e w1 ⟨rfl, hF1⟩
        go_wp2_with fail
        go_ret2
        exact .inr ⟨by rw [HFIN.out]; exact HX.out, tuple2 HFIN.out.symm, Fr.to_none (by rw [← HB.out]; exact hF.trans ((hFa.trans hF1).mono (fun _ h => h.elim)))⟩
    · have hz : prgErr P = 0 := by have h := HE.out; rwa [List.take_of_length_le (by rw [HN.out]; omega)] at h
      have HZ := hid hz
      clear hz
      go_wp2_with fail
      go_ret2
      refine .inl ⟨by rw [HPE.out, HZ.out], Ab, nb, cb, rfl, by omega, ?_, ?_⟩
      · rw [← HB.out]
        exact HO.out.eq (by unfold packBytes; rw [List.take_of_length_le (by rw [HN.out]; omega)])
      · exact Fr.to_none (by rw [← HB.out]; exact hF)

theorem pack_any (A : Option Addr) (c : Nat) (P : List Fn) (w : World) (ht : Tabs w) (hp : Prg w w.heap.size A P) :
    Calls Tryz.prog 11 #[.agg #[.slice A P.length c]] w (PackAny w P) := by
  by_cases h : P.length < 1 ∨ 32 < P.length
  · have e : packErr P = 12 := by unfold packErr; rw [if_pos h]
    exact (pack_long A P.length c w h).mono fun e' w' ⟨h1, h2⟩ => .inr ⟨by rw [e]; decide, by rw [e]; exact h1, h2⟩
  · exact pack_in A P.length c P w ht hp rfl (by omega) (by omega)

end Go.Proofs.YtepbnneggpcbcaaGreatDoor
