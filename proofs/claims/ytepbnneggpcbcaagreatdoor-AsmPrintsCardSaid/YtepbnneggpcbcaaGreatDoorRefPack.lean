/-
  The document's bytes of a program.
-/
import Derived.Test.YtepbnneggpcbcaaGreatDoorOwn
namespace Go.Proofs.YtepbnneggpcbcaaGreatDoor
open Go.RowKit

theorem chk_n {i : Ins} (h : chk i = 0) : -2147483648 ≤ i.n ∧ i.n ≤ 2147483647 := by
  by_cases ho : i.op < 0 ∨ 16 < i.op
  · unfold chk at h
    rw [if_pos ho] at h
    cases h
  · unfold chk at h
    rw [if_neg ho] at h
    have hw : i.wrong = false := by
      cases hh : i.wrong
      · rfl
      · rw [hh] at h
        cases h
    unfold Ins.wrong at hw
    simp only [Bool.or_eq_false_iff] at hw
    have hb := not_bad hw.2
    have hh : ∀ o, o ≤ 16 → -2147483648 ≤ lo o 3 ∧ hi o 3 ≤ 2147483647 := by decide
    have := hh i.op.toNat (by omega)
    omega

set_option maxHeartbeats 1000000 in
theorem rencode_ok (op a b c n : Int) (w : World) (hn : -2147483648 ≤ n) (hn' : n ≤ 2147483647) :
    Calls Tryz.prog 35 #[Ins.val ⟨op, a, b, c, n⟩] w (REncPost w (encB ⟨op, a, b, c, n⟩)) := by
  unfold Ins.val
  by_cases h0 : n < 0
  · go_enter Tryz.func35, Tryz.ntmps35
    go_wp2_with fail
    go_ret
    refine ⟨_, rfl, ?_, blk_of_eq ((Blk.new _ _ _).at (size_alloc _ _)) ?_, (Fr.alloc _ _ _).trans (Fr.alloc _ _ _)⟩
    · simp
    · unfold byts encB
      simp only [List.map_cons, List.map_nil]
      have e1 : (n + 4294967296) / 16777216 = n % 4294967296 / 16777216 := by omega
      have e2 : (n + 4294967296) / 65536 % 256 = n % 4294967296 / 65536 % 256 := by omega
      have e3 : (n + 4294967296) / 256 % 256 = n % 4294967296 / 256 % 256 := by omega
      have e4 : (n + 4294967296) % 256 = n % 256 := by omega
      rw [e1, e2, e3, e4]
  · have h1 : 0 ≤ n := by omega
    clear h0
    go_enter Tryz.func35, Tryz.ntmps35
    go_wp2_with fail
    go_ret
    refine ⟨_, rfl, ?_, blk_of_eq ((Blk.new _ _ _).at (size_alloc _ _)) ?_, (Fr.alloc _ _ _).trans (Fr.alloc _ _ _)⟩
    · simp
    · unfold byts encB
      simp only [List.map_cons, List.map_nil]
      have e1 : n / 16777216 = n % 4294967296 / 16777216 := by omega
      have e2 : n / 65536 % 256 = n % 4294967296 / 65536 % 256 := by omega
      have e3 : n / 256 % 256 = n % 4294967296 / 256 % 256 := by omega
      rw [e1, e2, e3]

theorem rencode_any (i : Ins) (w : World) (hn : -2147483648 ≤ i.n) (hn' : i.n ≤ 2147483647) :
    Calls Tryz.prog 35 #[i.val] w (REncPost w (encB i)) := rencode_ok i.op i.a i.b i.c i.n w hn hn'

theorem own_ne {w : World} {B : Nat} {A : Option Addr} {n cap : Nat} {l : List Int} (h : OwnB w B A n cap l) {g : Nat} {c : Array Value} {t : TypeId} (hg : TBlk w g c t) (ht : t ≠ 5) : ¬ ownB A g := by
  rintro ⟨a, rfl, rfl⟩
  obtain ⟨h1, h2⟩ := h
  rcases h2 with ⟨h2, _⟩ | ⟨g', c', cur, hv, hb, hh, _⟩
  · cases h2
  · injection hv with hv _ _
    injection hv with hv
    subst hv
    unfold TBlk at hg
    rw [hh] at hg
    injection hg with hg
    injection hg with _ hg _
    exact ht hg.symm

theorem OwnB.less {w : World} {B C : Nat} {A : Option Addr} {n cap : Nat} {l : List Int} (h : OwnB w B A n cap l) (hC : C ≤ B) : OwnB w C A n cap l := by
  obtain ⟨h1, h2⟩ := h
  refine ⟨h1, ?_⟩
  rcases h2 with h2 | ⟨g, c, cur, hv, hb, r⟩
  · exact .inl h2
  · exact .inr ⟨g, c, cur, hv, Nat.le_trans hC hb, r⟩

def RaRel (w1 : World) (B : Nat) (P : List Fn) (d : Nat) (b k : Value) (wr : World) : Prop :=
  ∃ (j : Nat) (A : Option Addr) (n cap : Nat), j ≤ P.length ∧ d = P.length - j ∧ k = .int .i64 j ∧ b = .slice A n cap ∧ n ≤ 1 + j * 1026 ∧ OwnB wr B A n cap ([(P.length : Int)] ++ (P.take j).flatMap fnBytes) ∧ prgErr (P.take j) = 0 ∧ Fr (fun k => B ≤ k) w1 wr

def RbRel (wo : World) (B n0 g : Nat) (c : Array Value) (pre : List Int) (l : List Ins) (d : Nat) (b k : Value) (wr : World) : Prop :=
  ∃ (j : Nat) (A : Option Addr) (n cap : Nat), j ≤ l.length ∧ d = l.length - j ∧ k = .int .i64 j ∧ b = .slice A n cap ∧ n ≤ n0 + j * 8 ∧ OwnB wr B A n cap (pre ++ (l.take j).flatMap encB) ∧ codeErr (l.take j) = 0 ∧ TBlk wr g c 32 ∧ Fr (fun k => B ≤ k) wo wr

set_option maxHeartbeats 400000 in
theorem rpack_long (A : Option Addr) (n c : Nat) (w : World) (h : n < 1 ∨ 32 < n) :
    Calls Tryz.prog 17 #[.agg #[.slice A n c]] w fun e w' => e = .returned (.tuple #[.slice none 0 0, .int .i64 12]) ∧ Fr (fun _ => False) w w' := by
  rcases h with h | h
  · obtain rfl : n = 0 := by omega
    go_enter Tryz.func17, Tryz.ntmps17
    go_wp2_with fail
    go_ret2
    exact ⟨rfl, Fr.alloc _ _ _⟩
  · have h1 : ¬ (n : Int) < 1 := by omega
    have h2 : (32 : Int) < (n : Int) := by omega
    go_enter Tryz.func17, Tryz.ntmps17
    go_wp2_with fail
    go_ret2
    exact ⟨rfl, Fr.alloc _ _ _⟩

theorem prgErr_at {P : List Fn} {k : Nat} {f : Fn} {x : Int} (h : prgErr (P.take k) = 0) (hk : P[k]? = some f) (hf : fnErr f = x) (hx : x ≠ 0) : prgErr P = x := by
  rw [prgErr_take h hk (by rw [hf]; exact hx), hf]

set_option maxRecDepth 100000 in
set_option maxHeartbeats 4000000 in
theorem rpack_in (A : Option Addr) (n c : Nat) (P : List Fn) (w : World) (hp : Prg w w.heap.size A P) (hn : P.length = n) (h1 : 1 ≤ n) (h2 : n ≤ 32) :
    Calls Tryz.prog 17 #[.agg #[.slice A n c]] w (PackAny w P) := by
  have HN := hid hn
  clear hn
  obtain ⟨i0, hi, hz⟩ := Option.map_eq_some_iff.1 Tryz.infob
  simp only [Prod.mk.injEq] at hz
  obtain ⟨hz0, hz1, hz2⟩ := hz
  have HI := hid hi
  have HZ0 := hid hz0
  have HZ1 := hid hz1
  have HZ2 := hid hz2
  clear hi hz0 hz1 hz2
  have t0 : ¬ (n : Int) < 1 := by omega
  have t1 : ¬ (32 : Int) < (n : Int) := by omega
  obtain ⟨w1, hw1⟩ : ∃ w1, w1 = w.alloc (.cells #[.slice A n c] 24) := ⟨_, rfl⟩
  have hA : Fr (fun _ => False) w w1 := by rw [hw1]; exact Fr.alloc _ _ _
  have hBx : Blk w1 w.heap.size #[.slice A n c] := by rw [hw1]; exact Blk.new _ _ _
  obtain ⟨B, hB⟩ : ∃ B, B = w1.heap.size := ⟨_, rfl⟩
  have hBw : B = w.heap.size + 1 := by rw [hB, hw1, size_alloc]
  have hp1 := (hp.same hA (Nat.le_refl _)).more hA.size
  rw [← hB] at hp1
  have HB := hid hB
  have hBl : B ≤ w1.heap.size := by omega
  clear hB hp
  have hpe : packErr P = prgErr P := by unfold packErr; rw [if_neg (by rw [HN.out]; omega)]
  have HPE := hid hpe
  clear hpe
  have bx0 : w1.cell? ⟨w.heap.size, 0, none⟩ = some (.slice A n c) := hBx.cell rfl
  have bl0 := hBx.lt
  have HO0 := hid ((OwnB.nil (w.alloc (.cells #[.slice A n c] 24)) B).same (Fr.alloc _ (w.alloc (.cells #[.slice A n c] 24)) (.cells #[.int .u8 n] 5)))
  have hn0 := news8 (w.alloc (.cells #[.slice A n c] 24)) 5 (byts [(n : Int)])
  rw [size_alloc] at hn0
  have HN0 := hid hn0
  clear hn0
  have HTO : Hid (∀ w' : World, Fr (fun k => B ≤ k) w1 w' → Fr (fun _ => False) w w') := hid (fun w' f => hA.trans (Fr.to_none (by rw [← HB.out]; exact f)))
  go_enter Tryz.func17, Tryz.ntmps17
  have HW1 := hid hw1
  clear hw1
  go_wp2_with (at_builtin; refine wpList_append_own _ rfl _ _ 40 rfl B 5 i0 (.int .u8 0) 1 1 Tryz.underlying40 HI.out HZ0.out HZ1.out HZ2.out rfl (by decide) (.slice none 0 0) 0 _ rfl HO0.out ⟨w.heap.size + 1, 0, none⟩ 1 1 (byts [(n : Int)]) rfl rfl HN0.out (byts_one _) (by first | (unfold maxLen; omega) | decide) (by first | omega | decide) (by first | omega | (simp; omega) | simp) ?_; intro v2 w2 hown2 hgrow2 hnil2; clear hnil2; obtain ⟨A2, c2, rfl, ho2⟩ := own_form (l := [(n : Int)]) (by simpa [byts] using hown2); have hF2 : Fr (fun _ => False) w1 w2 := (by rw [HW1.out]; exact (Fr.alloc _ _ _).trans (Fr.of_grown hgrow2).none); have HO2 := hid ho2; clear hown2 hgrow2 ho2; have q0 : w2.cell? ⟨w.heap.size, 0, none⟩ = some (.slice A n c) := (hBx.keep hF2 (fun h => h)).cell rfl; have ql := (hBx.keep hF2 (fun h => h)).lt)
  clear bx0 bl0 HO0 HN0
  go_loopg [4, 5] n (fun d b k wr => RaRel w1 B P d b k wr)
  case atStart => exact ⟨0, A2, 1, c2, by omega, by rw [HN.out, Nat.sub_zero], rfl, rfl, by omega, HO2.out.eq (by rw [HN.out]; simp), rfl, hF2.mono (fun _ h => h.elim)⟩
  case round =>
    clear HO2 hF2 HW1
    obtain ⟨wo, rfl⟩ : ∃ wo, wo = wr := ⟨_, rfl⟩
    obtain ⟨k, Ab, nb, cb, hk, hd, rfl, rfl, hnb, hown, he, hF⟩ := hrel
    rw [HN.out] at hk hd
    have HE := hid he
    have HD := hid hd
    have HO := hid hown
    clear he hd hown
    have hBr : B ≤ wo.heap.size := Nat.le_trans hBl hF.size
    have hBo := hBx.keep hF (fun h => by omega)
    have q0 : wo.cell? ⟨w.heap.size, 0, none⟩ = some (.slice A n c) := hBo.cell rfl
    have ql := hBo.lt
    by_cases hlt : k < n
    · obtain ⟨⟨needs, l⟩, hfk⟩ : ∃ f, P[k]? = some f := ⟨_, List.getElem?_eq_getElem (by rw [HN.out]; exact hlt)⟩
      obtain ⟨g, o, rfl, hg, hcell⟩ := (hp1.keep hF hBl (fun _ h1 h2 => by omega)) (by rw [HN.out]; omega)
      obtain ⟨A', c', p0, p1, hcod⟩ := hcell k _ hfk
      simp only at p0 p1 hcod
      have HFK := hid hfk
      clear hfk hcell
      have hgl : g < wo.heap.size := Nat.lt_of_lt_of_le hg hBr
      obtain ⟨ln, hln⟩ : ∃ ln, l.length = ln := ⟨_, rfl⟩
      rw [hln] at p1
      have HLN := hid hln
      clear hln
      have hTf := TBlk.new wo #[.int .i64 needs, .slice A' ln c'] 32
      have hFa := Fr.alloc (fun _ => False) wo (.cells #[.int .i64 needs, .slice A' ln c'] 32)
      have nn : w.heap.size ≠ wo.heap.size := by omega
      by_cases hr : needs < 0 ∨ 255 < needs
      · have hfin : packErr P = 10 := by rw [HPE.out]; exact prgErr_at HE.out HFK.out (fnErr_range hr) (by decide)
        have HFIN := hid hfin
        clear hfin
        rcases hr with hr | hr
        · go_wp2_with fail
          go_ret2
          exact .inr ⟨by rw [HFIN.out]; decide, tuple2 HFIN.out.symm, HTO.out _ (hF.trans (hFa.mono (fun _ h => h.elim)))⟩
        · have u1 : ¬ needs < 0 := by omega
          go_wp2_with fail
          go_ret2
          exact .inr ⟨by rw [HFIN.out]; decide, tuple2 HFIN.out.symm, HTO.out _ (hF.trans (hFa.mono (fun _ h => h.elim)))⟩
      · have u1 : ¬ needs < 0 := by omega
        have u2 : ¬ 255 < needs := by omega
        by_cases hL : ln < 1 ∨ 128 < ln
        · have hfin : packErr P = 12 := by rw [HPE.out]; exact prgErr_at HE.out HFK.out (fnErr_long hr (by rw [HLN.out]; exact hL)) (by decide)
          have HFIN := hid hfin
          clear hfin
          rcases hL with hL | hL
          · obtain rfl : ln = 0 := by omega
            go_wp2_with fail
            go_ret2
            exact .inr ⟨by rw [HFIN.out]; decide, tuple2 HFIN.out.symm, HTO.out _ (hF.trans (hFa.mono (fun _ h => h.elim)))⟩
          · have u3 : ¬ (ln : Int) < 1 := by omega
            have u4 : (128 : Int) < (ln : Int) := by omega
            go_wp2_with fail
            go_ret2
            exact .inr ⟨by rw [HFIN.out]; decide, tuple2 HFIN.out.symm, HTO.out _ (hF.trans (hFa.mono (fun _ h => h.elim)))⟩
        · have u3 : ¬ (ln : Int) < 1 := by omega
          have u4 : ¬ (128 : Int) < (ln : Int) := by omega
          have hfc : fnErr ⟨needs, l⟩ = codeErr l := fnErr_code hr (by rw [HLN.out]; exact hL)
          have HFC := hid hfc
          clear hfc
          have HO1 := hid ((HO.out.same hFa).same (Fr.alloc _ (wo.alloc (.cells #[.int .i64 needs, .slice A' ln c'] 32)) (.cells #[.int .u8 needs, .int .u8 ln] 5)))
          have hn1 := news8 (wo.alloc (.cells #[.int .i64 needs, .slice A' ln c'] 32)) 5 (byts [needs, (ln : Int)])
          rw [size_alloc] at hn1
          have HN1 := hid hn1
          clear hn1
          have hAl := HO.out.lt
          have HAL := hid hAl
          clear hAl
          go_wp2_with (at_builtin; refine wpList_append_own _ rfl _ _ 40 rfl B 5 i0 (.int .u8 0) 1 1 Tryz.underlying40 HI.out HZ0.out HZ1.out HZ2.out rfl (by decide) (.slice Ab nb cb) nb _ rfl HO1.out ⟨wo.heap.size + 1, 0, none⟩ 2 2 (byts [needs, (ln : Int)]) rfl rfl HN1.out (byts_one _) (by first | (unfold maxLen; omega) | decide) (by first | omega | decide) (by first | omega | (simp; omega) | simp) ?_; intro v2 w2 hown2 hgrow2 hnil2; clear hnil2; obtain ⟨A2, c2, rfl, ho2⟩ := own_form (l := ([(P.length : Int)] ++ (P.take k).flatMap fnBytes) ++ [needs, (ln : Int)]) (by simpa [byts] using hown2); have hF2 := ((Fr.alloc (fun _ => False) (wo.alloc (.cells #[.int .i64 needs, .slice A' ln c'] 32)) _).mono (fun _ h => h.elim)).trans (Fr.of_grown hgrow2); have HO2 := hid ho2; clear hown2 hgrow2 ho2; have hT2 := hTf.keep hF2 (fun h => by have := HAL.out _ h; omega); have r1 : w2.cell? ⟨wo.heap.size, 1, none⟩ = some (.slice A' ln c') := hT2.blk.cell rfl; have rl := hT2.blk.lt)
          have hF02 : Fr (fun k => B ≤ k) wo w2 := (hFa.mono (fun _ h => h.elim)).trans (hF2.mono (fun k h => (HAL.out k h).1))

          go_loopg [4, 7] ln (fun d b k' wq => RbRel wo B (nb + 2) wo.heap.size #[.int .i64 needs, .slice A' ln c'] (([(P.length : Int)] ++ (P.take k).flatMap fnBytes) ++ [needs, (ln : Int)]) l d b k' wq)
          case atStart => exact ⟨0, A2, nb + 2, c2, by omega, by rw [HLN.out, Nat.sub_zero], rfl, rfl, by omega, HO2.out.eq (by simp), rfl, hT2, hF02⟩
          case round =>
            clear HO2 hT2 hF2 hF02 HO1 HN1 p0 p1 q0
            obtain ⟨k', A3, n3, c3, hk', hd', rfl, rfl, hn3, hown3, he3, hT3, hF3⟩ := hrel
            rw [HLN.out] at hk' hd'
            have HD' := hid hd'
            have HO3 := hid hown3
            have HE3 := hid he3
            clear hd' hown3 he3
            have hB3 : B ≤ wr.heap.size := Nat.le_trans hBr hF3.size
            have r0 : wr.cell? ⟨wo.heap.size, 0, none⟩ = some (.int .i64 needs) := hT3.blk.cell rfl
            have r1 : wr.cell? ⟨wo.heap.size, 1, none⟩ = some (.slice A' ln c') := hT3.blk.cell rfl
            have rl := hT3.blk.lt
            by_cases hlt' : k' < ln
            · obtain ⟨⟨op, a, b, ci, m⟩, hik⟩ : ∃ i, l[k']? = some i := ⟨_, List.getElem?_eq_getElem (by rw [HLN.out]; exact hlt')⟩
              have hc3 := (hcod.keep hF3 hBr (fun _ h1 h2 => by omega))
              have HC3 := hid hc3
              obtain ⟨g2, o2, rfl, hg2, hcell2⟩ := hc3 (by rw [HLN.out]; omega)
              obtain ⟨s0, s1, s2, s3, s4⟩ := hcell2 k' _ hik
              simp only at s0 s1 s2 s3 s4
              have HIK := hid hik
              clear hik hcell2
              have hgl2 : g2 < wr.heap.size := Nat.lt_of_lt_of_le hg2 hB3
              have HK := hid (rcheck_any ⟨op, a, b, ci, m⟩ wr)
              unfold Ins.val at HK
              by_cases hch : chk ⟨op, a, b, ci, m⟩ = 0
              · have hb := chk_n hch
                simp only at hb
                have HEN := hid (fun W => rencode_any ⟨op, a, b, ci, m⟩ W hb.1 hb.2)
                unfold Ins.val at HEN
                rw [hch] at HK
                have HCH := hid hch
                clear hch hb
                go_wp2_with fail
                refine HK.out.mono ?_
                rintro e w4 ⟨rfl, hF4⟩
                have hc4 : ∀ j, w4.cell? ⟨g2, j, none⟩ = wr.cell? ⟨g2, j, none⟩ := fun j => cell_keep hF4 (p := ⟨g2, j, none⟩) hgl2 (fun h => h)
                have hT4 := hT3.keep hF4 (fun h => h)
                have y1 : w4.cell? ⟨wo.heap.size, 1, none⟩ = some (.slice (some ⟨g2, o2, none⟩) ln c') := hT4.blk.cell rfl
                have yl := hT4.blk.lt
                have x0 := (hc4 _).trans s0
                have x1 := (hc4 _).trans s1
                have x2 := (hc4 _).trans s2
                have x3 := (hc4 _).trans s3
                have x4 := (hc4 _).trans s4
                have hgl4 : g2 < w4.heap.size := Nat.lt_of_lt_of_le hgl2 hF4.size
                clear hc4
                go_wp2_with fail
                refine (HEN.out w4).mono ?_
                rintro e w5 ⟨g5, rfl, hg5, hb5, hF5⟩
                have HO5 := hid ((HO3.out.same hF4).same hF5)
                have HN5 := hid (show ∀ (j : Nat) (u : Value), (byts (encB ⟨op, a, b, ci, m⟩))[j]? = some u → w5.cell? ((⟨g5, 0, none⟩ : Addr).add j) = some u from fun j u hj => by
                  rw [add_none, Nat.zero_add]
                  exact hb5.cell (by simpa using hj))
                have hl5 := hb5.lt
                have hB5 : B ≤ w5.heap.size := Nat.le_trans hB3 (hF4.trans hF5).size
                have hT5 := hT4.keep hF5 (fun h => h)
                clear x0 x1 x2 x3 x4 y1 yl s0 s1 s2 s3 s4 r0 r1
                go_wp2_with (at_builtin; refine wpList_append_own _ rfl _ _ 40 rfl B 5 i0 (.int .u8 0) 1 1 Tryz.underlying40 HI.out HZ0.out HZ1.out HZ2.out rfl (by decide) (.slice A3 n3 c3) n3 _ rfl HO5.out ⟨g5, 0, none⟩ 8 8 (byts (encB ⟨op, a, b, ci, m⟩)) rfl rfl HN5.out (byts_one _) (by first | (unfold maxLen; omega) | decide) (by first | omega | decide) (by first | omega | (simp; omega) | simp) ?_; intro v6 w6 hown6 hgrow6 hnil6; clear hnil6; obtain ⟨A6, c6, rfl, ho6⟩ := own_form (l := ((([(P.length : Int)] ++ (P.take k).flatMap fnBytes) ++ [needs, (ln : Int)]) ++ (l.take k').flatMap encB) ++ encB ⟨op, a, b, ci, m⟩) (by simpa [byts] using hown6); have hF6 := Fr.of_grown hgrow6; have HO6 := hid ho6; clear hown6 hgrow6 ho6)
                have hne := own_ne HO5.out hT5 (by decide)
                have hlt5 := HO5.out.lt
                go_roundg (ln - (k' + 1))
                case rel => exact ⟨k' + 1, A6, n3 + 8, c6, by rw [HLN.out]; omega, by rw [HLN.out], by go_num, rfl, by omega, HO6.out.eq (by rw [snoc_flat encB HIK.out, List.append_assoc]), codeErr_snoc HE3.out HIK.out HCH.out, hT5.keep hF6 hne, hF3.trans (((hF4.trans hF5).mono (fun _ h => h.elim)).trans (hF6.mono (fun q h => (hlt5 q h).1)))⟩
                case measure => have := HD'.out; omega
              · obtain ⟨x, hx⟩ : ∃ x, chk ⟨op, a, b, ci, m⟩ = x := ⟨_, rfl⟩
                have hce : codeErr l = x := by rw [← hx]; exact codeErr_take HE3.out HIK.out hch
                rw [hx] at HK hch
                have hfin : packErr P = x := by rw [HPE.out]; exact prgErr_at HE.out HFK.out (HFC.out.trans hce) hch
                have HFIN := hid hfin
                have HX := hid hch
                have q1 : (x != 0) = true := by simpa using hch
                clear hch hx hfin hce
                go_wp2_with fail
                refine HK.out.mono ?_
                rintro e w4 ⟨rfl, hF4⟩
                go_wp2_with fail
                go_ret2
                exact .inr ⟨by rw [HFIN.out]; exact HX.out, tuple2 HFIN.out.symm, HTO.out _ (hF.trans (hF3.trans (hF4.mono (fun _ h => h.elim))))⟩
            · have hz : codeErr l = 0 := by have h := HE3.out; rwa [List.take_of_length_le (by rw [HLN.out]; omega)] at h
              have HZ := hid hz
              clear hz
              go_wp2_with fail
              go_roundg (n - (k + 1))
              case rel => exact ⟨k + 1, A3, n3, c3, by rw [HN.out]; omega, by rw [HN.out], by go_num, rfl, by omega, HO3.out.eq (by
                  rw [snoc_flat fnBytes HFK.out, List.take_of_length_le (l := l) (by rw [HLN.out]; omega)]
                  unfold fnBytes
                  simp only [HLN.out]
                  rw [Int.emod_eq_of_lt (by omega) (by omega)]
                  simp), prgErr_snoc HE.out HFK.out (HFC.out.trans HZ.out), hF.trans hF3⟩
              case measure => have := HD.out; omega
    · have hz : prgErr P = 0 := by have h := HE.out; rwa [List.take_of_length_le (by rw [HN.out]; omega)] at h
      have HZ := hid hz
      clear hz
      go_wp2_with fail
      go_ret2
      refine .inl ⟨by rw [HPE.out, HZ.out], Ab, nb, cb, rfl, by omega, ?_, HTO.out _ hF⟩
      exact (OwnB.less (HO.out.eq (by unfold packBytes; rw [List.take_of_length_le (by rw [HN.out]; omega)])) (by omega))

theorem rpack_any (A : Option Addr) (c : Nat) (P : List Fn) (w : World) (hp : Prg w w.heap.size A P) :
    Calls Tryz.prog 17 #[.agg #[.slice A P.length c]] w (PackAny w P) := by
  by_cases h : P.length < 1 ∨ 32 < P.length
  · have e : packErr P = 12 := by unfold packErr; rw [if_pos h]
    exact (rpack_long A P.length c w h).mono fun e' w' ⟨h1, h2⟩ => .inr ⟨by rw [e]; decide, by rw [e]; exact h1, h2⟩
  · exact rpack_in A P.length c P w hp rfl (by omega) (by omega)

end Go.Proofs.YtepbnneggpcbcaaGreatDoor
