/-
  ClockOrders: the walk.
-/
import Derived.Test.YtpgbhgkikpmhiaaOrP
import Derived.Deep.CutBlock
namespace Go.Proofs.Ytpgbhgkikpmhiaa
open Go.RowKit
set_option linter.unusedVariables false

theorem infoact : (Try.prog.info? 37).map (fun i => (i.zero, i.size, i.bytes)) = some (some (.agg #[.int .i64 0, .int .i64 0, .int .i64 0]), 3, 24) := by kernel_rfl

theorem three_new (w : World) (e : TypeId) (x y z : Value) : ∀ j u, ([x, y, z] : List Value)[j]? = some u → (w.alloc (.cells #[x, y, z] e)).cell? ((⟨w.heap.size, 0, none⟩ : Addr).add j) = some u := fun j u hu => by
  rw [add_none, Nat.zero_add]
  exact (Blk.new w #[x, y, z] e).cell (by simpa using hu)

/-- While they are set: the clock c, the other one d, the row of what was set. -/
structure OrI (w : World) (B c cd : Nat) (G : List ActD) (T U : List Due) (A : Option Addr) (cap : Nat) (W : World) : Prop where
  ex : ∃ O Od : Nat → Prop, OwnC w W O c 0 T ∧ OwnC w W Od cd 0 U ∧ (∀ k, O k → ¬ Od k) ∧ (∀ j, ownB A j → ¬ O j ∧ ¬ Od j)
  row : OwnR W B 37 3 A G.length cap (actsV G)
  lo : w.heap.size ≤ B
  sz : B ≤ W.heap.size

theorem OrI.same {w : World} {B c cd : Nat} {G : List ActD} {T U : List Due} {A : Option Addr} {cap : Nat} {W W' : World} (h : OrI w B c cd G T U A cap W) (F : Fr (fun _ => False) W W') : OrI w B c cd G T U A cap W' := by
  obtain ⟨O, Od, h1, h2, h3, h4⟩ := h.ex
  exact ⟨⟨O, Od, h1.same F, h2.same F, h3, h4⟩, OwnR.same h.row F, h.lo, Nat.le_trans h.sz F.size⟩

theorem OrI.fr {w : World} {B c cd : Nat} {G : List ActD} {T U : List Due} {A : Option Addr} {cap : Nat} {W : World} (h : OrI w B c cd G T U A cap W) : Fr (fun _ => False) w W := by
  obtain ⟨O, Od, h1, h2, h3, h4⟩ := h.ex
  exact h1.fr

/-- A call that turns the first clock. -/
theorem OrI.setC {w : World} {B c cd : Nat} {G : List ActD} {T U : List Due} {A : Option Addr} {cap : Nat} {W : World} (h : OrI w B c cd G T U A cap W) (i n : Int) (hs : T.length < 60000) :
    Calls Try.prog 23 #[.pointer (some ⟨c, 0, none⟩), .int .i64 i, .int .i64 n] W fun e W' => e = .returned (.int .i64 (setE i n 0 T)) ∧ OrI w B c cd G (setT i n 0 T) U A cap W' := by
  obtain ⟨O, Od, h1, h2, h3, h4⟩ := h.ex
  refine (ck_set W i n h1.ck (by omega) (by omega) hs).mono ?_
  rintro e W' ⟨he, hp⟩
  have hp2 := hp
  obtain ⟨O', hC', hL'⟩ := h1.step hp
  obtain ⟨O2, p1, p2, p3⟩ := hp2
  refine ⟨he, ⟨O', Od, hC', h2.keep p2 (fun k hk hk2 => h3 k hk2 hk) h1.lo, fun k hk hk2 => ?_, fun j hj => ⟨fun hk => ?_, (h4 j hj).2⟩⟩, OwnR.keep h.row p2 (fun j hj hk => (h4 j hj).1 hk), h.lo, Nat.le_trans h.sz p2.size⟩
  · rcases hL' k hk with h5 | h5
    · exact h3 k h5 hk2
    · have := h2.ck.lt k hk2; omega
  · rcases hL' j hk with h5 | h5
    · exact (h4 j hj).1 h5
    · have := (OwnR.lt h.row j hj).2; omega

/-- .. the other one. -/
theorem OrI.setD {w : World} {B c cd : Nat} {G : List ActD} {T U : List Due} {A : Option Addr} {cap : Nat} {W : World} (h : OrI w B c cd G T U A cap W) (i n : Int) (hs : U.length < 60000) :
    Calls Try.prog 23 #[.pointer (some ⟨cd, 0, none⟩), .int .i64 i, .int .i64 n] W fun e W' => e = .returned (.int .i64 (setE i n 0 U)) ∧ OrI w B c cd G T (setT i n 0 U) A cap W' := by
  obtain ⟨O, Od, h1, h2, h3, h4⟩ := h.ex
  refine (ck_set W i n h2.ck (by omega) (by omega) hs).mono ?_
  rintro e W' ⟨he, hp⟩
  have hp2 := hp
  obtain ⟨O', hC', hL'⟩ := h2.step hp
  obtain ⟨O2, p1, p2, p3⟩ := hp2
  refine ⟨he, ⟨O, O', h1.keep p2 (fun k hk hk2 => h3 k hk hk2) h2.lo, hC', fun k hk hk2 => ?_, fun j hj => ⟨(h4 j hj).1, fun hk => ?_⟩⟩, OwnR.keep h.row p2 (fun j hj hk => (h4 j hj).2 hk), h.lo, Nat.le_trans h.sz p2.size⟩
  · rcases hL' k hk2 with h5 | h5
    · exact h3 k hk h5
    · have := h1.ck.lt k hk; omega
  · rcases hL' j hk with h5 | h5
    · exact (h4 j hj).2 h5
    · have := (OwnR.lt h.row j hj).2; omega

/-- One is put behind the row. -/
theorem OrI.put {w : World} {B c cd : Nat} {G G' : List ActD} {T U : List Due} {A : Option Addr} {cap : Nat} {W W' : World} {q g4 c4 : Nat} (h : OrI w B c cd G T U A cap W) (hO : OwnR W' B 37 3 (some ⟨g4, 0, none⟩) q c4 (actsV G')) (hq : G'.length = q) (F : Fr (ownB A) W W') (hat : ownB A g4 ∨ W.heap.size ≤ g4) : OrI w B c cd G' T U (some ⟨g4, 0, none⟩) c4 W' := by
  subst hq
  obtain ⟨O, Od, h1, h2, h3, h4⟩ := h.ex
  have hl : ∀ k, ownB A k → w.heap.size ≤ k := fun k hk => Nat.le_trans h.lo (OwnR.lt h.row k hk).1
  refine ⟨⟨O, Od, h1.keep F (fun k hk hk2 => (h4 k hk2).1 hk) hl, h2.keep F (fun k hk hk2 => (h4 k hk2).2 hk) hl, h3, fun j hj => ?_⟩, hO, h.lo, Nat.le_trans h.sz F.size⟩
  obtain ⟨a, ha, rfl⟩ := hj
  injection ha with ha
  subst ha
  rcases hat with h5 | h5
  · exact h4 _ h5
  · exact ⟨fun hk => by have := h1.ck.lt _ hk; simp only at this; omega, fun hk => by have := h2.ck.lt _ hk; simp only at this; omega⟩

/-- All come at once. -/
def AllPost (O : Nat → Prop) (c q : Nat) (T : List Due) (w : World) (e : Ending) (w' : World) : Prop :=
  ∃ A cap, e = .returned (.tuple #[.slice A q cap, .int .i64 0]) ∧ OwnR w' w.heap.size 3 1 A q cap (intsV (idsOf T)) ∧ Ckm w' O c 1099511627776 [] ∧ Fr O w w'

theorem adv_all {O : Nat → Prop} {c q : Nat} {G : List ActD} {T : List Due} (w : World) (h : Ckm w O c 0 T) (hS : SetG G T) (hq : G.length = q) (hs : q < 60000) :
    Calls Try.prog 20 #[.pointer (some ⟨c, 0, none⟩), .int .i64 1099511627776] w (AllPost O c q T w) := by
  obtain ⟨-, e2, e3, e4, e5⟩ := hS.all
  refine (ck_adv w 1099511627776 h (by omega) (by omega) (by rw [hS.len, hq]; exact hs)).mono ?_
  rintro e w' ⟨A, cap, he, hO, hC, hF⟩
  have hl : (idsOf T).length = q := by rw [← hq, ← hS.len]; simp [idsOf]
  rw [e5, hl, e2] at he
  rw [e5, hl] at hO
  rw [e3, e4] at hC
  exact ⟨A, cap, he, hO, hC, hF⟩

/-- Two that come one behind the other. -/
theorem two_in {T : List Due} (hs : Srt T) {p : Nat} (h : p + 1 < T.length) : dlt (at_ T p) (at_ T (p + 1)) := by
  have h1 := List.pairwise_iff_getElem.1 hs p (p + 1) (by omega) h (by omega)
  unfold at_
  rw [List.getD_eq_getElem?_getD, List.getD_eq_getElem?_getD, List.getElem?_eq_getElem (by omega), List.getElem?_eq_getElem h]
  exact h1

theorem idsOf_at {T : List Due} {p : Nat} (h : p < T.length) : (idsOf T).getD p 0 = (at_ T p).2 := by
  unfold idsOf at_
  rw [List.getD_eq_getElem?_getD, List.getD_eq_getElem?_getD, List.getElem?_map, List.getElem?_eq_getElem h]
  rfl

def OrRel3 (q : Nat) (w : World) (d : Nat) (y : Value) (wr : World) : Prop :=
  ∃ i : Nat, 1 ≤ i ∧ (i ≤ q ∨ i = 1) ∧ d = q + 2 - i ∧ y = .int .i64 i ∧ Fr (fun _ => False) w wr

def OrRel1 (len : Nat) (w : World) (B c cd : Nat) (d : Nat) (x y : Value) (wr : World) : Prop :=
  ∃ (k : Nat) (G : List ActD) (T : List Due) (A : Option Addr) (cap : Nat), k ≤ len ∧ d = len + 1 - k ∧ x = .slice A G.length cap ∧ y = .int .i64 k ∧ G.length ≤ k ∧ SetG G T ∧ OrI w B c cd G T [] A cap wr

def OrRel2 (G : List ActD) (T : List Due) (A : Option Addr) (cap : Nat) (w : World) (B c cd : Nat) (d : Nat) (y : Value) (wr : World) : Prop :=
  ∃ (m : Nat) (U : List Due), m ≤ G.length ∧ d = m ∧ y = .int .i64 ((m : Int) - 1) ∧ U.Perm ((G.drop m).map dueA) ∧ OrI w B c cd G T U A cap wr

set_option maxRecDepth 100000 in
set_option maxHeartbeats 3200000 in
theorem orders_any (al : Option Addr) (len capl : Nat) (f : Nat → Nat → Int) (w : World) (hrow : Row w al len 3 f) :
    Calls Try.prog 5 #[.slice al len capl] w fun e w' => e = .returned (.bool true) ∧ Below w.heap.size w w' := by
  have HROW := hid hrow
  obtain ⟨i0, hi, hz⟩ := Option.map_eq_some_iff.1 infoact
  simp only [Prod.mk.injEq] at hz
  obtain ⟨hz0, hz1, hz2⟩ := hz
  have HII := hid hi
  have HZ0 := hid hz0
  have HZ1 := hid hz1
  have HZ2 := hid hz2
  clear hi hz0 hz1 hz2 hrow
  by_cases hlen : 60 < len
  · have hlen2 : (60 : Int) < len := by omega
    go_enter Try.func5, Try.ntmps5
    go_wp2_with fail
    refine (awake_ok w).mono ?_
    rintro e w2 ⟨rfl, hF⟩
    have HF := hid hF
    clear hF
    go_wp2_with fail
    go_ret
    exact ⟨rfl, HF.out.below (Nat.le_refl _) (fun _ h => h.elim)⟩
  have hlen2 : ¬ (60 : Int) < len := by omega
  have HLEN := hid hlen
  go_enter Try.func5, Try.ntmps5
  go_wp2_with fail
  clear hlen hlen2
  refine (ck_new w).mono ?_
  rintro e w1 hp
  obtain ⟨O1, c, rfl, h⟩ := OwnC.made hp
  have H1 := hid h
  clear hp h
  go_wp2_with fail
  refine (ck_new w1).mono ?_
  rintro e w2 hp
  obtain ⟨O2, cd, rfl, h⟩ := OwnC.made hp
  have H2 := hid (h.older H1.out.fr)
  have HC2 := hid (H1.out.same h.fr)
  have HDJ := hid (show ∀ k, O1 k → ¬ O2 k from fun k hk hk2 => by have := h.lo k hk2; have := H1.out.ck.lt k hk; omega)
  clear hp h
  go_wp2_with fail
  have hF3 := Fr.alloc (fun _ => False) w2 (.cells #[] 37)
  have H3 := hid (show OrI w w2.heap.size c cd [] [] [] (some ⟨w2.heap.size, 0, none⟩) 0 (w2.alloc (.cells #[] 37)) from
    ⟨⟨O1, O2, HC2.out.same hF3, H2.out.same hF3, HDJ.out, fun j hj => by
      obtain ⟨q, hq, rfl⟩ := hj
      injection hq with hq
      subst hq
      exact ⟨fun hk => by have := HC2.out.ck.lt _ hk; simp at this, fun hk => by have := H2.out.ck.lt _ hk; simp at this⟩⟩,
      ⟨by simp [actsV], .inr ⟨w2.heap.size, 0, #[], rfl, Nat.le_refl _, TBlk.new _ _ _, Nat.le_refl _, by unfold maxLen; omega, by simp, by simp [actsV]⟩⟩, H2.out.fr.size, hF3.size⟩)
  obtain ⟨B, hB⟩ : ∃ B, w2.heap.size = B := ⟨_, rfl⟩
  obtain ⟨w3, hw3⟩ : ∃ w3, w2.alloc (.cells #[] 37) = w3 := ⟨_, rfl⟩
  rw [hw3, hB] at H3
  rw [hw3, hB]
  clear hF3 hw3 hB HC2 H2 HDJ H1
  go_loopg [5, 6] (len + 1) (fun d x y wr => OrRel1 len w B c cd d x y wr)
  case atStart => exact ⟨0, [], [], some ⟨B, 0, none⟩, 0, by omega, by omega, rfl, rfl, by simp, SetG.nil, H3.out⟩
  case round =>
    obtain ⟨k, G, T, A, cap, hk, rfl, rfl, rfl, hg, hS, hI⟩ := hrel
    have HK := hid hk
    have HG := hid hg
    have HS := hid hS
    have HI := hid hI
    clear hk hg hS hI
    by_cases hlt : k < len
    · obtain ⟨rb, off, rfl, hrb, hc⟩ := HROW.out.at_three hlt
      have hlt2 : (k : Int) < len := by omega
      obtain ⟨x0, hx0⟩ : ∃ x, f k 0 = x := ⟨_, rfl⟩
      obtain ⟨x1, hx1⟩ : ∃ x, f k 1 = x := ⟨_, rfl⟩
      obtain ⟨x2, hx2⟩ : ∃ x, f k 2 = x := ⟨_, rfl⟩
      rw [hx0, hx1, hx2] at hc
      have HCL := hid hc
      have HC1 := hid (show ∀ W, Fr (fun _ => False) w W → W.cell? ⟨rb, off + k * 3 + 1, none⟩ = some (.int .i64 x1) ∧ W.cell? ⟨rb, off + k * 3 + 2, none⟩ = some (.int .i64 x2) from fun W F => (hc W F).2)
      have HST := hid (fun W (F : Fr (fun _ => False) wr W) => (HI.out.same F).setC x1 x2 (by have := HS.out.len; have := HG.out; have := HLEN.out; omega))
      have HFD := hid HI.out.fr
      have HAD := hid (fun (d : Int) (h : setE x1 x2 0 T = 0) => HS.out.add (d := d) h)
      have HSO := hid (fun (h : setE x1 x2 0 T ≠ 0) => set_some h)
      obtain ⟨se, hse⟩ : ∃ x, setE x1 x2 0 T = x := ⟨_, rfl⟩
      obtain ⟨T', hT'⟩ : ∃ x, setT x1 x2 0 T = x := ⟨_, rfl⟩
      rw [hse, hT'] at HST HAD HSO
      clear hc hrb hx0 hx1 hx2 hse hT'
      go_upto_region 11 with fail
      go_region_held3 (fun W => W.cell? ⟨rb, off + k * 3 + 1, none⟩ = some (.int .i64 x1) ∧ W.cell? ⟨rb, off + k * 3 + 2, none⟩ = some (.int .i64 x2))
        (first | exact HC1.out _ HFD.out | exact HC1.out _ (HFD.out.trans (Fr.drew _ _)))
        (first
          | (go_at_call 23; (with_reducible refine (HST.out _ (by first | exact Fr.drew _ _ | exact Fr.refl _ _)).mono ?_); rintro e w6 ⟨rfl, hI6⟩; have HI6 := hid hI6; have HFD := hid hI6.fr; clear hI6))
      all_goals
        have hkb : k < 60 := by have := HLEN.out; omega
        rcases ht : (se == 0) with _ | _
        · have HSE := hid (HSO.out (by simpa using ht))
          go_wp2_with fail
          go_roundg (len + 1 - (k + 1))
          case rel => exact ⟨k + 1, G, T, A, cap, by omega, rfl, rfl, by go_num, by have := HG.out; omega, HS.out, by have := HI6.out; rw [HSE.out] at this; exact this⟩
          case measure => omega
        · have HSE := hid (HAD.out x0 (by simpa using ht))
          have hgk := HG.out
          have hgl := HLEN.out
          obtain ⟨q, hq⟩ : ∃ q, G.length = q := ⟨_, rfl⟩
          rw [hq] at hgk
          have HQ := hid hq
          rw [hq]
          clear hq
          obtain ⟨c0, c1, c2⟩ := HCL.out w6 HFD.out
          have HOW := hid (show OwnR (w6.alloc (.cells #[.int .i64 x0, .int .i64 x1, .int .i64 x2] 37)) B 37 3 A q cap (actsV G) from HQ.out ▸ OwnR.same HI6.out.row (Fr.alloc _ _ _))
          have HNW := hid (three_new w6 37 (.int .i64 x0) (.int .i64 x1) (.int .i64 x2))
          have HSZ := hid HI6.out.sz
          go_wp2_with (at_builtin; (refine wpList_append_lies _ rfl _ _ 22 rfl B 37 i0 (.agg #[.int .i64 0, .int .i64 0, .int .i64 0]) 3 24 Try.underlying22 HII.out HZ0.out HZ1.out HZ2.out rfl (by decide) (.slice A q cap) q _ rfl HOW.out ⟨w6.heap.size, 0, none⟩ 1 1 [.int .i64 x0, .int .i64 x1, .int .i64 x2] rfl rfl HNW.out (by simp [Value.oneCell']) (by decide) (by unfold maxLen; omega) (by omega) (by have := HSZ.out; simp; omega) (w6.heap.size + 1) (by simp) ?_; intro g4 c4 w7 hown4 hgrow4 hat4 hlt4; have HO7 := hid (show OwnR w7 B 37 3 (some ⟨g4, 0, none⟩) (q + 1) c4 _ from hown4); have HF7 := hid ((Fr.alloc (fun _ => False) w6 (.cells #[.int .i64 x0, .int .i64 x1, .int .i64 x2] 37)).mono (fun _ h => h.elim) |>.trans (Fr.of_grown hgrow4)); have HAT := hid hat4; clear hown4 hgrow4 hat4 hlt4))
          have HI7 := hid (HI6.out.put (G' := G ++ [(x0, x1, x2)]) (OwnR.eq HO7.out (actsV_app G (x0, x1, x2))) (by simp [HQ.out]) HF7.out (by
            rcases HAT.out with h | h
            · exact .inl (own_of h)
            · exact .inr (by omega)))
          go_roundg (len + 1 - (k + 1))
          case rel => exact ⟨k + 1, G ++ [(x0, x1, x2)], T', _, _, by omega, rfl, by rw [List.length_append, HQ.out]; rfl, by go_num, by rw [List.length_append, HQ.out]; show q + 1 ≤ k + 1; omega, HSE.out, HI7.out⟩
          case measure => omega
    · obtain rfl : k = len := by have := HK.out; omega
      have hgl : G.length ≤ 60 := by have := HG.out; have := HLEN.out; omega
      have HGL := hid hgl
      obtain ⟨q, hq⟩ : ∃ q, G.length = q := ⟨_, rfl⟩
      have HQ := hid hq
      rw [hq] at hgl ⊢
      clear hq
      go_wp2_with fail
      go_loopg [7] q (fun d y wr => OrRel2 G T A cap w B c cd d y wr)
      case atStart => exact ⟨q, [], by have := HQ.out; omega, rfl, by first | rfl | exact congrArg _ (by unfold wrap64; omega), by rw [List.drop_of_length_le (by have := HQ.out; omega)]; exact List.Perm.refl _, HI.out⟩
      case round =>
        obtain ⟨m, U, hm, rfl, rfl, hU, hI2⟩ := hrel
        have HI2 := hid hI2
        have HU := hid hU
        have HM := hid hm
        clear hI2 hU hm
        cases gk with
        | succ j =>
          have HJG := hid (show j < G.length from by have := HM.out; omega)
          have hj2 : (j : Int) < (q : Int) := by have := HJG.out; have := HQ.out; omega
          have hj3 : j < q := by have := HJG.out; have := HQ.out; omega
          have hj4 : (((j + 1 : Nat) : Int) - 1) = (j : Int) := by omega
          rw [hj4]
          have HIDS := hid (show Ids T from by obtain ⟨O, Od, h1, _⟩ := HI2.out.ex; exact h1.ck.ids)
          have HBK := hid (HS.out.back HIDS.out HJG.out HU.out)
          obtain ⟨g, hA, -, hgz, -, -⟩ := OwnR.cell HI2.out.row (by have := HQ.out; omega)
          have HGZ := hid hgz
          subst hA
          have HC1 := hid (show ∀ W, Fr (fun _ => False) wr W → W.cell? ⟨g, j * 3 + 1, none⟩ = some (.int .i64 (atA G j).2.1) ∧ W.cell? ⟨g, j * 3 + 2, none⟩ = some (.int .i64 (atA G j).2.2) from fun W F => by
            obtain ⟨g', hA', -, -, -, hcl⟩ := OwnR.cell (HI2.out.same F).row (by have := HQ.out; omega)
            injection hA' with hA'
            injection hA' with hA'
            subst hA'
            exact ⟨hcl _ _ (actsV_at G j HJG.out).2.1, hcl _ _ (actsV_at G j HJG.out).2.2⟩)
          have HST := hid (fun W (F : Fr (fun _ => False) wr W) => (HI2.out.same F).setD (atA G j).2.1 (atA G j).2.2 (by have := HU.out.length_eq; simp at this; have := HGL.out; omega))
          rw [HBK.out.1] at HST
          obtain ⟨U', hU'⟩ : ∃ x, setT (atA G j).2.1 (atA G j).2.2 0 U = x := ⟨_, rfl⟩
          rw [hU'] at HST HBK
          obtain ⟨x1, hx1⟩ : ∃ x, (atA G j).2.1 = x := ⟨_, rfl⟩
          obtain ⟨x2, hx2⟩ : ∃ x, (atA G j).2.2 = x := ⟨_, rfl⟩
          rw [hx1, hx2] at HST HC1
          have HCC := hid (show ∀ W, OrI w B c cd G T U' (some ⟨g, 0, none⟩) cap W → W.cell? ⟨g, j * 3 + 1, none⟩ = some (.int .i64 x1) ∧ W.cell? ⟨g, j * 3 + 2, none⟩ = some (.int .i64 x2) from fun W hW => by
            obtain ⟨g', hA', -, -, -, hcl⟩ := OwnR.cell hW.row (by have := HQ.out; omega)
            injection hA' with hA'
            injection hA' with hA'
            subst hA'
            rw [← hx1, ← hx2]
            exact ⟨hcl _ _ (actsV_at G j HJG.out).2.1, hcl _ _ (actsV_at G j HJG.out).2.2⟩)
          clear hU' hx1 hx2 hj4 hgz
          go_upto_region 16 with fail
          go_region_held3 (fun W => W.cell? ⟨g, j * 3 + 1, none⟩ = some (.int .i64 x1) ∧ W.cell? ⟨g, j * 3 + 2, none⟩ = some (.int .i64 x2))
            (first | exact HC1.out _ (Fr.refl _ _) | exact HC1.out _ (Fr.drew _ _) | exact HCC.out _ HI6.out | exact HCC.out _ (HI6.out.same (Fr.drew _ _)))
            (first
              | (go_at_call 23; (with_reducible refine (HST.out _ (by first | exact Fr.drew _ _ | exact Fr.refl _ _)).mono ?_); rintro e w6 ⟨rfl, hI6⟩; have HI6 := hid hI6; clear hI6))
          all_goals
            go_wp2_with fail
            go_roundg j
            case rel => exact ⟨j, U', by have := HM.out; omega, rfl, by first | rfl | exact congrArg _ (by unfold wrap64; omega), HBK.out.2, HI6.out⟩
            case measure => omega
        | zero =>
          have HEQ := hid (show U = T from by
            obtain ⟨O, Od, h1, h2, _⟩ := HI2.out.ex
            have := HU.out
            rw [List.drop_zero] at this
            exact srt_one h2.ck.srt h1.ck.srt (this.trans HS.out.perm.symm))
          obtain ⟨O, Od, h1, h2, h3, h4⟩ := HI2.out.ex
          have hE := HEQ.out
          subst hE
          have HO1 := hid h1
          have HO2 := hid h2
          have HO3 := hid h3
          have HO4 := hid h4
          have HRW := hid HI2.out.row
          have hTq : U.length = q := by rw [HS.out.len, HQ.out]
          have HTQ := hid hTq
          have HLC := hid (ck_len wr h1.ck)
          have HLD := hid (ck_len wr h2.ck)
          rw [hTq] at HLC HLD
          have hq60 : q < 60000 := by omega
          clear h1 h2 h3 h4 hTq HEQ HU
          go_wp2_with fail
          refine HLC.out.mono ?_
          rintro e w5 ⟨rfl, rfl⟩
          go_wp2_with fail
          refine HLD.out.mono ?_
          rintro e w5 ⟨rfl, rfl⟩
          go_wp2_with fail
          refine (adv_all wr HO1.out.ck HS.out HQ.out hq60).mono ?_
          rintro e w5 ⟨A8, cap8, rfl, hO8, hC5, hF5⟩
          have HX5 := hid hO8
          have HC5 := hid hC5
          have HD5 := hid (HO2.out.ck.keep hF5 (fun k hk hk2 => HO3.out k hk2 hk))
          have HR5 := hid (OwnR.keep HRW.out hF5 (fun j hj hk => (HO4.out j hj).1 hk))
          have HF5 := hid (HO1.out.fr.since hF5 (fun k hk hl => by have := HO1.out.lo k hk; omega))
          clear hO8 hC5 hF5
          go_wp2_with fail
          refine (adv_all w5 HD5.out HS.out HQ.out hq60).mono ?_
          rintro e w6 ⟨A9, cap9, rfl, hO9, hD6, hF6⟩
          have HY6 := hid (OwnR.intR hO9 (by rw [← HTQ.out]; simp [idsOf]))
          have HX6 := hid (OwnR.intR (OwnR.keep HX5.out hF6 (fun j hj hk => by have := (OwnR.lt HX5.out j hj).1; have := HO2.out.ck.lt j hk; omega)) (by rw [← HTQ.out]; simp [idsOf]))
          have HC6 := hid (HC5.out.keep hF6 (fun k hk hk2 => HO3.out k hk hk2))
          have HA6 := hid (OwnR.actR (OwnR.keep HR5.out hF6 (fun j hj hk => (HO4.out j hj).2 hk)) rfl)
          have HF6 := hid (HF5.out.since hF6 (fun k hk hl => by have := HO2.out.lo k hk; omega))
          have HIL := hid (show (idsOf U).length = q from by rw [← HTQ.out]; simp [idsOf])
          clear hO9 hD6 hF6
          go_wp2_with fail
          refine (same_yes A8 A9 (idsOf U) q cap8 cap9 w6 HX6.out HY6.out HIL.out (by omega)).mono ?_
          rintro e w7 ⟨rfl, hF7⟩
          have HC7 := hid (HC6.out.same hF7)
          have HLC7 := hid (ck_len w7 HC7.out)
          have HX7 := hid (HX6.out.same hF7)
          have HA7 := hid (HA6.out.same hF7)
          have HF7 := hid (HF6.out.trans hF7)
          clear hF7
          go_wp2_with fail
          refine HLC7.out.mono ?_
          rintro e w8 ⟨rfl, rfl⟩
          go_wp2_with fail
          go_loopg [12] (q + 1) (fun d y wr => OrRel3 q w7 d y wr)
          case atStart => exact ⟨1, by omega, .inr rfl, by omega, rfl, Fr.refl _ _⟩
          case round =>
            obtain ⟨i, hi1, hi2, rfl, rfl, hF⟩ := hrel
            have HF := hid hF
            clear hF
            by_cases hlt : i < q
            · obtain ⟨p, hp⟩ : ∃ p, i = p + 1 := ⟨i - 1, by omega⟩
              have hlt2 : (i : Int) < (q : Int) := by omega
              have hpq : (p : Int) < (q : Int) := by omega
              have hpq2 : p < q := by omega
              have q5 : wrap64 ((i : Int) - 1) = (p : Int) := by unfold wrap64; omega
              have q6 : IntKind.i64.wrap ((i : Int) - 1) = (p : Int) := by rw [IntKind.wrap_i64]; omega
              obtain ⟨g8, off8, hA8, -, hc8⟩ := (HX7.out.same HF.out) (by have := HIL.out; omega)
              have cp := hc8 p (by have := HIL.out; omega)
              have ci := hc8 i (by have := HIL.out; omega)
              have hpl : p + 1 < U.length := by have := HTQ.out; omega
              rw [idsOf_at (by omega)] at cp
              rw [hp, idsOf_at hpl, ← hp] at ci
              have hdl := two_in HO1.out.ck.srt hpl
              have ha1 := (HS.out.when HO1.out.ck.ids (at_mem (show p < U.length by omega)))
              have hb1 := (HS.out.when HO1.out.ck.ids (at_mem hpl))
              rw [← hp] at hdl hb1
              have hga : 1 ≤ (at_ U p).1 := by
                obtain ⟨g, hg, e⟩ := List.mem_map.1 (HS.out.perm.subset (at_mem (show p < U.length by omega)))
                rw [← e]
                exact (HS.out.good g hg).2.1
              have HWA := hid (fun W (F : Fr (fun _ => False) wr W) => when_ok A G q cap (at_ U p).2 W (HA7.out.same (HF.out.trans F)) HQ.out (by omega))
              have HWB := hid (fun W (F : Fr (fun _ => False) wr W) => when_ok A G q cap (at_ U i).2 W (HA7.out.same (HF.out.trans F)) HQ.out (by omega))
              rw [ha1] at HWA
              rw [hb1] at HWB
              obtain ⟨ka, hka⟩ : ∃ x, at_ U p = x := ⟨_, rfl⟩
              obtain ⟨kb, hkb⟩ : ∃ x, at_ U i = x := ⟨_, rfl⟩
              rw [hka] at HWA cp hdl hga
              rw [hkb] at HWB ci hdl
              obtain ⟨a, z0⟩ := ka
              obtain ⟨b, z1⟩ := kb
              unfold dlt at hdl
              simp only at HWA HWB cp ci hdl hga
              have HDL := hid hdl
              have HCI := hid (show ∀ W, Fr (fun _ => False) wr W → W.cell? ⟨g8, off8 + p, none⟩ = some (.int .i64 z0) ∧ W.cell? ⟨g8, off8 + i, none⟩ = some (.int .i64 z1) from fun W F => by
                obtain ⟨g8', off8', hA8', -, hc8'⟩ := (HX7.out.same (HF.out.trans F)) (by have := HIL.out; omega)
                rw [hA8] at hA8'
                injection hA8' with hA8'
                injection hA8' with hg hoff
                subst hg hoff
                have cp' := hc8' p (by have := HIL.out; omega)
                have ci' := hc8' i (by have := HIL.out; omega)
                rw [idsOf_at (by omega), hka] at cp'
                rw [hp, idsOf_at (by omega), ← hp, hkb] at ci'
                exact ⟨cp', ci'⟩)
              subst hA8
              have u1 : decide (a < 0) = false := decide_eq_false (by omega)
              have u2 : decide (b < 0) = false := decide_eq_false (by omega)
              have u3 : decide (b < a) = false := decide_eq_false (by omega)
              have HPP := hid hp
              clear hc8 hdl ha1 hb1 hka hkb hpl hga hp
              go_wp2_with fail
              refine (HWA.out _ (Fr.refl _ _)).mono ?_
              rintro e w9 ⟨rfl, hF9⟩
              have HF9 := hid hF9
              obtain ⟨cp, ci⟩ := HCI.out w9 hF9
              clear hF9
              go_wp2_with fail
              refine (HWB.out _ HF9.out).mono ?_
              rintro e w10 ⟨rfl, hF10⟩
              have HF10 := hid (HF9.out.trans hF10)
              obtain ⟨cp, ci⟩ := HCI.out w10 HF10.out
              clear hF10
              rcases ht : (a == b) with _ | _
              · go_wp2_with fail
                go_quiet (fail)
                go_wp2_with fail
                go_roundg (q + 2 - (i + 1))
                case rel => exact ⟨i + 1, by omega, .inl (by omega), rfl, by first | rfl | exact congrArg _ (by unfold wrap64; omega), (HF.out.trans HF10.out).trans (by first | exact Fr.drew _ _ | exact Fr.drewN _ _ _)⟩
                case measure => omega
              · have hz : z0 < z1 := by
                  have := HDL.out
                  have h2 : a = b := by simpa using ht
                  omega
                have hz2 : decide (z1 ≤ z0) = false := decide_eq_false (by omega)
                go_wp2_with fail
                go_quiet (fail)
                go_wp2_with fail
                go_roundg (q + 2 - (i + 1))
                case rel => exact ⟨i + 1, by omega, .inl (by omega), rfl, by first | rfl | exact congrArg _ (by unfold wrap64; omega), (HF.out.trans HF10.out).trans (by first | exact Fr.drew _ _ | exact Fr.drewN _ _ _)⟩
                case measure => omega
            · have hlt2 : ¬ (i : Int) < (q : Int) := by omega
              have HF9 := hid (HF7.out.trans HF.out)
              go_wp2_with fail
              refine (awake_ok wr).mono ?_
              rintro e w9 ⟨rfl, hF⟩
              have HF10 := hid (HF9.out.trans hF)
              clear hF
              go_wp2_with fail
              go_ret
              exact ⟨rfl, HF10.out.below (Nat.le_refl _) (fun _ h => h.elim)⟩
end Go.Proofs.Ytpgbhgkikpmhiaa
