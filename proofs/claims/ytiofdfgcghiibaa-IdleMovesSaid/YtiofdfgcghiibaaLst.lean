/-
  list: the first ones that a loop over Members tells.
-/
import Derived.Test.YtiofdfgcghiibaaMem
import Derived.Test.YtiofdfgcghiibaaTb
import Derived.Deep.AppendLies
import Derived.Deep.DeepMust
namespace Go.Proofs.Ytiofdfgcghiibaa
open Go.RowKit Go.Shelf
set_option linter.unusedVariables false
attribute [local go_sem] Oper.semAt_some

theorem wpListIn_append_lies {F : Fence} {n : Nat} {P : Program} (w : World) {ops : Array Oper} {rest : List Oper} {o : Oper} {a : Act} {Q : Exit → Act → World → Prop}
    (hg : o.guard = none) (s x : Operand) (t : TypeId) (hop : o.op = Op.call { callee := Callee.builtin Builtin.append, args := #[s, x], argTypes := #[t, t] })
    (base : Nat) (e : TypeId) (i : TypeInfo) (z : Value) (size bytes : Nat) (h1 : P.underlying t = some (.slice e)) (h2 : P.info? e = some i) (h3 : i.zero = some z) (h4 : i.size = size) (h5 : i.bytes = bytes) (h6 : z.cells.size = size) (h7 : 0 < size)
    (v : Value) (k : Nat) (xs : List Value) (hs : a.eval s = v) (hown : w.ownsRow base e size v k xs) (ad : Addr) (m c : Nat) (news : List Value) (hx : a.eval x = .slice (some ad) m c) (hn : news.length = m * size)
    (hc : ∀ j u, news[j]? = some u → w.cell? (ad.add j) = some u) (h1c : ∀ u ∈ news, u.oneCell' = true) (b0 : 0 < m) (b1 : k + m ≤ maxLen) (b2 : (k + m) * bytes ≤ 140737488355328) (b3 : base ≤ w.heap.size) (H : Nat) (hH : w.heap.size = H)
    (hK : ∀ g cap w', w'.ownsRow base e size (.slice (some ⟨g, 0, none⟩) (k + m) cap) (k + m) (xs ++ news) → w.grownBy w' v.ownBlock → (v.ownBlock = some g ∨ g = H) → g < w'.heap.size → wpListIn F n P ops Q rest (a.put o.dst (.slice (some ⟨g, 0, none⟩) (k + m) cap)) w') :
    wpListIn F n P ops Q (o :: rest) a w := by
  refine wpListIn_plain hg fun K hK' => ?_
  obtain ⟨g, cap, w', hrun, r1, r2, r3, r4⟩ := run_append_lies (P := P) w t o.type base e i z size bytes h1 h2 h3 h4 h5 h6 h7 v k xs hown ad m c news hn hc h1c b0 b1 b2 b3 H hH
  unfold Oper.wpIn
  refine ⟨?_, ?_⟩
  · simp [Oper.about, hop, resolve, Target.leads, Sem.run_pure]
  · rw [Oper.semAt_plain F _ _ (by rw [hop]; intro c hc'; cases hc')]
    simp [execOp, hop, resolve, invoke, builtin, hs, hx, hrun, Result.andThen]
    exact hK' _ _ (hK g cap w' r1 r2 r3 r4)

theorem own_of {A : Option Addr} {n c g : Nat} (h : (Value.slice A n c).ownBlock = some g) : ownB A g := by
  rcases A with _ | a
  · simp [Value.ownBlock] at h
  · simp only [Value.ownBlock, Option.some.injEq] at h
    exact ⟨a, rfl, h⟩


theorem Try.infon : (Try.prog.info? 3).map (fun i => (i.zero, i.size, i.bytes)) = some (some (.int .i64 0), 1, 8) := by kernel_rfl

def natsV (l : List Nat) : List Value := l.map (fun (k : Nat) => Value.int .i64 (k : Int))

theorem natsV_app (l : List Nat) (k : Nat) : natsV (l ++ [k]) = natsV l ++ [.int .i64 (k : Nat)] := by simp [natsV]

/-- A row of numbers that is read. -/
def NatR (w : World) (A : Option Addr) (L : List Nat) : Prop :=
  0 < L.length → ∃ g off, A = some ⟨g, off, none⟩ ∧ g < w.heap.size ∧ ∀ k, k < L.length → w.cell? ⟨g, off + k, none⟩ = some (.int .i64 (L.getD k 0 : Nat))

theorem NatR.same {w w' : World} {A : Option Addr} {L : List Nat} (h : NatR w A L) (F : Fr (fun _ => False) w w') : NatR w' A L := by
  intro h0
  obtain ⟨g, off, hA, hg, hc⟩ := h h0
  exact ⟨g, off, hA, Nat.lt_of_lt_of_le hg F.size, fun k hk => (World.cell?_of_block (w := w) (F.block g hg id)).trans (hc k hk)⟩

theorem OwnR.natR {w : World} {B : Nat} {e : TypeId} {A : Option Addr} {n cap : Nat} {L : List Nat} (h : OwnR w B e 1 A n cap (natsV L)) (hn : n = L.length) : NatR w A L := by
  intro h0
  obtain ⟨g, hA, hB, hg, _, hc⟩ := h.cell (by omega)
  refine ⟨g, 0, hA, hg, fun k hk => ?_⟩
  rw [Nat.zero_add]
  refine hc k _ ?_
  simp [natsV, hk]

theorem NatR.far {w w' : World} {A : Option Addr} {L : List Nat} (h : NatR w A L) {S : Nat → Prop} (F : Fr S w w') (hs : ∀ j, ownB A j → ¬ S j) : NatR w' A L := by
  intro h0
  obtain ⟨g, off, hA, hg, hc⟩ := h h0
  exact ⟨g, off, hA, Nat.lt_of_lt_of_le hg F.size, fun k hk => (World.cell?_of_block (w := w) (F.block g hg (hs g ⟨_, hA, rfl⟩))).trans (hc k hk)⟩

theorem one_new (w : World) (e : TypeId) (x : Value) (b : Nat) (hb : w.heap.size = b) : ∀ j u, ([x] : List Value)[j]? = some u → (w.alloc (.cells #[x] e)).cell? ((⟨b, 0, none⟩ : Addr).add j) = some u := fun j u hu => by
  subst hb
  have ea : ({ block := w.heap.size, off := 0 } : Addr).add j = ⟨w.heap.size, j, none⟩ := by
    unfold Addr.add
    split
    · subst_vars; rfl
    · simp
  rw [ea]
  exact (Blk.new w #[x] e).cell (by simpa using hu)

def LstPost (L : List Nat) (w : World) (e : Ending) (w' : World) : Prop := ∃ A cap, e = .returned (.slice A L.length cap) ∧ NatR w' A L ∧ Fr (fun _ => False) w w'

structure LsI (w : World) (M : Nat) (bo : Nat) (pre : List Nat) (A : Option Addr) (cap : Nat) (W : World) : Prop where
  bm : Blk W w.heap.size #[.int .i64 (M : Nat)]
  tb : TBlk W bo #[.slice A pre.length cap] 67
  ow : OwnR W (w.heap.size + 1) 3 1 A pre.length cap (natsV pre)
  fr : Fr (fun _ => False) w W

theorem LsI.keep {w W W' : World} {M bo : Nat} {pre : List Nat} {A : Option Addr} {cap : Nat} (h : LsI w M bo pre A cap W) {S : Nat → Prop} (F : Fr S W W') (h1 : ¬ S w.heap.size) (h2 : ¬ S bo) (h3 : ∀ j, ownB A j → ¬ S j) (h4 : ∀ j, S j → w.heap.size ≤ j) : LsI w M bo pre A cap W' :=
  ⟨h.bm.keep F h1, h.tb.keep F h2, h.ow.keep F h3, h.fr.since F (fun i hi hl => by have := h4 i hi; omega)⟩

theorem LsI.grow {w W w7 : World} {M bo q k : Nat} {pre : List Nat} {A : Option Addr} {cap g2 c2 : Nat} {o : Obj} (h : LsI w M bo pre A cap W) (hq : pre.length = q) (hbo : w.heap.size < bo) (hlt : bo < W.heap.size)
    (hown : OwnR w7 (w.heap.size + 1) 3 1 (some ⟨g2, 0, none⟩) (q + 1) c2 (natsV pre ++ [.int .i64 (k : Int)])) (hgrow : Fr (ownB A) (W.alloc o) w7) (hat : (Value.slice A q cap).ownBlock = some g2 ∨ g2 = W.heap.size + 1) :
    Fr (fun j => ownB A j ∨ j = bo) W (w7.setCell ⟨bo, 0, none⟩ (.slice (some ⟨g2, 0, none⟩) (q + 1) c2)) ∧ LsI w M bo (pre ++ [k]) (some ⟨g2, 0, none⟩) c2 (w7.setCell ⟨bo, 0, none⟩ (.slice (some ⟨g2, 0, none⟩) (q + 1) c2)) ∧ (ownB A g2 ∨ g2 = W.heap.size + 1) := by
  have hlow : ∀ j, ownB A j → w.heap.size + 1 ≤ j := fun j hj => (h.ow.lt j hj).1
  have hnt := OwnR.ne h.ow h.tb (by decide)
  have hF7 : Fr (ownB A) W w7 := ((Fr.alloc _ _ _).trans hgrow)
  have hF8 : Fr (fun j => j = bo) w7 (w7.setCell ⟨bo, 0, none⟩ (.slice (some ⟨g2, 0, none⟩) (q + 1) c2)) := Fr.setCell _ _ _ rfl
  have htb7 := h.tb.keep hF7 hnt
  have hn2 : ¬ ownB (some ⟨g2, 0, none⟩) bo := OwnR.ne hown htb7 (by decide)
  have hF : Fr (fun j => ownB A j ∨ j = bo) W (w7.setCell ⟨bo, 0, none⟩ (.slice (some ⟨g2, 0, none⟩) (q + 1) c2)) := (hF7.mono (fun k hk => .inl hk)).trans (hF8.mono (fun k hk => .inr hk))
  refine ⟨hF, ⟨h.bm.keep hF ?_, ?_, ?_, h.fr.since hF ?_⟩, ?_⟩
  · rintro (e | e)
    · have := hlow _ e; omega
    · omega
  · have := htb7.set 0 (.slice (some ⟨g2, 0, none⟩) (q + 1) c2)
    rw [List.length_append, hq]
    exact this
  · have h1 := OwnR.keep hown hF8 (fun k hk e => hn2 (e ▸ hk))
    rw [List.length_append, hq]
    exact OwnR.eq h1 (natsV_app _ _).symm
  · rintro i (e | e) hl
    · have := hlow _ e; omega
    · omega
  · rcases hat with e | e
    · exact .inl (own_of e)
    · exact .inr e

set_option maxRecDepth 100000 in
set_option maxHeartbeats 2000000 in
theorem list_any (x : Int) (sb M c : Nat) (hM : 1 ≤ M) (hM2 : M ≤ 1000) (w : World) (hb : Blk w sb #[.int .i64 x]) :
    Calls Try.prog 36 #[.func (.func 70) #[] #[.pointer (some ⟨sb, 0, none⟩)], .int .i64 M] w (LstPost ((memN x 64).take M) w) := by
  obtain ⟨i0, hi0, hzz⟩ := Option.map_eq_some_iff.1 Try.infon
  simp only [Prod.mk.injEq] at hzz
  obtain ⟨hz0, hz1, hz2⟩ := hzz
  have HI0 := hid hi0
  have HZ0 := hid hz0
  have HZ1 := hid hz1
  have HZ2 := hid hz2
  clear hi0 hz0 hz1 hz2
  have t1 : decide ((M : Int) < 1) = false := decide_eq_false (by omega)
  have t2 : ∀ W : World, (binOp BinOp.eql 75 (.func (.func 70) #[] #[.pointer (some ⟨sb, 0, none⟩)]) Value.nilFunc).run Try.prog W = .ok (.bool false) W := fun W => rfl
  refine (callsIn_wide (n := 8)).1 ?_
  refine callsIn_of_wp_marks Try.func36 rfl trivial ?_ rfl
  simp only [Try.ntmps36, List.size_toArray, List.length_cons, List.length_nil, Nat.reduceAdd, Nat.reduceSub, Array.replicate_succ, Array.replicate_zero, List.push_toArray, List.append_toArray, List.nil_append, List.cons_append]
  gi_wp2
  obtain ⟨W0, hW0⟩ : ∃ W0, ((w.alloc (.cells #[.int .i64 M] 3)).alloc (.cells #[] 3)).alloc (.cells #[.slice (some ⟨w.heap.size + 1, 0, none⟩) 0 0] 67) = W0 := ⟨_, rfl⟩
  have hz : W0.heap.size = w.heap.size + 3 := by rw [← hW0]; simp
  have hF0 : Fr (fun _ => False) w W0 := by rw [← hW0]; exact ((Fr.alloc _ _ _).trans (Fr.alloc _ _ _)).trans (Fr.alloc _ _ _)
  have hbm : Blk W0 w.heap.size #[.int .i64 (M : Nat)] := by rw [← hW0]; exact ((Blk.new w _ _).alloc _).alloc _
  have hrow : TBlk W0 (w.heap.size + 1) #[] 3 := by rw [← hW0]; exact ((TBlk.new _ _ _).at (by simp)).alloc _
  have htb : TBlk W0 (w.heap.size + 2) #[.slice (some ⟨w.heap.size + 1, 0, none⟩) 0 0] 67 := by rw [← hW0]; exact (TBlk.new _ _ _).at (by simp)
  have how : OwnR W0 (w.heap.size + 1) 3 1 (some ⟨w.heap.size + 1, 0, none⟩) 0 0 (natsV []) := ⟨by simp [natsV], .inr ⟨w.heap.size + 1, 0, #[], rfl, Nat.le_refl _, hrow, Nat.le_refl _, by unfold maxLen; omega, by simp, by simp [natsV]⟩⟩
  have hsb := hb.keep hF0 (fun h => h)
  have hsl := hb.lt
  rw [hW0]
  clear hW0 hrow
  have h0 : LsI w M (w.heap.size + 2) [] (some ⟨w.heap.size + 1, 0, none⟩) 0 W0 := ⟨hbm, htb, how, hF0⟩
  clear hbm htb how hF0 t1 t2
  have HZ := hid hz
  clear hz
  refine range_mem (sb := sb) (by omega) rfl x hsb (fun pre W => pre.length < M ∧ ∃ A cap, LsI w M (w.heap.size + 2) pre A cap W ∧ (∀ j, ownB A j → j ≠ W0.heap.size ∧ j ≠ W0.heap.size + 1 ∧ j ≠ sb)) (fun pre W => pre.length = M ∧ ∃ A cap, LsI w M (w.heap.size + 2) pre A cap W ∧ (∀ j, ownB A j → j ≠ W0.heap.size ∧ j ≠ W0.heap.size + 1 ∧ j ≠ sb))
    (fun pre W W' S h f hS => ⟨h.1, by obtain ⟨A, cap, h1, h2⟩ := h.2; exact ⟨A, cap, h1.keep f (fun hk => by have := hS _ hk; have := HZ.out; omega) (fun hk => by have := hS _ hk; have := HZ.out; omega) (fun j hj hk => (h2 j hj).2.1 (hS _ hk)) (fun j hk => by have := hS _ hk; have := HZ.out; omega), h2⟩⟩)
    (fun pre W W' S h f hS => ⟨h.1, by obtain ⟨A, cap, h1, h2⟩ := h.2; exact ⟨A, cap, h1.keep f (fun hk => by have := hS _ hk; have := HZ.out; omega) (fun hk => by have := hS _ hk; have := HZ.out; omega) (fun j hj hk => (h2 j hj).2.1 (hS _ hk)) (fun j hk => by have := hS _ hk; have := HZ.out; omega), h2⟩⟩)
    ⟨by simp; omega, _, _, h0, ?h00⟩ (fun k => { tmps := #[(.func (.func 70) #[] #[.pointer (some ⟨sb, 0, none⟩)]), .int .i64 M, undef, .pointer (some ⟨w.heap.size, 0, none⟩), .slice none 0 0, .pointer (some ⟨w.heap.size + 1 + 1, 0, none⟩), .int .i64 k, .slice (some ⟨w.heap.size + 1, 0, none⟩) 0 0, (.func (.func 70) #[] #[.pointer (some ⟨sb, 0, none⟩)]), .bool false, .bool false, .int .i64 M, .bool false, .bool false, undef, (.func (.func 70) #[] #[.pointer (some ⟨sb, 0, none⟩)]), .int .i64 k, undef, undef, undef, undef, undef, undef, undef, undef, undef], defers := [] }) ?assign ?body ?done ?stop
  case h00 =>
    rintro j ⟨a, ha, rfl⟩
    cases ha
    have := HZ.out
    exact ⟨by show w.heap.size + 1 ≠ _; omega, by show w.heap.size + 1 ≠ _; omega, by show w.heap.size + 1 ≠ _; omega⟩
  case assign =>
    intro l k W K hK
    gi_wp2
    simpa using hK
  case body =>
    rintro l pre k rest W hpr hWs ⟨hlt, A, cap, hS, hA⟩
    obtain ⟨q, hq⟩ : ∃ m, pre.length = m := ⟨_, rfl⟩
    have HQ := hid hq
    have HS := hid hS
    have HAW := hid hA
    rw [hq] at hlt
    have r0 : W.cell? ⟨w.heap.size + 1 + 1, 0, none⟩ = some (.slice A q cap) := by rw [← hq]; exact hS.tb.cell rfl
    have r1 : W.cell? ⟨w.heap.size, 0, none⟩ = some (.int .i64 (M : Nat)) := hS.bm.cell rfl
    have ho := hS.ow.same (Fr.alloc _ _ (.cells #[.int .i64 (k : Int)] 3))
    rw [hq] at ho
    have HO := hid ho
    have HNW := hid (one_new W 3 (.int .i64 (k : Int)) _ rfl)
    have HSB := hid (show w.heap.size + 1 ≤ (W.alloc (.cells #[.int .i64 (k : Int)] 3)).heap.size by have := HZ.out; simp; omega)
    have HS1 := hid (show (W.alloc (.cells #[.int .i64 (k : Int)] 3)).heap.size = W.heap.size + 1 by simp)
    have HTB0 := hid (hS.tb.keep (Fr.alloc (fun _ => False) W (.cells #[.int .i64 (k : Int)] 3)) (fun h => h))
    have HBM0 := hid (hS.bm.keep (Fr.alloc (fun _ => False) W (.cells #[.int .i64 (k : Int)] 3)) (fun h => h))
    have HNE := hid (OwnR.ne hS.ow hS.tb (by decide))
    have HLO := hid (show ∀ j, ownB A j → w.heap.size + 1 ≤ j from fun j hj => (hS.ow.lt j hj).1)
    have HWS := hid hWs
    have HLT := hid hlt
    obtain ⟨z, hz⟩ : ∃ z, decide ((M : Int) ≤ (q : Int) + 1) = z := ⟨_, rfl⟩
    have HZZ := hid hz
    rcases z with _ | _
    all_goals clear hS ho hA hq hpr hsb hb h0
    all_goals gi_wp2_with (gi_at_builtin; go_must (refine wpListIn_append_lies _ rfl _ _ 67 rfl (w.heap.size + 1) 3 i0 (.int .i64 0) 1 8 Try.underlying67 HI0.out HZ0.out HZ1.out HZ2.out rfl (by decide) (.slice A q cap) q _ rfl HO.out ⟨W.heap.size, 0, none⟩ 1 1 [.int .i64 (k : Int)] rfl rfl HNW.out (by simp [Value.oneCell']) (by omega) (by unfold maxLen; omega) (by omega) HSB.out (W.heap.size + 1) HS1.out ?_; intro g2 c2 w7 hown7 hgrow7 hat7 hlt7; have HO7 := hid hown7; have HG7 := hid (Fr.of_grown hgrow7); have HAT7 := hid hat7; have htb7 := HTB0.out.keep HG7.out HNE.out; have hbm7 := HBM0.out.keep HG7.out (fun h => by have := HLO.out _ h; omega); have z3 := htb7.frozen 0; have l3 := htb7.lt; have r3 := htb7.cell (i := 0) rfl; have r4 := hbm7.cell (i := 0) rfl; have r5 := hbm7.lt; clear hown7 hgrow7 hat7 hlt7; have HT7 := hid htb7; have HB7 := hid hbm7; clear htb7 hbm7))
    all_goals
      have hbo : w.heap.size + 2 < W.heap.size := by have := HWS.out; have := HZ.out; omega
      obtain ⟨F8, h8, hg⟩ := HS.out.grow (k := k) HQ.out (by omega) hbo HO7.out HG7.out HAT7.out
      have haw : ∀ j, ownB (some ⟨g2, 0, none⟩) j → j ≠ W0.heap.size ∧ j ≠ W0.heap.size + 1 ∧ j ≠ sb := by
        rintro j ⟨a, ha, rfl⟩
        cases ha
        rcases hg with e | e
        · exact HAW.out _ e
        · have := HWS.out
          have := HZ.out
          exact ⟨by show g2 ≠ _; omega, by show g2 ≠ _; omega, by show g2 ≠ _; omega⟩
      have hst : Still sb W0.heap.size W (w7.setCell ⟨w.heap.size + 2, 0, none⟩ (.slice (some ⟨g2, 0, none⟩) (q + 1) c2)) := ⟨_, F8, by
        have := HZ.out
        rintro (e | e)
        · exact (HAW.out _ e).2.2 rfl
        · omega, by
        have := HZ.out
        rintro (e | e)
        · exact (HAW.out _ e).1 rfl
        · omega, by
        have := HZ.out
        rintro (e | e)
        · exact (HAW.out _ e).2.1 rfl
        · omega⟩
      have hlen : (pre ++ [k]).length = q + 1 := by rw [List.length_append, HQ.out]; rfl
      first
        | exact ⟨hst, by rw [hlen]; have := of_decide_eq_false HZZ.out; omega, _, _, h8, haw⟩
        | exact ⟨rfl, hst, by rw [hlen]; have := of_decide_eq_true HZZ.out; have := HLT.out; omega, _, _, h8, haw⟩
  case done =>
    rintro W ⟨hlt, A, cap, hS, hA⟩ hK
    obtain ⟨L, hL⟩ : ∃ L, memN x 64 = L := ⟨_, rfl⟩
    rw [hL] at hS hlt
    have HL := hid (show (memN x 64).take M = L by rw [hL]; exact List.take_of_length_le (by omega))
    obtain ⟨q, hq⟩ : ∃ q, L.length = q := ⟨_, rfl⟩
    have r0 : W.cell? ⟨w.heap.size + 1 + 1, 0, none⟩ = some (.slice A q cap) := by rw [← hq]; exact hS.tb.cell rfl
    have HS := hid hS
    have HK := hid hK
    have HA := hid hA
    have HQ := hid hq
    clear hS hA hK hq hL hsb hb h0
    gi_wp2
    refine loop_end HK.out (fun W' => results_tmp rfl _ _ _) (fun W' F => ⟨A, cap, by rw [HL.out, HQ.out]; rfl, ?_, HS.out.fr.since F (fun i hi hl => by have h2 : i = W0.heap.size := hi; have := HZ.out; omega)⟩)
    rw [HL.out]
    exact (HS.out.ow.natR rfl).far F (fun j hj => (HA.out j hj).1)
  case stop =>
    rintro pre k rest W hpr ⟨hlt, A, cap, hS, hA⟩ hK
    have HL := hid (show (memN x 64).take M = pre ++ [k] by
      rw [hpr, ← hlt]
      rw [show pre ++ k :: rest = (pre ++ [k]) ++ rest by simp]
      exact List.take_left' rfl)
    have r0 : W.cell? ⟨w.heap.size + 1 + 1, 0, none⟩ = some (.slice A M cap) := by rw [← hlt]; exact hS.tb.cell rfl
    have HS := hid hS
    have HK := hid hK
    have HA := hid hA
    have HQ := hid hlt
    clear hS hA hK hlt hpr hsb hb h0
    gi_wp2
    refine loop_end HK.out (fun W' => results_tmp rfl _ _ _) (fun W' F => ⟨A, cap, by rw [HL.out, HQ.out]; rfl, ?_, HS.out.fr.since F (fun i hi hl => by have h2 : i = W0.heap.size := hi; have := HZ.out; omega)⟩)
    rw [HL.out]
    exact (HS.out.ow.natR rfl).far F (fun j hj => (HA.out j hj).1)
end Go.Proofs.Ytiofdfgcghiibaa
