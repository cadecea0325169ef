/-
  A clock: what New and Clone do (walks).
-/
import Derived.Test.YtpgbhgkikpmhiaaCa
import Derived.Laws.Externs
namespace Go.Proofs.Ytpgbhgkikpmhiaa
open Go.RowKit
set_option linter.unusedVariables false

theorem Fr.low {S T : Nat → Prop} {a b : World} (h : Fr S a b) : Fr (fun k => S k ∨ T k) a b := h.mono fun _ h => .inl h

theorem mk_map (W : World) : (Instr.makeMap 53 none).run Try.prog W = .ok (.map (some W.heap.size)) (W.alloc (.map #[] 0)) := by
  unfold Instr.makeMap
  simp [Result.andThen, go_sem]

/-- A clock of one's own. -/
def MadePost (now : Int) (T : List Due) (w : World) (e : Ending) (w' : World) : Prop := ∃ O c, e = .returned (.pointer (some ⟨c, 0, none⟩)) ∧ Ckm w' O c now T ∧ Fr (fun _ => False) w w' ∧ ∀ k, O k → w.heap.size ≤ k

def SlPost (L : List Due) (n : Nat) (w : World) (e : Ending) (w' : World) : Prop := ∃ A' cap', e = .returned (.slice A' n cap') ∧ OwnR w' w.heap.size 64 2 A' n cap' (dues L) ∧ Fr (fun _ => False) w w'

set_option maxHeartbeats 400000 in
theorem ck_new (w : World) : Calls Try.prog 8 #[] w (MadePost 0 [] w) := by
  have hmk := mk_map
  go_enter Try.func8, Try.ntmps8
  go_wp2
  go_ret
  have h1 : IsPm ((w.alloc (.map #[] 0)).alloc (.cells #[.int .i64 0, .slice none 0 0, .map (some w.heap.size)] 58)) w.heap.size (fun _ => none) := (IsPm.new w).fr (Fr.alloc (fun _ => False) _ _) id
  have h2 : TBlk ((w.alloc (.map #[] 0)).alloc (.cells #[.int .i64 0, .slice none 0 0, .map (some w.heap.size)] 58)) (w.heap.size + 1) #[.int .i64 0, .slice none 0 0, .map (some w.heap.size)] 58 := (TBlk.new _ _ _).at (by simp)
  have hk : IsK ((w.alloc (.map #[] 0)).alloc (.cells #[.int .i64 0, .slice none 0 0, .map (some w.heap.size)] 58)) (w.heap.size + 1) 0 none 0 w.heap.size [] := ⟨h2, OwnR.nil _ _ _ _, _, h1, Plc.nil⟩
  refine ⟨ownK (w.heap.size + 1) none w.heap.size, _, rfl, ⟨⟨_, _, _, [], hk, fun i h0 h1 => by simp at h1, List.Perm.refl _, fun _ h => h⟩, List.Pairwise.nil, hk.own_lt⟩, (Fr.alloc _ _ _).trans (Fr.alloc _ _ _), ?_⟩
  rintro k (rfl | rfl | ⟨a, ha, _⟩)
  · omega
  · exact Nat.le_refl _
  · cases ha

theorem dues_one (L : List Due) : ∀ u ∈ dues L, u.oneCell' = true := by
  intro u hu
  unfold dues at hu
  simp only [List.mem_flatMap, List.mem_cons, List.not_mem_nil, or_false] at hu
  obtain ⟨d, _, rfl | rfl⟩ := hu <;> rfl

set_option maxRecDepth 100000 in
set_option maxHeartbeats 800000 in
theorem sl_clone (L : List Due) (A : Option Addr) (n cap : Nat) (w : World) (h : OwnR w 0 64 2 A n cap (dues L)) (hn : n < 100000) :
    Calls Try.prog 32 #[.slice A n cap] w (SlPost L n w) := by
  rcases A with _ | a
  · obtain ⟨h1, h2⟩ := h
    obtain ⟨rfl, rfl⟩ : n = 0 ∧ cap = 0 := by
      rcases h2 with ⟨h2, h3⟩ | ⟨g, c', cur, hv, _⟩
      · injection h2 with _ h4 h5; exact ⟨h4, h5⟩
      · cases hv
    have hL : dues L = [] := List.length_eq_zero_iff.1 (by omega)
    clear h1 h2
    have teq : ∀ W : World, (binOp BinOp.eql 54 (.slice none 0 0) (.slice none 0 0)).run Try.prog W = .ok (.bool true) W := fun W => by kernel_rfl
    go_enter Try.func32, Try.ntmps32
    go_wp2
    go_ret
    exact ⟨none, 0, rfl, by rw [hL]; exact OwnR.nil _ _ _ _, Fr.refl _ _⟩
  · obtain ⟨g, rfl⟩ : ∃ g, a = ⟨g, 0, none⟩ := by
      obtain ⟨h1, h2⟩ := h
      rcases h2 with ⟨h2, h3⟩ | ⟨g, c', cur, hv, _⟩
      · cases h2
      · injection hv with hv _ _; injection hv with hv; exact ⟨g, hv⟩
    obtain ⟨i0, hi, hz⟩ := Option.map_eq_some_iff.1 infodl
    simp only [Prod.mk.injEq] at hz
    obtain ⟨hz0, hz1, hz2⟩ := hz
    have HII := hid hi
    have HZ0 := hid hz0
    have HZ1 := hid hz1
    have HZ2 := hid hz2
    clear hi hz0 hz1 hz2
    have HNW := hid (show ∀ j u, (dues L)[j]? = some u → (w.alloc (.cells #[] 64)).cell? ((⟨g, 0, none⟩ : Addr).add j) = some u from fun j u hu => by
      rw [add_none, Nat.zero_add]
      have hl : 0 < n := by
        rcases Nat.eq_zero_or_pos n with e | e
        · subst e
          have := h.1
          rw [Nat.zero_mul] at this
          rw [List.length_eq_zero_iff.1 this] at hu
          cases hu
        · exact e
      obtain ⟨g', hA, _, hg, _, hcl⟩ := OwnR.cell (OwnR.same h (Fr.alloc (fun _ => False) w (.cells #[] 64))) hl
      injection hA with hA
      injection hA with hA
      subst hA
      exact hcl j u hu)
    have HOW := hid (show OwnR (w.alloc (.cells #[] 64)) w.heap.size 64 2 (some ⟨w.heap.size, 0, none⟩) 0 0 [] from ⟨by simp, .inr ⟨w.heap.size, 0, #[], rfl, Nat.le_refl _, TBlk.new _ _ _, Nat.le_refl _, by unfold maxLen; omega, by simp, by simp⟩⟩)
    have HLEN := hid h.1
    have HONE := hid (dues_one L)
    obtain ⟨xs, hxs⟩ : ∃ xs, dues L = xs := ⟨_, rfl⟩
    have HXS := hid hxs
    rw [hxs] at HNW HLEN HONE
    clear h hxs
    have teq : ∀ W : World, (binOp BinOp.eql 54 (.slice (some ⟨g, 0, none⟩) n cap) (.slice none 0 0)).run Try.prog W = .ok (.bool false) W := fun W => by kernel_rfl
    go_enter Try.func32, Try.ntmps32
    go_wp2_with (at_builtin; (refine wpList_append_own _ rfl _ _ 54 rfl w.heap.size 64 i0 (.agg #[.int .i64 0, .int .i64 0]) 2 16 Try.underlying54 HII.out HZ0.out HZ1.out HZ2.out rfl (by decide) (.slice (some ⟨w.heap.size, 0, none⟩) 0 0) 0 [] rfl HOW.out ⟨g, 0, none⟩ n cap xs rfl HLEN.out HNW.out HONE.out (by unfold maxLen; omega) (by omega) (by simp) ?_; intro v2 w2 hown2 hgrow2 hnil2; clear hnil2; obtain ⟨A2, c2, rfl, ho2⟩ := OwnR.form hown2; have HO2 := hid ho2; have HF2 := hid (Fr.of_grown hgrow2); clear hown2 hgrow2 ho2))
    go_ret
    refine ⟨A2, c2, by simp, ?_, (Fr.alloc _ _ _).since HF2.out (fun j hj hl => ?_)⟩
    · have := HO2.out
      rw [HXS.out]
      simpa using this
    · obtain ⟨a, ha, rfl⟩ := hj
      injection ha with ha
      subst ha
      simp only at hl
      omega

theorem mp_clone_is (b : Nat) (t : TypeId) {m : Int → Option Int} (w : World) (h : IsPm w b m) : ∃ o, (callFunc 36 #[.iface t (.map (some b))]).run Try.prog w = .ok (.value (.iface t (.map (some w.heap.size)))) (w.alloc o) ∧ IsPm (w.alloc o) w.heap.size m := by
  obtain ⟨o, h1, h2⟩ := h.clone t
  refine ⟨o, ?_, h2⟩
  rw [run_callFunc_extern (P := Try.prog) (f := 36) (fn := Try.f36) (e := Extern.MapsClone.clone) (by kernel_rfl) (by kernel_rfl) (by kernel_rfl) (by kernel_rfl) (by kernel_rfl), h1]
  rfl

def McPost (m : Int → Option Int) (w : World) (e : Ending) (w' : World) : Prop := ∃ b, e = .returned (.map (some b)) ∧ IsPm w' b m ∧ Fr (fun _ => False) w w' ∧ w.heap.size ≤ b

set_option maxHeartbeats 800000 in
theorem mp_clone (b : Nat) {m : Int → Option Int} (w : World) (h : IsPm w b m) : Calls Try.prog 33 #[.map (some b)] w (McPost m w) := by
  obtain ⟨o, hcl, hm⟩ := mp_clone_is b 53 w h
  have hq := fun w => run_eql_map_nil_sl (P := Try.prog) w 53 _ _ (some b) mi_und
  have HT := hid (fun (W : World) => run_typeAssert_map_sl (P := Try.prog) W 53 20 _ _ (.map (some w.heap.size)) mi_und)
  have hta := HT.out (w.alloc o)
  have HM := hid hm
  simp only [Option.isNone_some] at hq
  clear h hm
  go_enter Try.func33, Try.ntmps33
  go_wp2
  go_ret
  exact ⟨_, rfl, HM.out, Fr.alloc _ _ _, Nat.le_refl _⟩

/-- What a line's clone is. -/
def LcPost (m : Int → Option Int) (L : List Due) (n : Nat) (w : World) (e : Ending) (w' : World) : Prop :=
  ∃ A cap b, e = .returned (.agg #[.slice A n cap, .map (some b)]) ∧ OwnR w' w.heap.size 64 2 A n cap (dues L) ∧ IsPm w' b m ∧ Fr (fun _ => False) w w' ∧ w.heap.size ≤ b

set_option maxRecDepth 100000 in
set_option maxHeartbeats 1600000 in
theorem ln_clone {c : Nat} {now : Int} {A : Option Addr} {cap b : Nat} {L : List Due} {m : Int → Option Int} (w : World) (h : IsK w c now A cap b L) (hm : IsPm w b m) (hs : L.length < 90000) :
    Calls Try.prog 27 #[.pointer (some ⟨c, 1, none⟩)] w (LcPost m L L.length w) := by
  have HA0 := Fr.alloc (fun _ => False) w (.cells #[.slice none 0 0, .map none] 56)
  have HB0 := TBlk.new w #[.slice none 0 0, .map none] 56
  obtain ⟨w1, hw1⟩ : ∃ w1, w.alloc (.cells #[.slice none 0 0, .map none] 56) = w1 := ⟨_, rfl⟩
  rw [hw1] at HA0 HB0
  have HF1 := hid HA0
  have HB1 := hid HB0
  have HM1 := hid (hm.fr HA0 id)
  obtain ⟨n, hn⟩ : ∃ n, L.length = n := ⟨_, rfl⟩
  have HR1 := hid (show OwnR w1 0 64 2 A n cap (dues L) from hn ▸ OwnR.same h.row HA0)
  rw [hn] at hs
  have hcl := h.hc.lt
  have HS := hid (show ∀ W, Fr (fun k => k = w.heap.size) w1 W → W.cell? ⟨c, 1, none⟩ = some (.slice A n cap) ∧ W.cell? ⟨c, 2, none⟩ = some (.map (some b)) from fun W F => ⟨hn ▸ ((h.same HA0).hc.keep F (by omega)).cell rfl, ((h.same HA0).hc.keep F (by omega)).cell rfl⟩)
  have HSL := hid (fun W (F : Fr (fun _ => False) w1 W) => sl_clone L A n cap W (OwnR.same HR1.out F) (by omega))
  have HMC := hid (fun W (F : Fr (fun _ => False) w1 W) => mp_clone b W (HM1.out.fr F id))
  have hl := h.hc.lt
  rw [hn]
  clear h hm hn HA0 HB0
  go_enter Try.func27, Try.ntmps27
  go_upto_region 1 with fail
  clear hw1
  have HFd := hid (Fr.refl (fun _ => False) w1)
  go_region_held3 (fun W => W.cell? ⟨c, 1, none⟩ = some (.slice A n cap) ∧ W.cell? ⟨c, 2, none⟩ = some (.map (some b)))
    (first | exact HS.out _ (HFd.out.mono (fun _ h => h.elim)) | exact HS.out _ ((HFd.out.trans (Fr.drew _ _)).mono (fun _ h => h.elim)) | exact HS.out _ ((HFd.out.mono (fun _ h => h.elim)).trans (fr_set2 _ _ _ _)) | exact HS.out _ (((HFd.out.mono (fun _ h => h.elim)).trans (fr_set2 _ _ _ _)).trans (Fr.drew _ _)))
    (first
      | (go_at_call 32; (with_reducible refine (HSL.out _ (by first | exact HFd.out | exact HFd.out.trans (Fr.drew _ _))).mono ?_); rintro e w6 ⟨A', cap', rfl, hO, hF6⟩; have HO := hid hO; have HFs := hid (Fr.trans (by first | exact HFd.out | exact HFd.out.trans (Fr.drew _ _)) hF6); have HFd := HFs; have HGs := hid hF6; have y0 := (HB1.out.keep HFd.out id).cell (i := 0) rfl; have y1 := (HB1.out.keep HFd.out id).cell (i := 1) rfl; have y2 := (HB1.out.keep HFd.out id).frozen 0; have y3 := (HB1.out.keep HFd.out id).frozen 1; have y4 := HB1.out.lt; have y5 := HFd.out.size; clear hO hF6)
      | (go_at_call 33; (with_reducible refine (HMC.out _ (by first | exact HFd.out | exact HFd.out.trans (Fr.drew _ _))).mono ?_); rintro e w7 ⟨b', rfl, hM, hF7, hb'⟩; have HM := hid hM; have HFm := hid (Fr.trans (by first | exact HFd.out | exact HFd.out.trans (Fr.drew _ _)) hF7); have HFd := HFm; have HGm := hid hF7; have HBL := hid hb'; have y0 := (HB1.out.keep HFd.out id).cell (i := 0) rfl; have y1 := (HB1.out.keep HFd.out id).cell (i := 1) rfl; have y2 := (HB1.out.keep HFd.out id).frozen 0; have y3 := (HB1.out.keep HFd.out id).frozen 1; have y4 := HB1.out.lt; have y5 := HFd.out.size; clear hM hF7 hb'))
  all_goals
    have hz := (((HB1.out.keep HFm.out id).set 0 (.slice A' n cap')).set 1 (.map (some b')))
    have HBZ := hid (show TBlk ((w7.setCell ⟨w.heap.size, 0, none⟩ (.slice A' n cap')).setCell ⟨w.heap.size, 1, none⟩ (.map (some b'))) w.heap.size #[.slice A' n cap', .map (some b')] 56 from hz)
    have HFZ := hid (fr_set2 w7 w.heap.size (.slice A' n cap') (.map (some b')))
    obtain ⟨w8, hw8⟩ : ∃ w8, (w7.setCell ⟨w.heap.size, 0, none⟩ (.slice A' n cap')).setCell ⟨w.heap.size, 1, none⟩ (.map (some b')) = w8 := ⟨_, rfl⟩
    rw [hw8] at HBZ HFZ ⊢
    clear hw8 hz y0 y1 y2 y3
    go_wp2_with fail
    refine bodyPost_ret (results_cell_row rfl _ _ _ _ _ _ _ rfl HBZ.out Try.underlying56 rfl (by kernel_rfl)) rfl ?_
    have hsz := HF1.out.size
    have hs6 := HFs.out.size
    have hs7 := HGm.out.size
    refine ⟨A', cap', b', rfl, ?_, HM.out.fr HFZ.out (by have := HBL.out; have := HB1.out.lt; simp only [World.drew] at *; omega), (HF1.out.trans HFm.out).since HFZ.out (fun j hj hl => by have hj2 : j = w.heap.size := hj; omega), by have := HBL.out; simp only [World.drew] at *; omega⟩
    have h1 := OwnR.same HO.out HGm.out
    exact OwnR.less (OwnR.keep h1 HFZ.out (fun j hj e => by have := (OwnR.lt h1 j hj).1; have := HB1.out.lt; simp only [World.drew] at *; omega)) (by simp only [World.drew] at *; omega)
end Go.Proofs.Ytpgbhgkikpmhiaa
