/-
  A program is done: the root, and with it all that is forked.
-/
import Derived.Test.YtpjcdjooiaefdaaDoorVDo
import Derived.Deep.RegionHeld2
import Derived.Deep.DeepMust
import Derived.Recover
namespace Go.Proofs.YtpjcdjooiaefdaaDoor
open Go.RowKit
set_option linter.unusedVariables false

theorem do_any {E : Env} (ok : EnvOk E) (n : Nat) : DoOk E n := by
  induction n using Nat.strongRecOn with
  | _ n ih => exact do_all ok n ih

/-- What a run comes to. -/
def AllPost (rb : Nat) (pa : Option Addr) (pn pc N : Nat) (w : World) (o : Out) (e : Ending) (w' : World) : Prop :=
  match o with
  | .err c => e = boom c ∧ Fr (fun j => j = rb) w w'
  | .done G => e = .returned (.tuple #[]) ∧ (∃ A cap, IsR w' rb pa pn pc N G.st A G.rows.length cap ∧ Rws w' w.heap.size A cap G.rows) ∧ Fr (fun j => j = rb) w w'

theorem tblk_of {w w' : World} {c : Array Value} {t : TypeId} (h : Fr (fun _ => False) (w.alloc (.cells c t)) w') : TBlk w' w.heap.size c t := (TBlk.new w c t).keep h (fun h => h)
theorem tblk_of' {w w' : World} {c : Array Value} {t : TypeId} (h : Fr (fun _ => False) (w.alloc (.cells c t)).drew w') : TBlk w' w.heap.size c t := (TBlk.new w c t).drew.keep h (fun h => h)

theorem scope_new (w : World) : TBlk (w.alloc (.cells #[.pointer none, .int .i64 0, .int .i64 0, .bool false] 69)) w.heap.size (scel none 0 0 false) 69 := TBlk.new _ _ _

theorem root_mem {E : Env} {W w8 : World} {ib kb sb B1 : Nat} {A8 : Option Addr} {cap8 : Nat} (hB : E.B ≤ w8.heap.size) (hB0 : E.B0 ≤ B1) (hB1 : B1 ≤ w8.heap.size) (hkl : B1 ≤ kb) (hsl : B1 ≤ sb) (hi : TBlk W ib (scel none 0 0 false) 69)
    (hT : IsT w8 E.cel kb E.rb 0 ⟨-1, (0 : Nat), Frm.root.f, (if askd [(0, false)] then 4 else 1), 0, 0, []⟩ Frm.root (.pointer (some ⟨sb, 0, none⟩)) 0 (.slice none 0 0) (.pointer none))
    (hs : TBlk w8 sb (scel (some ⟨ib, 0, none⟩) (([] : List (Nat × Bool)).length + 1) 0 false) 69) (hR : IsR w8 E.rb E.pa E.pn E.pc E.N 0 A8 (0 + 1) cap8)
    (hO : OwnR w8 E.B 33 7 A8 (0 + 1) cap8 ([] ++ [.int .i64 (-1), .int .i64 (0 : Nat), .int .i64 Frm.root.f, .int .i64 (if askd [(0, false)] then 4 else 1), .int .i64 0, .int .i64 0, .string ⟨#[]⟩]))
    (hf : Fr (fun j => j = E.rb ∨ ownB none j) W w8) (hir : ib ≠ E.rb) (htabs : Tabs w8) (hprg : Prg w8 E.B0 E.pa E.P) (hdob : TBlk w8 E.db #[doV E] 51) (hrbx : TBlk w8 E.xb #[.pointer (some ⟨E.rb, 0, none⟩)] 45) :
    Mem E [(0, false)] B1 kb 0 A8 cap8 none 0 (some ⟨sb, 0, none⟩) (.pointer none) rootT.row.runs rootT rootG w8 := by
  refine ⟨hR, hO, hT, OwnR.nil _ _ _ _, ⟨sb, some ⟨ib, 0, none⟩, rfl, hsl, hs, ib, none, rfl, hi.keep hf ?_, rfl⟩, htabs, hprg, hdob, hrbx, hB0, hkl, hB1, hB⟩
  rintro (e | ⟨a, e, _⟩)
  · exact hir e
  · cases e

set_option maxRecDepth 100000 in
set_option maxHeartbeats 4000000 in
theorem all_do {cel : Frm → Array Value} (hC : Cel cel) (P : List Fn) (B0 rb : Nat) (pa : Option Addr) (pn pc N : Nat) (w : World) (hA : Acc P) (hN : N ≤ 1048576) (hn : P.length = pn) (h2 : 2 ≤ B0) (hrb : B0 ≤ rb)
    (hR : IsR w rb pa pn pc N 0 none 0 0) (hp : Prg w B0 pa P) (ht : Tabs w) (n : Nat) (o : Out) (ho : exec P N n 0 0 rootT rootG = some o) :
    Calls Tryd.prog 16 #[.pointer (some ⟨rb, 0, none⟩)] w (AllPost rb pa pn pc N w o) := by
  have hrl : rb < w.heap.size := (TBlk.blk hR).lt
  have hmf : ∀ (fn : Go.Fn) (first cap : Array Value) (w : World), (Instr.makeFunc fn first cap).run Tryd.prog w = .ok (.func fn first cap) w := fun _ _ _ _ => rfl
  obtain ⟨E, hE⟩ : ∃ E : Env, E = ⟨cel, B0, w.heap.size, P, pa, pn, pc, N, rb, w.heap.size + 1, w.heap.size⟩ := ⟨_, rfl⟩
  have ok : EnvOk E := by rw [hE]; exact ⟨hC, hA, hN, hn, h2, hrb, by simp only; omega⟩
  obtain ⟨w3, hw3⟩ : ∃ w3, w3 = (w.alloc (.cells #[.pointer (some ⟨rb, 0, none⟩)] 45)).alloc (.cells #[doV E] 51) := ⟨_, rfl⟩
  have HF3 := hid (show Fr (fun _ => False) w w3 by rw [hw3]; exact (Fr.alloc _ _ _).trans (Fr.alloc _ _ _))
  have hsz : w3.heap.size = w.heap.size + 2 := by rw [hw3]; simp
  have HX := hid (show TBlk w3 E.xb #[.pointer (some ⟨E.rb, 0, none⟩)] 45 by rw [hw3, hE]; exact (TBlk.new _ _ _).alloc _)
  have HDB := hid (show TBlk w3 E.db #[doV E] 51 by
    have := TBlk.new (w.alloc (.cells #[.pointer (some ⟨rb, 0, none⟩)] 45)) #[doV E] 51
    rw [← hw3] at this
    refine this.at ?_
    rw [hE]
    simp)
  have HR3 := hid (TBlk.keep hR HF3.out (fun h => h))
  have HP3 := hid (hp.same HF3.out (by omega))
  have HTB3 := hid (ht.same HF3.out)
  have HSZ := hid hsz
  have HRL := hid hrl
  have HRT := hid (fun W => root_any hC W)
  have HBG := hid (fun W ib (hW : Fr (fun _ => False) w3 W) (hb : TBlk W ib (scel none 0 0 false) 69) => begun_ok W hC Frm.root (-1) rb ib 0 false [] pa pn pc N 0 0 0 w.heap.size none [] (by omega) (Nat.le_trans (by rw [hsz]; omega) hW.size) (TBlk.keep HR3.out hW (fun h => h)) (OwnR.nil _ _ _ _) ⟨ib, none, rfl, hb, rfl⟩ (by decide))
  have HMM := hid (fun W w8 ib kb sb A8 cap8 (hW : Fr (fun _ => False) w3 W) (hi : TBlk W ib (scel none 0 0 false) 69) (hir : w3.heap.size ≤ ib) (hkl : W.heap.size ≤ kb) (hsl : W.heap.size ≤ sb) hT hs hR hO (hf : Fr (fun j => j = E.rb ∨ ownB none j) W w8) =>
    root_mem (E := E) (W := W) (w8 := w8) (ib := ib) (kb := kb) (sb := sb) (B1 := w3.heap.size) (A8 := A8) (cap8 := cap8) (by have := hW.size; have := hf.size; rw [hE]; simp only; omega) (by rw [hE]; simp only; omega) (Nat.le_trans hW.size hf.size) (Nat.le_trans hW.size hkl) (Nat.le_trans hW.size hsl) hi hT hs hR hO hf (by rw [hE]; simp only; omega)
      ((HTB3.out.same hW).keepS hf (fun k hk => by
        rintro (e | ⟨_, e, _⟩)
        · rw [hE] at e; simp only at e; omega
        · cases e))
      ((by rw [hE]; exact (HP3.out.same hW (by have := hW.size; omega)).keep hf (by have := hW.size; omega) (fun k hk => by
        rintro (e | ⟨_, e, _⟩)
        · rw [hE] at e; simp only at e; omega
        · cases e)))
      ((HDB.out.keep hW (fun h => h)).keep hf (by
        rintro (e | ⟨_, e, _⟩)
        · rw [hE] at e; simp only at e; omega
        · cases e))
      ((HX.out.keep hW (fun h => h)).keep hf (by
        rintro (e | ⟨_, e, _⟩)
        · rw [hE] at e; simp only at e; omega
        · cases e)))
  obtain ⟨ec, er, ea, en, ep, eN, eB⟩ : E.cel = cel ∧ E.rb = rb ∧ E.pa = pa ∧ E.pn = pn ∧ E.pc = pc ∧ E.N = N ∧ E.B = w.heap.size := by rw [hE]; exact ⟨rfl, rfl, rfl, rfl, rfl, rfl, rfl⟩
  rw [ec, er, ea, en, ep, eN, eB] at HMM
  clear ec er ea en ep eN eB
  have HDO := hid (fun kb sb A8 cap8 V m => do_any ok n [(0, false)] w3.heap.size kb 0 0 A8 cap8 none 0 (some ⟨sb, 0, none⟩) (.pointer none) rootT.row.runs rootT rootG V o rfl (fun _ => rfl) (.inl ⟨rfl, rfl, by rw [hE]; exact root_inv hA N, by rw [hE]; exact ho⟩) m)
  have HE := hid hE
  have HB8 := hid (show ∀ W w8, Fr (fun _ => False) w3 W → Fr (fun j => j = rb ∨ ownB none j) W w8 → Fr (fun j => j = rb) w3 w8 from fun W w8 h1 h2 => (h1.mono (fun _ h => h.elim)).trans (h2.mono (fun j hj => by
    rcases hj with e | ⟨_, e, _⟩
    · exact e
    · cases e)))
  have HS := hid (show ∀ W, Fr (fun j => j = rb) w3 W → W.cell? ⟨w.heap.size + 1, 0, none⟩ = some (doV E) ∧ W.cell? ⟨w.heap.size, 0, none⟩ = some (.pointer (some ⟨rb, 0, none⟩)) from fun W hW => by
    have h1 := (TBlk.blk (HDB.out.keep hW (by rw [hE]; simp only; omega))).cell (i := 0) rfl
    have h2 := (TBlk.blk (HX.out.keep hW (by rw [hE]; simp only; omega))).cell (i := 0) rfl
    rw [hE] at h1 h2 ⊢
    exact ⟨h1, h2⟩)
  -- behind the root's task
  have HFD := hid (show ∀ V V2 A8, Fr (fun j => j = rb) w3 V → (∀ j, ownB A8 j → w3.heap.size ≤ j) → Fr (May E w3.heap.size A8) V V2 → Fr (fun j => j = rb) w3 V2 from fun V V2 A8 h1 h2 h3 => h1.since h3 (fun j hj hl => by
    rcases hj with e | e | e
    · rw [hE] at e; exact e
    · have := h2 j e; omega
    · omega))
  have HD := hid (Fr.refl (fun _ => False) w3)
  have hdv : doV E = .func (.func 18) #[] #[.pointer (some ⟨w.heap.size + 1, 0, none⟩), .pointer (some ⟨w.heap.size, 0, none⟩)] := by unfold doV; rw [hE]
  rw [hdv] at hw3 HS
  have hdb : E.db = w.heap.size + 1 := by rw [hE]
  have hxb : E.xb = w.heap.size := by rw [hE]
  rw [hdb, hxb] at HDO
  have HW3 := hid hw3
  have hsc : Tryd.prog.cellsOf 69 = 4 := by kernel_rfl
  clear hE hA hR hp ht ho h2 hrb hrl hsz ok hdv hdb hxb hw3 hsc
  go_enter Tryd.func16, Tryd.ntmps16
  go_upto_region 3 with fail
  rw [← HW3.out]
  cases o with
  | err c =>
    go_region_held2 (fun W => W.cell? ⟨w.heap.size + 1, 0, none⟩ = some (.func (.func 18) #[] #[.pointer (some ⟨w.heap.size + 1, 0, none⟩), .pointer (some ⟨w.heap.size, 0, none⟩)]) ∧ W.cell? ⟨w.heap.size, 0, none⟩ = some (.pointer (some ⟨rb, 0, none⟩)))
      (first | exact HS.out _ (HD.out.mono (fun _ h => h.elim)) | exact HS.out _ ((HD.out.mono (fun _ h => h.elim)).trans (Fr.drew _ _)) | exact HS.out _ ((HD.out.mono (fun _ h => h.elim)).trans (Fr.alloc _ _ _)) | exact HS.out _ ((HD.out.mono (fun _ h => h.elim)).trans ((Fr.drew _ _).trans (Fr.alloc _ _ _))) | exact HXF.out.elim | exact HS.out _ HF8.out)
      (first
        | (go_at_call 23; (with_reducible refine (HRT.out _).mono ?_); rintro e w7 ⟨rfl, hF7⟩; (first | (have HBX := hid (show TBlk _ _ (scel none 0 0 false) _ from tblk_of hF7)) | (have HBX := hid (show TBlk _ _ (scel none 0 0 false) _ from tblk_of' hF7)) | skip);
            have HD := hid (show Fr (fun _ => False) w3 w7 from HD.out.trans (Fr.trans (by first | exact Fr.drew _ _ | exact Fr.alloc _ _ _ | exact (Fr.drew _ _).trans (Fr.alloc _ _ _) | exact Fr.refl _ _) hF7)); clear hF7)
        | (go_at_call 18; (with_reducible refine (HDO.out _ _ _ _ _ HM8.out).mono ?_); rintro e w9 ⟨he, hF9⟩; have HF9 := hid (HFD.out _ _ _ HF8.out HO8.out hF9); clear hF9; unfold boom at he; rcases e with v | ch | _; rotate_left 1; (injection he with he; subst he; exact ⟨rfl, rfl, (HF3.out.mono (fun _ h => h.elim)).trans HF9.out⟩); (cases he); (have HXF : Hid False := hid (by cases he)); clear he)
        | (go_at_call 22;
            (with_reducible refine (HBG.out _ _ (HD.out.trans (by first | exact Fr.alloc _ _ _ | exact Fr.refl _ _)) (by first | exact scope_new _ | exact HBX.out)).mono ?_);
            rintro e w8 ⟨kb, sb, A8, cap8, rfl, hk, hs, hr, ho, hkl, hsl, hf, how⟩;
            have HM8 := hid (HMM.out _ w8 _ kb sb A8 cap8 (HD.out.trans (by first | exact Fr.alloc _ _ _ | exact Fr.refl _ _)) (by first | exact scope_new _ | exact HBX.out) (by first | exact HD.out.size | exact Nat.le_refl _) hkl hsl hk hs hr ho hf);
            have HO8 := hid (show ∀ j, ownB A8 j → w3.heap.size ≤ j from fun j hj => (how j hj).elim (fun h => by obtain ⟨_, e, _⟩ := h; cases e) (fun h => by have := HD.out.size; (try simp at h); omega));
            have HF8 := hid (HB8.out _ _ (HD.out.trans (by first | exact Fr.alloc _ _ _ | exact Fr.refl _ _)) hf);
            clear hk hs hr ho hkl hsl hf how))
    all_goals exact HXF.out.elim
  | done G =>
    go_region_held3 (fun W => W.cell? ⟨w.heap.size + 1, 0, none⟩ = some (.func (.func 18) #[] #[.pointer (some ⟨w.heap.size + 1, 0, none⟩), .pointer (some ⟨w.heap.size, 0, none⟩)]) ∧ W.cell? ⟨w.heap.size, 0, none⟩ = some (.pointer (some ⟨rb, 0, none⟩)))
      (first | exact HS.out _ (HD.out.mono (fun _ h => h.elim)) | exact HS.out _ ((HD.out.mono (fun _ h => h.elim)).trans (Fr.drew _ _)) | exact HS.out _ ((HD.out.mono (fun _ h => h.elim)).trans (Fr.alloc _ _ _)) | exact HS.out _ ((HD.out.mono (fun _ h => h.elim)).trans ((Fr.drew _ _).trans (Fr.alloc _ _ _))) | exact HS.out _ HF8.out | exact HS.out _ HF9.out)
      (first
        | (go_at_call 23; (with_reducible refine (HRT.out _).mono ?_); rintro e w7 ⟨rfl, hF7⟩; (first | (have HBX := hid (show TBlk _ _ (scel none 0 0 false) _ from tblk_of hF7)) | (have HBX := hid (show TBlk _ _ (scel none 0 0 false) _ from tblk_of' hF7)) | skip);
            have HD := hid (show Fr (fun _ => False) w3 w7 from HD.out.trans (Fr.trans (by first | exact Fr.drew _ _ | exact Fr.alloc _ _ _ | exact (Fr.drew _ _).trans (Fr.alloc _ _ _) | exact Fr.refl _ _) hF7)); clear hF7)
        | (go_at_call 18; (with_reducible refine (HDO.out _ _ _ _ _ HM8.out).mono ?_); rintro e w9 ⟨rfl, hp, hF9⟩; have HP9 := hid hp; have HF9 := hid (HFD.out _ _ _ HF8.out HO8.out hF9); clear hp hF9)
        | (go_at_call 22;
            (with_reducible refine (HBG.out _ _ (HD.out.trans (by first | exact Fr.alloc _ _ _ | exact Fr.refl _ _)) (by first | exact scope_new _ | exact HBX.out)).mono ?_);
            rintro e w8 ⟨kb, sb, A8, cap8, rfl, hk, hs, hr, ho, hkl, hsl, hf, how⟩;
            have HM8 := hid (HMM.out _ w8 _ kb sb A8 cap8 (HD.out.trans (by first | exact Fr.alloc _ _ _ | exact Fr.refl _ _)) (by first | exact scope_new _ | exact HBX.out) (by first | exact HD.out.size | exact Nat.le_refl _) hkl hsl hk hs hr ho hf);
            have HO8 := hid (show ∀ j, ownB A8 j → w3.heap.size ≤ j from fun j hj => (how j hj).elim (fun h => by obtain ⟨_, e, _⟩ := h; cases e) (fun h => by have := HD.out.size; (try simp at h); omega));
            have HF8 := hid (HB8.out _ _ (HD.out.trans (by first | exact Fr.alloc _ _ _ | exact Fr.refl _ _)) hf);
            clear hk hs hr ho hkl hsl hf how))
    all_goals
      go_wp2_with fail
      go_end0
      obtain ⟨A, cap, h1, h2, _⟩ := HP9.out
      rw [HE.out] at h1 h2
      exact ⟨rfl, ⟨A, cap, h1, h2⟩, (HF3.out.mono (fun _ h => h.elim)).trans HF9.out⟩

end Go.Proofs.YtpjcdjooiaefdaaDoor

/-
  What is done behind a run: an error that was told is handed back.
-/
namespace Go.Proofs.YtpjcdjooiaefdaaDoor
open Go.RowKit
set_option linter.unusedVariables false

theorem catch_idle (p q r : Addr) (w : World) :
    CallsD Tryd.prog 15 #[.pointer (some p), .pointer (some q), .pointer (some r)] .returning w fun e u' w' => e = .returned (.tuple #[]) ∧ u' = .returning ∧ w' = w := by
  refine callsD_of_wpS Tryd.func15 rfl fun c₀ cs hu => ?_
  apply wpS_seq
  apply wpS_region
  simp [wpOpsS, go_sem, recoverD, hu, Tryd.ntmps15, Exit.thenS]
  apply wpS_seq
  apply wpS_region
  simp [wpOpsS, go_sem, Exit.thenS]
  refine wpS_cond (t := false) (by simp [Act.eval, Array.replicate]) ?_
  simp only [Bool.false_eq_true, if_false]
  refine wpS_of_wp (wp_skip ?_)
  cases c₀
  simp_all [bodyPostS, results, Tryd.results15]

theorem neq_err (c : Int) (w : World) : (binOp .neq 20 (.iface 28 (.int .i64 c)) .nilIface).run Tryd.prog w = .ok (.bool true) w := by kernel_rfl
theorem assert_err (c : Int) (w : World) : (Instr.typeAssert (.iface 28 (.int .i64 c)) 20 28 false).run Tryd.prog w = .ok (.int .i64 c) w := by kernel_rfl

theorem catch_panicking (g : Nat) (y z : Int) (c : Int) (older : List PanicEntry) (w : World) (hp : w.cell? ⟨g, 0, none⟩ = some (.slice none 0 0)) (hq : w.cell? ⟨g + 1, 0, none⟩ = some (.int .i64 y)) (hr : w.cell? ⟨g + 2, 0, none⟩ = some (.int .i64 z)) (zp : w.frozen? ⟨g, 0, none⟩ = false) (zq : w.frozen? ⟨g + 1, 0, none⟩ = false) (zr : w.frozen? ⟨g + 2, 0, none⟩ = false) :
    CallsD Tryd.prog 15 #[.pointer (some ⟨g, 0, none⟩), .pointer (some ⟨g + 1, 0, none⟩), .pointer (some ⟨g + 2, 0, none⟩)] (.panicking ({ v := .iface 28 (.int .i64 c), recovered := false } :: older)) w fun e u' w' =>
      e = .returned (.tuple #[]) ∧ u' = .panicking ({ v := .iface 28 (.int .i64 c), recovered := true } :: older) ∧ (w'.cell? ⟨g, 0, none⟩ = some (.slice none 0 0) ∧ w'.cell? ⟨g + 1, 0, none⟩ = some (.int .i64 0) ∧ w'.cell? ⟨g + 2, 0, none⟩ = some (.int .i64 c)) ∧ Fr (fun j => g ≤ j) w w' := by
  have hne := neq_err c
  have has := assert_err c
  refine callsD_of_wpS Tryd.func15 rfl fun c₀ cs hu => ?_
  apply wpS_seq
  apply wpS_region
  simp [wpOpsS, go_sem, recoverD, hu, Tryd.ntmps15, Exit.thenS]
  apply wpS_seq
  apply wpS_region
  simp [wpOpsS, go_sem, hne, Exit.thenS]
  refine wpS_cond (t := true) (by simp [Act.eval, Array.replicate]) ?_
  simp only [if_true]
  refine wpS_of_wp ?_
  change Code.wp _ _ _ ⟨#[.pointer (some ⟨g, 0, none⟩), .pointer (some ⟨g + 1, 0, none⟩), .pointer (some ⟨g + 2, 0, none⟩), .iface 28 (.int .i64 c), .iface 28 (.int .i64 c), .iface 28 (.int .i64 c), .bool true, undef, undef], []⟩ _
  go_region
  all_goals
    simp [bodyPostS, results, Tryd.results15]
    exact ⟨⟨by simp [go_sem, hp], by simp [go_sem, hq], by simp [go_sem, hr]⟩, ((((Fr.setCell (S := fun j => g ≤ j) w ⟨g, 0, none⟩ _ (Nat.le_refl _)).trans (Fr.setCell (S := fun j => g ≤ j) _ ⟨g + 1, 0, none⟩ _ (by simp only; omega))).trans (Fr.setCell (S := fun j => g ≤ j) _ ⟨g + 2, 0, none⟩ _ (by simp only; omega))).trans (Fr.drew _ _))⟩

end Go.Proofs.YtpjcdjooiaefdaaDoor
