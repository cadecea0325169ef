/-
  A clock of one's own from a world on; the chapter's example (walk).
-/
import Derived.Test.YtpgbhgkikpmhiaaDo
namespace Go.Proofs.Ytpgbhgkikpmhiaa
open Go.RowKit
set_option linter.unusedVariables false

/-- A clock all of which is younger than a world, nothing of which has turned since. -/
structure OwnC (w0 w : World) (O : Nat → Prop) (c : Nat) (now : Int) (T : List Due) : Prop where
  ck : Ckm w O c now T
  lo : ∀ k, O k → w0.heap.size ≤ k
  fr : Fr (fun _ => False) w0 w

theorem OwnC.same {w0 w w' : World} {O : Nat → Prop} {c : Nat} {now : Int} {T : List Due} (h : OwnC w0 w O c now T) (f : Fr (fun _ => False) w w') : OwnC w0 w' O c now T :=
  ⟨h.ck.same f, h.lo, h.fr.trans f⟩

theorem OwnC.keep {w0 w w' : World} {O : Nat → Prop} {c : Nat} {now : Int} {T : List Due} (h : OwnC w0 w O c now T) {S : Nat → Prop} (f : Fr S w w') (hs : ∀ k, O k → ¬ S k) (hl : ∀ k, S k → w0.heap.size ≤ k) : OwnC w0 w' O c now T :=
  ⟨h.ck.keep f hs, h.lo, h.fr.since f (fun k hk hl2 => by have := hl k hk; omega)⟩

theorem OwnC.step {w0 w w' : World} {O : Nat → Prop} {c : Nat} {now now' : Int} {T T' : List Due} (h : OwnC w0 w O c now T) (p : CkPost O c now' T' w w') : ∃ O', OwnC w0 w' O' c now' T' ∧ ∀ k, O' k → O k ∨ w.heap.size ≤ k := by
  obtain ⟨O', h1, h2, h3⟩ := p
  refine ⟨O', ⟨h1, fun k hk => ?_, h.fr.since h2 (fun k hk hl => by have := h.lo k hk; omega)⟩, h3⟩
  rcases h3 k hk with h4 | h4
  · exact h.lo k h4
  · have := h.fr.size; omega

theorem OwnC.adv {w0 w w' : World} {O : Nat → Prop} {c : Nat} {n now : Int} {T : List Due} {e : Ending} (h : OwnC w0 w O c now T) (p : AdvPost2 O c n now T w e w') : ∃ A cap, e = .returned (.tuple #[.slice A (advL n now T).length cap, .int .i64 (advE n now)]) ∧ OwnR w' w.heap.size 3 1 A (advL n now T).length cap (intsV (advL n now T)) ∧ OwnC w0 w' O c (advN n now) (advT n now T) := by
  obtain ⟨A, cap, h1, h2, h3, h4⟩ := p
  exact ⟨A, cap, h1, h2, h3, h.lo, h.fr.since h4 (fun k hk hl => by have := h.lo k hk; omega)⟩

theorem OwnC.made {w : World} {e : Ending} {w' : World} {now : Int} {T : List Due} (p : MadePost now T w e w') : ∃ O c, e = .returned (.pointer (some ⟨c, 0, none⟩)) ∧ OwnC w w' O c now T := by
  obtain ⟨O, c, h1, h2, h3, h4⟩ := p
  exact ⟨O, c, h1, h2, h4, h3⟩

section
variable {w0 : World} {c : Nat} {O : Nat → Prop} (w : World)

theorem aw_set (id n e now : Int) (T T' : List Due) (h : OwnC w0 w O c now T) (h0 : 0 ≤ now) (h1 : now ≤ 1099511627776) (hs : T.length < 60000) (he : setE id n now T = e) (hT : setT id n now T = T') :
    Calls Try.prog 23 #[.pointer (some ⟨c, 0, none⟩), .int .i64 id, .int .i64 n] w fun r w' => r = .returned (.int .i64 e) ∧ ∃ O', OwnC w0 w' O' c now T' ∧ ∀ k, O' k → O k ∨ w.heap.size ≤ k :=
  (ck_set w id n h.ck h0 h1 hs).mono fun r w' ⟨a, b⟩ => ⟨he ▸ a, hT ▸ h.step b⟩

def AwPost (w0 : World) (O : Nat → Prop) (c : Nat) (now : Int) (T : List Due) (L : List Int) (er : Int) (len : Nat) (w : World) (e : Ending) (w' : World) : Prop :=
  ∃ A cap, e = .returned (.tuple #[.slice A len cap, .int .i64 er]) ∧ OwnR w' w.heap.size 3 1 A len cap (intsV L) ∧ OwnC w0 w' O c now T

theorem aw_adv (n now now' : Int) (T T' : List Due) (L : List Int) (er : Int) (len : Nat) (h : OwnC w0 w O c now T) (h0 : 0 ≤ now) (h1 : now ≤ 1099511627776) (hs : T.length < 60000) (hN : advN n now = now') (hT : advT n now T = T') (hL : advL n now T = L) (he : advE n now = er) (hl : L.length = len) :
    Calls Try.prog 20 #[.pointer (some ⟨c, 0, none⟩), .int .i64 n] w (AwPost w0 O c now' T' L er len w) := by
  subst hN hT hL he hl
  exact (ck_adv w n h.ck h0 h1 hs).mono fun e w' p => h.adv p

theorem aw_next (x : Due) (now : Int) (T : List Due) (h : OwnC w0 w O c now (x :: T)) : Calls Try.prog 18 #[.pointer (some ⟨c, 0, none⟩)] w fun e w' => e = .returned (.tuple #[.int .i64 x.1, .int .i64 x.2, .bool true]) ∧ OwnC w0 w' O c now (x :: T) :=
  (ck_next_some w x h.ck).mono fun e w' ⟨a, b⟩ => ⟨a, h.same b⟩
end

set_option maxRecDepth 100000 in
set_option maxHeartbeats 1600000 in
theorem awake_ok (w : World) : Calls Try.prog 10 #[] w fun e w' => e = .returned (.bool true) ∧ Fr (fun _ => False) w w' := by
  go_enter Try.func10, Try.ntmps10
  go_wp2_with fail
  refine (ck_new w).mono ?_
  rintro e w1 hp
  obtain ⟨O1, c, rfl, h⟩ := OwnC.made hp
  have H1 := hid h
  clear hp h
  go_wp2_with fail
  refine (aw_set w1 4 10 0 0 [] [(10, 4)] H1.out (by omega) (by omega) (by decide) (by decide) (by decide)).mono ?_
  rintro e w2 ⟨rfl, O2, h, -⟩
  have H2 := hid h
  clear h
  go_wp2_with fail
  refine (aw_set w2 2 10 0 0 [(10, 4)] [(10, 2), (10, 4)] H2.out (by omega) (by omega) (by decide) (by decide) (by decide)).mono ?_
  rintro e w3 ⟨rfl, O3, h, -⟩
  have H3 := hid h
  clear h
  go_wp2_with fail
  refine (aw_set w3 9 3 0 0 [(10, 2), (10, 4)] [(3, 9), (10, 2), (10, 4)] H3.out (by omega) (by omega) (by decide) (by decide) (by decide)).mono ?_
  rintro e w4 ⟨rfl, O4, h, -⟩
  have H4 := hid h
  clear h
  go_wp2_with fail
  refine (aw_next w4 (3, 9) 0 [(10, 2), (10, 4)] H4.out).mono ?_
  rintro e w5 ⟨rfl, h⟩
  have H5 := hid h
  clear h
  go_wp2_with fail
  refine (aw_adv w5 2 0 2 [(3, 9), (10, 2), (10, 4)] [(3, 9), (10, 2), (10, 4)] [] 0 0 H5.out (by omega) (by omega) (by decide) (by decide) (by decide) (by decide) (by decide) (by decide)).mono ?_
  rintro e w6 ⟨A6, cap6, rfl, -, h⟩
  have H6 := hid h
  clear h
  go_wp2_with fail
  refine (aw_set w6 1 8 0 2 [(3, 9), (10, 2), (10, 4)] [(3, 9), (10, 1), (10, 2), (10, 4)] H6.out (by omega) (by omega) (by decide) (by decide) (by decide)).mono ?_
  rintro e w7 ⟨rfl, O7, h, -⟩
  have H7 := hid h
  clear h
  go_wp2_with fail
  refine (aw_adv w7 8 2 10 [(3, 9), (10, 1), (10, 2), (10, 4)] [] [9, 1, 2, 4] 0 4 H7.out (by omega) (by omega) (by decide) (by decide) (by decide) (by decide) (by decide) (by decide)).mono ?_
  rintro e w8 ⟨A8, cap8, rfl, hO, h⟩
  have H8 := hid h
  have HO8 := hid (OwnR.intR hO rfl)
  clear h hO
  go_wp2_with fail
  have hA9 := Fr.alloc (fun _ => False) w8 (.cells #[.int .i64 9, .int .i64 1, .int .i64 2, .int .i64 4] 3)
  have hB9 := Blk.new w8 #[.int .i64 9, .int .i64 1, .int .i64 2, .int .i64 4] 3
  have HI9 := hid (show IntR (w8.alloc (.cells #[.int .i64 9, .int .i64 1, .int .i64 2, .int .i64 4] 3)) (some ⟨w8.heap.size, 0, none⟩) [9, 1, 2, 4] from fun _ => ⟨_, _, rfl, hB9.lt, fun k hk => by
    have hk2 : k < 4 := hk
    rw [Nat.zero_add]
    refine hB9.cell ?_
    match k, hk2 with
    | 0, _ => rfl
    | 1, _ => rfl
    | 2, _ => rfl
    | 3, _ => rfl⟩)
  have H9 := hid (H8.out.same hA9)
  have HJ9 := hid (HO8.out.same hA9)
  clear hA9 hB9
  refine (same_yes _ _ [9, 1, 2, 4] 4 cap8 4 _ HJ9.out HI9.out rfl (by decide)).mono ?_
  rintro e w10 ⟨rfl, hF⟩
  have H10 := hid (H9.out.same hF)
  clear hF
  go_wp2_with fail
  refine (ck_now w10 H10.out.ck).mono ?_
  rintro e w11 ⟨rfl, rfl⟩
  go_wp2_with fail
  refine (ck_len w10 H10.out.ck).mono ?_
  rintro e w11 ⟨rfl, rfl⟩
  go_wp2_with fail
  go_ret
  exact ⟨rfl, H10.out.fr⟩
end Go.Proofs.Ytpgbhgkikpmhiaa
