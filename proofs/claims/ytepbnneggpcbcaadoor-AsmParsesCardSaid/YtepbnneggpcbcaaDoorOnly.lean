/-
  AsmOnly's walk.
-/
import Derived.Test.YtepbnneggpcbcaaDoorBlank
import Derived.Test.YtepbnneggpcbcaaDoorPrint
namespace Go.Proofs.YtepbnneggpcbcaaDoor
open Go.RowKit

theorem runL_at (ls : List Bs) (fs : List Fn) (n : Nat) : (runL ls fs n).2.1 ≤ n + ls.length := by
  induction ls generalizing fs n with
  | nil => exact Nat.le_refl _
  | cons l r ih =>
    rw [runL, List.length_cons]
    split
    · have := ih (putL fs l).1 (n + 1)
      omega
    · show n + 1 ≤ _
      omega

theorem prs_at (s : Bs) : (prs s).2.1 ≤ s.length + 1 := by
  unfold prs
  split
  · exact Nat.zero_le _
  · have h := runL_at (lns s) [] 0
    have h2 := lns_len s
    unfold endL
    split
    · show (runL (lns s) [] 0).2.1 ≤ _
      omega
    · split
      · show (runL (lns s) [] 0).2.1 + 1 ≤ _
        omega
      · exact Nat.zero_le _

theorem PsPost.form {w w' : World} {P : List Fn} {a : Nat} {x : Int} {e : Ending} (h : PsPost w (P, a, x) e w') :
    ∃ (A : Option Addr) (c : Nat), e = .returned (.tuple #[.agg #[.slice A P.length c], .int .i64 (a : Int), .int .i64 x]) ∧ Prg w' w'.heap.size A P ∧ Fr (fun _ => False) w w' := by
  obtain ⟨A, c, L, rfl, hL, ho, hF⟩ := h
  have hL : L.map (·.f) = P := hL
  refine ⟨A, c, by rw [← hL, List.length_map], ?_, hF⟩
  rw [← hL]
  exact ho.prg

set_option maxRecDepth 100000 in
set_option maxHeartbeats 1000000 in
theorem only_long (S : ByteArray) (w : World) (ht : Tabs w) (h : 4000 < S.size) (hs : S.size ≤ maxLen) :
    Calls Tryd.prog 9 #[.string S] w (LawPost w) := by
  have HA := hid awake_ok
  have HS := hid hs
  clear hs
  go_enter Tryd.func9, Tryd.ntmps9
  go_wp2_with fail
  refine (HA.out _ ht).mono ?_
  rintro e w2 ⟨rfl, hF2⟩
  go_wp2_with fail
  go_ret
  exact ⟨rfl, hF2⟩

set_option maxRecDepth 100000 in
set_option maxHeartbeats 2000000 in
theorem only_bad (S : ByteArray) (w : World) (ht : Tabs w) (h : S.size ≤ 4000) (a : Nat) (x : Int) (hx : x ≠ 0) (hP : Calls Tryd.prog 16 #[.string S] w (PsPost w ([], a, x))) :
    Calls Tryd.prog 9 #[.string S] w (LawPost w) := by
  have HA := hid awake_ok
  have HP := hid hP
  have t1 : (x != 0) = true := by simpa using hx
  clear hP hx
  go_enter Tryd.func9, Tryd.ntmps9
  go_wp2_with fail
  refine HP.out.mono ?_
  intro e w1 hp
  obtain ⟨A, c, rfl, _, hF1⟩ := hp.form
  clear hp
  have hF2 := hF1.trans (Fr.alloc _ w1 (.cells #[.slice A 0 c] 38))
  simp only [List.length_nil]
  go_wp2_with fail
  refine (HA.out _ (ht.same hF2)).mono ?_
  rintro e w2 ⟨rfl, hF3⟩
  go_wp2_with fail
  go_ret
  exact ⟨rfl, hF2.trans hF3⟩

set_option maxRecDepth 100000 in
set_option maxHeartbeats 4000000 in
theorem only_good (S : ByteArray) (N n : Nat) (P : List Fn) (w : World) (ht : Tabs w) (h : S.size ≤ 4000) (hN : S.size = N + 1) (hn : P.length = n) (a : Nat) (ha : a ≤ 5000)
    (hP : Calls Tryd.prog 16 #[.string S] w (PsPost w (P, 0, 0))) (hpr : ∀ A c W, Tabs W → Prg W W.heap.size A P → Calls Tryd.prog 20 #[.agg #[.slice A n c]] W fun e w' => e = .returned (.tuple #[.string S, .int .i64 0]) ∧ Fr (fun _ => False) W w')
    (h1 : ∀ W, Tabs W → Calls Tryd.prog 16 #[.string (S.extract 0 N)] W (PsPost W ([], a, 11))) (h2 : ∀ W, Tabs W → Calls Tryd.prog 16 #[.string (S ++ ⟨#[10]⟩)] W (PsPost W ([], a + 1, 14))) :
    Calls Tryd.prog 9 #[.string S] w (LawPost w) := by
  have HA := hid awake_ok
  have HP := hid hP
  have HPR := hid hpr
  have H1 := hid h1
  have H2 := hid h2
  have HN := hid hn
  have z1 : (0 : Int) ≤ (N : Int) := by omega
  have z2 : (N : Int) ≤ (S.size : Int) := by omega
  have z3 : wrap64 ((S.size : Int) - 1) = (N : Int) := by unfold wrap64; omega
  have z4 : ((S.size : Int) == 0) = false := beq_eq_false_iff_ne.2 (by omega)
  have z5 : wrap64 ((a : Int) + 1) = ((a + 1 : Nat) : Int) := by unfold wrap64; omega
  have q5 := add_ok S ⟨#[10]⟩ (Nat.le_trans h (by decide)) (by decide)
  clear hP hpr h1 h2 hn
  go_enter Tryd.func9, Tryd.ntmps9
  go_wp2_with fail
  refine HP.out.mono ?_
  intro e w1 hp
  obtain ⟨A, c, rfl, hpg, hF1⟩ := hp.form
  rw [HN.out]
  have hA1 := Fr.alloc (fun _ => False) w1 (.cells #[.slice A n c] 38)
  have hF2 := hF1.trans hA1
  have HPR2 := hid (HPR.out A c _ (ht.same hF2) ((hpg.same hA1 (Nat.le_refl _)).more hA1.size))
  clear hp hpg
  go_wp2_with fail
  refine HPR2.out.mono ?_
  rintro e w2 ⟨rfl, hF3⟩
  have hF3' := hF2.trans hF3
  go_wp2_with fail
  refine (H1.out _ (ht.same hF3')).mono ?_
  intro e w3 hp
  obtain ⟨A3, c3, rfl, _, hF4⟩ := hp.form
  clear hp
  simp only [List.length_nil]
  have hF4' := (hF3'.trans hF4).trans (Fr.alloc _ w3 (.cells #[.slice A3 0 c3] 38))
  go_wp2_with fail
  refine (H2.out _ (ht.same hF4')).mono ?_
  intro e w4 hp
  obtain ⟨A4, c4, rfl, _, hF5⟩ := hp.form
  clear hp
  simp only [List.length_nil]
  have hF5' := (hF4'.trans hF5).trans (Fr.alloc _ w4 (.cells #[.slice A4 0 c4] 38))
  go_wp2_with fail
  refine (HA.out _ (ht.same hF5')).mono ?_
  rintro e w5 ⟨rfl, hF6⟩
  go_wp2_with fail
  go_ret
  exact ⟨rfl, hF5'.trans hF6⟩

theorem bs_init (l : Bs) (N : Nat) (h : l.length = N + 1) : (bs l).extract 0 N = bs l.dropLast := by
  rw [List.dropLast_eq_take, h]
  unfold bs
  apply ByteArray.ext
  simp

theorem bs_nl (l : Bs) : bs l ++ ⟨#[10]⟩ = bs (l ++ [10]) := by
  unfold bs
  apply ByteArray.ext
  simp

theorem only_any (l : Bs) (hs : (bs l).size ≤ maxLen) (w : World) (ht : Tabs w) : Calls Tryd.prog 9 #[.string (bs l)] w (LawPost w) := by
  by_cases h : 4000 < (bs l).size
  · exact only_long _ w ht h hs
  · have hl : l.length ≤ 4000 := by rw [bs_size] at h; omega
    have hP := parse_any l (Nat.le_trans hl (by decide)) w ht
    obtain ⟨⟨P, a, x⟩, hq⟩ : ∃ q, prs l = q := ⟨_, rfl⟩
    rw [hq] at hP
    by_cases hx : x = 0
    · subst hx
      obtain ⟨g1, g2, rfl, g4, g5⟩ := prs_only hq
      obtain ⟨a', g6, g7⟩ := g5 (Nat.le_trans hl (by decide))
      obtain ⟨N, hN⟩ : ∃ N, l.length = N + 1 := ⟨l.length - 1, by have := List.length_pos_iff.2 g4; omega⟩
      have ha := prs_at l.dropLast
      rw [g6, List.length_dropLast] at ha
      have ha : a' ≤ l.length - 1 + 1 := ha
      refine only_good (bs l) N P.length P w ht (by omega) (by rw [bs_size]; exact hN) rfl a' (by omega) hP (fun A c W hT hp => ?_) (fun W hT => ?_) (fun W hT => ?_)
      · have := print_any A c P W hT hp
        rw [show prV P = (l, 0) by unfold prV; rw [if_pos g1, g2]] at this
        exact this
      · have := parse_any l.dropLast (by rw [List.length_dropLast]; exact Nat.le_trans (Nat.sub_le _ _) (Nat.le_trans hl (by decide))) W hT
        rw [g6] at this
        rw [bs_init l N hN]
        exact this
      · have := parse_any (l ++ [10]) (by rw [List.length_append]; exact Nat.le_trans (Nat.add_le_add hl (Nat.le_refl 1)) (by decide)) W hT
        rw [g7] at this
        rw [bs_nl]
        exact this
    · obtain rfl := prs_bad hq hx
      exact only_bad (bs l) w ht (by omega) a x hx hP

end Go.Proofs.YtepbnneggpcbcaaDoor
