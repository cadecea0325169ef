/-
  A clock: what Advance does (walk).
-/
import Derived.Test.YtpgbhgkikpmhiaaCs
namespace Go.Proofs.Ytpgbhgkikpmhiaa
open Go.RowKit
set_option linter.unusedVariables false

def intsV (l : List Int) : List Value := l.map (fun k => Value.int .i64 k)
theorem intsV_app (l : List Int) (k : Int) : intsV (l ++ [k]) = intsV l ++ [.int .i64 k] := by simp [intsV]

theorem infoint : (Try.prog.info? 3).map (fun i => (i.zero, i.size, i.bytes)) = some (some (.int .i64 0), 1, 8) := by kernel_rfl

theorem add_none (g i j : Nat) : ({ block := g, off := i } : Addr).add j = ⟨g, i + j, none⟩ := by
  unfold Addr.add
  split
  · subst_vars; rfl
  · rfl

theorem newk (w : World) (e : TypeId) (x : Value) : ∀ j u, ([x] : List Value)[j]? = some u → (w.alloc (.cells #[x] e)).cell? ((⟨w.heap.size, 0, none⟩ : Addr).add j) = some u := fun j u hu => by
  rw [add_none, Nat.zero_add]
  exact (Blk.new w #[x] e).cell (by simpa using hu)

def idsOf (T : List Due) : List Int := T.map (·.2)

def headA : List Due → Int
  | [] => 0
  | x :: _ => x.1
def headI : List Due → Int
  | [] => 0
  | x :: _ => x.2

theorem due_pre {t : Int} {pre rest : List Due} (h : ∀ x ∈ pre, x.1 ≤ t) (hr : rest = [] ∨ t < headA rest) : due t (pre ++ rest) = pre ∧ lat t (pre ++ rest) = rest := by
  induction pre with
  | nil =>
    cases rest with
    | nil => exact ⟨rfl, rfl⟩
    | cons y rest =>
      refine due_stop t y rest ?_
      rcases hr with hr | hr
      · cases hr
      · have hr2 : t < y.1 := hr
        omega
  | cons x pre ih =>
    obtain ⟨e1, e2⟩ := due_cons t x (pre ++ rest) (h x (by simp))
    obtain ⟨e3, e4⟩ := ih (fun y hy => h y (List.mem_cons_of_mem _ hy))
    exact ⟨by rw [List.cons_append, e1, e3], by rw [List.cons_append, e2, e4]⟩

theorem IsK.setNow {w : World} {c : Nat} {now : Int} {A : Option Addr} {cap b : Nat} {L : List Due} (h : IsK w c now A cap b L) (t : Int) : IsK (w.setCell ⟨c, 0, none⟩ (.int .i64 t)) c t A cap b L := by
  obtain ⟨m, hm, hP⟩ := h.map
  have F : Fr (fun k => k = c) w (w.setCell ⟨c, 0, none⟩ (.int .i64 t)) := Fr.setCell _ _ _ rfl
  exact ⟨h.hc.set 0 (.int .i64 t), OwnR.keep h.row F (fun j hj e => h.cA (e ▸ hj)), m, hm.fr F h.cb.symm, hP⟩

section
variable {c : Nat} {now : Int} {O : Nat → Prop} {T : List Due} (w : World)

theorem Ckm.setNow {w : World} (h : Ckm w O c now T) (t : Int) : Ckm (w.setCell ⟨c, 0, none⟩ (.int .i64 t)) O c t T ∧ Fr O w (w.setCell ⟨c, 0, none⟩ (.int .i64 t)) := by
  obtain ⟨A, cap, b, L, k1, k2, k3, k4⟩ := h.ex
  exact ⟨⟨⟨A, cap, b, L, k1.setNow t, k2, k3, k4⟩, h.srt, fun k hk => by have := h.lt k hk; simpa using this⟩, Fr.setCell _ _ _ (k4 c (.inl rfl))⟩

theorem ck_pop (x : Due) (h : Ckm w O c now (x :: T)) (hs : T.length < 80000) : Calls Try.prog 29 #[lnV c] w fun e w' => e = .returned (dueV x) ∧ Ckm w' O c now T ∧ Fr O w w' := by
  obtain ⟨A, cap, b, L, k1, k2, k3, k4⟩ := h.ex
  have hx := head_is k2 k3 h.srt
  have hl : L.length = T.length + 1 := by rw [k3.length_eq]; simp
  refine (hp_pop w k1 T.length hl (hl ▸ k2) (by omega)).mono ?_
  rintro e w' ⟨rfl, K, hK, hH, hP, hF⟩
  rw [hx] at hP ⊢
  refine ⟨rfl, ⟨⟨A, cap, b, K, hK, hH, (List.perm_cons x).1 (hP.symm.trans k3), k4⟩, (List.pairwise_cons.1 h.srt).2, fun k hk => Nat.lt_of_lt_of_le (h.lt k hk) hF.size⟩, hF.mono k4⟩

theorem ck_next (h : Ckm w O c now T) : Calls Try.prog 18 #[.pointer (some ⟨c, 0, none⟩)] w fun e w' => e = .returned (.tuple #[.int .i64 (headA T), .int .i64 (headI T), .bool (!T.isEmpty)]) ∧ Fr (fun _ => False) w w' := by
  cases T with
  | nil => exact (ck_next_none w h).mono fun e w' ⟨h1, h2⟩ => ⟨h1, h2 ▸ Fr.refl _ _⟩
  | cons x T => exact ck_next_some w x h

/-- What an advance leaves. -/
def AdvPost (O : Nat → Prop) (c : Nat) (t : Int) (T : List Due) (w : World) (e : Ending) (w' : World) : Prop :=
  ∃ A cap, e = .returned (.tuple #[.slice A (due t T).length cap, .int .i64 0]) ∧ OwnR w' w.heap.size 3 1 A (due t T).length cap (intsV (idsOf (due t T))) ∧ Ckm w' O c t (lat t T) ∧ Fr O w w'

def AdRel (O : Nat → Prop) (c : Nat) (t : Int) (T : List Due) (w : World) (d : Nat) (x y z u : Value) (wr : World) : Prop :=
  ∃ pre rest A cap, d = rest.length ∧ T = pre ++ rest ∧ (∀ x ∈ pre, x.1 ≤ t) ∧ x = .slice A pre.length cap ∧ OwnR wr w.heap.size 3 1 A pre.length cap (intsV (idsOf pre)) ∧ Ckm wr O c t rest ∧ Fr O w wr ∧ y = .int .i64 (headA rest) ∧ z = .int .i64 (headI rest) ∧ u = .bool (!rest.isEmpty)

set_option maxHeartbeats 400000 in
theorem ck_adv_nil (n : Int) : Calls Try.prog 20 #[.pointer none, .int .i64 n] w fun e w' => e = .returned (.tuple #[.slice none 0 0, .int .i64 2]) ∧ w = w' := by
  go_enter Try.func20, Try.ntmps20
  go_wp2
  go_ret2
  exact ⟨rfl, rfl⟩

set_option maxHeartbeats 400000 in
theorem ck_adv_range (n : Int) (h : Ckm w O c now T) (hn0 : 0 ≤ now) (hn1 : now ≤ 1099511627776) (hr : n < 0 ∨ 1099511627776 - now < n) : Calls Try.prog 20 #[.pointer (some ⟨c, 0, none⟩), .int .i64 n] w fun e w' => e = .returned (.tuple #[.slice none 0 0, .int .i64 10]) ∧ w = w' := by
  obtain ⟨A, cap, b, L, k1, k2, k3, k4⟩ := h.ex
  have c0 := k1.c0
  have hl := k1.hc.lt
  clear h k1 k2 k3 k4
  by_cases g1 : n < 0
  · go_enter Try.func20, Try.ntmps20
    go_wp2
    go_ret2
    exact ⟨rfl, rfl⟩
  · have g2 : 1099511627776 - now < n := by omega
    go_enter Try.func20, Try.ntmps20
    go_wp2
    go_ret2
    exact ⟨rfl, rfl⟩

set_option maxRecDepth 100000 in
set_option maxHeartbeats 1600000 in
theorem ck_adv_ok (n t : Int) (h : Ckm w O c now T) (hn0 : 0 ≤ now) (hn1 : now ≤ 1099511627776) (g0 : 0 ≤ n) (g2 : n ≤ 1099511627776 - now) (ht : now + n = t) (hs : T.length < 70000) : Calls Try.prog 20 #[.pointer (some ⟨c, 0, none⟩), .int .i64 n] w (AdvPost O c t T w) := by
  obtain ⟨i0, hi, hz⟩ := Option.map_eq_some_iff.1 infoint
  simp only [Prod.mk.injEq] at hz
  obtain ⟨hz0, hz1, hz2⟩ := hz
  have HII := hid hi
  have HZ0 := hid hz0
  have HZ1 := hid hz1
  have HZ2 := hid hz2
  clear hi hz0 hz1 hz2
  obtain ⟨A, cap, b, L, k1, k2, k3, k4⟩ := h.ex
  have c0 := k1.c0
  have z0 := k1.hc.frozen 0
  have hl := k1.hc.lt
  have g1 : ¬ n < 0 := by omega
  have g3 : ¬ 1099511627776 - now < n := by omega
  subst ht
  have HC1 := hid (h.setNow (now + n)).1
  have HF1 := hid (h.setNow (now + n)).2
  have HS := hid hs
  have HOL := hid h.lt
  clear h k1 k2 k3 k4 hs
  go_enter Try.func20, Try.ntmps20
  go_upto_region 7 with fail
  obtain ⟨t, ht⟩ : ∃ t, now + n = t := ⟨_, rfl⟩
  rw [ht] at HC1 HF1 ⊢
  obtain ⟨w1, hw1⟩ : ∃ w1, w.setCell ⟨c, 0, none⟩ (.int .i64 t) = w1 := ⟨_, rfl⟩
  rw [hw1] at HC1 HF1 ⊢
  have HTT := hid ht
  clear hw1 c0 z0 g1 g3 ht hn0 hn1 g0 g2
  go_wp2_with fail
  refine (ck_next w1 HC1.out).mono ?_
  rintro e w2 ⟨rfl, hF2⟩
  have HC2 := hid (HC1.out.same hF2)
  have HF2 := hid (HF1.out.trans (hF2.mono (T := O) (fun _ h => h.elim)))
  clear hF2
  go_wp2_with fail
  go_loopg [6, 7, 8, 9] T.length (fun d x y z u wr => AdRel O c t T w d x y z u wr)
  case atStart => exact ⟨[], T, none, 0, rfl, rfl, by simp, rfl, OwnR.nil _ _ _ _, HC2.out, HF2.out, rfl, rfl, rfl⟩
  case round =>
    obtain ⟨pre, rest, A, cap, hd, hT, hpre, rfl, hO, hC, hF, rfl, rfl, rfl⟩ := hrel
    have HO := hid hO
    have HC := hid hC
    have HF := hid hF
    have HD := hid hd
    have HT := hid hT
    have HPRE := hid hpre
    clear hO hC hF hd hT hpre
    cases rest with
    | nil =>
      have t1 : (!([] : List Due).isEmpty) = false := rfl
      go_wp2_with fail
      go_ret2
      obtain ⟨e1, e2⟩ := due_pre (rest := []) HPRE.out (.inl rfl)
      rw [← HT.out] at e1 e2
      unfold AdvPost
      rw [HTT.out, e1, e2]
      exact ⟨A, cap, rfl, HO.out, HC.out, HF.out⟩
    | cons x rest =>
      obtain ⟨A', cap', b', L', k1, k2, k3, k4⟩ := HC.out.ex
      have c0 := k1.c0
      have hl := k1.hc.lt
      clear k1 k2 k3 k4
      obtain ⟨a, i⟩ := x
      have t1 : (!((a, i) :: rest).isEmpty) = true := rfl
      have t2 : headA ((a, i) :: rest) = a := rfl
      have t3 : headI ((a, i) :: rest) = i := rfl
      rw [t1, t2, t3]
      clear t1 t2 t3
      have HLEN := hid (show pre.length < 70000 ∧ rest.length < 70000 from by have := HS.out; have h2 := congrArg List.length HT.out; simp at h2; omega)
      by_cases hle : a ≤ t
      · have HLE := hid hle
        go_wp2_with fail
        have HPOP := hid (ck_pop wr (a, i) HC.out (by have := HLEN.out; omega))
        unfold lnV dueV at HPOP
        refine HPOP.out.mono ?_
        rintro e w3 ⟨rfl, hC3, hF3⟩
        have HC3 := hid hC3
        have HO3 := hid (OwnR.keep HO.out hF3 (fun j hj hk => by have := (OwnR.lt HO.out j hj).1; have h2 := HOL.out j hk; omega))
        have HF3 := hid (HF.out.trans hF3)
        clear hC3 hF3 c0 hl hle
        obtain ⟨q, hq⟩ : ∃ q, pre.length = q := ⟨_, rfl⟩
        rw [hq] at HO3 HLEN ⊢
        have hqb : q < 70000 := HLEN.out.1
        have HQ := hid hq
        clear hq
        have HOW := hid (OwnR.same HO3.out (Fr.alloc (fun _ => False) w3 (.cells #[.int .i64 i] 3)))
        have HNW := hid (newk w3 3 (.int .i64 i))
        have HSZ := hid HF3.out.size
        go_wp2_with (at_builtin; (refine wpList_append_lies _ rfl _ _ 32 rfl w.heap.size 3 i0 (.int .i64 0) 1 8 Try.underlying32 HII.out HZ0.out HZ1.out HZ2.out rfl (by decide) (.slice A q cap) q _ rfl HOW.out ⟨w3.heap.size, 0, none⟩ 1 1 [.int .i64 i] rfl rfl HNW.out (by simp [Value.oneCell']) (by decide) (by unfold maxLen; omega) (by omega) (by have := HSZ.out; simp; omega) (w3.heap.size + 1) (by simp) ?_; intro g4 c4 w4 hown4 hgrow4 hat4 hlt4; have HO4 := hid (show OwnR w4 w.heap.size 3 1 (some ⟨g4, 0, none⟩) (q + 1) c4 _ from hown4); have HF4 := hid ((Fr.alloc (fun _ => False) w3 (.cells #[.int .i64 i] 3)).mono (fun _ h => h.elim) |>.trans (Fr.of_grown hgrow4)); clear hown4 hgrow4 hat4 hlt4))
        have HC4 := hid (HC3.out.keep HF4.out (fun j hj hk => by have := (OwnR.lt HO3.out j hk).1; have h2 := HOL.out j hj; omega))
        have HF5 := hid (HF3.out.since HF4.out (fun j hj hl => by have := (OwnR.lt HO3.out j hj).1; omega))
        refine (ck_next w4 HC4.out).mono ?_
        rintro e w5 ⟨rfl, hF5⟩
        have HC5 := hid (HC4.out.same hF5)
        have HO5 := hid (OwnR.same HO4.out hF5)
        have HF6 := hid (HF5.out.trans (hF5.mono (T := O) (fun _ h => h.elim)))
        clear hF5
        go_wp2_with fail
        go_roundg rest.length
        case rel =>
          refine ⟨pre ++ [(a, i)], rest, some ⟨g4, 0, none⟩, c4, rfl, by rw [HT.out]; simp, ?_, by rw [List.length_append, HQ.out]; rfl, ?_, HC5.out, HF6.out, rfl, rfl, rfl⟩
          · intro x hx
            rcases List.mem_append.1 hx with hx | hx
            · exact HPRE.out x hx
            · simp only [List.mem_singleton] at hx
              subst hx
              exact HLE.out
          · rw [List.length_append, HQ.out]
            exact OwnR.eq HO5.out (by simp [idsOf, intsV])
        case measure => have := HD.out; simp at this; omega
      · have HLE := hid hle
        go_wp2_with fail
        go_ret2
        obtain ⟨e1, e2⟩ := due_pre (rest := (a, i) :: rest) HPRE.out (.inr (by have := HLE.out; show t < a; omega))
        rw [← HT.out] at e1 e2
        unfold AdvPost
        rw [HTT.out, e1, e2]
        exact ⟨A, cap, rfl, HO.out, HC.out, HF.out⟩
end
end Go.Proofs.Ytpgbhgkikpmhiaa
