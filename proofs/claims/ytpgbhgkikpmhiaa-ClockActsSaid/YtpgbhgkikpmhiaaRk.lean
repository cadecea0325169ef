/-
  The document's clock in memory: Find, First (walks).
-/
import Derived.Test.YtpgbhgkikpmhiaaSpP
namespace Go.Proofs.Ytpgbhgkikpmhiaa
open Go.RowKit
set_option linter.unusedVariables false

structure Rk (w : World) (r : Nat) (now : Int) (A : Option Addr) (cap : Nat) (L : List Due) : Prop where
  hc : TBlk w r #[.int .i64 now, .slice A L.length cap] 28
  row : OwnR w 0 60 2 A L.length cap (dues L)

theorem Rk.rA {w : World} {r : Nat} {now : Int} {A : Option Addr} {cap : Nat} {L : List Due} (h : Rk w r now A cap L) : ¬ ownB A r := OwnR.ne h.row h.hc (by decide)

theorem Rk.keep {w w' : World} {r : Nat} {now : Int} {A : Option Addr} {cap : Nat} {L : List Due} (h : Rk w r now A cap L) {S : Nat → Prop} (f : Fr S w w') (hs : ∀ k, (k = r ∨ ownB A k) → ¬ S k) : Rk w' r now A cap L :=
  ⟨h.hc.keep f (hs r (.inl rfl)), OwnR.keep h.row f (fun j hj => hs j (.inr hj))⟩

theorem Rk.same {w w' : World} {r : Nat} {now : Int} {A : Option Addr} {cap : Nat} {L : List Due} (h : Rk w r now A cap L) (f : Fr (fun _ => False) w w') : Rk w' r now A cap L := h.keep f (fun _ _ hh => hh)

/-- A place of the row. -/
theorem Rk.gt {w : World} {r : Nat} {now : Int} {A : Option Addr} {cap : Nat} {L : List Due} (h : Rk w r now A cap L) {i : Nat} (hi : i < L.length) : ∃ g, A = some ⟨g, 0, none⟩ ∧ g < w.heap.size ∧ L.length ≤ cap ∧ ∀ w', Fr (fun _ => False) w w' → ∀ k, k < L.length → w'.cell? ⟨g, k * 2, none⟩ = some (.int .i64 (at_ L k).1) ∧ w'.cell? ⟨g, k * 2 + 1, none⟩ = some (.int .i64 (at_ L k).2) := by
  obtain ⟨g, rfl, _, hg, _, _⟩ := OwnR.cell h.row (by omega)
  refine ⟨g, rfl, hg, ?_, fun w' f k hk => ?_⟩
  · obtain ⟨h1, h2⟩ := h.row
    rcases h2 with ⟨_, h2⟩ | ⟨g', c', cur, hv, _, _, h3, _⟩
    · omega
    · injection hv with _ _ hv; omega
  · have hr := OwnR.same h.row f
    obtain ⟨g', hA, _, _, hf, hcl⟩ := OwnR.cell hr (by omega)
    injection hA with hA
    injection hA with hA
    subst hA
    obtain ⟨d1, d2⟩ := dues_at L k hk
    exact ⟨hcl _ _ d1, hcl _ _ d2⟩

def idx (L : List Due) (id : Int) : Nat := L.findIdx fun d => d.2 == id

theorem at_cons0 (d : Due) (L : List Due) : at_ (d :: L) 0 = d := rfl
theorem at_consS (d : Due) (L : List Due) (i : Nat) : at_ (d :: L) (i + 1) = at_ L i := rfl

theorem idx_is {L : List Due} {id : Int} {k : Nat} (hk : k < L.length) (hb : ∀ j, j < k → (at_ L j).2 ≠ id) (he : (at_ L k).2 = id) : idx L id = k ∧ hasId id L = true := by
  induction L generalizing k with
  | nil => simp at hk
  | cons d L ih =>
    cases k with
    | zero =>
      rw [at_cons0] at he
      exact ⟨by simp [idx, List.findIdx_cons, he], by simp [hasId, he]⟩
    | succ k =>
      have h0 : d.2 ≠ id := hb 0 (by omega)
      obtain ⟨h1, h2⟩ := ih (k := k) (by simpa using hk) (fun j hj => hb (j + 1) (by omega)) he
      unfold idx at h1 ⊢
      unfold hasId at h2 ⊢
      refine ⟨?_, by simp only [List.any_cons, h2, Bool.or_true]⟩
      rw [List.findIdx_cons, h1]
      have : (d.2 == id) = false := by simpa using h0
      rw [this]
      rfl

theorem idx_no {L : List Due} {id : Int} (hb : ∀ j, j < L.length → (at_ L j).2 ≠ id) : hasId id L = false := by
  unfold hasId
  rw [List.any_eq_false]
  intro x hx
  obtain ⟨i, hi, rfl⟩ := mem_at hx
  simpa using hb i hi

theorem idx_one {L : List Due} (hi : Ids L) {k : Nat} (hk : k < L.length) : idx L (at_ L k).2 = k ∧ hasId (at_ L k).2 L = true := by
  refine idx_is hk (fun j hj e => ?_) rfl
  have h1 := hi.one (at_mem (show j < L.length by omega)) (at_mem hk) e
  unfold Ids at hi
  have h2 := List.pairwise_iff_getElem.1 (List.nodup_iff_pairwise_ne.1 hi) j k (by simp; omega) (by simpa using hk) hj
  apply h2
  have e1 : ∀ k (hk : k < L.length), (at_ L k).2 = (L.map (·.2))[k]'(by simpa using hk) := fun k hk => by
    unfold at_
    rw [List.getD_eq_getElem?_getD, List.getElem?_eq_getElem hk]
    simp
  rw [← e1 j (by omega), ← e1 k hk]
  exact e

def findI (L : List Due) (id : Int) : Int := bif hasId id L then (idx L id : Nat) else -1

def FdRel (L : List Due) (ia : Int) (w : World) (d : Nat) (x : Value) (wr : World) : Prop :=
  ∃ k : Nat, k ≤ L.length ∧ d = L.length + 1 - k ∧ x = .int .i64 k ∧ (∀ j, j < k → (at_ L j).2 ≠ ia) ∧ wr = w

section
variable {r : Nat} {now : Int} {A : Option Addr} {cap : Nat} {L : List Due} (w : World)

set_option maxRecDepth 100000 in
set_option maxHeartbeats 1000000 in
theorem r_find (ia : Int) (h : Rk w r now A cap L) (hl : L.length < 60000) :
    Calls Try.prog 26 #[.pointer (some ⟨r, 0, none⟩), .int .i64 ia] w fun e w' => e = .returned (.int .i64 (findI L ia)) ∧ w = w' := by
  have c1 : w.cell? ⟨r, 1, none⟩ = some (.slice A L.length cap) := h.hc.cell rfl
  have hrl := h.hc.lt
  have HH := hid h
  obtain ⟨n, hn⟩ : ∃ n, L.length = n := ⟨_, rfl⟩
  have HN := hid hn
  rw [hn] at c1 hl
  clear h hn
  go_enter Try.func26, Try.ntmps26
  go_wp2_with fail
  go_loopg [5] (n + 1) (fun d x wr => FdRel L ia w d x wr)
  case atStart => exact ⟨0, by omega, by have := HN.out; omega, rfl, fun j hj => by omega, rfl⟩
  case round =>
    obtain ⟨k, hk, rfl, rfl, hB, rfl⟩ := hrel
    have HK := hid hk
    have HB := hid hB
    clear hk hB
    by_cases hlt : k < n
    · have HKL := hid (show k < L.length by have := HN.out; omega)
      obtain ⟨g, rfl, hg, -, hc⟩ := HH.out.gt HKL.out
      obtain ⟨-, c3⟩ := hc wr (Fr.refl _ _) k HKL.out
      have hlt2 : (k : Int) < n := by omega
      obtain ⟨x1, hx1⟩ : ∃ x, (at_ L k).2 = x := ⟨_, rfl⟩
      rw [hx1] at c3
      have HX1 := hid hx1
      clear hc hg hx1
      rcases ht : (x1 == ia) with _ | _
      · have HT := hid (show x1 ≠ ia by simpa using ht)
        go_wp2_with fail
        go_roundg (L.length + 1 - (k + 1))
        case rel => exact ⟨k + 1, by have := HKL.out; omega, rfl, by go_num, fun j hj => by
          by_cases e : j = k
          · rw [e, HX1.out]; exact HT.out
          · exact HB.out j (by omega), rfl⟩
        case measure => have := HKL.out; omega
      · have HT := hid (show x1 = ia by simpa using ht)
        go_wp2_with fail
        go_ret
        obtain ⟨e1, e2⟩ := idx_is HKL.out HB.out (by rw [HX1.out]; exact HT.out)
        exact ⟨by unfold findI; rw [e2, e1]; rfl, rfl⟩
    · obtain rfl : k = n := by have := HK.out; have := HN.out; omega
      go_wp2_with fail
      go_ret
      exact ⟨by unfold findI; rw [idx_no (fun j hj => HB.out j (by have := HN.out; omega))]; rfl, rfl⟩

def firstI (L T : List Due) : Int := match T with
  | [] => -1
  | x :: _ => (idx L x.2 : Nat)

/-- The soonest of the first k. -/
def Lst (L : List Due) (k j : Nat) : Prop := j < k ∧ ∀ i, i < k → dle (at_ L j) (at_ L i)

theorem Lst.all {L T : List Due} (hp : L.Perm T) (hs : Srt T) (hi : Ids L) {j : Nat} (h : Lst L L.length j) : firstI L T = (j : Nat) := by
  cases T with
  | nil => have := hp.length_eq; simp at this; subst this; exact absurd h.1 (by simp)
  | cons x T =>
    have hx : x ∈ L := hp.symm.subset (by simp)
    obtain ⟨i, hil, rfl⟩ := mem_at hx
    have h1 := h.2 i hil
    have h2 := hp.subset (at_mem h.1)
    have h3 : at_ L j = at_ L i := by
      rcases List.mem_cons.1 h2 with e | h3
      · exact e
      · exact absurd ((List.pairwise_cons.1 hs).1 _ h3) h1
    unfold firstI
    simp only
    rw [← h3, (idx_one hi h.1).1]

def FsRel (L : List Due) (w : World) (d : Nat) (x y : Value) (wr : World) : Prop :=
  ∃ (k : Nat) (q : Nat), k ≤ L.length ∧ d = L.length + 1 - k ∧ y = .int .i64 k ∧ ((k = 0 ∧ x = .int .i64 (-1)) ∨ (∃ j, Lst L k j ∧ x = .int .i64 j)) ∧ wr = w.drewN q

set_option maxRecDepth 100000 in
set_option maxHeartbeats 2000000 in
theorem r_first {T : List Due} (h : Rk w r now A cap L) (hp : L.Perm T) (hs : Srt T) (hi : Ids L) (hl : L.length < 60000) :
    Calls Try.prog 25 #[.pointer (some ⟨r, 0, none⟩)] w fun e w' => e = .returned (.int .i64 (firstI L T)) ∧ ∃ n, w' = w.drewN n := by
  have hrl := h.hc.lt
  have HH := hid h
  have HP := hid hp
  have HSR := hid hs
  have HI := hid hi
  obtain ⟨n, hn⟩ : ∃ n, L.length = n := ⟨_, rfl⟩
  have HN := hid hn
  rw [hn] at hl
  clear h hn hp hs hi
  go_enter Try.func25, Try.ntmps25
  go_wp2_with fail
  go_loopg [3, 4] (n + 1) (fun d x y wr => FsRel L w d x y wr)
  case atStart => exact ⟨0, 0, by omega, by have := HN.out; omega, rfl, .inl ⟨rfl, rfl⟩, rfl⟩
  case round =>
    obtain ⟨k, q, hk, rfl, rfl, hcase, rfl⟩ := hrel
    have HK := hid hk
    have HC := hid hcase
    clear hk hcase
    have HW := hid (HH.out.same (Fr.drewN _ w q))
    have c1 : (w.drewN q).cell? ⟨r, 1, none⟩ = some (.slice A n cap) := by have := HW.out.hc.cell (i := 1) rfl; rw [HN.out] at this; exact this
    obtain ⟨wq, hwq⟩ : ∃ wq, w.drewN q = wq := ⟨_, rfl⟩
    have HWQ := hid hwq
    rw [hwq] at HW c1 ⊢
    clear hwq
    by_cases hlt : k < n
    · have HKL := hid (show k < L.length by have := HN.out; omega)
      have hlt2 : (k : Int) < n := by omega
      obtain ⟨g, rfl, hg, -, hc⟩ := HW.out.gt HKL.out
      obtain ⟨ck0, ck1⟩ := hc wq (Fr.refl _ _) k HKL.out
      rcases HC.out with ⟨rfl, rfl⟩ | ⟨j, hj, rfl⟩
      · have HE := hid (show Lst L 1 0 from ⟨by omega, fun i hi => by rw [show i = 0 by omega]; exact dle_refl _⟩)
        clear hc hg ck0 ck1
        go_wp2_with fail
        go_quiet (fail)
        go_wp2_with fail
        go_roundg (L.length + 1 - (0 + 1))
        case rel => exact ⟨1, q + nq, by have := HKL.out; omega, rfl, by first | rfl | go_num, .inr ⟨0, HE.out, by first | rfl | go_num⟩, by rw [← HWQ.out, World.drewN_drewN]⟩
        case measure => have := HKL.out; omega
      · have hjn : j < n := by have := hj.1; omega
        have hjn2 : (j : Int) < n := by omega
        obtain ⟨cj0, cj1⟩ := hc wq (Fr.refl _ _) j (by have := HN.out; omega)
        have u0 : decide ((j : Int) < 0) = false := decide_eq_false (by omega)
        have HYES := hid (show dlt (at_ L k) (at_ L j) → Lst L (k + 1) k from fun h => ⟨by omega, fun i hi => by
          by_cases e : i = k
          · rw [e]; exact dle_refl _
          · exact dle_trans (dle_of_lt h) (hj.2 i (by omega))⟩)
        have HNO := hid (show ¬ dlt (at_ L k) (at_ L j) → Lst L (k + 1) j from fun h => ⟨by have := hj.1; omega, fun i hi => by
          by_cases e : i = k
          · rw [e]; exact h
          · exact hj.2 i (by omega)⟩)
        obtain ⟨dk, hdk⟩ : ∃ d, at_ L k = d := ⟨_, rfl⟩
        obtain ⟨dj, hdj⟩ : ∃ d, at_ L j = d := ⟨_, rfl⟩
        rw [hdk] at ck0 ck1 HYES HNO
        rw [hdj] at cj0 cj1 HYES HNO
        obtain ⟨ak, bk⟩ := dk
        obtain ⟨aj, bj⟩ := dj
        simp only at ck0 ck1 cj0 cj1
        unfold dlt at HYES HNO
        simp only at HYES HNO
        clear hc hg hdk hdj hj
        rcases v1 : decide (ak < aj) with _ | _
        · have w1 := of_decide_eq_false v1
          rcases v2 : (ak == aj) with _ | _
          · have w2 : ak ≠ aj := by simpa using v2
            have HE := hid (HNO.out (by omega))
            clear w1 w2
            go_wp2_with fail
            go_quiet (fail)
            go_wp2_with fail
            go_roundg (L.length + 1 - (k + 1))
            case rel => exact ⟨k + 1, q + nq, by have := HKL.out; omega, rfl, by first | rfl | go_num, .inr ⟨j, HE.out, rfl⟩, by rw [← HWQ.out, World.drewN_drewN]⟩
            case measure => have := HKL.out; omega
          · have w2 : ak = aj := by simpa using v2
            rcases v3 : decide (bk < bj) with _ | _
            · have w3 := of_decide_eq_false v3
              have HE := hid (HNO.out (by omega))
              clear w1 w2 w3
              go_wp2_with fail
              go_quiet (fail)
              go_wp2_with fail
              go_roundg (L.length + 1 - (k + 1))
              case rel => exact ⟨k + 1, q + nq, by have := HKL.out; omega, rfl, by first | rfl | go_num, .inr ⟨j, HE.out, rfl⟩, by rw [← HWQ.out, World.drewN_drewN]⟩
              case measure => have := HKL.out; omega
            · have w3 := of_decide_eq_true v3
              have HE := hid (HYES.out (by omega))
              clear w1 w2 w3
              go_wp2_with fail
              go_quiet (fail)
              go_wp2_with fail
              go_roundg (L.length + 1 - (k + 1))
              case rel => exact ⟨k + 1, q + nq, by have := HKL.out; omega, rfl, by first | rfl | go_num, .inr ⟨k, HE.out, rfl⟩, by rw [← HWQ.out, World.drewN_drewN]⟩
              case measure => have := HKL.out; omega
        · have w1 := of_decide_eq_true v1
          have HE := hid (HYES.out (by omega))
          clear w1
          go_wp2_with fail
          go_quiet (fail)
          go_wp2_with fail
          go_roundg (L.length + 1 - (k + 1))
          case rel => exact ⟨k + 1, q + nq, by have := HKL.out; omega, rfl, by first | rfl | go_num, .inr ⟨k, HE.out, rfl⟩, by rw [← HWQ.out, World.drewN_drewN]⟩
          case measure => have := HKL.out; omega
    · have hkn : k = n := by have := HK.out; have := HN.out; omega
      have hlt2 : ¬ (k : Int) < n := by omega
      have HR := hid (show (k = 0 → firstI L T = -1) ∧ (∀ j, Lst L k j → firstI L T = (j : Nat)) from ⟨fun h => by
        have h0 : T.length = 0 := by rw [← HP.out.length_eq, HN.out]; omega
        rw [List.length_eq_zero_iff.1 h0]; rfl, fun j hj => (show Lst L L.length j from by rw [HN.out, ← hkn]; exact hj).all HP.out HSR.out HI.out⟩)
      clear hkn
      rcases HC.out with ⟨rfl, rfl⟩ | ⟨j, hj, rfl⟩
      · go_wp2_with fail
        go_ret
        exact ⟨by rw [HR.out.1 (by simp)]; rfl, q, HWQ.out.symm⟩
      · have HJ := hid hj
        clear hj
        go_wp2_with fail
        go_ret
        exact ⟨by rw [HR.out.2 j HJ.out]; rfl, q, HWQ.out.symm⟩
end
end Go.Proofs.Ytpgbhgkikpmhiaa
