/-
  What an act does to a clock, plain; the laws' do and same (walks).
-/
import Derived.Test.YtpgbhgkikpmhiaaCo
namespace Go.Proofs.Ytpgbhgkikpmhiaa
open Go.RowKit
set_option linter.unusedVariables false


def hasId (id : Int) (T : List Due) : Bool := T.any fun x => x.2 == id

theorem hasId_yes {id : Int} {T : List Due} (h : hasId id T = true) : ∃ x ∈ T, x.2 = id := by
  unfold hasId at h
  obtain ⟨x, hx, he⟩ := List.any_eq_true.1 h
  exact ⟨x, hx, by simpa using he⟩
theorem hasId_no {id : Int} {T : List Due} (h : hasId id T = false) : ∀ x ∈ T, x.2 ≠ id := by
  unfold hasId at h
  intro x hx he
  have := List.any_eq_false.1 h x hx
  simp [he] at this

/-- Set. -/
def setE (id n now : Int) (T : List Due) : Int := bif decide (id < 0) || decide (n < 1) || decide (1099511627776 < n) then 10 else bif hasId id T then 18 else 0
def setT (id n now : Int) (T : List Due) : List Due := bif decide (id < 0) || decide (n < 1) || decide (1099511627776 < n) then T else bif hasId id T then T else ins (now + n, id) T
/-- Drop. -/
def dropT (id : Int) (T : List Due) : List Due := bif hasId id T then drp id T else T
/-- Advance. -/
def advNo (n now : Int) : Bool := decide (n < 0) || decide (1099511627776 - now < n)
def advE (n now : Int) : Int := bif advNo n now then 10 else 0
def advN (n now : Int) : Int := bif advNo n now then now else now + n
def advT (n now : Int) (T : List Due) : List Due := bif advNo n now then T else lat (now + n) T
def advL (n now : Int) (T : List Due) : List Int := bif advNo n now then [] else idsOf (due (now + n) T)

theorem CkPost.of_eq {O : Nat → Prop} {c : Nat} {now : Int} {T : List Due} {w w' : World} (h : Ckm w O c now T) (e : w = w') : CkPost O c now T w w' := by
  subst e
  exact ⟨O, h, Fr.refl _ _, fun k hk => .inl hk⟩

section
variable {c : Nat} {now : Int} {O : Nat → Prop} {T : List Due} (w : World)

theorem ck_set (id n : Int) (h : Ckm w O c now T) (hn0 : 0 ≤ now) (hn1 : now ≤ 1099511627776) (hs : T.length < 60000) : Calls Try.prog 23 #[.pointer (some ⟨c, 0, none⟩), .int .i64 id, .int .i64 n] w fun e w' => e = .returned (.int .i64 (setE id n now T)) ∧ CkPost O c now (setT id n now T) w w' := by
  unfold setE setT
  by_cases hr : id < 0 ∨ n < 1 ∨ 1099511627776 < n
  · have hb : (decide (id < 0) || decide (n < 1) || decide (1099511627776 < n)) = true := by rcases hr with h | h | h <;> simp [h]
    rw [hb]
    exact (ck_set_range w id n h hr).mono fun e w' ⟨h1, h2⟩ => ⟨h1, CkPost.of_eq h h2⟩
  · have hb : (decide (id < 0) || decide (n < 1) || decide (1099511627776 < n)) = false := by simp only [not_or] at hr; simp [hr.1, hr.2.1, hr.2.2]
    rw [hb]
    cases hh : hasId id T with
    | true => exact (ck_set_there w id n h (by omega) (by omega) (by simp only [not_or] at hr; omega) (hasId_yes hh)).mono fun e w' ⟨h1, h2⟩ => ⟨h1, CkPost.of_eq h h2⟩
    | false => exact ck_set_ok w id n h (by omega) (by omega) (by simp only [not_or] at hr; omega) (hasId_no hh) hn0 hn1 (by omega)

theorem ck_drop (id : Int) (h : Ckm w O c now T) (hs : T.length < 60000) : Calls Try.prog 19 #[.pointer (some ⟨c, 0, none⟩), .int .i64 id] w fun e w' => e = .returned (.bool (hasId id T)) ∧ CkPost O c now (dropT id T) w w' := by
  unfold dropT
  cases hh : hasId id T with
  | true => exact ck_drop_ok w id h (hasId_yes hh) (by omega)
  | false => exact (ck_drop_no w id h (hasId_no hh)).mono fun e w' ⟨h1, h2⟩ => ⟨h1, CkPost.of_eq h h2⟩

/-- What an advance leaves, refused or not. -/
def AdvPost2 (O : Nat → Prop) (c : Nat) (n now : Int) (T : List Due) (w : World) (e : Ending) (w' : World) : Prop :=
  ∃ A cap, e = .returned (.tuple #[.slice A (advL n now T).length cap, .int .i64 (advE n now)]) ∧ OwnR w' w.heap.size 3 1 A (advL n now T).length cap (intsV (advL n now T)) ∧ Ckm w' O c (advN n now) (advT n now T) ∧ Fr O w w'

theorem ck_adv (n : Int) (h : Ckm w O c now T) (hn0 : 0 ≤ now) (hn1 : now ≤ 1099511627776) (hs : T.length < 60000) : Calls Try.prog 20 #[.pointer (some ⟨c, 0, none⟩), .int .i64 n] w (AdvPost2 O c n now T w) := by
  unfold AdvPost2 advL advE advN advT
  by_cases hr : n < 0 ∨ 1099511627776 - now < n
  · have hb : advNo n now = true := by unfold advNo; rcases hr with h | h <;> simp [h]
    rw [hb]
    exact (ck_adv_range w n h hn0 hn1 hr).mono fun e w' ⟨h1, h2⟩ => ⟨none, 0, h1, OwnR.nil _ _ _ _, h2 ▸ h, h2 ▸ Fr.refl _ _⟩
  · have hb : advNo n now = false := by unfold advNo; simp only [not_or] at hr; simp [hr.1, hr.2]
    rw [hb]
    refine (ck_adv_ok w n (now + n) h hn0 hn1 (by omega) (by simp only [not_or] at hr; omega) rfl (by omega)).mono ?_
    rintro e w' ⟨A, cap, he, hO, hC, hF⟩
    have hl : (idsOf (due (now + n) T)).length = (due (now + n) T).length := by simp [idsOf]
    exact ⟨A, cap, by rw [cond_false, hl]; exact he, by rw [cond_false, hl]; exact hO, hC, hF⟩

/-! ### Acts -/

def actN (d n now : Int) : Int := bif d == 2 then advN n now else now
def actT (d id n now : Int) (T : List Due) : List Due := bif d == 0 then setT id n now T else bif d == 1 then dropT id T else bif d == 2 then advT n now T else T
def actL (d n now : Int) (T : List Due) : List Int := bif d == 2 then advL n now T else []
def actB (d id : Int) (T : List Due) : Bool := bif d == 1 then hasId id T else false
def actE (d id n now : Int) (T : List Due) : Int := bif d == 0 then setE id n now T else bif d == 2 then advE n now else 0

def DoPost (O : Nat → Prop) (c : Nat) (d id n now : Int) (T : List Due) (w : World) (e : Ending) (w' : World) : Prop :=
  ∃ A cap O', e = .returned (.tuple #[.slice A (actL d n now T).length cap, .bool (actB d id T), .int .i64 (actE d id n now T)]) ∧ OwnR w' w.heap.size 3 1 A (actL d n now T).length cap (intsV (actL d n now T)) ∧ Ckm w' O' c (actN d n now) (actT d id n now T) ∧ Fr O w w' ∧ ∀ k, O' k → O k ∨ w.heap.size ≤ k

set_option maxHeartbeats 1600000 in
theorem do_ok (d id n : Int) (h : Ckm w O c now T) (hn0 : 0 ≤ now) (hn1 : now ≤ 1099511627776) (hs : T.length < 60000) : Calls Try.prog 12 #[.pointer (some ⟨c, 0, none⟩), .agg #[.int .i64 d, .int .i64 id, .int .i64 n]] w (DoPost O c d id n now T w) := by
  have hA := Fr.alloc (fun _ => False) w (.cells #[.int .i64 d, .int .i64 id, .int .i64 n] 37)
  have hB := Blk.new w #[.int .i64 d, .int .i64 id, .int .i64 n] 37
  obtain ⟨w1, hw1⟩ : ∃ w1, w.alloc (.cells #[.int .i64 d, .int .i64 id, .int .i64 n] 37) = w1 := ⟨_, rfl⟩
  rw [hw1] at hA hB
  have b0 := hB.cell (i := 0) rfl
  have b1 := hB.cell (i := 1) rfl
  have b2 := hB.cell (i := 2) rfl
  simp only [List.getElem_toArray, List.getElem_cons_zero, List.getElem_cons_succ] at b0 b1 b2
  have HC := hid (h.same hA)
  have HA := hid hA
  clear hA hB h
  unfold DoPost actN actT actL actB actE
  rcases t0 : (d == 0) with _ | _
  · rcases t1 : (d == 1) with _ | _
    · rcases t2 : (d == 2) with _ | _
      · go_enter Try.func12, Try.ntmps12
        go_wp2_with fail
        refine bodyPost_ret (results_tmp3 rfl _ _ _) rfl ?_
        exact ⟨none, 0, O, rfl, OwnR.nil _ _ _ _, HC.out, HA.out.mono (fun _ h => h.elim), fun k hk => .inl hk⟩
      · have HV := hid (ck_adv w1 n HC.out hn0 hn1 hs)
        go_enter Try.func12, Try.ntmps12
        go_wp2_with fail
        refine HV.out.mono ?_
        rintro e w2 ⟨A, cap, rfl, hO, hC, hF⟩
        have HO := hid hO
        have HC2 := hid hC
        have HF := hid hF
        clear hO hC hF
        go_wp2_with fail
        refine bodyPost_ret (results_tmp3 rfl _ _ _) rfl ?_
        exact ⟨A, cap, O, rfl, OwnR.less HO.out HA.out.size, HC2.out, (HA.out.mono (fun _ h => h.elim)).trans HF.out, fun k hk => .inl hk⟩
    · have t2 : (d == 2) = false := by simp at t1 ⊢; omega
      rw [t2]
      have HV := hid (ck_drop w1 id HC.out hs)
      go_enter Try.func12, Try.ntmps12
      go_wp2_with fail
      refine HV.out.mono ?_
      rintro e w2 ⟨rfl, O', hC, hF, hO⟩
      have HC2 := hid hC
      have HF := hid hF
      have HO := hid hO
      clear hO hC hF
      go_wp2_with fail
      refine bodyPost_ret (results_tmp3 rfl _ _ _) rfl ?_
      exact ⟨none, 0, O', rfl, OwnR.nil _ _ _ _, HC2.out, (HA.out.mono (fun _ h => h.elim)).trans HF.out, fun k hk => (HO.out k hk).imp_right (fun h => by have := HA.out.size; omega)⟩
  · have t1 : (d == 1) = false := by simp at t0 ⊢; omega
    have t2 : (d == 2) = false := by simp at t0 ⊢; omega
    rw [t1, t2]
    have HV := hid (ck_set w1 id n HC.out hn0 hn1 hs)
    go_enter Try.func12, Try.ntmps12
    go_wp2_with fail
    refine HV.out.mono ?_
    rintro e w2 ⟨rfl, O', hC, hF, hO⟩
    have HC2 := hid hC
    have HF := hid hF
    have HO := hid hO
    clear hO hC hF
    go_wp2_with fail
    refine bodyPost_ret (results_tmp3 rfl _ _ _) rfl ?_
    exact ⟨none, 0, O', rfl, OwnR.nil _ _ _ _, HC2.out, (HA.out.mono (fun _ h => h.elim)).trans HF.out, fun k hk => (HO.out k hk).imp_right (fun h => by have := HA.out.size; omega)⟩
end

/-! ### same -/

/-- A row of numbers that is read. -/
def IntR (w : World) (A : Option Addr) (L : List Int) : Prop :=
  0 < L.length → ∃ g off, A = some ⟨g, off, none⟩ ∧ g < w.heap.size ∧ ∀ k, k < L.length → w.cell? ⟨g, off + k, none⟩ = some (.int .i64 (L.getD k 0))

theorem IntR.keep {w w' : World} {A : Option Addr} {L : List Int} (h : IntR w A L) {S : Nat → Prop} (F : Fr S w w') (hs : ∀ j, ownB A j → ¬ S j) : IntR w' A L := by
  intro h0
  obtain ⟨g, off, hA, hg, hc⟩ := h h0
  exact ⟨g, off, hA, Nat.lt_of_lt_of_le hg F.size, fun k hk => (World.cell?_of_block (w := w) (F.block g hg (hs g ⟨_, hA, rfl⟩))).trans (hc k hk)⟩

theorem IntR.same {w w' : World} {A : Option Addr} {L : List Int} (h : IntR w A L) (F : Fr (fun _ => False) w w') : IntR w' A L := h.keep F (fun _ _ hh => hh)

theorem OwnR.intR {w : World} {B : Nat} {e : TypeId} {A : Option Addr} {n cap : Nat} {L : List Int} (h : OwnR w B e 1 A n cap (intsV L)) (hn : n = L.length) : IntR w A L := by
  intro h0
  obtain ⟨g, hA, hB, hg, _, hc⟩ := h.cell (by omega)
  refine ⟨g, 0, hA, hg, fun k hk => ?_⟩
  rw [Nat.zero_add]
  refine hc k _ ?_
  simp [intsV, hk]

def SmRel (L : List Int) (L' : List Int) (w : World) (d : Nat) (x : Value) (wr : World) : Prop :=
  ∃ k : Nat, k ≤ L.length ∧ d = L.length + 1 - k ∧ x = .int .i64 k ∧ (∀ i, i < k → L.getD i 0 = L'.getD i 0) ∧ Fr (fun _ => False) w wr

set_option maxRecDepth 100000 in
set_option maxHeartbeats 1000000 in
theorem same_yes (A A' : Option Addr) (L : List Int) (n c c' : Nat) (w : World) (hA : IntR w A L) (hA' : IntR w A' L) (hn : L.length = n) (hl : n ≤ 1000) :
    Calls Try.prog 16 #[.slice A n c, .slice A' n c'] w fun e w' => e = .returned (.bool true) ∧ Fr (fun _ => False) w w' := by
  have HA := hid hA
  have HA' := hid hA'
  have HN := hid hn
  have HREL := hid (show SmRel L L w (n + 1) (.int .i64 0) w from ⟨0, by omega, by omega, rfl, fun _ _ => rfl, Fr.refl _ _⟩)
  clear hA hA' hn
  go_enter Try.func16, Try.ntmps16
  go_wp2_with fail
  go_loopg [5] (n + 1) (fun d x wr => SmRel L L w d x wr)
  case atStart => exact HREL.out
  case round =>
    clear HREL
    obtain ⟨k, hk, rfl, rfl, _, hF⟩ := hrel
    have HF := hid hF
    have HK := hid hk
    clear hF hk
    by_cases hlt : k < n
    · obtain ⟨g, off, rfl, hg, hc⟩ := (HA.out.same HF.out) (by have := HN.out; omega)
      obtain ⟨g', off', rfl, hg', hc'⟩ := (HA'.out.same HF.out) (by have := HN.out; omega)
      have c1 := hc k (by have := HN.out; omega)
      have c2 := hc' k (by have := HN.out; omega)
      have hlt2 : (k : Int) < n := by omega
      have t1 : (L.getD k 0 != L.getD k 0) = false := by simp
      obtain ⟨z, hz⟩ : ∃ z, L.getD k 0 = z := ⟨_, rfl⟩
      rw [hz] at c1 c2 t1
      clear hc hc' hz hg hg'
      go_wp2_with fail
      go_quiet (fail)
      go_wp2_with fail
      go_roundg (L.length + 1 - (k + 1))
      case rel => exact ⟨k + 1, by have := HN.out; omega, rfl, by go_num, fun _ _ => rfl, HF.out.trans (Fr.drewN _ _ _)⟩
      case measure => have := HN.out; omega
    · obtain rfl : k = n := by have := HK.out; have := HN.out; omega
      go_wp2_with fail
      go_ret
      exact ⟨rfl, HF.out⟩
end Go.Proofs.Ytpgbhgkikpmhiaa
