/-
  ClockOrders, plain; rows of acts; when (walk).
-/
import Derived.Test.YtpgbhgkikpmhiaaSpP
namespace Go.Proofs.Ytpgbhgkikpmhiaa
open Go.RowKit
set_option linter.unusedVariables false

/-- An act: what, whose, how long. -/
abbrev ActD := Int × Int × Int
def dueA (g : ActD) : Due := (g.2.2, g.2.1)
def actsV (G : List ActD) : List Value := G.flatMap fun g => [.int .i64 g.1, .int .i64 g.2.1, .int .i64 g.2.2]

theorem actsV_app (G : List ActD) (g : ActD) : actsV G ++ [.int .i64 g.1, .int .i64 g.2.1, .int .i64 g.2.2] = actsV (G ++ [g]) := by simp [actsV]
theorem actsV_len (G : List ActD) : (actsV G).length = G.length * 3 := by
  induction G with
  | nil => rfl
  | cons d G ih => simp only [actsV, List.flatMap_cons, List.length_append, List.length_cons, List.length_nil] at ih ⊢; omega

def atA (G : List ActD) (i : Nat) : ActD := G.getD i (0, 0, 0)
theorem actsV_at (G : List ActD) (i : Nat) (h : i < G.length) : (actsV G)[i * 3]? = some (.int .i64 (atA G i).1) ∧ (actsV G)[i * 3 + 1]? = some (.int .i64 (atA G i).2.1) ∧ (actsV G)[i * 3 + 2]? = some (.int .i64 (atA G i).2.2) := by
  induction G generalizing i with
  | nil => simp at h
  | cons d G ih =>
    have e : actsV (d :: G) = .int .i64 d.1 :: .int .i64 d.2.1 :: .int .i64 d.2.2 :: actsV G := rfl
    cases i with
    | zero => rw [e]; exact ⟨rfl, rfl, rfl⟩
    | succ i =>
      have := ih i (by simpa using h)
      rw [e, show (i + 1) * 3 = i * 3 + 3 by omega]
      exact this

/-- A row of acts that is read. -/
def ActR (w : World) (A : Option Addr) (G : List ActD) : Prop :=
  0 < G.length → ∃ g, A = some ⟨g, 0, none⟩ ∧ g < w.heap.size ∧ ∀ k, k < G.length → w.cell? ⟨g, k * 3, none⟩ = some (.int .i64 (atA G k).1) ∧ w.cell? ⟨g, k * 3 + 1, none⟩ = some (.int .i64 (atA G k).2.1) ∧ w.cell? ⟨g, k * 3 + 2, none⟩ = some (.int .i64 (atA G k).2.2)

theorem ActR.same {w w' : World} {A : Option Addr} {G : List ActD} (h : ActR w A G) (F : Fr (fun _ => False) w w') : ActR w' A G := by
  intro h0
  obtain ⟨g, hA, hg, hc⟩ := h h0
  have key : ∀ (p : Nat), w'.cell? ⟨g, p, none⟩ = w.cell? ⟨g, p, none⟩ := fun p => World.cell?_of_block (w := w) (F.block g hg id)
  exact ⟨g, hA, Nat.lt_of_lt_of_le hg F.size, fun k hk => ⟨(key _).trans (hc k hk).1, (key _).trans (hc k hk).2.1, (key _).trans (hc k hk).2.2⟩⟩

theorem OwnR.actR {w : World} {B : Nat} {e : TypeId} {A : Option Addr} {n cap : Nat} {G : List ActD} (h : OwnR w B e 3 A n cap (actsV G)) (hn : n = G.length) : ActR w A G := by
  intro h0
  obtain ⟨g, hA, hB, hg, _, hc⟩ := h.cell (by omega)
  refine ⟨g, hA, hg, fun k hk => ?_⟩
  obtain ⟨h1, h2, h3⟩ := actsV_at G k hk
  exact ⟨hc _ _ h1, hc _ _ h2, hc _ _ h3⟩

/-! ### What is set -/

theorem set_zero {id n now : Int} {T : List Due} (h : setE id n now T = 0) : 0 ≤ id ∧ 1 ≤ n ∧ n ≤ 1099511627776 ∧ hasId id T = false ∧ setT id n now T = ins (now + n, id) T := by
  unfold setE at h
  unfold setT
  cases hb : (decide (id < 0) || decide (n < 1) || decide (1099511627776 < n)) with
  | true => rw [hb] at h; simp at h
  | false =>
    rw [hb] at h
    cases hh : hasId id T with
    | true => rw [hh] at h; simp at h
    | false =>
      simp only [Bool.or_eq_false_iff, decide_eq_false_iff_not] at hb
      exact ⟨by omega, by omega, by omega, rfl, rfl⟩

theorem set_some {id n now : Int} {T : List Due} (h : setE id n now T ≠ 0) : setT id n now T = T := by
  unfold setE at h
  unfold setT
  cases hb : (decide (id < 0) || decide (n < 1) || decide (1099511627776 < n)) with
  | true => rfl
  | false =>
    rw [hb] at h
    cases hh : hasId id T with
    | true => rfl
    | false => rw [hh] at h; simp at h

theorem set_ok {id n now : Int} {T : List Due} (h0 : 0 ≤ id) (h1 : 1 ≤ n) (h2 : n ≤ 1099511627776) (h3 : ∀ x ∈ T, x.2 ≠ id) : setE id n now T = 0 ∧ setT id n now T = ins (now + n, id) T := by
  unfold setE setT
  have hb : (decide (id < 0) || decide (n < 1) || decide (1099511627776 < n)) = false := by simp; omega
  have hh : hasId id T = false := by
    unfold hasId
    rw [List.any_eq_false]
    intro x hx
    simpa using h3 x hx
  rw [hb, hh]
  exact ⟨rfl, rfl⟩

/-- What was set, and what deadlines there are. -/
structure SetG (G : List ActD) (T : List Due) : Prop where
  perm : T.Perm (G.map dueA)
  good : ∀ g ∈ G, 0 ≤ g.2.1 ∧ 1 ≤ g.2.2 ∧ g.2.2 ≤ 1099511627776

theorem SetG.nil : SetG [] [] := ⟨List.Perm.refl _, by simp⟩
theorem SetG.len {G : List ActD} {T : List Due} (h : SetG G T) : T.length = G.length := by rw [h.perm.length_eq]; simp

theorem SetG.add {G : List ActD} {T : List Due} (h : SetG G T) {d i n : Int} (he : setE i n 0 T = 0) : SetG (G ++ [(d, i, n)]) (setT i n 0 T) := by
  obtain ⟨h0, h1, h2, h3, h4⟩ := set_zero he
  refine ⟨?_, fun g hg => ?_⟩
  · rw [h4, Int.zero_add, List.map_append]
    refine (ins_perm _ _).trans ((List.Perm.cons _ h.perm).trans ?_)
    exact List.perm_append_comm (l₁ := [dueA (d, i, n)])
  · rcases List.mem_append.1 hg with hg | hg
    · exact h.good g hg
    · simp only [List.mem_singleton] at hg
      subst hg
      exact ⟨h0, h1, h2⟩

theorem atA_mem {G : List ActD} {i : Nat} (h : i < G.length) : atA G i ∈ G := by
  unfold atA
  rw [List.getD_eq_getElem?_getD, List.getElem?_eq_getElem h]
  exact List.getElem_mem h

theorem drop_atA {G : List ActD} {i : Nat} (h : i < G.length) : G.drop i = atA G i :: G.drop (i + 1) := by
  unfold atA
  rw [List.drop_eq_getElem_cons h, List.getD_eq_getElem?_getD, List.getElem?_eq_getElem h]
  rfl

/-- What is left to be set is not there yet. -/
theorem SetG.back {G : List ActD} {T U : List Due} (h : SetG G T) (hi : Ids T) {m : Nat} (hm : m < G.length) (hU : U.Perm ((G.drop (m + 1)).map dueA)) :
    setE (atA G m).2.1 (atA G m).2.2 0 U = 0 ∧ (setT (atA G m).2.1 (atA G m).2.2 0 U).Perm ((G.drop m).map dueA) := by
  obtain ⟨g0, g1, g2⟩ := h.good _ (atA_mem hm)
  have hids : Ids (G.map dueA) := hi.perm h.perm
  have hd : Ids ((G.drop m).map dueA) := by
    unfold Ids at hids ⊢
    exact hids.sublist (((List.drop_sublist m G).map _).map _)
  rw [drop_atA hm, List.map_cons] at hd
  have hd2 : (dueA (atA G m)).2 ∉ ((G.drop (m + 1)).map dueA).map (·.2) := (List.nodup_cons.1 hd).1
  obtain ⟨e1, e2⟩ := set_ok (now := 0) (T := U) g0 g1 g2 (fun x hx he => hd2 (List.mem_map.2 ⟨x, hU.subset hx, he⟩))
  refine ⟨e1, ?_⟩
  rw [e2, Int.zero_add, drop_atA hm, List.map_cons]
  exact (ins_perm _ _).trans (List.Perm.cons _ hU)

/-- All come. -/
theorem SetG.all {G : List ActD} {T : List Due} (h : SetG G T) : advNo 1099511627776 0 = false ∧ advE 1099511627776 0 = 0 ∧ advN 1099511627776 0 = 1099511627776 ∧ advT 1099511627776 0 T = [] ∧ advL 1099511627776 0 T = idsOf T := by
  have n1 : advNo 1099511627776 0 = false := advNo_no (by omega) (by omega)
  have hd := due_all (t := 0 + 1099511627776) (S := T) (fun x hx => by
    obtain ⟨g, hg, rfl⟩ := List.mem_map.1 (h.perm.subset hx)
    have := (h.good g hg).2.2
    show g.2.2 ≤ _
    omega)
  refine ⟨n1, by unfold advE; rw [n1]; rfl, by unfold advN; rw [n1]; rfl, by unfold advT; rw [n1]; exact hd.2, by unfold advL; rw [n1, cond_false, hd.1]⟩

/-! ### when -/

def whenP (G : List ActD) (id : Int) : Int := match G.find? (fun g => g.2.1 == id) with
  | some g => g.2.2
  | none => -1

theorem when_at {G : List ActD} {id : Int} {k : Nat} (hk : k < G.length) (hb : ∀ j, j < k → (atA G j).2.1 ≠ id) (he : (atA G k).2.1 = id) : whenP G id = (atA G k).2.2 := by
  induction G generalizing k with
  | nil => simp at hk
  | cons g G ih =>
    cases k with
    | zero =>
      have he2 : g.2.1 = id := he
      unfold whenP
      rw [List.find?_cons_of_pos (by simpa using he2)]
      rfl
    | succ k =>
      have h0 : g.2.1 ≠ id := hb 0 (by omega)
      have := ih (k := k) (by simpa using hk) (fun j hj => hb (j + 1) (by omega)) he
      unfold whenP at this ⊢
      rw [List.find?_cons_of_neg (by simpa using h0)]
      exact this

theorem when_no {G : List ActD} {id : Int} (hb : ∀ j, j < G.length → (atA G j).2.1 ≠ id) : whenP G id = -1 := by
  unfold whenP
  rw [List.find?_eq_none.2]
  intro g hg
  obtain ⟨i, hi, e⟩ := List.mem_iff_getElem.1 hg
  have := hb i hi
  unfold atA at this
  rw [List.getD_eq_getElem?_getD, List.getElem?_eq_getElem hi, Option.getD_some, e] at this
  simpa using this

/-- Of what was set, when is its deadline. -/
theorem SetG.when {G : List ActD} {T : List Due} (h : SetG G T) (hi : Ids T) {x : Due} (hx : x ∈ T) : whenP G x.2 = x.1 := by
  obtain ⟨g, hg, e⟩ := List.mem_map.1 (h.perm.subset hx)
  unfold whenP
  cases hf : G.find? (fun g => g.2.1 == x.2) with
  | none =>
    have := List.find?_eq_none.1 hf g hg
    rw [← e] at this
    simp [dueA] at this
  | some g' =>
    have h1 := List.find?_some hf
    have h2 := List.mem_of_find?_eq_some hf
    have h3 : dueA g' ∈ T := h.perm.symm.subset (List.mem_map.2 ⟨g', h2, rfl⟩)
    have h4 := hi.one h3 hx (by simpa [dueA] using h1)
    rw [← h4]
    rfl

def WnRel (G : List ActD) (id : Int) (w : World) (d : Nat) (x : Value) (wr : World) : Prop :=
  ∃ k : Nat, k ≤ G.length ∧ d = G.length + 1 - k ∧ x = .int .i64 k ∧ (∀ j, j < k → (atA G j).2.1 ≠ id) ∧ Fr (fun _ => False) w wr

set_option maxRecDepth 100000 in
set_option maxHeartbeats 1000000 in
theorem when_ok (A : Option Addr) (G : List ActD) (n cap : Nat) (ia : Int) (w : World) (hA : ActR w A G) (hn : G.length = n) (hl : n ≤ 1000) :
    Calls Try.prog 24 #[.slice A n cap, .int .i64 ia] w fun e w' => e = .returned (.int .i64 (whenP G ia)) ∧ Fr (fun _ => False) w w' := by
  have HA := hid hA
  have HN := hid hn
  clear hA hn
  go_enter Try.func24, Try.ntmps24
  go_wp2_with fail
  go_loopg [5] (n + 1) (fun d x wr => WnRel G ia w d x wr)
  case atStart => exact ⟨0, by omega, by have := HN.out; omega, rfl, fun j hj => by omega, Fr.refl _ _⟩
  case round =>
    obtain ⟨k, hk, rfl, rfl, hB, hF⟩ := hrel
    have HF := hid hF
    have HK := hid hk
    have HB := hid hB
    clear hF hk hB
    by_cases hlt : k < n
    · obtain ⟨g, rfl, hg, hc⟩ := (HA.out.same HF.out) (by have := HN.out; omega)
      obtain ⟨c0, c1, c2⟩ := hc k (by have := HN.out; omega)
      have hlt2 : (k : Int) < n := by omega
      have HKN := hid (show k < G.length by have := HN.out; omega)
      have HWA := hid (fun h => when_at HKN.out HB.out h)
      obtain ⟨x0, hx0⟩ : ∃ x, (atA G k).1 = x := ⟨_, rfl⟩
      obtain ⟨x1, hx1⟩ : ∃ x, (atA G k).2.1 = x := ⟨_, rfl⟩
      obtain ⟨x2, hx2⟩ : ∃ x, (atA G k).2.2 = x := ⟨_, rfl⟩
      rw [hx0] at c0
      rw [hx1] at c1 HWA
      rw [hx2] at c2 HWA
      have HX1 := hid hx1
      clear hc hg hx0 hx1 hx2
      rcases ht : (x1 == ia) with _ | _
      · have HT := hid (show x1 ≠ ia by simpa using ht)
        go_wp2_with fail
        go_roundg (G.length + 1 - (k + 1))
        case rel => exact ⟨k + 1, by have := HKN.out; omega, rfl, by go_num, fun j hj => by
          by_cases e : j = k
          · rw [e, HX1.out]; exact HT.out
          · exact HB.out j (by omega), HF.out⟩
        case measure => have := HKN.out; omega
      · have HT := hid (show x1 = ia by simpa using ht)
        go_wp2_with fail
        go_ret
        exact ⟨by rw [HWA.out HT.out]; rfl, HF.out⟩
    · obtain rfl : k = n := by have := HK.out; have := HN.out; omega
      go_wp2_with fail
      go_ret
      exact ⟨by rw [when_no (fun j hj => HB.out j (by have := HN.out; omega))]; rfl, HF.out⟩
end Go.Proofs.Ytpgbhgkikpmhiaa
