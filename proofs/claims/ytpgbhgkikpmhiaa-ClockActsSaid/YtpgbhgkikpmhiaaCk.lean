/-
  A clock, plain: its deadlines as one sorted list; what advancing tells and leaves.
-/
import Derived.Test.YtpgbhgkikpmhiaaHp
namespace Go.Proofs.Ytpgbhgkikpmhiaa
set_option linter.unusedVariables false

/-- The sooner ones first. -/
def Srt (S : List Due) : Prop := S.Pairwise dlt

def ins (x : Due) : List Due → List Due
  | [] => [x]
  | y :: S => if dlt x y then x :: y :: S else y :: ins x S

theorem ins_perm (x : Due) (S : List Due) : (ins x S).Perm (x :: S) := by
  induction S with
  | nil => exact List.Perm.refl _
  | cons y S ih =>
    rw [ins]
    split
    · exact List.Perm.refl _
    · exact (List.Perm.cons y ih).trans (List.Perm.swap x y S)

theorem dlt_trans {a b c : Due} (h : dlt a b) (g : dlt b c) : dlt a c := by unfold dlt at *; omega
theorem dlt_irr (a : Due) : ¬ dlt a a := by unfold dlt; omega
theorem dlt_of {a b : Due} (h : ¬ dlt a b) (hn : a.2 ≠ b.2) : dlt b a := by unfold dlt at *; omega

theorem ins_srt {x : Due} {S : List Due} (h : Srt S) (hx : ∀ y ∈ S, y.2 ≠ x.2) : Srt (ins x S) := by
  induction S with
  | nil => simp [ins, Srt]
  | cons y S ih =>
    have h1 := List.pairwise_cons.1 h
    rw [ins]
    split
    · rename_i hl
      refine List.pairwise_cons.2 ⟨fun z hz => ?_, h⟩
      rcases List.mem_cons.1 hz with rfl | hz
      · exact hl
      · exact dlt_trans hl (h1.1 z hz)
    · rename_i hl
      refine List.pairwise_cons.2 ⟨fun z hz => ?_, ih h1.2 (fun z hz => hx z (List.mem_cons_of_mem _ hz))⟩
      rcases List.mem_cons.1 ((ins_perm x S).subset hz) with rfl | hz
      · exact dlt_of hl (fun e => hx y (by simp) e.symm)
      · exact h1.1 z hz

/-- Of the same ones there is one sorted list. -/
theorem srt_one {S T : List Due} (hS : Srt S) (hT : Srt T) (hp : S.Perm T) : S = T :=
  hp.eq_of_pairwise (fun a b _ _ h g => absurd (dlt_trans h g) (dlt_irr a)) hS hT

/-- No two have one id. -/
def Ids (S : List Due) : Prop := (S.map (·.2)).Nodup

theorem Ids.perm {S T : List Due} (h : Ids S) (hp : S.Perm T) : Ids T := by
  unfold Ids at *
  exact (hp.map (·.2)).nodup_iff.1 h

theorem Ids.one {S : List Due} (h : Ids S) {x y : Due} (hx : x ∈ S) (hy : y ∈ S) (e : x.2 = y.2) : x = y := by
  induction S with
  | nil => simp at hx
  | cons z S ih =>
    have h' : z.2 ∉ S.map (·.2) ∧ Ids S := List.nodup_cons.1 h
    rcases List.mem_cons.1 hx with hx1 | hx1 <;> rcases List.mem_cons.1 hy with hy1 | hy1
    · rw [hx1, hy1]
    · exact (h'.1 (List.mem_map.2 ⟨y, hy1, by rw [← hx1]; exact e.symm⟩)).elim
    · exact (h'.1 (List.mem_map.2 ⟨x, hx1, by rw [← hy1]; exact e⟩)).elim
    · exact ih h'.2 hx1 hy1

/-- A heap's first one is the sorted list's first one. -/
theorem head_is {L S : List Due} {x : Due} (hh : Hp L.length L) (hp : L.Perm (x :: S)) (hs : Srt (x :: S)) : at_ L 0 = x := by
  have h0 : 0 < L.length := by rw [hp.length_eq]; simp
  have hx : x ∈ L := hp.symm.subset (by simp)
  obtain ⟨i, hi, e⟩ := List.mem_iff_getElem.1 hx
  have h1 := hh.least i hi
  have h2 : at_ L i = x := by unfold at_; rw [List.getD_eq_getElem?_getD, List.getElem?_eq_getElem hi, e]; rfl
  have h3 : at_ L 0 ∈ x :: S := by
    refine hp.subset ?_
    unfold at_
    rw [List.getD_eq_getElem?_getD, List.getElem?_eq_getElem h0]
    exact List.getElem_mem h0
  rw [h2] at h1
  rcases List.mem_cons.1 h3 with e | h3
  · exact e
  · exact absurd ((List.pairwise_cons.1 hs).1 _ h3) h1

/-! ### Advancing -/

def due (t : Int) (S : List Due) : List Due := S.takeWhile (fun d => decide (d.1 ≤ t))
def lat (t : Int) (S : List Due) : List Due := S.dropWhile (fun d => decide (d.1 ≤ t))

theorem due_lat (t : Int) (S : List Due) : due t S ++ lat t S = S := List.takeWhile_append_dropWhile

theorem due_cons (t : Int) (x : Due) (S : List Due) (h : x.1 ≤ t) : due t (x :: S) = x :: due t S ∧ lat t (x :: S) = lat t S := by
  simp [due, lat, h]
theorem due_stop (t : Int) (x : Due) (S : List Due) (h : ¬ x.1 ≤ t) : due t (x :: S) = [] ∧ lat t (x :: S) = x :: S := by
  simp [due, lat, h]

/-- Two advances are one. -/
theorem due_two {t u : Int} (h : t ≤ u) (S : List Due) : due u S = due t S ++ due u (lat t S) ∧ lat u S = lat u (lat t S) := by
  induction S with
  | nil => simp [due, lat]
  | cons x S ih =>
    by_cases hx : x.1 ≤ t
    · obtain ⟨e1, e2⟩ := due_cons t x S hx
      obtain ⟨e3, e4⟩ := due_cons u x S (by omega)
      rw [e1, e2, e3, e4, ih.1, ih.2]
      refine ⟨?_, ?_⟩
      · rw [← ih.1]
        simp [ih.1]
      · rw [← ih.2]
    · obtain ⟨e1, e2⟩ := due_stop t x S hx
      rw [e1, e2]
      exact ⟨rfl, rfl⟩

theorem lat_srt {t : Int} {S : List Due} (h : Srt S) : Srt (lat t S) := h.sublist (List.dropWhile_sublist _)
theorem due_srt {t : Int} {S : List Due} (h : Srt S) : Srt (due t S) := h.sublist (List.takeWhile_sublist _)

theorem due_in {t : Int} {S : List Due} {x : Due} (hx : x ∈ due t S) : x ∈ S ∧ x.1 ≤ t := by
  induction S with
  | nil => simp [due] at hx
  | cons y S ih =>
    by_cases hy : y.1 ≤ t
    · rw [(due_cons t y S hy).1] at hx
      rcases List.mem_cons.1 hx with rfl | hx
      · exact ⟨by simp, hy⟩
      · exact ⟨List.mem_cons_of_mem _ (ih hx).1, (ih hx).2⟩
    · rw [(due_stop t y S hy).1] at hx
      simp at hx

/-- What is left is above. -/
theorem lat_above {t : Int} {S : List Due} (h : Srt S) {x : Due} (hx : x ∈ lat t S) : t < x.1 := by
  induction S with
  | nil => simp [lat] at hx
  | cons y S ih =>
    have h1 := List.pairwise_cons.1 h
    by_cases hy : y.1 ≤ t
    · rw [(due_cons t y S hy).2] at hx
      exact ih h1.2 hx
    · rw [(due_stop t y S hy).2] at hx
      rcases List.mem_cons.1 hx with rfl | hx
      · omega
      · have := h1.1 x hx
        unfold dlt at this
        omega

/-- If all are due, all come. -/
theorem due_all {t : Int} {S : List Due} (h : ∀ x ∈ S, x.1 ≤ t) : due t S = S ∧ lat t S = [] := by
  induction S with
  | nil => simp [due, lat]
  | cons y S ih =>
    obtain ⟨e1, e2⟩ := due_cons t y S (h y (by simp))
    obtain ⟨e3, e4⟩ := ih (fun x hx => h x (List.mem_cons_of_mem _ hx))
    rw [e1, e2, e3, e4]
    exact ⟨rfl, rfl⟩

/-! ### Dropping -/

def drp (id : Int) (S : List Due) : List Due := S.filter (fun d => decide (d.2 ≠ id))

theorem drp_srt {id : Int} {S : List Due} (h : Srt S) : Srt (drp id S) := h.sublist List.filter_sublist
theorem drp_ids {id : Int} {S : List Due} (h : Ids S) : Ids (drp id S) := h.sublist (List.filter_sublist.map _)

theorem drp_perm {id : Int} {S : List Due} {x : Due} (h : Ids S) (hx : x ∈ S) (e : x.2 = id) : S.Perm (x :: drp id S) := by
  induction S with
  | nil => simp at hx
  | cons y S ih =>
    have h' : y.2 ∉ S.map (·.2) ∧ Ids S := List.nodup_cons.1 h
    rcases List.mem_cons.1 hx with rfl | hx
    · have : drp id (x :: S) = S := by
        unfold drp
        rw [List.filter_cons_of_neg (by simp [e])]
        refine List.filter_eq_self.2 (fun z hz => ?_)
        have : z.2 ≠ x.2 := fun hh => h'.1 (List.mem_map.2 ⟨z, hz, hh⟩)
        simp only [decide_eq_true_eq]
        rw [← e]; exact this
      rw [this]
    · have hne : y.2 ≠ id := fun hh => h'.1 (List.mem_map.2 ⟨x, hx, e.trans hh.symm⟩)
      have : drp id (y :: S) = y :: drp id S := by
        unfold drp
        rw [List.filter_cons_of_pos (by simpa using hne)]
      rw [this]
      exact (List.Perm.cons y (ih h'.2 hx)).trans (List.Perm.swap x y _)
end Go.Proofs.Ytpgbhgkikpmhiaa
