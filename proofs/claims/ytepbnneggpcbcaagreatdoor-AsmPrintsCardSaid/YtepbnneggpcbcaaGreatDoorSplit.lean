/-
  asm.split, asm.join, asm.readers, and the readers by kind.
-/
import Derived.Test.YtepbnneggpcbcaaGreatDoorWords
namespace Go.Proofs.YtepbnneggpcbcaaGreatDoor
open Go.RowKit

set_option maxHeartbeats 400000 in
theorem reg_any (l : Bs) (hl : l.length ≤ 1000000) (w : World) (ht : Tabs w) :
    Calls Tryz.prog 40 #[.string (bs l)] w (OpPost w (opd 1 l)) := by
  have HM := hid (marked_any 1 (by omega) (by omega) l hl w ht)
  go_enter Tryz.func40, Tryz.ntmps40
  go_wp2_with fail
  refine HM.out.mono ?_
  rintro e w1 ⟨x, b, rfl, hp⟩
  have HP := hid hp
  clear hp
  go_wp2_with fail
  go_ret2
  exact ⟨_, _, rfl, HP.out⟩

set_option maxHeartbeats 400000 in
theorem han_any (l : Bs) (hl : l.length ≤ 1000000) (w : World) (ht : Tabs w) :
    Calls Tryz.prog 41 #[.string (bs l)] w (OpPost w (opd 2 l)) := by
  have HM := hid (marked_any 2 (by omega) (by omega) l hl w ht)
  go_enter Tryz.func41, Tryz.ntmps41
  go_wp2_with fail
  refine HM.out.mono ?_
  rintro e w1 ⟨x, b, rfl, hp⟩
  have HP := hid hp
  clear hp
  go_wp2_with fail
  go_ret2
  exact ⟨_, _, rfl, HP.out⟩

set_option maxHeartbeats 400000 in
theorem fun_any (l : Bs) (hl : l.length ≤ 1000000) (w : World) (ht : Tabs w) :
    Calls Tryz.prog 42 #[.string (bs l)] w (OpPost w (opd 3 l)) := by
  have HM := hid (marked_any 3 (by omega) (by omega) l hl w ht)
  go_enter Tryz.func42, Tryz.ntmps42
  go_wp2_with fail
  refine HM.out.mono ?_
  rintro e w1 ⟨x, b, rfl, hp⟩
  have HP := hid hp
  clear hp
  go_wp2_with fail
  go_ret2
  exact ⟨_, _, rfl, HP.out⟩

/-- The words of a text, as split lays them. -/
def OwnW (w : World) (B : Nat) (A : Option Addr) (n cap : Nat) (l : List Bs) : Prop :=
  l.length = n ∧ n ≤ cap ∧ (0 < n → ∃ g, A = some ⟨g, 0, none⟩ ∧ B ≤ g ∧ g < w.heap.size ∧ ∀ j x, l[j]? = some x → w.cell? ⟨g, j, none⟩ = some (.string (bs x)))

theorem OwnW.keep {w w' : World} {B : Nat} {A : Option Addr} {n cap : Nat} {l : List Bs} (h : OwnW w B A n cap l) {S : Nat → Prop} (f : Fr S w w') (hs : ∀ k, B ≤ k → k < w.heap.size → ¬ S k) : OwnW w' B A n cap l :=
  ⟨h.1, h.2.1, fun hn => by
    obtain ⟨g, hA, hB, hg, hc⟩ := h.2.2 hn
    exact ⟨g, hA, hB, Nat.lt_of_lt_of_le hg f.size, fun j x hx => (cell_keep f (p := ⟨g, j, none⟩) hg (hs g hB hg)).trans (hc j x hx)⟩⟩
theorem OwnW.same {w w' : World} {B : Nat} {A : Option Addr} {n cap : Nat} {l : List Bs} (h : OwnW w B A n cap l) (f : Fr (fun _ => False) w w') : OwnW w' B A n cap l := h.keep f (fun _ _ _ hh => hh)

def SpPost (w : World) (l : Bs) (e : Ending) (w' : World) : Prop := ∃ A cap, e = .returned (.slice A (words l).length cap) ∧ OwnW w' w.heap.size A (words l).length cap (words l) ∧ Fr (fun _ => False) w w'

theorem splitB_words (l : Bs) : (Lib.splitB (bs [32]) 0 (min 5 (l.length + 1) - 1) (bs l)).map (·.data.toList) = words l := Lib.splitB_data (bs [32]) 0 _ (bs l)

set_option maxHeartbeats 400000 in
theorem split_any (l : Bs) (hl : l.length ≤ 1000000) (w : World) (ht : Tabs w) : Calls Tryz.prog 21 #[.string (bs l)] w (SpPost w l) := by
  obtain ⟨m, hm⟩ := ht.most
  have hS := Tryz.strings_SplitN (bs l) (bs [32]) 5 m w (by rw [bs_size]; omega) hm (by decide) (by omega) (by omega)
  rw [bs_size] at hS
  have hw := splitB_words l
  have hb : (Lib.splitB (bs [32]) 0 (min 5 (l.length + 1) - 1) (bs l)).length ≤ min 5 (l.length + 1) := by
    have := Lib.splitB_length_le (bs [32]) 0 (min 5 (l.length + 1) - 1) (bs l)
    omega
  obtain ⟨L, hL⟩ : ∃ L, Lib.splitB (bs [32]) 0 (min 5 (l.length + 1) - 1) (bs l) = L := ⟨_, rfl⟩
  obtain ⟨c, hc⟩ : ∃ c, min 5 (l.length + 1) = c := ⟨_, rfl⟩
  rw [hL] at hS hw hb
  rw [hc] at hS hb
  have HS := hid hS
  have HW := hid hw
  clear hS hw hL hc hm
  unfold bs at HS
  go_enter Tryz.func21, Tryz.ntmps21
  go_wp2_with fail
  refine HS.out.mono ?_
  rintro e w1 ⟨rfl, hw1⟩
  have HW1 := hid hw1
  clear hw1
  go_wp2_with fail
  go_ret
  have hlen : L.length = (words l).length := by rw [← HW.out, List.length_map]
  refine ⟨some ⟨w.heap.size, 0, none⟩, c, by rw [← hlen]; rfl, ⟨rfl, by omega, fun _ => ⟨w.heap.size, rfl, Nat.le_refl _, ?_, fun j x hx => ?_⟩⟩, ?_⟩
  · rw [HW1.out]; simp
  · rw [HW1.out]
    refine (Blk.new w _ 9).cell ?_
    rw [← HW.out, List.getElem?_map] at hx
    obtain ⟨s, hs, rfl⟩ := Option.map_eq_some_iff.1 hx
    have hj := (List.getElem?_eq_some_iff.1 hs).1
    unfold Lib.cellsOf
    rw [List.getElem?_toArray, List.getElem?_append_left (by simpa using hj), List.getElem?_map, hs]
    simp [bs]
  · rw [HW1.out]
    exact Fr.alloc _ _ _

/-- Texts one behind the other. -/
theorem glue_join (l : List Bs) : Lib.join l [32] = glue 32 l := by
  cases l with
  | nil => rfl
  | cons x r =>
    rw [Lib.join_cons]
    induction r generalizing x with
    | nil => simp [Lib.joinTail, glue]
    | cons y r ih =>
      rw [glue_cons, ← ih y]
      simp [Lib.joinTail]

def JnPost (w : World) (l : List Bs) (e : Ending) (w' : World) : Prop := e = .returned (.string (bs (glue 32 l))) ∧ Fr (fun _ => False) w w'

set_option maxHeartbeats 400000 in
theorem join_any (g o c : Nat) (l : List Bs) (w : World) (hcells : ∀ j x, l[j]? = some x → w.cell? ⟨g, o + j, none⟩ = some (.string (bs x))) (hg : g < w.heap.size) (hN : l.length ≤ 1000) (hc : l.length ≤ c) (hlen : (glue 32 l).length ≤ 1000000) :
    Calls Tryz.prog 13 #[.slice (some ⟨g, o, none⟩) l.length c] w (JnPost w l) := by
  have hJ := Tryz.strings_Join g o c (l.map bs) (bs [32]) w (fun j x hx => by
    rw [List.getElem?_map] at hx
    obtain ⟨y, hy, rfl⟩ := Option.map_eq_some_iff.1 hx
    exact hcells j y hy) hg (by simp; omega) (by simpa using hc) (by
      rw [List.map_map, show (fun s : ByteArray => s.data.toList) ∘ bs = id from rfl, List.map_id]
      show (Lib.join l [32]).length ≤ _
      rw [glue_join]; omega)
  rw [List.map_map, show (fun s : ByteArray => s.data.toList) ∘ bs = id from rfl, List.map_id, List.length_map, show (bs [32]).data.toList = [32] from rfl, glue_join] at hJ
  have HJ := hid hJ
  obtain ⟨n, hn⟩ : ∃ n, l.length = n := ⟨_, rfl⟩
  rw [hn] at HJ ⊢
  clear hJ hcells hn
  unfold bs at HJ
  go_enter Tryz.func13, Tryz.ntmps13
  go_wp2_with fail
  refine HJ.out.mono ?_
  rintro e w1 ⟨rfl, hb⟩
  go_wp2_with fail
  go_ret
  exact ⟨rfl, Fr.ofBelow hb⟩

theorem store_nil (P : Program) (w : World) (a : Addr) (m : Mode) : (store a .nilFunc m).run P w = stored P w a .nilFunc m := run_store P w a _ m rfl
theorem store_fn (P : Program) (k : FuncId) (w : World) (a : Addr) (m : Mode) : (store a (.func (.func k) #[] #[]) m).run P w = stored P w a (.func (.func k) #[] #[]) m := run_store P w a _ m rfl

/-- The readers, by kind. -/
def rdrs : Array Value := #[.nilFunc, .func (.func 40) #[] #[], .func (.func 41) #[] #[], .func (.func 42) #[] #[], .func (.func 43) #[] #[]]

set_option maxHeartbeats 400000 in
theorem readers_ok (w : World) : Calls Tryz.prog 24 #[] w fun e w' => e = .returned (.agg rdrs) ∧ Fr (fun _ => False) w w' := by
  have hn := store_nil Tryz.prog
  have hf := store_fn Tryz.prog
  unfold rdrs
  go_enter Tryz.func24, Tryz.ntmps24
  go_wp2_with fail
  refine bodyPost_ret (v := .agg #[.nilFunc, .func (.func 40) #[] #[], .func (.func 41) #[] #[], .func (.func 42) #[] #[], .func (.func 43) #[] #[]]) ?hv rfl ?hp
  case hv => (simp [results, Tryz.results24, go_sem]; try rfl)
  case hp => exact ⟨rfl, Fr.alloc _ _ _⟩

end Go.Proofs.YtepbnneggpcbcaaGreatDoor
