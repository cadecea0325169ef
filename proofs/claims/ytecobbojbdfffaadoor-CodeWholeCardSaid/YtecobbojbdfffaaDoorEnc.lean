/-
  Encode, the document's bytes, and whether two rows of bytes are one.
-/
import Derived.Test.YtecobbojbdfffaaDoorPut
import Derived.Test.YtecobbojbdfffaaDoorRefCheck
namespace Go.Proofs.YtecobbojbdfffaaDoor
open Go.RowKit

theorem ret_bool {a b : Bool} (h : a = b) : Ending.returned (.bool a) = .returned (.bool b) := by rw [h]

theorem Fr.none {w w' : World} (h : Fr (ownB none) w w') : Fr (fun _ => False) w w' := h.mono (fun k ⟨_, hk, _⟩ => by cases hk)

theorem Ins.eta (i : Ins) : (⟨i.op, i.a, i.b, i.c, i.n⟩ : Ins) = i := rfl

theorem put_any (B : Nat) (A : Option Addr) (n cap : Nat) (l : List Int) (i : Ins) (w : World) (hown : OwnB w B A n cap l) (hn : n ≤ 1000000) (hB : B ≤ w.heap.size) :
    Calls Tryd.prog 29 #[.slice A n cap, i.val] w (PutPost w B A (n + 8) (l ++ encB i)) := put_ok B A n cap l i.op i.a i.b i.c i.n w hown hn hB

def EncPost (w : World) (l : List Int) (e : Ending) (w' : World) : Prop :=
  ∃ A cap, e = .returned (.tuple #[.slice A 8 cap, .int .i64 0]) ∧ OwnB w' w.heap.size A 8 cap l ∧ Fr (fun _ => False) w w'

set_option maxHeartbeats 400000 in
theorem encode_no (i : Ins) (w : World) (ht : Tabs w) (h : chk i ≠ 0) :
    Calls Tryd.prog 16 #[i.val] w fun e w' => e = .returned (.tuple #[.slice none 0 0, .int .i64 (chk i)]) ∧ Fr (fun _ => False) w w' := by
  obtain ⟨c, hc⟩ : ∃ c, chk i = c := ⟨_, rfl⟩
  have hk := fun W hW => check_any i W hW
  rw [hc] at h hk ⊢
  clear hc
  have t1 : (c != 0) = true := by simpa using h
  have t2 : (c == 0) = false := by simpa using h
  have hT := ht.same (Fr.alloc (fun _ => False) w (.cells #[.int .i64 i.op, .int .i64 i.a, .int .i64 i.b, .int .i64 i.c, .int .i64 i.n] 23))
  clear ht h
  have HK := hid hk
  clear hk
  unfold Ins.val at *
  go_enter Tryd.func16, Tryd.ntmps16
  go_wp2_with fail
  refine (HK.out _ hT).mono ?_
  rintro e w1 ⟨rfl, hF⟩
  go_wp2_with fail
  go_ret2
  exact ⟨rfl, (Fr.alloc _ _ _).trans hF⟩

set_option maxHeartbeats 400000 in
theorem encode_ok (i : Ins) (w : World) (ht : Tabs w) (h : chk i = 0) :
    Calls Tryd.prog 16 #[i.val] w (EncPost w (encB i)) := by
  have hk := fun W hW => check_any i W hW
  rw [h] at hk
  have hT := ht.same (Fr.alloc (fun _ => False) w (.cells #[.int .i64 i.op, .int .i64 i.a, .int .i64 i.b, .int .i64 i.c, .int .i64 i.n] 23))
  clear ht h
  have HK := hid hk
  clear hk
  have HP := hid (put_any w.heap.size none 0 0 [] i)
  unfold Ins.val at *
  go_enter Tryd.func16, Tryd.ntmps16
  go_wp2_with fail
  refine (HK.out _ hT).mono ?_
  rintro e w1 ⟨rfl, hF⟩
  have hB := (Blk.new w #[.int .i64 i.op, .int .i64 i.a, .int .i64 i.b, .int .i64 i.c, .int .i64 i.n] 23).keep hF (fun h => h)
  have p0 : w1.cell? ⟨w.heap.size, 0, none⟩ = some (.int .i64 i.op) := hB.cell rfl
  have p1 : w1.cell? ⟨w.heap.size, 1, none⟩ = some (.int .i64 i.a) := hB.cell rfl
  have p2 : w1.cell? ⟨w.heap.size, 2, none⟩ = some (.int .i64 i.b) := hB.cell rfl
  have p3 : w1.cell? ⟨w.heap.size, 3, none⟩ = some (.int .i64 i.c) := hB.cell rfl
  have p4 : w1.cell? ⟨w.heap.size, 4, none⟩ = some (.int .i64 i.n) := hB.cell rfl
  have hl := hB.lt
  go_wp2_with fail
  refine (HP.out _ (OwnB.nil _ _) (by omega) (by omega)).mono ?_
  rintro e w2 ⟨A', cap', rfl, ho, hF2⟩
  go_wp2_with fail
  go_ret2
  exact ⟨A', cap', rfl, ho, ((Fr.alloc _ _ _).trans hF).trans hF2.none⟩

def REncPost (w : World) (l : List Int) (e : Ending) (w' : World) : Prop :=
  ∃ g, e = .returned (.slice (some ⟨g, 0, none⟩) 8 8) ∧ w.heap.size ≤ g ∧ Blk w' g (byts l).toArray ∧ Fr (fun _ => False) w w'

theorem blk_of_eq {w : World} {g : Nat} {c c' : Array Value} (h : Blk w g c) (e : c = c') : Blk w g c' := e ▸ h

set_option maxHeartbeats 1000000 in
theorem rencode_ok (op a b c n : Int) (w : World) (hn : -2147483648 ≤ n) (hn' : n ≤ 2147483647) :
    Calls Tryd.prog 18 #[Ins.val ⟨op, a, b, c, n⟩] w (REncPost w (encB ⟨op, a, b, c, n⟩)) := by
  unfold Ins.val
  by_cases h0 : n < 0
  · go_enter Tryd.func18, Tryd.ntmps18
    go_wp2_with fail
    go_ret
    refine ⟨_, rfl, ?_, blk_of_eq ((Blk.new _ _ _).at (size_alloc _ _)) ?_, (Fr.alloc _ _ _).trans (Fr.alloc _ _ _)⟩
    · simp
    · unfold byts encB
      simp only [List.map_cons, List.map_nil]
      have e1 : (n + 4294967296) / 16777216 = n % 4294967296 / 16777216 := by omega
      have e2 : (n + 4294967296) / 65536 % 256 = n % 4294967296 / 65536 % 256 := by omega
      have e3 : (n + 4294967296) / 256 % 256 = n % 4294967296 / 256 % 256 := by omega
      have e4 : (n + 4294967296) % 256 = n % 256 := by omega
      rw [e1, e2, e3, e4]
  · have h1 : 0 ≤ n := by omega
    clear h0
    go_enter Tryd.func18, Tryd.ntmps18
    go_wp2_with fail
    go_ret
    refine ⟨_, rfl, ?_, blk_of_eq ((Blk.new _ _ _).at (size_alloc _ _)) ?_, (Fr.alloc _ _ _).trans (Fr.alloc _ _ _)⟩
    · simp
    · unfold byts encB
      simp only [List.map_cons, List.map_nil]
      have e1 : n / 16777216 = n % 4294967296 / 16777216 := by omega
      have e2 : n / 65536 % 256 = n % 4294967296 / 65536 % 256 := by omega
      have e3 : n / 256 % 256 = n % 4294967296 / 256 % 256 := by omega
      rw [e1, e2, e3]

theorem rencode_any (i : Ins) (w : World) (hn : -2147483648 ≤ i.n) (hn' : i.n ≤ 2147483647) :
    Calls Tryd.prog 18 #[i.val] w (REncPost w (encB i)) := rencode_ok i.op i.a i.b i.c i.n w hn hn'

def BytRel (w : World) (l m : List Int) (d : Nat) (i : Value) (wr : World) : Prop :=
  ∃ k q : Nat, k ≤ l.length ∧ d = l.length - k ∧ i = .int .i64 k ∧ wr = w.drewN q ∧ ∀ j, j < k → l[j]? = m[j]?

def SameB (l m : List Int) : Bool := decide (l = m)

theorem sameB_len {l m : List Int} (h : l.length ≠ m.length) : SameB l m = false := by
  unfold SameB
  simp only [decide_eq_false_iff_not]
  rintro rfl
  exact h rfl

theorem sameB_ne {l m : List Int} {k : Nat} (h : l[k]? ≠ m[k]?) : SameB l m = false := by
  unfold SameB
  simp only [decide_eq_false_iff_not]
  rintro rfl
  exact h rfl

theorem sameB_all {l m : List Int} (hl : l.length = m.length) (h : ∀ j, j < l.length → l[j]? = m[j]?) : SameB l m = true := by
  unfold SameB
  simp only [decide_eq_true_eq]
  apply List.ext_getElem? 
  intro j
  rcases Nat.lt_or_ge j l.length with hj | hj
  · exact h j hj
  · rw [List.getElem?_eq_none hj, List.getElem?_eq_none (by omega)]

set_option maxHeartbeats 1000000 in
theorem bytes_any (B C : Nat) (A A' : Option Addr) (n n' c c' : Nat) (l m : List Int) (w : World) (h1 : Bys w B A l) (h2 : Bys w C A' m) (e1 : l.length = n) (e2 : m.length = n') (hs : n ≤ 1000000) (hs' : n' ≤ 1000000) :
    Calls Tryd.prog 17 #[.slice A n c, .slice A' n' c'] w fun e w' => e = .returned (.bool (SameB l m)) ∧ Fr (fun _ => False) w w' := by
  by_cases hne : n = n'
  · subst hne
    have E1 := hid e1
    have E2 := hid e2
    clear e1 e2
    go_enter Tryd.func17, Tryd.ntmps17
    go_wp2
    go_loopg [5] n (fun d i wr => BytRel w l m d i wr)
    case atStart => exact ⟨0, 0, by omega, by rw [E1.out, Nat.sub_zero], rfl, rfl, fun j hj => by omega⟩
    case round =>
      obtain ⟨k, q, hk, hd, rfl, rfl, hg⟩ := hrel
      rw [E1.out] at hk hd
      by_cases hlt : k < n
      · obtain ⟨b, o, rfl, hb, hc⟩ := h1 (by rw [E1.out]; omega)
        obtain ⟨b', o', rfl, hb', hc'⟩ := h2 (by rw [E2.out]; omega)
        obtain ⟨x, hx⟩ : ∃ x, l[k]? = some x := ⟨_, List.getElem?_eq_getElem (by rw [E1.out]; exact hlt)⟩
        obtain ⟨y, hy⟩ : ∃ y, m[k]? = some y := ⟨_, List.getElem?_eq_getElem (by rw [E2.out]; exact hlt)⟩
        have p1 := hc k x hx
        have p2 := hc' k y hy
        have HX := hid hx
        have HY := hid hy
        have HG := hid hg
        have HD := hid hd
        clear hx hy hc hc' h1 h2 hg hd
        by_cases hxy : x = y
        · have t1 : (x != y) = false := by simpa using hxy
          have HXY := hid hxy
          clear hxy
          go_wp2
          go_quiet (fail)
          go_wp2
          go_roundg (n - (k + 1))
          case rel => exact ⟨k + 1, _, by rw [E1.out]; omega, by rw [E1.out], by go_num, by first | rfl | simp, fun j hj => by
            rcases Nat.lt_or_ge j k with h | h
            · exact HG.out j h
            · obtain rfl : j = k := by omega
              rw [HX.out, HY.out, HXY.out]⟩
          case measure => have := HD.out; omega
        · have t1 : (x != y) = true := by simpa using hxy
          have hf : SameB l m = false := sameB_ne (k := k) (by rw [HX.out, HY.out]; simpa using hxy)
          have HF := hid hf
          clear hxy hf
          go_wp2
          go_quiet (fail)
          go_wp2
          go_ret
          exact ⟨ret_bool HF.out.symm, (Fr.drewN _ _ _).trans (Fr.drewN _ _ _)⟩
      · have hf : SameB l m = true := sameB_all (by rw [E1.out, E2.out]) (fun j hj => hg j (by rw [E1.out] at hj; omega))
        have HF := hid hf
        clear hf hg hd
        go_wp2
        go_ret
        exact ⟨ret_bool HF.out.symm, Fr.drewN _ _ _⟩
  · have hf : SameB l m = false := sameB_len (by omega)
    rw [hf]
    have t1 : ((n : Int) != (n' : Int)) = true := by simpa using (by omega : ¬ (n : Int) = n')
    have t2 : (n != n') = true := by simpa using hne
    clear hf e1 e2 h1 h2
    go_enter Tryd.func17, Tryd.ntmps17
    go_wp2
    go_ret
    exact ⟨rfl, Fr.refl _ _⟩

end Go.Proofs.YtecobbojbdfffaaDoor
