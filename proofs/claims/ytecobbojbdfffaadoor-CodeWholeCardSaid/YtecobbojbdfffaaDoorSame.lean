/-
  Whether two programs are the same.
-/
import Derived.Test.YtecobbojbdfffaaDoorRefUnpack
namespace Go.Proofs.YtecobbojbdfffaaDoor
open Go.RowKit

instance fnDec : DecidableEq Fn := fun a b =>
  if h : a.needs = b.needs ∧ a.code = b.code then isTrue (by cases a; cases b; simp only at h; rw [h.1, h.2]) else isFalse (fun e => h (by rw [e]; exact ⟨rfl, rfl⟩))

theorem same_len {α : Type} [DecidableEq α] {l m : List α} (h : l.length ≠ m.length) : decide (l = m) = false := by
  simp only [decide_eq_false_iff_not]
  rintro rfl
  exact h rfl

theorem same_ne {α : Type} [DecidableEq α] {l m : List α} {k : Nat} {x y : α} (hx : l[k]? = some x) (hy : m[k]? = some y) (h : x ≠ y) : decide (l = m) = false := by
  simp only [decide_eq_false_iff_not]
  rintro rfl
  rw [hx] at hy
  exact h (Option.some.inj hy)

theorem same_all {α : Type} [DecidableEq α] {l m : List α} (hl : l.length = m.length) (h : ∀ j, j < l.length → l[j]? = m[j]?) : decide (l = m) = true := by
  simp only [decide_eq_true_eq]
  apply List.ext_getElem?
  intro j
  rcases Nat.lt_or_ge j l.length with hj | hj
  · exact h j hj
  · rw [List.getElem?_eq_none hj, List.getElem?_eq_none (by omega)]

theorem fn_eq (f g : Fn) : decide (f = g) = (decide (f.needs = g.needs) && decide (f.code = g.code)) := by
  by_cases h : f = g
  · subst h
    simp
  · have : ¬ (f.needs = g.needs ∧ f.code = g.code) := fun hh => h (by cases f; cases g; simp only at hh; rw [hh.1, hh.2])
    rw [decide_eq_false h]
    by_cases h1 : f.needs = g.needs
    · by_cases h2 : f.code = g.code
      · exact absurd ⟨h1, h2⟩ this
      · simp [h2]
    · simp [h1]

theorem ins_eq (i j : Ins) : decide (i = j) = (decide (i.op = j.op) && (decide (i.a = j.a) && (decide (i.b = j.b) && (decide (i.c = j.c) && decide (i.n = j.n))))) := by
  obtain ⟨a0, a1, a2, a3, a4⟩ := i
  obtain ⟨b0, b1, b2, b3, b4⟩ := j
  simp only [Ins.mk.injEq, Bool.decide_and]

set_option maxRecDepth 100000 in
set_option maxHeartbeats 1000000 in
theorem sameInstr_any (i j : Ins) (w : World) :
    Calls Tryd.prog 38 #[i.val, j.val] w fun e w' => e = .returned (.bool (decide (i = j))) ∧ Fr (fun _ => False) w w' := by
  have HB := hid (ins_eq i j)
  unfold Ins.val
  go_enter Tryd.func38, Tryd.ntmps38
  go_wp2_with fail
  all_goals
    go_ret
    refine ⟨ret_bool ?_, (Fr.alloc _ _ _).trans (Fr.alloc _ _ _)⟩
    rw [HB.out]
    simp [*]

def RelalikeI (w : World) (l m : List Ins) (d : Nat) (s : Value) (wr : World) : Prop :=
  ∃ k : Nat, k ≤ l.length ∧ d = l.length - k ∧ s = .int .i64 k ∧ (∀ j, j < k → l[j]? = m[j]?) ∧ Fr (fun _ => False) w wr

set_option maxRecDepth 100000 in
set_option maxHeartbeats 2000000 in
theorem alikeI (A A' : Option Addr) (c c' : Nat) (l m : List Ins) (w : World) (hl : Cod w w.heap.size A l) (hm : Cod w w.heap.size A' m) (hs : l.length ≤ 1000000) :
    Calls Tryd.prog 37 #[.slice A l.length c, .slice A' m.length c', .func (.func 38) #[] #[]] w fun e w' => e = .returned (.bool (decide (l = m))) ∧ Fr (fun _ => False) w w' := by
  by_cases hne : l.length = m.length
  · obtain ⟨n, hn⟩ : ∃ n, l.length = n := ⟨_, rfl⟩
    have hn' : m.length = n := by omega
    rw [hn] at hs
    rw [hn, hn']
    have HN := hid hn
    have HN' := hid hn'
    clear hn hn' hne
    go_enter Tryd.func37, Tryd.ntmps37
    go_wp2_with fail
    go_loopg [15] n (fun d s wr => RelalikeI w l m d s wr)
    case atStart => exact ⟨0, by omega, by rw [HN.out, Nat.sub_zero], rfl, fun j hj => by omega, Fr.refl _ _⟩
    case round =>
      obtain ⟨k, hk, hd, rfl, hg, hF⟩ := hrel
      rw [HN.out] at hk hd
      have HG := hid hg
      have HD := hid hd
      clear hg hd
      by_cases hlt : k < n
      · obtain ⟨x, hx⟩ : ∃ x, l[k]? = some x := ⟨_, List.getElem?_eq_getElem (by rw [HN.out]; exact hlt)⟩
        obtain ⟨y, hy⟩ : ∃ y, m[k]? = some y := ⟨_, List.getElem?_eq_getElem (by rw [HN'.out]; exact hlt)⟩
        obtain ⟨g, o, rfl, hgb, hcx⟩ := hl (by rw [HN.out]; omega)
        obtain ⟨g', o', rfl, hgb', hcy⟩ := hm (by rw [HN'.out]; omega)
        obtain ⟨p0, p1, p2, p3, p4⟩ := hcx k x hx
        obtain ⟨r0, r1, r2, r3, r4⟩ := hcy k y hy
        have p0 := (cell_keep hF (p := ⟨g, o + k * 5, none⟩) hgb (fun h => h)).trans p0
        have p1 := (cell_keep hF (p := ⟨g, o + k * 5 + 1, none⟩) hgb (fun h => h)).trans p1
        have p2 := (cell_keep hF (p := ⟨g, o + k * 5 + 2, none⟩) hgb (fun h => h)).trans p2
        have p3 := (cell_keep hF (p := ⟨g, o + k * 5 + 3, none⟩) hgb (fun h => h)).trans p3
        have p4 := (cell_keep hF (p := ⟨g, o + k * 5 + 4, none⟩) hgb (fun h => h)).trans p4
        have r0 := (cell_keep hF (p := ⟨g', o' + k * 5, none⟩) hgb' (fun h => h)).trans r0
        have r1 := (cell_keep hF (p := ⟨g', o' + k * 5 + 1, none⟩) hgb' (fun h => h)).trans r1
        have r2 := (cell_keep hF (p := ⟨g', o' + k * 5 + 2, none⟩) hgb' (fun h => h)).trans r2
        have r3 := (cell_keep hF (p := ⟨g', o' + k * 5 + 3, none⟩) hgb' (fun h => h)).trans r3
        have r4 := (cell_keep hF (p := ⟨g', o' + k * 5 + 4, none⟩) hgb' (fun h => h)).trans r4
        have hgl : g < wr.heap.size := Nat.lt_of_lt_of_le hgb hF.size
        have hgl' : g' < wr.heap.size := Nat.lt_of_lt_of_le hgb' hF.size
        have HX := hid hx
        have HY := hid hy
        have b0 : (0 : Int) ≤ (k : Int) := by omega
        have b1 : (k : Int) < (n : Int) := by omega
        have HK := hid (sameInstr_any x y wr.drew)
        unfold Ins.val at HK
        clear hx hy hcx hcy
        by_cases hxy : x = y
        · have hd : decide (x = y) = true := by simpa using hxy
          rw [hd] at HK
          have HXY := hid hxy
          clear hd hxy
          go_wp2_with fail
          go_region_held3 (fun w' => w'.cell? ⟨g, o + k * 5, none⟩ = some (.int .i64 x.op) ∧ w'.cell? ⟨g, o + k * 5 + 1, none⟩ = some (.int .i64 x.a) ∧ w'.cell? ⟨g, o + k * 5 + 2, none⟩ = some (.int .i64 x.b) ∧ w'.cell? ⟨g, o + k * 5 + 3, none⟩ = some (.int .i64 x.c) ∧ w'.cell? ⟨g, o + k * 5 + 4, none⟩ = some (.int .i64 x.n) ∧ w'.cell? ⟨g', o' + k * 5, none⟩ = some (.int .i64 y.op) ∧ w'.cell? ⟨g', o' + k * 5 + 1, none⟩ = some (.int .i64 y.a) ∧ w'.cell? ⟨g', o' + k * 5 + 2, none⟩ = some (.int .i64 y.b) ∧ w'.cell? ⟨g', o' + k * 5 + 3, none⟩ = some (.int .i64 y.c) ∧ w'.cell? ⟨g', o' + k * 5 + 4, none⟩ = some (.int .i64 y.n))
            (first | exact ⟨p0, p1, p2, p3, p4, r0, r1, r2, r3, r4⟩ | exact ⟨e0, e1, e2, e3, e4, f0, f1, f2, f3, f4⟩)
            (first | (go_at_call 38; refine HK.out.mono ?_; rintro e w1 ⟨rfl, hF1⟩; have hG := (Fr.drew (fun _ => False) wr).trans hF1; have e0 := (cell_keep hG (p := ⟨g, o + k * 5, none⟩) hgl (fun h => h)).trans p0; have e1 := (cell_keep hG (p := ⟨g, o + k * 5 + 1, none⟩) hgl (fun h => h)).trans p1; have e2 := (cell_keep hG (p := ⟨g, o + k * 5 + 2, none⟩) hgl (fun h => h)).trans p2; have e3 := (cell_keep hG (p := ⟨g, o + k * 5 + 3, none⟩) hgl (fun h => h)).trans p3; have e4 := (cell_keep hG (p := ⟨g, o + k * 5 + 4, none⟩) hgl (fun h => h)).trans p4; have f0 := (cell_keep hG (p := ⟨g', o' + k * 5, none⟩) hgl' (fun h => h)).trans r0; have f1 := (cell_keep hG (p := ⟨g', o' + k * 5 + 1, none⟩) hgl' (fun h => h)).trans r1; have f2 := (cell_keep hG (p := ⟨g', o' + k * 5 + 2, none⟩) hgl' (fun h => h)).trans r2; have f3 := (cell_keep hG (p := ⟨g', o' + k * 5 + 3, none⟩) hgl' (fun h => h)).trans r3; have f4 := (cell_keep hG (p := ⟨g', o' + k * 5 + 4, none⟩) hgl' (fun h => h)).trans r4))
          go_wp2_with fail
          go_roundg (n - (k + 1))
          case rel => exact ⟨k + 1, by rw [HN.out]; omega, by rw [HN.out], by go_num, fun j hj => by
            rcases Nat.lt_or_ge j k with h | h
            · exact HG.out j h
            · obtain rfl : j = k := by omega
              rw [HX.out, HY.out, HXY.out], hF.trans hG⟩
          case measure => have := HD.out; omega
        · have hd : decide (x = y) = false := by simpa using hxy
          rw [hd] at HK
          have HXY := hid hxy
          clear hd hxy
          go_wp2_with fail
          go_region_held3 (fun w' => w'.cell? ⟨g, o + k * 5, none⟩ = some (.int .i64 x.op) ∧ w'.cell? ⟨g, o + k * 5 + 1, none⟩ = some (.int .i64 x.a) ∧ w'.cell? ⟨g, o + k * 5 + 2, none⟩ = some (.int .i64 x.b) ∧ w'.cell? ⟨g, o + k * 5 + 3, none⟩ = some (.int .i64 x.c) ∧ w'.cell? ⟨g, o + k * 5 + 4, none⟩ = some (.int .i64 x.n) ∧ w'.cell? ⟨g', o' + k * 5, none⟩ = some (.int .i64 y.op) ∧ w'.cell? ⟨g', o' + k * 5 + 1, none⟩ = some (.int .i64 y.a) ∧ w'.cell? ⟨g', o' + k * 5 + 2, none⟩ = some (.int .i64 y.b) ∧ w'.cell? ⟨g', o' + k * 5 + 3, none⟩ = some (.int .i64 y.c) ∧ w'.cell? ⟨g', o' + k * 5 + 4, none⟩ = some (.int .i64 y.n))
            (first | exact ⟨p0, p1, p2, p3, p4, r0, r1, r2, r3, r4⟩ | exact ⟨e0, e1, e2, e3, e4, f0, f1, f2, f3, f4⟩)
            (first | (go_at_call 38; refine HK.out.mono ?_; rintro e w1 ⟨rfl, hF1⟩; have hG := (Fr.drew (fun _ => False) wr).trans hF1; have e0 := (cell_keep hG (p := ⟨g, o + k * 5, none⟩) hgl (fun h => h)).trans p0; have e1 := (cell_keep hG (p := ⟨g, o + k * 5 + 1, none⟩) hgl (fun h => h)).trans p1; have e2 := (cell_keep hG (p := ⟨g, o + k * 5 + 2, none⟩) hgl (fun h => h)).trans p2; have e3 := (cell_keep hG (p := ⟨g, o + k * 5 + 3, none⟩) hgl (fun h => h)).trans p3; have e4 := (cell_keep hG (p := ⟨g, o + k * 5 + 4, none⟩) hgl (fun h => h)).trans p4; have f0 := (cell_keep hG (p := ⟨g', o' + k * 5, none⟩) hgl' (fun h => h)).trans r0; have f1 := (cell_keep hG (p := ⟨g', o' + k * 5 + 1, none⟩) hgl' (fun h => h)).trans r1; have f2 := (cell_keep hG (p := ⟨g', o' + k * 5 + 2, none⟩) hgl' (fun h => h)).trans r2; have f3 := (cell_keep hG (p := ⟨g', o' + k * 5 + 3, none⟩) hgl' (fun h => h)).trans r3; have f4 := (cell_keep hG (p := ⟨g', o' + k * 5 + 4, none⟩) hgl' (fun h => h)).trans r4))
          go_wp2_with fail
          go_ret
          exact ⟨ret_bool (same_ne HX.out HY.out HXY.out).symm, hF.trans hG⟩
      · go_wp2_with fail
        go_ret
        exact ⟨ret_bool (same_all (by rw [HN.out, HN'.out]) (fun j hj => HG.out j (by rw [HN.out] at hj; omega))).symm, hF⟩
  · rw [same_len hne]
    obtain ⟨n, hn⟩ : ∃ n, l.length = n := ⟨_, rfl⟩
    obtain ⟨n', hn'⟩ : ∃ n', m.length = n' := ⟨_, rfl⟩
    rw [hn, hn'] at hne ⊢
    clear hn hn' hl hm hs
    have t1 : ((n : Int) != (n' : Int)) = true := by simpa using (by omega : ¬ (n : Int) = n')
    have t2 : (n != n') = true := by simpa using hne
    go_enter Tryd.func37, Tryd.ntmps37
    go_wp2_with fail
    go_ret
    exact ⟨rfl, Fr.refl _ _⟩

set_option maxRecDepth 100000 in
set_option maxHeartbeats 2000000 in
theorem sameFunc_any (A A' : Option Addr) (c c' : Nat) (f g : Fn) (w : World) (hf : Cod w w.heap.size A f.code) (hg : Cod w w.heap.size A' g.code) (hs : f.code.length ≤ 1000000) :
    Calls Tryd.prog 35 #[.agg #[.int .i64 f.needs, .slice A f.code.length c], .agg #[.int .i64 g.needs, .slice A' g.code.length c']] w fun e w' => e = .returned (.bool (decide (f = g))) ∧ Fr (fun _ => False) w w' := by
  rw [fn_eq]
  obtain ⟨n1, l⟩ := f
  obtain ⟨n2, m⟩ := g
  simp only at hf hg hs ⊢
  have hF : Fr (fun _ => False) w ((w.alloc (.cells #[.int .i64 n1, .slice A l.length c] 51)).alloc (.cells #[.int .i64 n2, .slice A' m.length c'] 51)) := (Fr.alloc _ _ _).trans (Fr.alloc _ _ _)
  have HK := hid (alikeI A A' c c' l m _ ((hf.same hF (Nat.le_refl _)).more hF.size) ((hg.same hF (Nat.le_refl _)).more hF.size) hs)
  obtain ⟨a, ha⟩ : ∃ a, l.length = a := ⟨_, rfl⟩
  obtain ⟨b, hb⟩ : ∃ b, m.length = b := ⟨_, rfl⟩
  rw [ha, hb] at HK hF ⊢
  clear ha hb hs hf hg
  by_cases h : n1 = n2
  · subst h
    go_enter Tryd.func35, Tryd.ntmps35
    go_wp2_with fail
    refine HK.out.mono ?_
    rintro e w1 ⟨rfl, hF1⟩
    go_wp2_with fail
    go_ret
    exact ⟨ret_bool (by simp), hF.trans hF1⟩
  · have t1 : (n1 == n2) = false := by simpa using h
    go_enter Tryd.func35, Tryd.ntmps35
    go_wp2_with fail
    go_ret
    exact ⟨ret_bool (by simp [h]), hF⟩

def RelalikeF (w : World) (l m : List Fn) (d : Nat) (s : Value) (wr : World) : Prop :=
  ∃ k : Nat, k ≤ l.length ∧ d = l.length - k ∧ s = .int .i64 k ∧ (∀ j, j < k → l[j]? = m[j]?) ∧ Fr (fun _ => False) w wr

set_option maxRecDepth 100000 in
set_option maxHeartbeats 2000000 in
theorem alikeF (A A' : Option Addr) (c c' : Nat) (l m : List Fn) (w : World) (hl : Prg w w.heap.size A l) (hm : Prg w w.heap.size A' m) (hs : l.length ≤ 1000000) (hcs : ∀ f ∈ l, f.code.length ≤ 1000000) :
    Calls Tryd.prog 34 #[.slice A l.length c, .slice A' m.length c', .func (.func 35) #[] #[]] w fun e w' => e = .returned (.bool (decide (l = m))) ∧ Fr (fun _ => False) w w' := by
  by_cases hne : l.length = m.length
  · obtain ⟨n, hn⟩ : ∃ n, l.length = n := ⟨_, rfl⟩
    have hn' : m.length = n := by omega
    rw [hn] at hs
    rw [hn, hn']
    have HN := hid hn
    have HN' := hid hn'
    clear hn hn' hne
    go_enter Tryd.func34, Tryd.ntmps34
    go_wp2_with fail
    go_loopg [15] n (fun d s wr => RelalikeF w l m d s wr)
    case atStart => exact ⟨0, by omega, by rw [HN.out, Nat.sub_zero], rfl, fun j hj => by omega, Fr.refl _ _⟩
    case round =>
      obtain ⟨k, hk, hd, rfl, hg, hF⟩ := hrel
      rw [HN.out] at hk hd
      have HG := hid hg
      have HD := hid hd
      clear hg hd
      by_cases hlt : k < n
      · obtain ⟨x, hx⟩ : ∃ x, l[k]? = some x := ⟨_, List.getElem?_eq_getElem (by rw [HN.out]; exact hlt)⟩
        obtain ⟨y, hy⟩ : ∃ y, m[k]? = some y := ⟨_, List.getElem?_eq_getElem (by rw [HN'.out]; exact hlt)⟩
        obtain ⟨g, o, rfl, hgb, hcx⟩ := hl (by rw [HN.out]; omega)
        obtain ⟨g', o', rfl, hgb', hcy⟩ := hm (by rw [HN'.out]; omega)
        obtain ⟨Ax, cx, p0, p1, hcodx⟩ := hcx k x hx
        obtain ⟨Ay, cy, r0, r1, hcody⟩ := hcy k y hy
        have p0 := (cell_keep hF (p := ⟨g, o + k * 2, none⟩) hgb (fun h => h)).trans p0
        have p1 := (cell_keep hF (p := ⟨g, o + k * 2 + 1, none⟩) hgb (fun h => h)).trans p1
        have r0 := (cell_keep hF (p := ⟨g', o' + k * 2, none⟩) hgb' (fun h => h)).trans r0
        have r1 := (cell_keep hF (p := ⟨g', o' + k * 2 + 1, none⟩) hgb' (fun h => h)).trans r1
        have hgl : g < wr.heap.size := Nat.lt_of_lt_of_le hgb hF.size
        have hgl' : g' < wr.heap.size := Nat.lt_of_lt_of_le hgb' hF.size
        have HX := hid hx
        have HY := hid hy
        have b0 : (0 : Int) ≤ (k : Int) := by omega
        have b1 : (k : Int) < (n : Int) := by omega
        have HK := hid (sameFunc_any Ax Ay cx cy x y wr.drew ((hcodx.same hF (Nat.le_refl _)).more hF.size) ((hcody.same hF (Nat.le_refl _)).more hF.size) (hcs x (List.mem_of_getElem? hx)))
        clear hx hy hcx hcy
        by_cases hxy : x = y
        · have hd : decide (x = y) = true := by simpa using hxy
          rw [hd] at HK
          have HXY := hid hxy
          clear hd hxy
          go_wp2_with fail
          go_region_held3 (fun w' => w'.cell? ⟨g, o + k * 2, none⟩ = some (.int .i64 x.needs) ∧ w'.cell? ⟨g, o + k * 2 + 1, none⟩ = some (.slice Ax x.code.length cx) ∧ w'.cell? ⟨g', o' + k * 2, none⟩ = some (.int .i64 y.needs) ∧ w'.cell? ⟨g', o' + k * 2 + 1, none⟩ = some (.slice Ay y.code.length cy))
            (first | exact ⟨p0, p1, r0, r1⟩ | exact ⟨e0, e1, f0, f1⟩)
            (first | (go_at_call 35; refine HK.out.mono ?_; rintro e w1 ⟨rfl, hF1⟩; have hG := (Fr.drew (fun _ => False) wr).trans hF1; have e0 := (cell_keep hG (p := ⟨g, o + k * 2, none⟩) hgl (fun h => h)).trans p0; have e1 := (cell_keep hG (p := ⟨g, o + k * 2 + 1, none⟩) hgl (fun h => h)).trans p1; have f0 := (cell_keep hG (p := ⟨g', o' + k * 2, none⟩) hgl' (fun h => h)).trans r0; have f1 := (cell_keep hG (p := ⟨g', o' + k * 2 + 1, none⟩) hgl' (fun h => h)).trans r1))
          go_wp2_with fail
          go_roundg (n - (k + 1))
          case rel => exact ⟨k + 1, by rw [HN.out]; omega, by rw [HN.out], by go_num, fun j hj => by
            rcases Nat.lt_or_ge j k with h | h
            · exact HG.out j h
            · obtain rfl : j = k := by omega
              rw [HX.out, HY.out, HXY.out], hF.trans hG⟩
          case measure => have := HD.out; omega
        · have hd : decide (x = y) = false := by simpa using hxy
          rw [hd] at HK
          have HXY := hid hxy
          clear hd hxy
          go_wp2_with fail
          go_region_held3 (fun w' => w'.cell? ⟨g, o + k * 2, none⟩ = some (.int .i64 x.needs) ∧ w'.cell? ⟨g, o + k * 2 + 1, none⟩ = some (.slice Ax x.code.length cx) ∧ w'.cell? ⟨g', o' + k * 2, none⟩ = some (.int .i64 y.needs) ∧ w'.cell? ⟨g', o' + k * 2 + 1, none⟩ = some (.slice Ay y.code.length cy))
            (first | exact ⟨p0, p1, r0, r1⟩ | exact ⟨e0, e1, f0, f1⟩)
            (first | (go_at_call 35; refine HK.out.mono ?_; rintro e w1 ⟨rfl, hF1⟩; have hG := (Fr.drew (fun _ => False) wr).trans hF1; have e0 := (cell_keep hG (p := ⟨g, o + k * 2, none⟩) hgl (fun h => h)).trans p0; have e1 := (cell_keep hG (p := ⟨g, o + k * 2 + 1, none⟩) hgl (fun h => h)).trans p1; have f0 := (cell_keep hG (p := ⟨g', o' + k * 2, none⟩) hgl' (fun h => h)).trans r0; have f1 := (cell_keep hG (p := ⟨g', o' + k * 2 + 1, none⟩) hgl' (fun h => h)).trans r1))
          go_wp2_with fail
          go_ret
          exact ⟨ret_bool (same_ne HX.out HY.out HXY.out).symm, hF.trans hG⟩
      · go_wp2_with fail
        go_ret
        exact ⟨ret_bool (same_all (by rw [HN.out, HN'.out]) (fun j hj => HG.out j (by rw [HN.out] at hj; omega))).symm, hF⟩
  · rw [same_len hne]
    obtain ⟨n, hn⟩ : ∃ n, l.length = n := ⟨_, rfl⟩
    obtain ⟨n', hn'⟩ : ∃ n', m.length = n' := ⟨_, rfl⟩
    rw [hn, hn'] at hne ⊢
    clear hn hn' hl hm hs
    have t1 : ((n : Int) != (n' : Int)) = true := by simpa using (by omega : ¬ (n : Int) = n')
    have t2 : (n != n') = true := by simpa using hne
    go_enter Tryd.func34, Tryd.ntmps34
    go_wp2_with fail
    go_ret
    exact ⟨rfl, Fr.refl _ _⟩

set_option maxRecDepth 100000 in
set_option maxHeartbeats 2000000 in
theorem same_any (A A' : Option Addr) (c c' : Nat) (P Q : List Fn) (w : World) (hp : Prg w w.heap.size A P) (hq : Prg w w.heap.size A' Q) (hs : P.length ≤ 1000000) (hcs : ∀ f ∈ P, f.code.length ≤ 1000000) :
    Calls Tryd.prog 27 #[.agg #[.slice A P.length c], .agg #[.slice A' Q.length c']] w fun e w' => e = .returned (.bool (decide (P = Q))) ∧ Fr (fun _ => False) w w' := by
  have hF : Fr (fun _ => False) w ((w.alloc (.cells #[.slice A P.length c] 42)).alloc (.cells #[.slice A' Q.length c'] 42)) := (Fr.alloc _ _ _).trans (Fr.alloc _ _ _)
  have HK := hid (alikeF A A' c c' P Q _ ((hp.same hF (Nat.le_refl _)).more hF.size) ((hq.same hF (Nat.le_refl _)).more hF.size) hs hcs)
  obtain ⟨a, ha⟩ : ∃ a, P.length = a := ⟨_, rfl⟩
  obtain ⟨b, hb⟩ : ∃ b, Q.length = b := ⟨_, rfl⟩
  rw [ha, hb] at HK hF ⊢
  clear ha hb hs hcs hp hq
  go_enter Tryd.func27, Tryd.ntmps27
  go_wp2_with fail
  refine HK.out.mono ?_
  rintro e w1 ⟨rfl, hF1⟩
  go_wp2_with fail
  go_ret
  exact ⟨rfl, hF.trans hF1⟩

end Go.Proofs.YtecobbojbdfffaaDoor
