/-
  The document's copyings: how one begins, and its steps.
-/
import Derived.Test.YtiofdfgcghiibaaStep
import Derived.Test.YtiofdfgcghiibaaRef
namespace Go.Proofs.Ytiofdfgcghiibaa
open Go.RowKit
set_option linter.unusedVariables false

def IsD (w : World) (r : Nat) (C : Cp) : Prop :=
  Blk w r #[.int .i64 C.a, .int .i64 C.l, .int .i64 C.b, .int .i64 C.k, .int .i64 C.pl, .int .i64 C.til, .bool C.loaded, .int .i64 C.x]

theorem IsD.keep {S : Nat → Prop} {w w' : World} {c : Nat} {C : Cp} (h : IsD w c C) (f : Fr S w w') (hb : ¬ S c) : IsD w' c C := Blk.keep h f hb
theorem IsD.same {w w' : World} {c : Nat} {C : Cp} (h : IsD w c C) (f : Fr (fun _ => False) w w') : IsD w' c C := Blk.keep h f id

set_option maxHeartbeats 400000 in
theorem begin_arg' (a l b k x y : Int) (w : World) (h : ¬ (Rg.Right ⟨a, l⟩ ∧ Rg.Right ⟨b, k⟩)) :
    Calls Try.prog 83 #[.agg #[.int .i64 a, .int .i64 l], .agg #[.int .i64 b, .int .i64 k], .int .i64 x, .int .i64 y] w fun e w' => e = .returned (.tuple #[.pointer none, .int .i64 1]) ∧ Fr (fun _ => False) w w' := by
  have H := hid h
  clear h
  by_cases h1 : Rg.Right ⟨a, l⟩
  · have H1 := hid h1
    have H2 := hid (fun hh => H.out ⟨h1, hh⟩)
    clear h1
    go_enter Try.func83, Try.ntmps83
    go_wp2_with fail
    refine (rright_yes a l _ H1.out).mono ?_
    rintro e w1 ⟨rfl, hF⟩
    have hB := (((Blk.new w #[.int .i64 a, .int .i64 l] 47).alloc (.cells #[.int .i64 b, .int .i64 k] 47)).keep hF id)
    have hB2 := ((Blk.new (w.alloc (.cells #[.int .i64 a, .int .i64 l] 47)) #[.int .i64 b, .int .i64 k] 47).at (n := w.heap.size + 1) (by simp)).keep hF id
    have c0 := hB2.cell (i := 0) rfl
    have c1 := hB2.cell (i := 1) rfl
    have hFw : Fr (fun _ => False) w w1 := (Fr.alloc _ _ _).trans ((Fr.alloc _ _ _).trans hF)
    clear hF
    go_wp2_with fail
    refine (rright_no b k _ H2.out).mono ?_
    rintro e w2 ⟨rfl, hF2⟩
    go_wp2_with fail
    go_ret2
    exact ⟨rfl, hFw.trans hF2⟩
  · have H1 := hid h1
    clear h1
    go_enter Try.func83, Try.ntmps83
    go_wp2_with fail
    refine (rright_no a l _ H1.out).mono ?_
    rintro e w1 ⟨rfl, hF⟩
    go_wp2_with fail
    go_ret2
    exact ⟨rfl, (Fr.alloc _ _ _).trans ((Fr.alloc _ _ _).trans hF)⟩

set_option maxHeartbeats 800000 in
theorem begin_low' (a l b k x y : Int) (w : World) (h1 : Rg.Right ⟨a, l⟩) (h2 : Rg.Right ⟨b, k⟩) (hx : Fits x) (hy : Fits y) (h : y < x) :
    Calls Try.prog 83 #[.agg #[.int .i64 a, .int .i64 l], .agg #[.int .i64 b, .int .i64 k], .int .i64 x, .int .i64 y] w fun e w' => NoCopy w e w' := by
  have h18 : l ≤ 8 := h1.2.1
  have h28 : k ≤ 8 := h2.2.1
  have H1 := hid h1
  have H2 := hid h2
  have HZ1 := hid (fun v => rsize_yes a l v h1)
  have HZ2 := hid (fun v => rsize_yes b k v h2)
  obtain ⟨n, hn⟩ : ∃ n, pow l = n := ⟨_, rfl⟩
  obtain ⟨m, hm⟩ : ∃ n, pow k = n := ⟨_, rfl⟩
  have n1 := pow_pos l
  have n2 := pow_le l h18
  have m1 := pow_pos k
  have m2 := pow_le k h28
  rw [hn] at n1 n2 HZ1
  rw [hm] at m1 m2 HZ2
  have tn : IntKind.u64.wrap n = n := by rw [wrap_u64']; omega
  have tm : IntKind.u64.wrap m = m := by rw [wrap_u64']; omega
  obtain ⟨x1, hx1⟩ : ∃ x1, IntKind.u64.wrap x = x1 := ⟨_, rfl⟩
  obtain ⟨y1, hy1⟩ : ∃ y1, IntKind.u64.wrap y = y1 := ⟨_, rfl⟩
  obtain ⟨d, hd⟩ : ∃ d, IntKind.u64.wrap (y1 - x1) = d := ⟨_, rfl⟩
  have hdd : x ≤ y → d = y - x := fun hxy => by
    rw [← hd, ← hx1, ← hy1, wrap_u64', wrap_u64', wrap_u64']
    unfold Fits at hx hy
    omega
  have t5 : decide (y < x) = true := by simp; omega
  clear h1 h2 h18 h28 hn hm n1 n2 m1 m2 hdd hx hy h
  go_enter Try.func83, Try.ntmps83
  go_wp2_with fail
  refine (rright_yes a l _ H1.out).mono ?_
  rintro e w1 ⟨rfl, hF⟩
  have hB := (((Blk.new w #[.int .i64 a, .int .i64 l] 47).alloc (.cells #[.int .i64 b, .int .i64 k] 47)).keep hF id)
  have hB2 := ((Blk.new (w.alloc (.cells #[.int .i64 a, .int .i64 l] 47)) #[.int .i64 b, .int .i64 k] 47).at (n := w.heap.size + 1) (by simp)).keep hF id
  have c0 := hB2.cell (i := 0) rfl
  have c1 := hB2.cell (i := 1) rfl
  have hFw : Fr (fun _ => False) w w1 := (Fr.alloc _ _ _).trans ((Fr.alloc _ _ _).trans hF)
  clear hF
  go_wp2_with fail
  refine (rright_yes b k _ H2.out).mono ?_
  rintro e w2 ⟨rfl, hF2⟩
  have hB3 := hB.keep hF2 id
  have hB4 := hB2.keep hF2 id
  have hFw2 := hFw.trans hF2
  have HB3 := hid hB3
  have HB4 := hid hB4
  have HFW := hid hFw2
  clear hF2 hB hB2 c0 c1 hFw hB3 hB4 hFw2
  go_wp2_with fail
  go_ret2
  exact ⟨rfl, HFW.out⟩

set_option maxHeartbeats 800000 in
theorem begin_far1 (a l b k x y : Int) (w : World) (h1 : Rg.Right ⟨a, l⟩) (h2 : Rg.Right ⟨b, k⟩) (hx : Fits x) (hy : Fits y) (h : x ≤ y ∧ pow l < y - x) :
    Calls Try.prog 83 #[.agg #[.int .i64 a, .int .i64 l], .agg #[.int .i64 b, .int .i64 k], .int .i64 x, .int .i64 y] w fun e w' => NoCopy w e w' := by
  have h18 : l ≤ 8 := h1.2.1
  have h28 : k ≤ 8 := h2.2.1
  have H1 := hid h1
  have H2 := hid h2
  have HZ1 := hid (fun v => rsize_yes a l v h1)
  have HZ2 := hid (fun v => rsize_yes b k v h2)
  obtain ⟨n, hn⟩ : ∃ n, pow l = n := ⟨_, rfl⟩
  obtain ⟨m, hm⟩ : ∃ n, pow k = n := ⟨_, rfl⟩
  have n1 := pow_pos l
  have n2 := pow_le l h18
  have m1 := pow_pos k
  have m2 := pow_le k h28
  rw [hn] at n1 n2 HZ1
  rw [hm] at m1 m2 HZ2
  have tn : IntKind.u64.wrap n = n := by rw [wrap_u64']; omega
  have tm : IntKind.u64.wrap m = m := by rw [wrap_u64']; omega
  obtain ⟨x1, hx1⟩ : ∃ x1, IntKind.u64.wrap x = x1 := ⟨_, rfl⟩
  obtain ⟨y1, hy1⟩ : ∃ y1, IntKind.u64.wrap y = y1 := ⟨_, rfl⟩
  obtain ⟨d, hd⟩ : ∃ d, IntKind.u64.wrap (y1 - x1) = d := ⟨_, rfl⟩
  have hdd : x ≤ y → d = y - x := fun hxy => by
    rw [← hd, ← hx1, ← hy1, wrap_u64', wrap_u64', wrap_u64']
    unfold Fits at hx hy
    omega
  have t5 : decide (y < x) = false := by simp; omega
  have t6 : decide (n < d) = true := by have := hdd h.1; have h9 := h.2; rw [hn] at h9; simp; omega
  clear h1 h2 h18 h28 hn hm n1 n2 m1 m2 hdd hx hy h
  go_enter Try.func83, Try.ntmps83
  go_wp2_with fail
  refine (rright_yes a l _ H1.out).mono ?_
  rintro e w1 ⟨rfl, hF⟩
  have hB := (((Blk.new w #[.int .i64 a, .int .i64 l] 47).alloc (.cells #[.int .i64 b, .int .i64 k] 47)).keep hF id)
  have hB2 := ((Blk.new (w.alloc (.cells #[.int .i64 a, .int .i64 l] 47)) #[.int .i64 b, .int .i64 k] 47).at (n := w.heap.size + 1) (by simp)).keep hF id
  have c0 := hB2.cell (i := 0) rfl
  have c1 := hB2.cell (i := 1) rfl
  have hFw : Fr (fun _ => False) w w1 := (Fr.alloc _ _ _).trans ((Fr.alloc _ _ _).trans hF)
  clear hF
  go_wp2_with fail
  refine (rright_yes b k _ H2.out).mono ?_
  rintro e w2 ⟨rfl, hF2⟩
  have hB3 := hB.keep hF2 id
  have hB4 := hB2.keep hF2 id
  have hFw2 := hFw.trans hF2
  have HB3 := hid hB3
  have HB4 := hid hB4
  have HFW := hid hFw2
  clear hF2 hB hB2 c0 c1 hFw hB3 hB4 hFw2
  have c0 := HB3.out.cell (i := 0) rfl
  have c1 := HB3.out.cell (i := 1) rfl
  go_wp2_with fail
  refine (HZ1.out _).mono ?_
  rintro e w3 ⟨rfl, hF⟩
  go_wp2_with fail
  go_ret2
  exact ⟨rfl, HFW.out.trans hF⟩

set_option maxHeartbeats 800000 in
theorem begin_far2 (a l b k x y : Int) (w : World) (h1 : Rg.Right ⟨a, l⟩) (h2 : Rg.Right ⟨b, k⟩) (hx : Fits x) (hy : Fits y) (h : x ≤ y ∧ y - x ≤ pow l ∧ pow k < y - x) :
    Calls Try.prog 83 #[.agg #[.int .i64 a, .int .i64 l], .agg #[.int .i64 b, .int .i64 k], .int .i64 x, .int .i64 y] w fun e w' => NoCopy w e w' := by
  have h18 : l ≤ 8 := h1.2.1
  have h28 : k ≤ 8 := h2.2.1
  have H1 := hid h1
  have H2 := hid h2
  have HZ1 := hid (fun v => rsize_yes a l v h1)
  have HZ2 := hid (fun v => rsize_yes b k v h2)
  obtain ⟨n, hn⟩ : ∃ n, pow l = n := ⟨_, rfl⟩
  obtain ⟨m, hm⟩ : ∃ n, pow k = n := ⟨_, rfl⟩
  have n1 := pow_pos l
  have n2 := pow_le l h18
  have m1 := pow_pos k
  have m2 := pow_le k h28
  rw [hn] at n1 n2 HZ1
  rw [hm] at m1 m2 HZ2
  have tn : IntKind.u64.wrap n = n := by rw [wrap_u64']; omega
  have tm : IntKind.u64.wrap m = m := by rw [wrap_u64']; omega
  obtain ⟨x1, hx1⟩ : ∃ x1, IntKind.u64.wrap x = x1 := ⟨_, rfl⟩
  obtain ⟨y1, hy1⟩ : ∃ y1, IntKind.u64.wrap y = y1 := ⟨_, rfl⟩
  obtain ⟨d, hd⟩ : ∃ d, IntKind.u64.wrap (y1 - x1) = d := ⟨_, rfl⟩
  have hdd : x ≤ y → d = y - x := fun hxy => by
    rw [← hd, ← hx1, ← hy1, wrap_u64', wrap_u64', wrap_u64']
    unfold Fits at hx hy
    omega
  have t5 : decide (y < x) = false := by simp; omega
  have t6 : decide (n < d) = false := by have := hdd h.1; have h9 := h.2.1; rw [hn] at h9; simp; omega
  have t7 : decide (m < d) = true := by have := hdd h.1; have h9 := h.2.2; rw [hm] at h9; simp; omega
  clear h1 h2 h18 h28 hn hm n1 n2 m1 m2 hdd hx hy h
  go_enter Try.func83, Try.ntmps83
  go_wp2_with fail
  refine (rright_yes a l _ H1.out).mono ?_
  rintro e w1 ⟨rfl, hF⟩
  have hB := (((Blk.new w #[.int .i64 a, .int .i64 l] 47).alloc (.cells #[.int .i64 b, .int .i64 k] 47)).keep hF id)
  have hB2 := ((Blk.new (w.alloc (.cells #[.int .i64 a, .int .i64 l] 47)) #[.int .i64 b, .int .i64 k] 47).at (n := w.heap.size + 1) (by simp)).keep hF id
  have c0 := hB2.cell (i := 0) rfl
  have c1 := hB2.cell (i := 1) rfl
  have hFw : Fr (fun _ => False) w w1 := (Fr.alloc _ _ _).trans ((Fr.alloc _ _ _).trans hF)
  clear hF
  go_wp2_with fail
  refine (rright_yes b k _ H2.out).mono ?_
  rintro e w2 ⟨rfl, hF2⟩
  have hB3 := hB.keep hF2 id
  have hB4 := hB2.keep hF2 id
  have hFw2 := hFw.trans hF2
  have HB3 := hid hB3
  have HB4 := hid hB4
  have HFW := hid hFw2
  clear hF2 hB hB2 c0 c1 hFw hB3 hB4 hFw2
  have c0 := HB3.out.cell (i := 0) rfl
  have c1 := HB3.out.cell (i := 1) rfl
  go_wp2_with fail
  refine (HZ1.out _).mono ?_
  rintro e w3 ⟨rfl, hF⟩
  have HB5 := hid (HB4.out.keep hF id)
  have HB6 := hid (HB3.out.keep hF id)
  have HFW := hid (HFW.out.trans hF)
  clear hF c0 c1
  have c0 := HB5.out.cell (i := 0) rfl
  have c1 := HB5.out.cell (i := 1) rfl
  go_wp2_with fail
  refine (HZ2.out _).mono ?_
  rintro e w4 ⟨rfl, hF⟩
  go_wp2_with fail
  go_ret2
  exact ⟨rfl, HFW.out.trans hF⟩

def BeginPost (a l b k x y : Int) (w : World) (e : Ending) (w' : World) : Prop :=
  ∃ c : Nat, e = .returned (.tuple #[.pointer (some ⟨c, 0, none⟩), .int .i64 0]) ∧ IsD w' c ⟨a, l, b, k, x, y, 0, false⟩ ∧ Fr (fun _ => False) w w' ∧ w.heap.size ≤ c

set_option maxHeartbeats 800000 in
theorem begin_ok' (a l b k x y : Int) (w : World) (h1 : Rg.Right ⟨a, l⟩) (h2 : Rg.Right ⟨b, k⟩) (hx : Fits x) (hy : Fits y) (h : x ≤ y ∧ y - x ≤ pow l ∧ y - x ≤ pow k) :
    Calls Try.prog 83 #[.agg #[.int .i64 a, .int .i64 l], .agg #[.int .i64 b, .int .i64 k], .int .i64 x, .int .i64 y] w fun e w' => BeginPost a l b k x y w e w' := by
  have h18 : l ≤ 8 := h1.2.1
  have h28 : k ≤ 8 := h2.2.1
  have H1 := hid h1
  have H2 := hid h2
  have HZ1 := hid (fun v => rsize_yes a l v h1)
  have HZ2 := hid (fun v => rsize_yes b k v h2)
  obtain ⟨n, hn⟩ : ∃ n, pow l = n := ⟨_, rfl⟩
  obtain ⟨m, hm⟩ : ∃ n, pow k = n := ⟨_, rfl⟩
  have n1 := pow_pos l
  have n2 := pow_le l h18
  have m1 := pow_pos k
  have m2 := pow_le k h28
  rw [hn] at n1 n2 HZ1
  rw [hm] at m1 m2 HZ2
  have tn : IntKind.u64.wrap n = n := by rw [wrap_u64']; omega
  have tm : IntKind.u64.wrap m = m := by rw [wrap_u64']; omega
  obtain ⟨x1, hx1⟩ : ∃ x1, IntKind.u64.wrap x = x1 := ⟨_, rfl⟩
  obtain ⟨y1, hy1⟩ : ∃ y1, IntKind.u64.wrap y = y1 := ⟨_, rfl⟩
  obtain ⟨d, hd⟩ : ∃ d, IntKind.u64.wrap (y1 - x1) = d := ⟨_, rfl⟩
  have hdd : x ≤ y → d = y - x := fun hxy => by
    rw [← hd, ← hx1, ← hy1, wrap_u64', wrap_u64', wrap_u64']
    unfold Fits at hx hy
    omega
  have t5 : decide (y < x) = false := by simp; omega
  have t6 : decide (n < d) = false := by have := hdd h.1; have h9 := h.2.1; rw [hn] at h9; simp; omega
  have t7 : decide (m < d) = false := by have := hdd h.1; have h9 := h.2.2; rw [hm] at h9; simp; omega
  clear h1 h2 h18 h28 hn hm n1 n2 m1 m2 hdd hx hy h
  go_enter Try.func83, Try.ntmps83
  go_wp2_with fail
  refine (rright_yes a l _ H1.out).mono ?_
  rintro e w1 ⟨rfl, hF⟩
  have hB := (((Blk.new w #[.int .i64 a, .int .i64 l] 47).alloc (.cells #[.int .i64 b, .int .i64 k] 47)).keep hF id)
  have hB2 := ((Blk.new (w.alloc (.cells #[.int .i64 a, .int .i64 l] 47)) #[.int .i64 b, .int .i64 k] 47).at (n := w.heap.size + 1) (by simp)).keep hF id
  have c0 := hB2.cell (i := 0) rfl
  have c1 := hB2.cell (i := 1) rfl
  have hFw : Fr (fun _ => False) w w1 := (Fr.alloc _ _ _).trans ((Fr.alloc _ _ _).trans hF)
  clear hF
  go_wp2_with fail
  refine (rright_yes b k _ H2.out).mono ?_
  rintro e w2 ⟨rfl, hF2⟩
  have hB3 := hB.keep hF2 id
  have hB4 := hB2.keep hF2 id
  have hFw2 := hFw.trans hF2
  have HB3 := hid hB3
  have HB4 := hid hB4
  have HFW := hid hFw2
  clear hF2 hB hB2 c0 c1 hFw hB3 hB4 hFw2
  have c0 := HB3.out.cell (i := 0) rfl
  have c1 := HB3.out.cell (i := 1) rfl
  go_wp2_with fail
  refine (HZ1.out _).mono ?_
  rintro e w3 ⟨rfl, hF⟩
  have HB5 := hid (HB4.out.keep hF id)
  have HB6 := hid (HB3.out.keep hF id)
  have HFW := hid (HFW.out.trans hF)
  clear hF c0 c1
  have c0 := HB5.out.cell (i := 0) rfl
  have c1 := HB5.out.cell (i := 1) rfl
  go_wp2_with fail
  refine (HZ2.out _).mono ?_
  rintro e w4 ⟨rfl, hF⟩
  have c00 := (HB6.out.keep hF id).cell (i := 0) rfl
  have c01 := (HB6.out.keep hF id).cell (i := 1) rfl
  have c10 := (HB5.out.keep hF id).cell (i := 0) rfl
  have c11 := (HB5.out.keep hF id).cell (i := 1) rfl
  have HFW := hid (HFW.out.trans hF)
  clear hF c0 c1
  go_wp2_with fail
  go_ret2
  exact ⟨w4.heap.size, rfl, Blk.new w4 _ _, HFW.out.trans (Fr.alloc _ _ _), HFW.out.size⟩

set_option maxRecDepth 100000 in
set_option maxHeartbeats 1000000 in
theorem rstep_done (r g cp : Nat) (C : Cp) (L : List Int) (e0 : Int) (w : World) (hD : IsD w r C) (hd : C.pl = C.til) :
    Calls Try.prog 84 #[.pointer (some ⟨r, 0, none⟩), .slice (some ⟨g, 0, none⟩) L.length cp, .int .i64 e0, .int .i64 2] w fun e w' => e = .returned (.tuple #[.bool true, .bool false, .int .i64 0]) ∧ Fr (fun _ => False) w w' := by
  obtain ⟨a, l, b, k, p, u, x, t⟩ := C
  simp only at hd
  have HD := hid hD
  have HFd := hid (Fr.refl (fun _ => False) w)
  clear hD
  have d4 := Blk.cell HD.out (i := 4) rfl
  have d5 := Blk.cell HD.out (i := 5) rfl
  subst hd
  go_enter Try.func84, Try.ntmps84
  go_upto_region 1 with fail
  go_quiet (fail)
  go_wp2_with fail
  go_ret3
  exact ⟨rfl, Fr.drewN _ _ _⟩

set_option maxRecDepth 100000 in
set_option maxHeartbeats 1000000 in
theorem rstep_noA (r g cp : Nat) (C : Cp) (L : List Int) (e0 : Int) (w : World) (hD : IsD w r C) (hd : C.pl ≠ C.til) (hl : C.loaded = false) (hno : ¬ (0 ≤ e0 ∧ e0 ≤ 2 ∧ Rg.place ⟨C.a, C.l⟩ C.pl < L.length)) (hpp : 0 ≤ Rg.place ⟨C.a, C.l⟩ C.pl) :
    Calls Try.prog 84 #[.pointer (some ⟨r, 0, none⟩), .slice (some ⟨g, 0, none⟩) L.length cp, .int .i64 e0, .int .i64 2] w fun e w' => e = .returned (.tuple #[.bool false, .bool false, .int .i64 10]) ∧ Fr (fun _ => False) w w' := by
  obtain ⟨a, l, b, k, p, u, x, t⟩ := C
  simp only at hd hl hno hpp
  subst hl
  have hdd : (p == u) = false := by simpa using hd
  clear hd
  have HP := hid (fun (v : World) => rplace_any a l p v)
  obtain ⟨y0, hy0⟩ : ∃ y, Rg.place ⟨a, l⟩ p = y := ⟨_, rfl⟩
  rw [hy0] at HP
  have hy1 := hy0
  obtain ⟨y1, hy2⟩ : ∃ y1, y0 = y1 := ⟨_, rfl⟩
  subst hy2
  rw [hy0] at hno hpp
  have HNO := hid hno
  clear hno
  have HD := hid hD
  have HFd := hid (Fr.refl (fun _ => False) w)
  clear hD hy0 hy1
  have d4 := Blk.cell HD.out (i := 4) rfl
  have d5 := Blk.cell HD.out (i := 5) rfl
  go_enter Try.func84, Try.ntmps84
  go_upto_region 1 with fail
  go_quiet (fail)
  go_upto_region 3 with fail
  have HFd := hid (Fr.drewN (fun _ => False) w nq)
  have HS := hid (show ∀ w', Fr (fun _ => False) w w' → w'.cell? ⟨r, 0, none⟩ = some (.int .i64 a) ∧ w'.cell? ⟨r, 1, none⟩ = some (.int .i64 l) ∧ w'.cell? ⟨r, 4, none⟩ = some (.int .i64 p) from fun w' F => ⟨Blk.cell (HD.out.same F) (i := 0) rfl, Blk.cell (HD.out.same F) (i := 1) rfl, Blk.cell (HD.out.same F) (i := 4) rfl⟩)
  go_region_held3 (fun w' => w'.cell? ⟨r, 0, none⟩ = some (.int .i64 a) ∧ w'.cell? ⟨r, 1, none⟩ = some (.int .i64 l) ∧ w'.cell? ⟨r, 4, none⟩ = some (.int .i64 p))
    (first | exact HS.out _ HFd.out | exact HS.out _ (HFd.out.trans (Fr.drew _ _)))
    (first | (go_at_call 67; (with_reducible refine (HP.out _).mono ?_); rintro e w6 ⟨rfl, hF6⟩; have HFd := hid (HFd.out.trans (Fr.trans (by first | exact Fr.refl _ _ | exact Fr.drew _ _) hF6)); clear hF6))
  all_goals
    have d6 := Blk.cell (HD.out.same HFd.out) (i := 6) rfl
    by_cases hw0 : e0 < 0
    · go_wp2_with fail
      go_ret3
      exact ⟨rfl, HFd.out⟩
    have tw0 : decide (e0 < 0) = false := by simp; omega
    by_cases hw2 : 2 < e0
    · clear hw0
      go_wp2_with fail
      go_ret3
      exact ⟨rfl, HFd.out⟩
    have tw2 : decide (2 < e0) = false := by simp; omega
    have ty : decide ((L.length : Int) ≤ y0) = true := by have := HNO.out; simp; omega
    clear hw0 hw2
    go_wp2_with fail
    go_ret3
    exact ⟨rfl, HFd.out⟩

set_option maxRecDepth 100000 in
set_option maxHeartbeats 1000000 in
theorem rstep_noB (r g cp : Nat) (C : Cp) (L : List Int) (e0 : Int) (w : World) (hD : IsD w r C) (hd : C.pl ≠ C.til) (hl : C.loaded = true) (hno : ¬ (0 ≤ e0 ∧ e0 ≤ 2 ∧ Rg.place ⟨C.b, C.k⟩ C.pl < L.length)) (hpp : 0 ≤ Rg.place ⟨C.b, C.k⟩ C.pl) :
    Calls Try.prog 84 #[.pointer (some ⟨r, 0, none⟩), .slice (some ⟨g, 0, none⟩) L.length cp, .int .i64 e0, .int .i64 2] w fun e w' => e = .returned (.tuple #[.bool false, .bool false, .int .i64 10]) ∧ Fr (fun _ => False) w w' := by
  obtain ⟨a, l, b, k, p, u, x, t⟩ := C
  simp only at hd hl hno hpp
  subst hl
  have hdd : (p == u) = false := by simpa using hd
  clear hd
  have HP := hid (fun (v : World) => rplace_any a l p v)
  obtain ⟨y0, hy0⟩ : ∃ y, Rg.place ⟨a, l⟩ p = y := ⟨_, rfl⟩
  rw [hy0] at HP
  have HP2 := hid (fun (v : World) => rplace_any b k p v)
  obtain ⟨y1, hy1⟩ : ∃ y, Rg.place ⟨b, k⟩ p = y := ⟨_, rfl⟩
  rw [hy1] at HP2
  rw [hy1] at hno hpp
  have HNO := hid hno
  clear hno
  have HD := hid hD
  have HFd := hid (Fr.refl (fun _ => False) w)
  clear hD hy0 hy1
  have d4 := Blk.cell HD.out (i := 4) rfl
  have d5 := Blk.cell HD.out (i := 5) rfl
  go_enter Try.func84, Try.ntmps84
  go_upto_region 1 with fail
  go_quiet (fail)
  go_upto_region 3 with fail
  have HFd := hid (Fr.drewN (fun _ => False) w nq)
  have HS := hid (show ∀ w', Fr (fun _ => False) w w' → w'.cell? ⟨r, 0, none⟩ = some (.int .i64 a) ∧ w'.cell? ⟨r, 1, none⟩ = some (.int .i64 l) ∧ w'.cell? ⟨r, 4, none⟩ = some (.int .i64 p) from fun w' F => ⟨Blk.cell (HD.out.same F) (i := 0) rfl, Blk.cell (HD.out.same F) (i := 1) rfl, Blk.cell (HD.out.same F) (i := 4) rfl⟩)
  go_region_held3 (fun w' => w'.cell? ⟨r, 0, none⟩ = some (.int .i64 a) ∧ w'.cell? ⟨r, 1, none⟩ = some (.int .i64 l) ∧ w'.cell? ⟨r, 4, none⟩ = some (.int .i64 p))
    (first | exact HS.out _ HFd.out | exact HS.out _ (HFd.out.trans (Fr.drew _ _)))
    (first | (go_at_call 67; (with_reducible refine (HP.out _).mono ?_); rintro e w6 ⟨rfl, hF6⟩; have HFd := hid (HFd.out.trans (Fr.trans (by first | exact Fr.refl _ _ | exact Fr.drew _ _) hF6)); clear hF6))
  all_goals
    have d6 := Blk.cell (HD.out.same HFd.out) (i := 6) rfl
    go_upto_region 5 with fail
    have r0 := Blk.cell (HD.out.same HFd.out) (i := 2) rfl
    have HS := hid (show ∀ w', Fr (fun _ => False) w w' → w'.cell? ⟨r, 2, none⟩ = some (.int .i64 b) ∧ w'.cell? ⟨r, 3, none⟩ = some (.int .i64 k) ∧ w'.cell? ⟨r, 4, none⟩ = some (.int .i64 p) from fun w' F => ⟨Blk.cell (HD.out.same F) (i := 2) rfl, Blk.cell (HD.out.same F) (i := 3) rfl, Blk.cell (HD.out.same F) (i := 4) rfl⟩)
    go_region_held3 (fun w' => w'.cell? ⟨r, 2, none⟩ = some (.int .i64 b) ∧ w'.cell? ⟨r, 3, none⟩ = some (.int .i64 k) ∧ w'.cell? ⟨r, 4, none⟩ = some (.int .i64 p))
      (first | exact HS.out _ HFd.out | exact HS.out _ (HFd.out.trans (Fr.drew _ _)))
      (first | (go_at_call 67; (with_reducible refine (HP2.out _).mono ?_); rintro e w6 ⟨rfl, hF6⟩; have HFd := hid (HFd.out.trans (Fr.trans (by first | exact Fr.refl _ _ | exact Fr.drew _ _) hF6)); clear hF6))
    all_goals
      have d6 := Blk.cell (HD.out.same HFd.out) (i := 6) rfl
      by_cases hw0 : e0 < 0
      · go_wp2_with fail
        go_ret3
        exact ⟨rfl, HFd.out⟩
      have tw0 : decide (e0 < 0) = false := by simp; omega
      by_cases hw2 : 2 < e0
      · clear hw0
        go_wp2_with fail
        go_ret3
        exact ⟨rfl, HFd.out⟩
      have tw2 : decide (2 < e0) = false := by simp; omega
      have ty : decide ((L.length : Int) ≤ y1) = true := by have := HNO.out; simp; omega
      clear hw0 hw2
      go_wp2_with fail
      go_ret3
      exact ⟨rfl, HFd.out⟩

set_option maxRecDepth 100000 in
set_option maxHeartbeats 1000000 in
theorem rstep_load (r g cp : Nat) (C : Cp) (L : List Int) (e0 : Int) (w : World) (hD : IsD w r C) (hd : C.pl ≠ C.til) (hl : C.loaded = false) (n : Nat) (he : 0 ≤ e0 ∧ e0 ≤ 2) (hn : Rg.place ⟨C.a, C.l⟩ C.pl = n) (hk : n < L.length) (hG : Blk w g (ints L)) (hrg : r ≠ g) :
    Calls Try.prog 84 #[.pointer (some ⟨r, 0, none⟩), .slice (some ⟨g, 0, none⟩) L.length cp, .int .i64 e0, .int .i64 2] w fun e w' => e = .returned (.tuple #[.bool false, .bool true, .int .i64 0]) ∧ IsD w' r { C with x := L.getD n 0, loaded := true } ∧ Blk w' g (ints L) ∧ Fr (fun i => i = r) w w' := by
  obtain ⟨a, l, b, k, p, u, x, t⟩ := C
  simp only at hd hl hn
  subst hl
  have hdd : (p == u) = false := by simpa using hd
  clear hd
  have HP := hid (fun (v : World) => rplace_any a l p v)
  obtain ⟨y0, hy0⟩ : ∃ y, Rg.place ⟨a, l⟩ p = y := ⟨_, rfl⟩
  rw [hy0] at HP
  have hy1 := hy0
  obtain ⟨y1, hy2⟩ : ∃ y1, y0 = y1 := ⟨_, rfl⟩
  subst hy2
  rw [hy0] at hn
  subst hn
  have te0 : decide (e0 < 0) = false := by simp; omega
  have te1 : decide (2 < e0) = false := by simp; omega
  have te2 : decide ((L.length : Int) ≤ (n : Int)) = false := by simp; omega
  have te2' : decide (L.length ≤ n) = false := by simp; omega
  have HD := hid hD
  have HFd := hid (Fr.refl (fun _ => False) w)
  obtain ⟨z, hz⟩ : ∃ z, L.getD n 0 = z := ⟨_, rfl⟩
  rw [hz]
  have HZ := hid hz
  clear hz
  have HG := hid hG
  have HRG := hid hrg
  clear hD hy0 hy1 hG hrg
  have d4 := Blk.cell HD.out (i := 4) rfl
  have d5 := Blk.cell HD.out (i := 5) rfl
  go_enter Try.func84, Try.ntmps84
  go_upto_region 1 with fail
  go_quiet (fail)
  go_upto_region 3 with fail
  have HFd := hid (Fr.drewN (fun _ => False) w nq)
  have HS := hid (show ∀ w', Fr (fun _ => False) w w' → w'.cell? ⟨r, 0, none⟩ = some (.int .i64 a) ∧ w'.cell? ⟨r, 1, none⟩ = some (.int .i64 l) ∧ w'.cell? ⟨r, 4, none⟩ = some (.int .i64 p) from fun w' F => ⟨Blk.cell (HD.out.same F) (i := 0) rfl, Blk.cell (HD.out.same F) (i := 1) rfl, Blk.cell (HD.out.same F) (i := 4) rfl⟩)
  go_region_held3 (fun w' => w'.cell? ⟨r, 0, none⟩ = some (.int .i64 a) ∧ w'.cell? ⟨r, 1, none⟩ = some (.int .i64 l) ∧ w'.cell? ⟨r, 4, none⟩ = some (.int .i64 p))
    (first | exact HS.out _ HFd.out | exact HS.out _ (HFd.out.trans (Fr.drew _ _)))
    (first | (go_at_call 67; (with_reducible refine (HP.out _).mono ?_); rintro e w6 ⟨rfl, hF6⟩; have HFd := hid (HFd.out.trans (Fr.trans (by first | exact Fr.refl _ _ | exact Fr.drew _ _) hF6)); clear hF6))
  all_goals
    have d6 := Blk.cell (HD.out.same HFd.out) (i := 6) rfl
    have hD7 := HD.out.same HFd.out
    have hG7 := HG.out.keep HFd.out id
    have hne := HRG.out
    have hne2 : g ≠ r := fun e => HRG.out e.symm
    have gk : _ := hG7.cell (ints_at L n hk)
    have gf := hG7.frozen n
    rw [HZ.out] at gk
    have f4 := Blk.frozen hD7 4
    have e4 := Blk.cell hD7 (i := 4) rfl
    have f5 := Blk.frozen hD7 5
    have e5 := Blk.cell hD7 (i := 5) rfl
    have f6 := Blk.frozen hD7 6
    have e6 := Blk.cell hD7 (i := 6) rfl
    have f7 := Blk.frozen hD7 7
    have e7 := Blk.cell hD7 (i := 7) rfl
    go_wp2_with fail
    go_ret3
    have hF9 : Fr (fun i => i = r) w6 ((w6.setCell ⟨r, 7, none⟩ (.int .i64 z)).setCell ⟨r, 6, none⟩ (.bool true)) := (Fr.setCell (S := fun i => i = r) _ _ _ rfl).trans (Fr.setCell _ _ _ rfl)
    refine ⟨rfl, ?_, hG7.keep hF9 hne2, (HFd.out.mono (fun _ h => h.elim)).trans hF9⟩
    simpa [IsD] using Blk.set (Blk.set hD7 7 (.int .i64 z)) 6 (.bool true)

set_option maxRecDepth 100000 in
set_option maxHeartbeats 1000000 in
theorem rstep_store (r g cp : Nat) (C : Cp) (L : List Int) (e0 : Int) (w : World) (hD : IsD w r C) (hd : C.pl ≠ C.til) (hl : C.loaded = true) (n : Nat) (he : 0 ≤ e0 ∧ e0 ≤ 2) (hn : Rg.place ⟨C.b, C.k⟩ C.pl = n) (hk : n < L.length) (hG : Blk w g (ints L)) (hrg : r ≠ g) (hlo : -9223372036854775808 ≤ C.pl) (hhi : C.pl < 9223372036854775807) :
    Calls Try.prog 84 #[.pointer (some ⟨r, 0, none⟩), .slice (some ⟨g, 0, none⟩) L.length cp, .int .i64 e0, .int .i64 2] w fun e w' => e = .returned (.tuple #[.bool (C.pl + 1 == C.til), .bool true, .int .i64 0]) ∧ IsD w' r { C with pl := C.pl + 1, loaded := false } ∧ Blk w' g (ints (L.set n C.x)) ∧ Fr (fun i => i = r ∨ i = g) w w' := by
  obtain ⟨a, l, b, k, p, u, x, t⟩ := C
  simp only at hd hl hn hlo hhi
  subst hl
  have hdd : (p == u) = false := by simpa using hd
  clear hd
  have HP := hid (fun (v : World) => rplace_any a l p v)
  obtain ⟨y0, hy0⟩ : ∃ y, Rg.place ⟨a, l⟩ p = y := ⟨_, rfl⟩
  rw [hy0] at HP
  have HP2 := hid (fun (v : World) => rplace_any b k p v)
  obtain ⟨y1, hy1⟩ : ∃ y, Rg.place ⟨b, k⟩ p = y := ⟨_, rfl⟩
  rw [hy1] at HP2
  rw [hy1] at hn
  subst hn
  have te0 : decide (e0 < 0) = false := by simp; omega
  have te1 : decide (2 < e0) = false := by simp; omega
  have te2 : decide ((L.length : Int) ≤ (n : Int)) = false := by simp; omega
  have te2' : decide (L.length ≤ n) = false := by simp; omega
  have HD := hid hD
  have HFd := hid (Fr.refl (fun _ => False) w)
  have HG := hid hG
  have HRG := hid hrg
  clear hD hy0 hy1 hG hrg
  have d4 := Blk.cell HD.out (i := 4) rfl
  have d5 := Blk.cell HD.out (i := 5) rfl
  go_enter Try.func84, Try.ntmps84
  go_upto_region 1 with fail
  go_quiet (fail)
  go_upto_region 3 with fail
  have HFd := hid (Fr.drewN (fun _ => False) w nq)
  have HS := hid (show ∀ w', Fr (fun _ => False) w w' → w'.cell? ⟨r, 0, none⟩ = some (.int .i64 a) ∧ w'.cell? ⟨r, 1, none⟩ = some (.int .i64 l) ∧ w'.cell? ⟨r, 4, none⟩ = some (.int .i64 p) from fun w' F => ⟨Blk.cell (HD.out.same F) (i := 0) rfl, Blk.cell (HD.out.same F) (i := 1) rfl, Blk.cell (HD.out.same F) (i := 4) rfl⟩)
  go_region_held3 (fun w' => w'.cell? ⟨r, 0, none⟩ = some (.int .i64 a) ∧ w'.cell? ⟨r, 1, none⟩ = some (.int .i64 l) ∧ w'.cell? ⟨r, 4, none⟩ = some (.int .i64 p))
    (first | exact HS.out _ HFd.out | exact HS.out _ (HFd.out.trans (Fr.drew _ _)))
    (first | (go_at_call 67; (with_reducible refine (HP.out _).mono ?_); rintro e w6 ⟨rfl, hF6⟩; have HFd := hid (HFd.out.trans (Fr.trans (by first | exact Fr.refl _ _ | exact Fr.drew _ _) hF6)); clear hF6))
  all_goals
    have d6 := Blk.cell (HD.out.same HFd.out) (i := 6) rfl
    go_upto_region 5 with fail
    have r0 := Blk.cell (HD.out.same HFd.out) (i := 2) rfl
    have HS := hid (show ∀ w', Fr (fun _ => False) w w' → w'.cell? ⟨r, 2, none⟩ = some (.int .i64 b) ∧ w'.cell? ⟨r, 3, none⟩ = some (.int .i64 k) ∧ w'.cell? ⟨r, 4, none⟩ = some (.int .i64 p) from fun w' F => ⟨Blk.cell (HD.out.same F) (i := 2) rfl, Blk.cell (HD.out.same F) (i := 3) rfl, Blk.cell (HD.out.same F) (i := 4) rfl⟩)
    go_region_held3 (fun w' => w'.cell? ⟨r, 2, none⟩ = some (.int .i64 b) ∧ w'.cell? ⟨r, 3, none⟩ = some (.int .i64 k) ∧ w'.cell? ⟨r, 4, none⟩ = some (.int .i64 p))
      (first | exact HS.out _ HFd.out | exact HS.out _ (HFd.out.trans (Fr.drew _ _)))
      (first | (go_at_call 67; (with_reducible refine (HP2.out _).mono ?_); rintro e w6 ⟨rfl, hF6⟩; have HFd := hid (HFd.out.trans (Fr.trans (by first | exact Fr.refl _ _ | exact Fr.drew _ _) hF6)); clear hF6))
    all_goals
      have d6 := Blk.cell (HD.out.same HFd.out) (i := 6) rfl
      have hD7 := HD.out.same HFd.out
      have hG7 := HG.out.keep HFd.out id
      have hne := HRG.out
      have hne2 : g ≠ r := fun e => HRG.out e.symm
      have gk : _ := hG7.cell (ints_at L n hk)
      have gf := hG7.frozen n
      obtain ⟨z, hz⟩ : ∃ z, L.getD n 0 = z := ⟨_, rfl⟩
      rw [hz] at gk
      have f4 := Blk.frozen hD7 4
      have e4 := Blk.cell hD7 (i := 4) rfl
      have f5 := Blk.frozen hD7 5
      have e5 := Blk.cell hD7 (i := 5) rfl
      have f6 := Blk.frozen hD7 6
      have e6 := Blk.cell hD7 (i := 6) rfl
      have f7 := Blk.frozen hD7 7
      have e7 := Blk.cell hD7 (i := 7) rfl
      have q1 : p + 1 ≤ 9223372036854775807 := by omega
      have q2 : -9223372036854775808 ≤ p + 1 := by omega
      clear hz
      go_upto_region 15 with fail
      go_quiet (fail)
      go_wp2_with fail
      go_ret3
      refine ⟨rfl, ?_, ?_, ?_⟩
      · have h9 := Blk.set (Blk.set (Blk.far hD7 n (.int .i64 x) hne) 6 (.bool false)) 4 (.int .i64 (p + 1))
        exact Blk.drewN (by simpa [IsD] using h9) _
      · rw [← ints_set]
        exact Blk.drewN (Blk.far (Blk.far (hG7.set n (.int .i64 x)) 6 _ hne2) 4 _ hne2) _
      · exact (HFd.out.mono (fun _ h => h.elim)).trans (((Fr.setCell (S := fun i => i = r ∨ i = g) _ _ _ (.inr rfl)).trans ((Fr.setCell _ _ _ (.inl rfl)).trans (Fr.setCell _ _ _ (.inl rfl)))).trans (Fr.drewN _ _ _))

end Go.Proofs.Ytiofdfgcghiibaa
