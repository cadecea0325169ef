/-
  Operations of the program: how they stand, and a step of any of them, from what its next step does.
-/
import Derived.Test.YtiofdfgcghiibaaOpA
namespace Go.Proofs.Ytiofdfgcghiibaa
open Go.RowKit
set_option linter.unusedVariables false

set_option maxHeartbeats 400000 in
theorem stands_c (a : Addr) (w : World) :
    Calls Try.prog 128 #[.pointer (some a)] w fun e w' => e = .returned (.pointer (some a)) ∧ w = w' := by
  go_enter Try.func128, Try.ntmps128
  go_wp2
  go_ret
  exact ⟨rfl, rfl⟩

set_option maxHeartbeats 400000 in
theorem ended_is (q : Nat) (c : Array Value) (how : Int) (w : World) (hB : Blk w q c) (h6 : c[6]? = some (.int .i64 how)) :
    Calls Try.prog 55 #[.pointer (some ⟨q, 0, none⟩)] w fun e w' => e = .returned (.bool (how != 0 && how != 2)) ∧ w = w' := by
  have c6 := hB.cell h6
  rcases hb0 : (how != 0) with _ | _
  · go_enter Try.func55, Try.ntmps55
    go_wp2
    go_ret
    exact ⟨by simp, rfl⟩
  · go_enter Try.func55, Try.ntmps55
    go_wp2
    go_ret
    exact ⟨by simp, rfl⟩

theorem Fr.of_eq {S : Nat → Prop} {w w' : World} (h : w = w') : Fr S w w' := h ▸ Fr.refl S w

theorem m_stands_push (q : Nat) : ∀ w : World, (method 269 110 (.pointer (some ⟨q, 0, none⟩)) "peloton/deque.stands").run Try.prog w = .ok (128, .pointer (some ⟨q, 0, none⟩)) w := fun _ => by kernel_rfl
theorem m_do_push (q : Nat) : ∀ w : World, (method 269 110 (.pointer (some ⟨q, 0, none⟩)) "peloton/deque.do").run Try.prog w = .ok (129, .pointer (some ⟨q, 0, none⟩)) w := fun _ => by kernel_rfl

set_option maxHeartbeats 400000 in
theorem stands_push (o q : Nat) (w : World) (h : Blk w o #[.iface 110 (.pointer (some ⟨q, 0, none⟩))]) :
    Calls Try.prog 54 #[.pointer (some ⟨o, 0, none⟩)] w fun e w' => e = .returned (.pointer (some ⟨q, 0, none⟩)) ∧ w = w' := by
  have c0 := h.cell (i := 0) rfl
  have hm := m_stands_push q
  go_enter Try.func54, Try.ntmps54
  go_wp2_with fail
  refine (stands_c _ _).mono ?_
  rintro e w1 ⟨rfl, rfl⟩
  go_wp2_with fail
  go_ret
  exact ⟨rfl, rfl⟩

set_option maxHeartbeats 400000 in
theorem do_push (mp : Value) (x er : Int) (q f : Nat) (c c' : Array Value) (S : Nat → Prop) (Q : World → Prop) (w : World) (hmp : mp = .pointer none ∨ ∃ a, mp = .pointer (some a)) (hcf : ∀ args W, (callFunc f args).run Try.prog W = .ok (.enter f args) W) (hB : Blk w q c) (hf : c[13]? = some (fnv f))
    (hN : Calls Try.prog f #[.pointer (some ⟨q, 0, none⟩), mp, .int .i64 x] w fun e w' => e = .returned (.int .i64 er) ∧ Blk w' q c' ∧ Q w' ∧ Fr S w w') :
    Calls Try.prog 129 #[.pointer (some ⟨q, 0, none⟩), mp, .int .i64 x] w fun e w' => e = .returned (.int .i64 er) ∧ Blk w' q c' ∧ Q w' ∧ Fr S w w' := by
  have cn := hB.cell hf
  unfold fnv at cn
  have HN := hid hN
  clear hN hB hf
  rcases hmp with rfl | ⟨a, rfl⟩ <;>
  · go_enter Try.func129, Try.ntmps129
    go_wp2_with fail
    refine HN.out.mono ?_
    rintro e w1 ⟨rfl, hB1, hQ1, hF1⟩
    go_wp2_with fail
    go_ret
    exact ⟨rfl, hB1, hQ1, hF1⟩

set_option maxHeartbeats 400000 in
theorem step_push (mp : Value) (x er how how' : Int) (o q f : Nat) (c c' : Array Value) (S : Nat → Prop) (Q : World → Prop) (w : World) (hmp : mp = .pointer none ∨ ∃ a, mp = .pointer (some a)) (hcf : ∀ args W, (callFunc f args).run Try.prog W = .ok (.enter f args) W) (hO : Blk w o #[.iface 110 (.pointer (some ⟨q, 0, none⟩))]) (hB : Blk w q c) (hf : c[13]? = some (fnv f))
    (h6 : c[6]? = some (.int .i64 how)) (hh : (how != 0 && how != 2) = false) (h6' : c'[6]? = some (.int .i64 how')) (her : (er != 0) = false)
    (hN : ∀ w1, Fr (fun _ => False) w w1 → Calls Try.prog f #[.pointer (some ⟨q, 0, none⟩), mp, .int .i64 x] w1 fun e w' => e = .returned (.int .i64 er) ∧ Blk w' q c' ∧ Q w' ∧ Fr S w1 w') :
    Calls Try.prog 18 #[.pointer (some ⟨o, 0, none⟩), mp, .int .i64 x] w fun e w' => e = .returned (.int .i64 how') ∧ Blk w' q c' ∧ Q w' ∧ Fr S w w' := by
  have c0 := hO.cell (i := 0) rfl
  have hm := m_do_push q
  have HST := hid (stands_push o q w hO)
  have HEN := hid (ended_is q c how w hB h6)
  rw [hh] at HEN
  have HDO := hid (fun w1 (F : Fr (fun _ => False) w w1) => do_push mp x er q f c c' S Q w1 hmp hcf (hB.keep F id) hf (hN w1 F))
  have HO := hid hO
  have H6 := hid h6'
  clear hO hB h6 hh hN h6' hf hcf
  rcases hmp with rfl | ⟨a, rfl⟩ <;>
  · go_enter Try.func18, Try.ntmps18
    go_wp2_with fail
    refine HST.out.mono ?_
    rintro e w1 ⟨rfl, rfl⟩
    go_wp2_with fail
    refine HEN.out.mono ?_
    rintro e w2 ⟨rfl, he2⟩
    have hF2 : Fr (fun _ => False) w w2 := Fr.of_eq he2
    clear he2
    have d0 := (HO.out.keep hF2 id).cell (i := 0) rfl
    have HF2 := hid hF2
    clear hF2
    go_wp2_with fail
    refine (HDO.out _ HF2.out).mono ?_
    rintro e w3 ⟨rfl, hB3, hQ3, hF3⟩
    have d6 := hB3.cell H6.out
    have HB3 := hid hB3
    clear hB3
    go_wp2_with fail
    go_ret
    exact ⟨rfl, HB3.out, hQ3, (HF2.out.mono fun _ h => h.elim).trans hF3⟩

set_option maxHeartbeats 400000 in
theorem broke_push (mp : Value) (x er how : Int) (o q f : Nat) (c c' : Array Value) (S : Nat → Prop) (Q : World → Prop) (w : World) (hmp : mp = .pointer none ∨ ∃ a, mp = .pointer (some a)) (hcf : ∀ args W, (callFunc f args).run Try.prog W = .ok (.enter f args) W) (hO : Blk w o #[.iface 110 (.pointer (some ⟨q, 0, none⟩))]) (hB : Blk w q c) (hf : c[13]? = some (fnv f))
    (h6 : c[6]? = some (.int .i64 how)) (hh : (how != 0 && how != 2) = false) (h6' : ∃ y, c'[6]? = some y) (h8' : ∃ y, c'[8]? = some y) (her : (er != 0) = true) (hQ : Stays q Q)
    (hN : ∀ w1, Fr (fun _ => False) w w1 → Calls Try.prog f #[.pointer (some ⟨q, 0, none⟩), mp, .int .i64 x] w1 fun e w' => e = .returned (.int .i64 er) ∧ Blk w' q c' ∧ Q w' ∧ Fr (And_ S q) w1 w') :
    Calls Try.prog 18 #[.pointer (some ⟨o, 0, none⟩), mp, .int .i64 x] w fun e w' => e = .returned (.int .i64 6) ∧ Blk w' q ((c'.setIfInBounds 6 (.int .i64 6)).setIfInBounds 8 (.int .i64 er)) ∧ Q w' ∧ Fr (And_ S q) w w' := by
  obtain ⟨y6, h6'⟩ := h6'
  obtain ⟨y8, h8'⟩ := h8'
  have c0 := hO.cell (i := 0) rfl
  have hm := m_do_push q
  have HST := hid (stands_push o q w hO)
  have HEN := hid (ended_is q c how w hB h6)
  rw [hh] at HEN
  have HDO := hid (fun w1 (F : Fr (fun _ => False) w w1) => do_push mp x er q f c c' (And_ S q) Q w1 hmp hcf (hB.keep F id) hf (hN w1 F))
  have HO := hid hO
  have H6 := hid h6'
  have H8 := hid h8'
  have HQ := hid hQ
  clear hO hB h6 hh hN h6' hf h8' hQ hcf
  rcases hmp with rfl | ⟨a, rfl⟩ <;>
  · go_enter Try.func18, Try.ntmps18
    go_wp2_with fail
    refine HST.out.mono ?_
    rintro e w1 ⟨rfl, rfl⟩
    go_wp2_with fail
    refine HEN.out.mono ?_
    rintro e w2 ⟨rfl, he2⟩
    have hF2 : Fr (fun _ => False) w w2 := Fr.of_eq he2
    clear he2
    have d0 := (HO.out.keep hF2 id).cell (i := 0) rfl
    have HF2 := hid hF2
    clear hF2
    go_wp2_with fail
    refine (HDO.out _ HF2.out).mono ?_
    rintro e w3 ⟨rfl, hB3, hQ3, hF3⟩
    have d6 := hB3.cell H6.out
    have g6 := hB3.frozen 6
    have d8 := hB3.cell H8.out
    have g8 := hB3.frozen 8
    have HB3 := hid hB3
    clear hB3
    have e6 : (w3.setCell ⟨q, 6, none⟩ (.int .i64 6)).cell? ⟨q, 6, none⟩ = some (.int .i64 6) := (HB3.out.set 6 _).cell (by simp [lt_of_get H6.out])
    go_wp2_with fail
    go_ret
    exact ⟨rfl, (HB3.out.set 6 _).set 8 _, HQ.out _ _ hQ3 ((fr_cell _ _ _ _).trans (fr_cell _ _ _ _)), ((fr_no S q HF2.out).trans hF3).trans (fr_to S q ((fr_cell _ _ _ _).trans (fr_cell _ _ _ _)))⟩

set_option maxHeartbeats 400000 in
theorem still_push (mp : Value) (x how : Int) (o q : Nat) (c : Array Value) (w : World) (hmp : mp = .pointer none ∨ ∃ a, mp = .pointer (some a)) (hO : Blk w o #[.iface 110 (.pointer (some ⟨q, 0, none⟩))]) (hB : Blk w q c)
    (h6 : c[6]? = some (.int .i64 how)) (hh : (how != 0 && how != 2) = true) :
    Calls Try.prog 18 #[.pointer (some ⟨o, 0, none⟩), mp, .int .i64 x] w fun e w' => e = .returned (.int .i64 how) ∧ w = w' := by
  have HST := hid (stands_push o q w hO)
  have HEN := hid (ended_is q c how w hB h6)
  rw [hh] at HEN
  have HB := hid hB
  have H6 := hid h6
  clear hO hB h6 hh
  rcases hmp with rfl | ⟨a, rfl⟩ <;>
  · go_enter Try.func18, Try.ntmps18
    go_wp2_with fail
    refine HST.out.mono ?_
    rintro e w1 ⟨rfl, rfl⟩
    go_wp2_with fail
    refine HEN.out.mono ?_
    rintro e w2 ⟨rfl, rfl⟩
    have d6 := HB.out.cell H6.out
    go_wp2_with fail
    go_ret
    exact ⟨rfl, rfl⟩

set_option maxHeartbeats 400000 in
theorem got_push (how got : Int) (o q : Nat) (c : Array Value) (w : World) (hO : Blk w o #[.iface 110 (.pointer (some ⟨q, 0, none⟩))]) (hB : Blk w q c)
    (h6 : c[6]? = some (.int .i64 how)) (h7 : (how = 2 ∨ how = 1) → c[7]? = some (.int .i64 got)) :
    Calls Try.prog 20 #[.pointer (some ⟨o, 0, none⟩)] w fun e w' => e = .returned (.int .i64 (if how = 2 ∨ how = 1 then got else 0)) ∧ w = w' := by
  have HST := hid (stands_push o q w hO)
  have c6 := hB.cell h6
  have HB := hid hB
  by_cases h2 : how = 2
  · have c7 := hB.cell (h7 (.inl h2))
    rw [if_pos (.inl h2)]
    subst h2
    clear hO hB h6 h7
    go_enter Try.func20, Try.ntmps20
    go_wp2_with fail
    refine HST.out.mono ?_
    rintro e w1 ⟨rfl, rfl⟩
    go_wp2_with fail
    go_ret
    exact ⟨rfl, rfl⟩
  · by_cases h1 : how = 1
    · have c7 := hB.cell (h7 (.inr h1))
      rw [if_pos (.inr h1)]
      subst h1
      clear hO hB h6 h7 h2
      go_enter Try.func20, Try.ntmps20
      go_wp2_with fail
      refine HST.out.mono ?_
      rintro e w1 ⟨rfl, rfl⟩
      go_wp2_with fail
      go_ret
      exact ⟨rfl, rfl⟩
    · rw [if_neg (fun hh => hh.elim h2 h1)]
      have t1 : (how == 2) = false := by simpa using h2
      have t2 : (how == 1) = false := by simpa using h1
      clear hO hB h6 h7 h2 h1
      go_enter Try.func20, Try.ntmps20
      go_wp2_with fail
      refine HST.out.mono ?_
      rintro e w1 ⟨rfl, rfl⟩
      go_wp2_with fail
      go_ret
      exact ⟨rfl, rfl⟩

set_option maxHeartbeats 400000 in
theorem err_push (er : Int) (o q : Nat) (c : Array Value) (w : World) (hO : Blk w o #[.iface 110 (.pointer (some ⟨q, 0, none⟩))]) (hB : Blk w q c) (h8 : c[8]? = some (.int .i64 er)) :
    Calls Try.prog 22 #[.pointer (some ⟨o, 0, none⟩)] w fun e w' => e = .returned (.int .i64 er) ∧ w = w' := by
  have HST := hid (stands_push o q w hO)
  have c8 := hB.cell h8
  clear hO hB h8
  go_enter Try.func22, Try.ntmps22
  go_wp2_with fail
  refine HST.out.mono ?_
  rintro e w1 ⟨rfl, rfl⟩
  go_wp2_with fail
  go_ret
  exact ⟨rfl, rfl⟩

theorem m_stands_pop (q : Nat) : ∀ w : World, (method 269 115 (.pointer (some ⟨q, 0, none⟩)) "peloton/deque.stands").run Try.prog w = .ok (128, .pointer (some ⟨q, 0, none⟩)) w := fun _ => by kernel_rfl
theorem m_do_pop (q : Nat) : ∀ w : World, (method 269 115 (.pointer (some ⟨q, 0, none⟩)) "peloton/deque.do").run Try.prog w = .ok (130, .pointer (some ⟨q, 0, none⟩)) w := fun _ => by kernel_rfl

set_option maxHeartbeats 400000 in
theorem stands_pop (o q : Nat) (w : World) (h : Blk w o #[.iface 115 (.pointer (some ⟨q, 0, none⟩))]) :
    Calls Try.prog 54 #[.pointer (some ⟨o, 0, none⟩)] w fun e w' => e = .returned (.pointer (some ⟨q, 0, none⟩)) ∧ w = w' := by
  have c0 := h.cell (i := 0) rfl
  have hm := m_stands_pop q
  go_enter Try.func54, Try.ntmps54
  go_wp2_with fail
  refine (stands_c _ _).mono ?_
  rintro e w1 ⟨rfl, rfl⟩
  go_wp2_with fail
  go_ret
  exact ⟨rfl, rfl⟩

set_option maxHeartbeats 400000 in
theorem do_pop (mp : Value) (x er : Int) (q f : Nat) (c c' : Array Value) (S : Nat → Prop) (Q : World → Prop) (w : World) (hmp : mp = .pointer none ∨ ∃ a, mp = .pointer (some a)) (hcf : ∀ args W, (callFunc f args).run Try.prog W = .ok (.enter f args) W) (hB : Blk w q c) (hf : c[10]? = some (fnv f))
    (hN : Calls Try.prog f #[.pointer (some ⟨q, 0, none⟩), mp, .int .i64 x] w fun e w' => e = .returned (.int .i64 er) ∧ Blk w' q c' ∧ Q w' ∧ Fr S w w') :
    Calls Try.prog 130 #[.pointer (some ⟨q, 0, none⟩), mp, .int .i64 x] w fun e w' => e = .returned (.int .i64 er) ∧ Blk w' q c' ∧ Q w' ∧ Fr S w w' := by
  have cn := hB.cell hf
  unfold fnv at cn
  have HN := hid hN
  clear hN hB hf
  rcases hmp with rfl | ⟨a, rfl⟩ <;>
  · go_enter Try.func130, Try.ntmps130
    go_wp2_with fail
    refine HN.out.mono ?_
    rintro e w1 ⟨rfl, hB1, hQ1, hF1⟩
    go_wp2_with fail
    go_ret
    exact ⟨rfl, hB1, hQ1, hF1⟩

set_option maxHeartbeats 400000 in
theorem step_pop (mp : Value) (x er how how' : Int) (o q f : Nat) (c c' : Array Value) (S : Nat → Prop) (Q : World → Prop) (w : World) (hmp : mp = .pointer none ∨ ∃ a, mp = .pointer (some a)) (hcf : ∀ args W, (callFunc f args).run Try.prog W = .ok (.enter f args) W) (hO : Blk w o #[.iface 115 (.pointer (some ⟨q, 0, none⟩))]) (hB : Blk w q c) (hf : c[10]? = some (fnv f))
    (h6 : c[6]? = some (.int .i64 how)) (hh : (how != 0 && how != 2) = false) (h6' : c'[6]? = some (.int .i64 how')) (her : (er != 0) = false)
    (hN : ∀ w1, Fr (fun _ => False) w w1 → Calls Try.prog f #[.pointer (some ⟨q, 0, none⟩), mp, .int .i64 x] w1 fun e w' => e = .returned (.int .i64 er) ∧ Blk w' q c' ∧ Q w' ∧ Fr S w1 w') :
    Calls Try.prog 18 #[.pointer (some ⟨o, 0, none⟩), mp, .int .i64 x] w fun e w' => e = .returned (.int .i64 how') ∧ Blk w' q c' ∧ Q w' ∧ Fr S w w' := by
  have c0 := hO.cell (i := 0) rfl
  have hm := m_do_pop q
  have HST := hid (stands_pop o q w hO)
  have HEN := hid (ended_is q c how w hB h6)
  rw [hh] at HEN
  have HDO := hid (fun w1 (F : Fr (fun _ => False) w w1) => do_pop mp x er q f c c' S Q w1 hmp hcf (hB.keep F id) hf (hN w1 F))
  have HO := hid hO
  have H6 := hid h6'
  clear hO hB h6 hh hN h6' hf hcf
  rcases hmp with rfl | ⟨a, rfl⟩ <;>
  · go_enter Try.func18, Try.ntmps18
    go_wp2_with fail
    refine HST.out.mono ?_
    rintro e w1 ⟨rfl, rfl⟩
    go_wp2_with fail
    refine HEN.out.mono ?_
    rintro e w2 ⟨rfl, he2⟩
    have hF2 : Fr (fun _ => False) w w2 := Fr.of_eq he2
    clear he2
    have d0 := (HO.out.keep hF2 id).cell (i := 0) rfl
    have HF2 := hid hF2
    clear hF2
    go_wp2_with fail
    refine (HDO.out _ HF2.out).mono ?_
    rintro e w3 ⟨rfl, hB3, hQ3, hF3⟩
    have d6 := hB3.cell H6.out
    have HB3 := hid hB3
    clear hB3
    go_wp2_with fail
    go_ret
    exact ⟨rfl, HB3.out, hQ3, (HF2.out.mono fun _ h => h.elim).trans hF3⟩

set_option maxHeartbeats 400000 in
theorem broke_pop (mp : Value) (x er how : Int) (o q f : Nat) (c c' : Array Value) (S : Nat → Prop) (Q : World → Prop) (w : World) (hmp : mp = .pointer none ∨ ∃ a, mp = .pointer (some a)) (hcf : ∀ args W, (callFunc f args).run Try.prog W = .ok (.enter f args) W) (hO : Blk w o #[.iface 115 (.pointer (some ⟨q, 0, none⟩))]) (hB : Blk w q c) (hf : c[10]? = some (fnv f))
    (h6 : c[6]? = some (.int .i64 how)) (hh : (how != 0 && how != 2) = false) (h6' : ∃ y, c'[6]? = some y) (h8' : ∃ y, c'[8]? = some y) (her : (er != 0) = true) (hQ : Stays q Q)
    (hN : ∀ w1, Fr (fun _ => False) w w1 → Calls Try.prog f #[.pointer (some ⟨q, 0, none⟩), mp, .int .i64 x] w1 fun e w' => e = .returned (.int .i64 er) ∧ Blk w' q c' ∧ Q w' ∧ Fr (And_ S q) w1 w') :
    Calls Try.prog 18 #[.pointer (some ⟨o, 0, none⟩), mp, .int .i64 x] w fun e w' => e = .returned (.int .i64 6) ∧ Blk w' q ((c'.setIfInBounds 6 (.int .i64 6)).setIfInBounds 8 (.int .i64 er)) ∧ Q w' ∧ Fr (And_ S q) w w' := by
  obtain ⟨y6, h6'⟩ := h6'
  obtain ⟨y8, h8'⟩ := h8'
  have c0 := hO.cell (i := 0) rfl
  have hm := m_do_pop q
  have HST := hid (stands_pop o q w hO)
  have HEN := hid (ended_is q c how w hB h6)
  rw [hh] at HEN
  have HDO := hid (fun w1 (F : Fr (fun _ => False) w w1) => do_pop mp x er q f c c' (And_ S q) Q w1 hmp hcf (hB.keep F id) hf (hN w1 F))
  have HO := hid hO
  have H6 := hid h6'
  have H8 := hid h8'
  have HQ := hid hQ
  clear hO hB h6 hh hN h6' hf h8' hQ hcf
  rcases hmp with rfl | ⟨a, rfl⟩ <;>
  · go_enter Try.func18, Try.ntmps18
    go_wp2_with fail
    refine HST.out.mono ?_
    rintro e w1 ⟨rfl, rfl⟩
    go_wp2_with fail
    refine HEN.out.mono ?_
    rintro e w2 ⟨rfl, he2⟩
    have hF2 : Fr (fun _ => False) w w2 := Fr.of_eq he2
    clear he2
    have d0 := (HO.out.keep hF2 id).cell (i := 0) rfl
    have HF2 := hid hF2
    clear hF2
    go_wp2_with fail
    refine (HDO.out _ HF2.out).mono ?_
    rintro e w3 ⟨rfl, hB3, hQ3, hF3⟩
    have d6 := hB3.cell H6.out
    have g6 := hB3.frozen 6
    have d8 := hB3.cell H8.out
    have g8 := hB3.frozen 8
    have HB3 := hid hB3
    clear hB3
    have e6 : (w3.setCell ⟨q, 6, none⟩ (.int .i64 6)).cell? ⟨q, 6, none⟩ = some (.int .i64 6) := (HB3.out.set 6 _).cell (by simp [lt_of_get H6.out])
    go_wp2_with fail
    go_ret
    exact ⟨rfl, (HB3.out.set 6 _).set 8 _, HQ.out _ _ hQ3 ((fr_cell _ _ _ _).trans (fr_cell _ _ _ _)), ((fr_no S q HF2.out).trans hF3).trans (fr_to S q ((fr_cell _ _ _ _).trans (fr_cell _ _ _ _)))⟩

set_option maxHeartbeats 400000 in
theorem still_pop (mp : Value) (x how : Int) (o q : Nat) (c : Array Value) (w : World) (hmp : mp = .pointer none ∨ ∃ a, mp = .pointer (some a)) (hO : Blk w o #[.iface 115 (.pointer (some ⟨q, 0, none⟩))]) (hB : Blk w q c)
    (h6 : c[6]? = some (.int .i64 how)) (hh : (how != 0 && how != 2) = true) :
    Calls Try.prog 18 #[.pointer (some ⟨o, 0, none⟩), mp, .int .i64 x] w fun e w' => e = .returned (.int .i64 how) ∧ w = w' := by
  have HST := hid (stands_pop o q w hO)
  have HEN := hid (ended_is q c how w hB h6)
  rw [hh] at HEN
  have HB := hid hB
  have H6 := hid h6
  clear hO hB h6 hh
  rcases hmp with rfl | ⟨a, rfl⟩ <;>
  · go_enter Try.func18, Try.ntmps18
    go_wp2_with fail
    refine HST.out.mono ?_
    rintro e w1 ⟨rfl, rfl⟩
    go_wp2_with fail
    refine HEN.out.mono ?_
    rintro e w2 ⟨rfl, rfl⟩
    have d6 := HB.out.cell H6.out
    go_wp2_with fail
    go_ret
    exact ⟨rfl, rfl⟩

set_option maxHeartbeats 400000 in
theorem got_pop (how got : Int) (o q : Nat) (c : Array Value) (w : World) (hO : Blk w o #[.iface 115 (.pointer (some ⟨q, 0, none⟩))]) (hB : Blk w q c)
    (h6 : c[6]? = some (.int .i64 how)) (h7 : (how = 2 ∨ how = 1) → c[7]? = some (.int .i64 got)) :
    Calls Try.prog 20 #[.pointer (some ⟨o, 0, none⟩)] w fun e w' => e = .returned (.int .i64 (if how = 2 ∨ how = 1 then got else 0)) ∧ w = w' := by
  have HST := hid (stands_pop o q w hO)
  have c6 := hB.cell h6
  have HB := hid hB
  by_cases h2 : how = 2
  · have c7 := hB.cell (h7 (.inl h2))
    rw [if_pos (.inl h2)]
    subst h2
    clear hO hB h6 h7
    go_enter Try.func20, Try.ntmps20
    go_wp2_with fail
    refine HST.out.mono ?_
    rintro e w1 ⟨rfl, rfl⟩
    go_wp2_with fail
    go_ret
    exact ⟨rfl, rfl⟩
  · by_cases h1 : how = 1
    · have c7 := hB.cell (h7 (.inr h1))
      rw [if_pos (.inr h1)]
      subst h1
      clear hO hB h6 h7 h2
      go_enter Try.func20, Try.ntmps20
      go_wp2_with fail
      refine HST.out.mono ?_
      rintro e w1 ⟨rfl, rfl⟩
      go_wp2_with fail
      go_ret
      exact ⟨rfl, rfl⟩
    · rw [if_neg (fun hh => hh.elim h2 h1)]
      have t1 : (how == 2) = false := by simpa using h2
      have t2 : (how == 1) = false := by simpa using h1
      clear hO hB h6 h7 h2 h1
      go_enter Try.func20, Try.ntmps20
      go_wp2_with fail
      refine HST.out.mono ?_
      rintro e w1 ⟨rfl, rfl⟩
      go_wp2_with fail
      go_ret
      exact ⟨rfl, rfl⟩

set_option maxHeartbeats 400000 in
theorem err_pop (er : Int) (o q : Nat) (c : Array Value) (w : World) (hO : Blk w o #[.iface 115 (.pointer (some ⟨q, 0, none⟩))]) (hB : Blk w q c) (h8 : c[8]? = some (.int .i64 er)) :
    Calls Try.prog 22 #[.pointer (some ⟨o, 0, none⟩)] w fun e w' => e = .returned (.int .i64 er) ∧ w = w' := by
  have HST := hid (stands_pop o q w hO)
  have c8 := hB.cell h8
  clear hO hB h8
  go_enter Try.func22, Try.ntmps22
  go_wp2_with fail
  refine HST.out.mono ?_
  rintro e w1 ⟨rfl, rfl⟩
  go_wp2_with fail
  go_ret
  exact ⟨rfl, rfl⟩

theorem m_stands_steal (q : Nat) : ∀ w : World, (method 269 100 (.pointer (some ⟨q, 0, none⟩)) "peloton/deque.stands").run Try.prog w = .ok (128, .pointer (some ⟨q, 0, none⟩)) w := fun _ => by kernel_rfl
theorem m_do_steal (q : Nat) : ∀ w : World, (method 269 100 (.pointer (some ⟨q, 0, none⟩)) "peloton/deque.do").run Try.prog w = .ok (127, .pointer (some ⟨q, 0, none⟩)) w := fun _ => by kernel_rfl

set_option maxHeartbeats 400000 in
theorem stands_steal (o q : Nat) (w : World) (h : Blk w o #[.iface 100 (.pointer (some ⟨q, 0, none⟩))]) :
    Calls Try.prog 54 #[.pointer (some ⟨o, 0, none⟩)] w fun e w' => e = .returned (.pointer (some ⟨q, 0, none⟩)) ∧ w = w' := by
  have c0 := h.cell (i := 0) rfl
  have hm := m_stands_steal q
  go_enter Try.func54, Try.ntmps54
  go_wp2_with fail
  refine (stands_c _ _).mono ?_
  rintro e w1 ⟨rfl, rfl⟩
  go_wp2_with fail
  go_ret
  exact ⟨rfl, rfl⟩

set_option maxHeartbeats 400000 in
theorem do_steal (mp : Value) (x er : Int) (q f : Nat) (c c' : Array Value) (S : Nat → Prop) (Q : World → Prop) (w : World) (hmp : mp = .pointer none ∨ ∃ a, mp = .pointer (some a)) (hcf : ∀ args W, (callFunc f args).run Try.prog W = .ok (.enter f args) W) (hB : Blk w q c) (hf : c[9]? = some (fnv f))
    (hN : Calls Try.prog f #[.pointer (some ⟨q, 0, none⟩), mp, .int .i64 x] w fun e w' => e = .returned (.int .i64 er) ∧ Blk w' q c' ∧ Q w' ∧ Fr S w w') :
    Calls Try.prog 127 #[.pointer (some ⟨q, 0, none⟩), mp, .int .i64 x] w fun e w' => e = .returned (.int .i64 er) ∧ Blk w' q c' ∧ Q w' ∧ Fr S w w' := by
  have cn := hB.cell hf
  unfold fnv at cn
  have HN := hid hN
  clear hN hB hf
  rcases hmp with rfl | ⟨a, rfl⟩ <;>
  · go_enter Try.func127, Try.ntmps127
    go_wp2_with fail
    refine HN.out.mono ?_
    rintro e w1 ⟨rfl, hB1, hQ1, hF1⟩
    go_wp2_with fail
    go_ret
    exact ⟨rfl, hB1, hQ1, hF1⟩

set_option maxHeartbeats 400000 in
theorem step_steal (mp : Value) (x er how how' : Int) (o q f : Nat) (c c' : Array Value) (S : Nat → Prop) (Q : World → Prop) (w : World) (hmp : mp = .pointer none ∨ ∃ a, mp = .pointer (some a)) (hcf : ∀ args W, (callFunc f args).run Try.prog W = .ok (.enter f args) W) (hO : Blk w o #[.iface 100 (.pointer (some ⟨q, 0, none⟩))]) (hB : Blk w q c) (hf : c[9]? = some (fnv f))
    (h6 : c[6]? = some (.int .i64 how)) (hh : (how != 0 && how != 2) = false) (h6' : c'[6]? = some (.int .i64 how')) (her : (er != 0) = false)
    (hN : ∀ w1, Fr (fun _ => False) w w1 → Calls Try.prog f #[.pointer (some ⟨q, 0, none⟩), mp, .int .i64 x] w1 fun e w' => e = .returned (.int .i64 er) ∧ Blk w' q c' ∧ Q w' ∧ Fr S w1 w') :
    Calls Try.prog 18 #[.pointer (some ⟨o, 0, none⟩), mp, .int .i64 x] w fun e w' => e = .returned (.int .i64 how') ∧ Blk w' q c' ∧ Q w' ∧ Fr S w w' := by
  have c0 := hO.cell (i := 0) rfl
  have hm := m_do_steal q
  have HST := hid (stands_steal o q w hO)
  have HEN := hid (ended_is q c how w hB h6)
  rw [hh] at HEN
  have HDO := hid (fun w1 (F : Fr (fun _ => False) w w1) => do_steal mp x er q f c c' S Q w1 hmp hcf (hB.keep F id) hf (hN w1 F))
  have HO := hid hO
  have H6 := hid h6'
  clear hO hB h6 hh hN h6' hf hcf
  rcases hmp with rfl | ⟨a, rfl⟩ <;>
  · go_enter Try.func18, Try.ntmps18
    go_wp2_with fail
    refine HST.out.mono ?_
    rintro e w1 ⟨rfl, rfl⟩
    go_wp2_with fail
    refine HEN.out.mono ?_
    rintro e w2 ⟨rfl, he2⟩
    have hF2 : Fr (fun _ => False) w w2 := Fr.of_eq he2
    clear he2
    have d0 := (HO.out.keep hF2 id).cell (i := 0) rfl
    have HF2 := hid hF2
    clear hF2
    go_wp2_with fail
    refine (HDO.out _ HF2.out).mono ?_
    rintro e w3 ⟨rfl, hB3, hQ3, hF3⟩
    have d6 := hB3.cell H6.out
    have HB3 := hid hB3
    clear hB3
    go_wp2_with fail
    go_ret
    exact ⟨rfl, HB3.out, hQ3, (HF2.out.mono fun _ h => h.elim).trans hF3⟩

set_option maxHeartbeats 400000 in
theorem broke_steal (mp : Value) (x er how : Int) (o q f : Nat) (c c' : Array Value) (S : Nat → Prop) (Q : World → Prop) (w : World) (hmp : mp = .pointer none ∨ ∃ a, mp = .pointer (some a)) (hcf : ∀ args W, (callFunc f args).run Try.prog W = .ok (.enter f args) W) (hO : Blk w o #[.iface 100 (.pointer (some ⟨q, 0, none⟩))]) (hB : Blk w q c) (hf : c[9]? = some (fnv f))
    (h6 : c[6]? = some (.int .i64 how)) (hh : (how != 0 && how != 2) = false) (h6' : ∃ y, c'[6]? = some y) (h8' : ∃ y, c'[8]? = some y) (her : (er != 0) = true) (hQ : Stays q Q)
    (hN : ∀ w1, Fr (fun _ => False) w w1 → Calls Try.prog f #[.pointer (some ⟨q, 0, none⟩), mp, .int .i64 x] w1 fun e w' => e = .returned (.int .i64 er) ∧ Blk w' q c' ∧ Q w' ∧ Fr (And_ S q) w1 w') :
    Calls Try.prog 18 #[.pointer (some ⟨o, 0, none⟩), mp, .int .i64 x] w fun e w' => e = .returned (.int .i64 6) ∧ Blk w' q ((c'.setIfInBounds 6 (.int .i64 6)).setIfInBounds 8 (.int .i64 er)) ∧ Q w' ∧ Fr (And_ S q) w w' := by
  obtain ⟨y6, h6'⟩ := h6'
  obtain ⟨y8, h8'⟩ := h8'
  have c0 := hO.cell (i := 0) rfl
  have hm := m_do_steal q
  have HST := hid (stands_steal o q w hO)
  have HEN := hid (ended_is q c how w hB h6)
  rw [hh] at HEN
  have HDO := hid (fun w1 (F : Fr (fun _ => False) w w1) => do_steal mp x er q f c c' (And_ S q) Q w1 hmp hcf (hB.keep F id) hf (hN w1 F))
  have HO := hid hO
  have H6 := hid h6'
  have H8 := hid h8'
  have HQ := hid hQ
  clear hO hB h6 hh hN h6' hf h8' hQ hcf
  rcases hmp with rfl | ⟨a, rfl⟩ <;>
  · go_enter Try.func18, Try.ntmps18
    go_wp2_with fail
    refine HST.out.mono ?_
    rintro e w1 ⟨rfl, rfl⟩
    go_wp2_with fail
    refine HEN.out.mono ?_
    rintro e w2 ⟨rfl, he2⟩
    have hF2 : Fr (fun _ => False) w w2 := Fr.of_eq he2
    clear he2
    have d0 := (HO.out.keep hF2 id).cell (i := 0) rfl
    have HF2 := hid hF2
    clear hF2
    go_wp2_with fail
    refine (HDO.out _ HF2.out).mono ?_
    rintro e w3 ⟨rfl, hB3, hQ3, hF3⟩
    have d6 := hB3.cell H6.out
    have g6 := hB3.frozen 6
    have d8 := hB3.cell H8.out
    have g8 := hB3.frozen 8
    have HB3 := hid hB3
    clear hB3
    have e6 : (w3.setCell ⟨q, 6, none⟩ (.int .i64 6)).cell? ⟨q, 6, none⟩ = some (.int .i64 6) := (HB3.out.set 6 _).cell (by simp [lt_of_get H6.out])
    go_wp2_with fail
    go_ret
    exact ⟨rfl, (HB3.out.set 6 _).set 8 _, HQ.out _ _ hQ3 ((fr_cell _ _ _ _).trans (fr_cell _ _ _ _)), ((fr_no S q HF2.out).trans hF3).trans (fr_to S q ((fr_cell _ _ _ _).trans (fr_cell _ _ _ _)))⟩

set_option maxHeartbeats 400000 in
theorem still_steal (mp : Value) (x how : Int) (o q : Nat) (c : Array Value) (w : World) (hmp : mp = .pointer none ∨ ∃ a, mp = .pointer (some a)) (hO : Blk w o #[.iface 100 (.pointer (some ⟨q, 0, none⟩))]) (hB : Blk w q c)
    (h6 : c[6]? = some (.int .i64 how)) (hh : (how != 0 && how != 2) = true) :
    Calls Try.prog 18 #[.pointer (some ⟨o, 0, none⟩), mp, .int .i64 x] w fun e w' => e = .returned (.int .i64 how) ∧ w = w' := by
  have HST := hid (stands_steal o q w hO)
  have HEN := hid (ended_is q c how w hB h6)
  rw [hh] at HEN
  have HB := hid hB
  have H6 := hid h6
  clear hO hB h6 hh
  rcases hmp with rfl | ⟨a, rfl⟩ <;>
  · go_enter Try.func18, Try.ntmps18
    go_wp2_with fail
    refine HST.out.mono ?_
    rintro e w1 ⟨rfl, rfl⟩
    go_wp2_with fail
    refine HEN.out.mono ?_
    rintro e w2 ⟨rfl, rfl⟩
    have d6 := HB.out.cell H6.out
    go_wp2_with fail
    go_ret
    exact ⟨rfl, rfl⟩

set_option maxHeartbeats 400000 in
theorem got_steal (how got : Int) (o q : Nat) (c : Array Value) (w : World) (hO : Blk w o #[.iface 100 (.pointer (some ⟨q, 0, none⟩))]) (hB : Blk w q c)
    (h6 : c[6]? = some (.int .i64 how)) (h7 : (how = 2 ∨ how = 1) → c[7]? = some (.int .i64 got)) :
    Calls Try.prog 20 #[.pointer (some ⟨o, 0, none⟩)] w fun e w' => e = .returned (.int .i64 (if how = 2 ∨ how = 1 then got else 0)) ∧ w = w' := by
  have HST := hid (stands_steal o q w hO)
  have c6 := hB.cell h6
  have HB := hid hB
  by_cases h2 : how = 2
  · have c7 := hB.cell (h7 (.inl h2))
    rw [if_pos (.inl h2)]
    subst h2
    clear hO hB h6 h7
    go_enter Try.func20, Try.ntmps20
    go_wp2_with fail
    refine HST.out.mono ?_
    rintro e w1 ⟨rfl, rfl⟩
    go_wp2_with fail
    go_ret
    exact ⟨rfl, rfl⟩
  · by_cases h1 : how = 1
    · have c7 := hB.cell (h7 (.inr h1))
      rw [if_pos (.inr h1)]
      subst h1
      clear hO hB h6 h7 h2
      go_enter Try.func20, Try.ntmps20
      go_wp2_with fail
      refine HST.out.mono ?_
      rintro e w1 ⟨rfl, rfl⟩
      go_wp2_with fail
      go_ret
      exact ⟨rfl, rfl⟩
    · rw [if_neg (fun hh => hh.elim h2 h1)]
      have t1 : (how == 2) = false := by simpa using h2
      have t2 : (how == 1) = false := by simpa using h1
      clear hO hB h6 h7 h2 h1
      go_enter Try.func20, Try.ntmps20
      go_wp2_with fail
      refine HST.out.mono ?_
      rintro e w1 ⟨rfl, rfl⟩
      go_wp2_with fail
      go_ret
      exact ⟨rfl, rfl⟩

set_option maxHeartbeats 400000 in
theorem err_steal (er : Int) (o q : Nat) (c : Array Value) (w : World) (hO : Blk w o #[.iface 100 (.pointer (some ⟨q, 0, none⟩))]) (hB : Blk w q c) (h8 : c[8]? = some (.int .i64 er)) :
    Calls Try.prog 22 #[.pointer (some ⟨o, 0, none⟩)] w fun e w' => e = .returned (.int .i64 er) ∧ w = w' := by
  have HST := hid (stands_steal o q w hO)
  have c8 := hB.cell h8
  clear hO hB h8
  go_enter Try.func22, Try.ntmps22
  go_wp2_with fail
  refine HST.out.mono ?_
  rintro e w1 ⟨rfl, rfl⟩
  go_wp2_with fail
  go_ret
  exact ⟨rfl, rfl⟩
end Go.Proofs.Ytiofdfgcghiibaa
