/-
  ScopeSpreads: calls beside its rows; what holds between its acts.
-/
import Derived.Test.YtoajdknhllaoeaaSpm
namespace Go.Proofs.Ytoajdknhllaoeaa
open Go.RowKit
set_option linter.unusedVariables false

/-- What holds of looks, plain. -/
structure SpP (n : Nat) (par nst : Nat → Nat) (D : SpD) : Prop where
  on : ∀ k, k < 3 → D.on k = D.busy k
  am : ∀ k, k < n → D.am k = D.T.asked k
  lk : ∀ k, k < 3 → D.on k = true → D.of k < n ∧ D.nx k = (up par (D.of k) (D.st k) : Nat) ∧ LkI par nst (D.of k) (D.st k) D.T.asked (D.ah k)

def SpD.bgn (D : SpD) (u s l : Nat) (hv : Value) : SpD := { D with lp := fun k => if k = u then ptr l else D.lp k, busy := fun k => if k = u then true else D.busy k, of := fun k => if k = u then s else D.of k, st := fun k => if k = u then 0 else D.st k, hp := fun k => if k = u then hv else D.hp k, lk := fun k => if k = u then l else D.lk k, nx := fun k => if k = u then (s : Int) else D.nx k, ah := fun k => if k = u then D.T.asked else D.ah k, on := fun k => if k = u then true else D.on k, vl := fun k => if k = u then false else D.vl k }
def SpD.cnt (D : SpD) (u t : Nat) : SpD := { D with st := fun k => if k = u then t else D.st k }
def SpD.stp (D : SpD) (u : Nat) (x : Int) (v : Bool) : SpD := { D with T := D.T.step u, nx := fun k => if k = u then x else D.nx k, vl := fun k => if k = u then v else D.vl k }
def SpD.fin (D : SpD) (u : Nat) : SpD := { D with busy := fun k => if k = u then false else D.busy k, on := fun k => if k = u then false else D.on k }

section
variable {w0 : World} {b : MB} {tb n : Nat} {par nst : Nat → Nat} {A1 : Option Addr} {c1 B : Nat} {D : SpD} (w : World)

theorem SpM.ok {w : World} (h : SpM w0 b tb n par nst A1 c1 B D w) : Tre n par nst := by
  obtain ⟨O, k1, k2, k3⟩ := h.ex
  have := k1.ok
  unfold Sc.ok at this
  rw [h.n3, h.pa, h.na] at this
  exact this

theorem sp_ask (u s : Nat) (r : Bool) (hu : u < 3) (hs : s < n) (hr : (!D.T.asked s) = r) (h : SpM w0 b tb n par nst A1 c1 B D w) :
    Calls Try.prog 19 #[.pointer (some ⟨tb, 0, none⟩), .pointer (some ⟨b.m, 0, none⟩), .int .i64 u, .int .i64 s] w fun e w' => e = .returned (.tuple #[.bool r, .int .i64 0]) ∧ SpM w0 b tb n par nst A1 c1 B { D with T := (D.T.step u).ask s } w' := by
  obtain ⟨O, k1, k2, k3⟩ := h.ex
  exact (ask_ok w u s u rfl (by rw [h.s3]; exact hu) (by rw [h.n3]; exact hs) r hr k1).mono fun e w' ⟨he, hT, hF⟩ => ⟨he, h.turn k2 k3 hT hF rfl rfl rfl rfl (stp_len _ _)⟩

theorem sp_look (s : Nat) (hs : s < n) (h : SpM w0 b tb n par nst A1 c1 B D w) :
    Calls Try.prog 32 #[.pointer (some ⟨tb, 0, none⟩), .int .i64 s] w fun e w' => ∃ lb, e = .returned (.tuple #[.pointer (some ⟨lb, 0, none⟩), .int .i64 0]) ∧ SpM w0 b tb n par nst A1 c1 B D w' ∧ LkM w' lb tb s false ∧ B + 6 ≤ lb ∧ (∀ k, k < 3 → D.on k = true → D.lk k ≠ lb ∧ ∀ g cap, D.hp k = .slice (some ⟨g, 0, none⟩) n cap → lb ≠ g) := by
  obtain ⟨O, k1, k2, k3⟩ := h.ex
  refine (look_ok w s (by rw [h.n3]; exact hs) k1).mono ?_
  rintro e w' ⟨lb, he, hB, hF, hlo⟩
  refine ⟨lb, he, h.same hF, hB, Nat.le_trans h.sz hlo, fun k hk ho => ?_⟩
  obtain ⟨e1, e2, e3, g, cap, e4, e5, e6, e7, e8⟩ := h.lks k hk ho
  have hl := Blk.lt e3
  refine ⟨by omega, fun g' cap' hg => ?_⟩
  rw [hg] at e4
  injection e4 with e4
  injection e4 with e4
  injection e4 with e4
  have := e7.1
  omega

theorem sp_yes (u k : Nat) (hu : u < 3) (ho : D.on u = true) (hk : k < n) (hx : D.nx u = k) (ha : D.T.asked k = true) (h : SpM w0 b tb n par nst A1 c1 B D w) :
    Calls Try.prog 34 #[.pointer (some ⟨D.lk u, 0, none⟩), .pointer (some ⟨b.m, 0, none⟩), .int .i64 u] w fun e w' => e = .returned (.tuple #[.bool true, .bool true, .int .i64 0]) ∧ SpM w0 b tb n par nst A1 c1 B { D with T := D.T.step u, nx := fun i => if i = u then -1 else D.nx i, vl := fun i => if i = u then true else D.vl i } w' := by
  obtain ⟨O, k1, k2, k3⟩ := h.ex
  obtain ⟨e1, e2, e3, _⟩ := h.lks u hu ho
  rw [hx] at e3
  exact (lstep_yes w (D.lk u) k u _ u (by rw [h.n3]; exact hk) rfl (by rw [h.s3]; exact hu) ha e3 k1 (fun hh => by have := (k2 _ hh).2; omega)).mono fun e w' ⟨he, hp⟩ => ⟨he, h.stepped hu ho k2 k3 hp⟩

theorem sp_not (u k : Nat) (x : Int) (r : Bool) (hu : u < 3) (ho : D.on u = true) (hk : k < n) (hx : D.nx u = k) (ha : D.T.asked k = false) (hp : pI par k = x) (hr : (x == -1) = r) (h : SpM w0 b tb n par nst A1 c1 B D w) :
    Calls Try.prog 34 #[.pointer (some ⟨D.lk u, 0, none⟩), .pointer (some ⟨b.m, 0, none⟩), .int .i64 u] w fun e w' => e = .returned (.tuple #[.bool r, .bool false, .int .i64 0]) ∧ SpM w0 b tb n par nst A1 c1 B { D with T := D.T.step u, nx := fun i => if i = u then x else D.nx i, vl := fun i => if i = u then false else D.vl i } w' := by
  have hq : pI D.T.par k = x := by rw [h.pa]; exact hp
  obtain ⟨O, k1, k2, k3⟩ := h.ex
  obtain ⟨e1, e2, e3, _⟩ := h.lks u hu ho
  rw [hx] at e3
  have hst := lstep_not w (D.lk u) k u _ u r (by rw [hq]; exact hr) (by rw [h.n3]; exact hk) rfl (by rw [h.s3]; exact hu) ha e3 k1 (fun hh => by have := (k2 _ hh).2; omega)
  rw [hq] at hst
  exact hst.mono fun e w' ⟨he, hp⟩ => ⟨he, h.stepped hu ho k2 k3 hp⟩

theorem sp_nest (s m : Nat) (hs : s < n) (hm : nst s = m) (h : SpM w0 b tb n par nst A1 c1 B D w) :
    Calls Try.prog 28 #[.pointer (some ⟨tb, 0, none⟩), .int .i64 s] w fun e w' => e = .returned (.int .i64 m) ∧ Fr (fun _ => False) w w' := by
  subst hm
  obtain ⟨O, k1, k2, k3⟩ := h.ex
  rw [← h.na]
  exact nest_ok w s (by rw [h.n3]; exact hs) k1

theorem SpM.look {w : World} (h : SpM w0 b tb n par nst A1 c1 B D w) {k : Nat} (hk : k < 3) (ho : D.on k = true) : D.lp k = ptr (D.lk k) ∧ ∃ g cap, D.hp k = .slice (some ⟨g, 0, none⟩) n cap ∧ n ≤ cap ∧ BB w g n (D.ah k) := by
  obtain ⟨e1, e2, e3, g, cap, e4, e5, e6, e7, e8⟩ := h.lks k hk ho
  exact ⟨e1, g, cap, e4, e5, e7⟩

theorem sp_around (s o : Nat) (r : Bool) (hs : s < n) (ho : o < n) (hr : r = true ↔ Ard par nst s o) (h : SpM w0 b tb n par nst A1 c1 B D w) :
    Calls Try.prog 36 #[.slice A1 n c1, .int .i64 s, .int .i64 o] w fun e w' => e = .returned (.bool r) ∧ w = w' := by
  have hn : n < 1000000 := by
    obtain ⟨O, k1, k2, k3⟩ := h.ex
    have := k1.small
    rw [h.n3] at this
    omega
  exact around_ok h.ok A1 c1 _ s o r w hs ho hn hr h.r1

/-- A look that was just made, its rows filled. -/
theorem SpM.made {w w4 w7 w8 w9 : World} {u s lb g8 c8 : Nat} (hu : u < 3) (hon : D.on u = false) (h4 : SpM w0 b tb n par nst A1 c1 B D w4) (hL : LkM w4 lb tb s false) (hlb : B + 6 ≤ lb)
    (hne : ∀ k, k < 3 → D.on k = true → D.lk k ≠ lb ∧ ∀ g cap, D.hp k = .slice (some ⟨g, 0, none⟩) n cap → lb ≠ g)
    (h7 : SpM w0 b tb n par nst A1 c1 B { D with lp := fun k => if k = u then ptr lb else D.lp k, busy := fun k => if k = u then true else D.busy k, of := fun k => if k = u then s else D.of k, st := fun k => if k = u then 0 else D.st k } w7) (F47 : Fr (fun k => B ≤ k ∧ k < B + 6) w4 w7)
    (ho : OwnR w8 w0.heap.size 4 1 (some ⟨g8, 0, none⟩) n c8 ((List.range n).map (fun k => .bool (D.am k)))) (F78 : Fr (fun _ => False) w7 w8) (hg : g8 = w7.heap.size ∨ g8 = w7.heap.size + 1) (ham : ∀ k, k < n → D.am k = D.T.asked k) (hn : 0 < n)
    (hw : w9 = w8.setCell ⟨B + 5, u, none⟩ (.slice (some ⟨g8, 0, none⟩) n c8)) : SpM w0 b tb n par nst A1 c1 B (D.bgn u s lb (.slice (some ⟨g8, 0, none⟩) n c8)) w9 := by
  subst hw
  have F89 : Fr (fun k => k = B + 5) w8 (w8.setCell ⟨B + 5, u, none⟩ (.slice (some ⟨g8, 0, none⟩) n c8)) := Fr.setCell _ _ _ rfl
  have h9 := (h7.same F78).putHp hu (.slice (some ⟨g8, 0, none⟩) n c8) hon
  have hl4 := Blk.lt hL
  have hs7 := F47.size
  have hz7 := h7.sz
  have hz4 := h4.sz
  have hL9 : LkM (w8.setCell ⟨B + 5, u, none⟩ (.slice (some ⟨g8, 0, none⟩) n c8)) lb tb s false := ((Blk.keep hL F47 (by omega)).keep F78 id).keep F89 (by omega)
  obtain ⟨g', hA, _, hgl, _, hc⟩ := ho.cell hn
  have hcap : n ≤ c8 := by
    rcases ho.2 with ⟨h3, h4⟩ | ⟨g', c', cur, hv, _, _, h5, _⟩
    · omega
    · injection hv with _ _ hv; omega
  injection hA with hA
  injection hA with hA
  subst hA
  have hf : BB (w8.setCell ⟨B + 5, u, none⟩ (.slice (some ⟨g8, 0, none⟩) n c8)) g8 n D.T.asked := by
    refine BB.keep (S := fun k => k = B + 5) ⟨hgl, fun i hi => ?_⟩ F89 (by omega)
    rw [hc i (.bool (D.am i)) (by simp [hi]), ham i hi]
  refine SpM.begun h9 hu (s : Int) D.T.asked ?_ hlb hL9 ?_ hcap (by omega) hf (by omega) (fun k hk hok => ?_)
  · show (if u = u then ptr lb else D.lp u) = ptr lb; rw [if_pos rfl]
  · show (if u = u then _ else D.hp u) = _; rw [if_pos rfl]
  · have hok2 : D.on k = true := hok
    obtain ⟨m1, m2⟩ := hne k hk hok2
    obtain ⟨e1, e2, e3, g, cap, e4, e5, e6, e7, e8⟩ := h4.lks k hk hok2
    have hlk := Blk.lt e3
    refine ⟨m1, by show D.lk k ≠ g8; omega, fun g' cap' hh => ?_⟩
    have hku : k ≠ u := fun e => by rw [e, hon] at hok2; cases hok2
    have hh2 : (if k = u then Value.slice (some ⟨g8, 0, none⟩) n c8 else D.hp k) = .slice (some ⟨g', 0, none⟩) n cap' := hh
    rw [if_neg hku] at hh2
    exact m2 g' cap' hh2

/-- The plain side of an Ask. -/
theorem SpP.ask (h : SpP n par nst D) (u s : Nat) : SpP n par nst { D with T := (D.T.step u).ask s, am := fun k => if k = s then true else D.am k } := by
  refine ⟨h.on, fun k hk => ?_, fun k hk ho => ?_⟩
  · show (if k = s then true else D.am k) = if k = s then true else D.T.asked k
    rw [h.am k hk]
  · obtain ⟨h1, h2, h3⟩ := h.lk k hk ho
    exact ⟨h1, h2, h3.ask (fun i hi => by show (if i = s then true else D.T.asked i) = true; split; rfl; exact hi)⟩

theorem SpP.bgn (h : SpP n par nst D) {u s l : Nat} {hv : Value} (hs : s < n) : SpP n par nst (D.bgn u s l hv) := by
  refine ⟨fun k hk => ?_, h.am, fun k hk ho => ?_⟩
  · show (if k = u then true else D.on k) = if k = u then true else D.busy k
    rw [h.on k hk]
  · by_cases e : k = u
    · subst e
      refine ⟨?_, ?_, ?_⟩
      · show (if k = k then s else D.of k) < n; rw [if_pos rfl]; exact hs
      · show (if k = k then (s : Int) else D.nx k) = (up par (if k = k then s else D.of k) (if k = k then 0 else D.st k) : Nat); rw [if_pos rfl, if_pos rfl, if_pos rfl]; rfl
      · show LkI par nst (if k = k then s else D.of k) (if k = k then 0 else D.st k) D.T.asked (if k = k then D.T.asked else D.ah k)
        rw [if_pos rfl, if_pos rfl, if_pos rfl]; exact LkI.start _ _
    · have ho2 : D.on k = true := by
        have h3 : (if k = u then true else D.on k) = true := ho
        rw [if_neg e] at h3; exact h3
      obtain ⟨h1, h2, h3⟩ := h.lk k hk ho2
      refine ⟨?_, ?_, ?_⟩
      · show (if k = u then s else D.of k) < n; rw [if_neg e]; exact h1
      · show (if k = u then (s : Int) else D.nx k) = (up par (if k = u then s else D.of k) (if k = u then 0 else D.st k) : Nat); rw [if_neg e, if_neg e, if_neg e]; exact h2
      · show LkI par nst (if k = u then s else D.of k) (if k = u then 0 else D.st k) D.T.asked (if k = u then D.T.asked else D.ah k)
        rw [if_neg e, if_neg e, if_neg e]; exact h3

theorem SpP.on_ (h : SpP n par nst D) (hT : Tre n par nst) {u : Nat} (hu : u < 3) (ho : D.on u = true) (ha : D.T.asked (up par (D.of u) (D.st u)) = false) (h0 : up par (D.of u) (D.st u) ≠ 0) :
    SpP n par nst ((D.cnt u (D.st u + 1)).stp u (pI par (up par (D.of u) (D.st u))) false) := by
  obtain ⟨g1, g2, g3⟩ := h.lk u hu ho
  refine ⟨h.on, h.am, fun k hk hok => ?_⟩
  by_cases e : k = u
  · subst e
    refine ⟨g1, ?_, ?_⟩
    · show (if k = k then pI par (up par (D.of k) (D.st k)) else D.nx k) = (up par (D.of k) (if k = k then D.st k + 1 else D.st k) : Nat)
      rw [if_pos rfl, if_pos rfl, pI_pos _ (by omega)]; rfl
    · show LkI par nst (D.of k) (if k = k then D.st k + 1 else D.st k) D.T.asked (D.ah k)
      rw [if_pos rfl]
      exact g3.on hT g1 ha h0
  · obtain ⟨h1, h2, h3⟩ := h.lk k hk hok
    refine ⟨h1, ?_, ?_⟩
    · show (if k = u then pI par (up par (D.of u) (D.st u)) else D.nx k) = (up par (D.of k) (if k = u then D.st u + 1 else D.st k) : Nat)
      rw [if_neg e, if_neg e]; exact h2
    · show LkI par nst (D.of k) (if k = u then D.st u + 1 else D.st k) D.T.asked (D.ah k)
      rw [if_neg e]; exact h3

theorem SpP.fin (h : SpP n par nst D) {u t : Nat} {x : Int} {v : Bool} : SpP n par nst (((D.cnt u t).stp u x v).fin u) := by
  refine ⟨fun k hk => ?_, h.am, fun k hk hok => ?_⟩
  · show (if k = u then false else D.on k) = if k = u then false else D.busy k
    rw [h.on k hk]
  · have hok2 : (if k = u then false else D.on k) = true := hok
    by_cases e : k = u
    · rw [if_pos e] at hok2; cases hok2
    · rw [if_neg e] at hok2
      obtain ⟨h1, h2, h3⟩ := h.lk k hk hok2
      refine ⟨h1, ?_, ?_⟩
      · show (if k = u then x else D.nx k) = (up par (D.of k) (if k = u then t else D.st k) : Nat)
        rw [if_neg e, if_neg e]; exact h2
      · show LkI par nst (D.of k) (if k = u then t else D.st k) D.T.asked (D.ah k)
        rw [if_neg e]; exact h3
end
end Go.Proofs.Ytoajdknhllaoeaa
