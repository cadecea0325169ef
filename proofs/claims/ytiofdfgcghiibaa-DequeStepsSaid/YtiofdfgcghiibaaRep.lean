/-
  Operations of the program, as they stand in memory, against the table's.
-/
import Derived.Test.YtiofdfgcghiibaaOp
import Derived.Test.YtiofdfgcghiibaaOpU
import Derived.Test.YtiofdfgcghiibaaOpV
import Derived.Test.YtiofdfgcghiibaaOpO
import Derived.Test.YtiofdfgcghiibaaOpT
import Derived.Test.YtiofdfgcghiibaaDqBd
namespace Go.Proofs.Ytiofdfgcghiibaa
open Go.RowKit
set_option linter.unusedVariables false

theorem wrap_in (x : Int) (h1 : -9223372036854775808 ≤ x) (h2 : x ≤ 9223372036854775807) : IntKind.i64.wrap x = x := by
  simp only [IntKind.wrap, IntKind.bits, IntKind.signed]
  simp
  omega

/-- A machine with steps of its own. -/
def MO (M : Mach) (s : List Int) : Mach := ⟨M.all, M.used, s⟩
def stp (s : List Int) (j : Nat) : List Int := s.set j (wrap64 (s.getD j 0 + 1))
theorem stp_len (s : List Int) (j : Nat) : (stp s j).length = s.length := by simp [stp]

def KT (k : Nat) : TypeId := if k = 0 then 110 else if k = 1 then 115 else 100

def fresh (o : DOp) : Bool := !o.ld && decide (o.pl = o.t)

def pushF (o : DOp) : Nat :=
  if o.nx = 1 then 52 else if o.nx = 2 then 80 else if o.nx = 3 then 88 else if o.nx = 4 then 94
  else if o.nx = 5 then (if fresh o then 98 else 104) else if o.nx = 6 then 108 else if o.nx = 7 then 93 else 97
def popF (o : DOp) : Nat :=
  if o.nx = 1 then 53 else if o.nx = 2 then 82 else if o.nx = 3 then 89 else if o.nx = 4 then 95
  else if o.nx = 5 then 101 else if o.nx = 6 then 100 else if o.nx = 7 then 105 else 101
def stealF (o : DOp) : Nat :=
  if o.nx = 1 then 51 else if o.nx = 2 then 78 else if o.nx = 3 then 87 else if o.nx = 4 then 92 else 96

def pushC (most : Int) (o : DOp) (wa wl : Int) (cv : Value) (f : Nat) : Array Value :=
  #[.int .i64 0, .int .i64 most, .int .i64 o.t, .int .i64 o.b, .int .i64 o.rg.a, .int .i64 o.rg.l, .int .i64 o.how, .int .i64 0, .int .i64 0, .int .i64 o.x, .int .i64 wa, .int .i64 wl, cv, fnv f]
def popC (most : Int) (o : DOp) (f : Nat) : Array Value :=
  #[.int .i64 0, .int .i64 most, .int .i64 o.t, .int .i64 o.b, .int .i64 o.rg.a, .int .i64 o.rg.l, .int .i64 o.how, .int .i64 o.x, .int .i64 0, .bool o.won, fnv f]
def stealC (most : Int) (o : DOp) (gv : Int) (f : Nat) : Array Value :=
  #[.int .i64 0, .int .i64 most, .int .i64 o.t, .int .i64 o.b, .int .i64 o.rg.a, .int .i64 o.rg.l, .int .i64 o.how, .int .i64 gv, .int .i64 0, fnv f]

def cpOf (o : DOp) : Cp := ⟨o.rg.a, o.rg.l, o.to.a, o.to.l, o.pl, o.b, o.cx, o.ld⟩

/-- A Push in memory. -/
def RepU (w : World) (q cp : Nat) (most : Int) (o : DOp) : Prop :=
  ∃ wa wl cv f, Blk w q (pushC most o wa wl cv f) ∧ o.got = 0 ∧ o.err = 0 ∧ (o.how = 0 → f = pushF o ∧ (5 ≤ o.nx → o.nx ≤ 6 → wa = o.to.a ∧ wl = o.to.l) ∧ (o.nx = 5 → fresh o = false → cv = .pointer (some ⟨cp, 0, none⟩) ∧ IsC w cp (cpOf o)) ∧ (o.nx = 5 → fresh o = true → o.cx = 0) ∧ (o.nx = 5 → o.t ≤ o.pl))
def RepO (w : World) (q : Nat) (most : Int) (o : DOp) : Prop :=
  ∃ f, Blk w q (popC most o f) ∧ o.err = 0 ∧ (o.how = 1 ∨ o.how = 2 → o.got = o.x) ∧ (o.how = 0 → f = popF o ∧ (o.nx ≤ 7 → o.won = false))
def RepT (w : World) (q : Nat) (most : Int) (o : DOp) : Prop :=
  ∃ gv f, Blk w q (stealC most o gv f) ∧ o.err = 0 ∧ (o.how ≠ 5 → gv = o.got) ∧ (o.how = 0 ∨ o.how = 2 → f = stealF o)

/-- Where an operation's blocks lie: apart. -/
structure Sep (b : MB) (o q cp : Nat) : Prop where
  oq : o ≠ q
  oc : o ≠ cp
  qc : q ≠ cp
  bo : ¬ b.own o
  bq : ¬ b.own q
  bc : ¬ b.own cp

def Rep (w : World) (q cp : Nat) (most : Int) (op : DOp) : Prop :=
  (op.kind = 0 ∧ RepU w q cp most op) ∨ (op.kind = 1 ∧ RepO w q most op) ∨ (op.kind = 2 ∧ RepT w q most op)

/-- An operation of the program stands in memory. -/
structure IsOp (w : World) (b : MB) (o q cp : Nat) (most : Int) (op : DOp) : Prop where
  sep : Sep b o q cp
  kk : op.kind ≤ 2
  ob : Blk w o #[.iface (KT op.kind) (.pointer (some ⟨q, 0, none⟩))]
  rep : (op.how ≠ 6 ∧ Rep w q cp most op) ∨ (op.how = 6 ∧ ∃ c, Blk w q c ∧ c[6]? = some (.int .i64 6) ∧ c[8]? = some (.int .i64 op.err))

def OM (b : MB) (q cp k : Nat) : Prop := (b.own k ∨ k = cp) ∨ k = q

theorem RepU.keep {S : Nat → Prop} {w w' : World} {q cp : Nat} {most : Int} {o : DOp} (h : RepU w q cp most o) (F : Fr S w w') (hq : ¬ S q) (hc : ¬ S cp) : RepU w' q cp most o := by
  obtain ⟨wa, wl, cv, f, h1, h2, h3, h4⟩ := h
  exact ⟨wa, wl, cv, f, h1.keep F hq, h2, h3, fun hh => ⟨(h4 hh).1, (h4 hh).2.1, fun a b => ⟨((h4 hh).2.2.1 a b).1, ((h4 hh).2.2.1 a b).2.keep F hc⟩, (h4 hh).2.2.2⟩⟩
theorem RepO.keep {S : Nat → Prop} {w w' : World} {q : Nat} {most : Int} {o : DOp} (h : RepO w q most o) (F : Fr S w w') (hq : ¬ S q) : RepO w' q most o := by
  obtain ⟨f, h1, h2⟩ := h
  exact ⟨f, h1.keep F hq, h2⟩
theorem RepT.keep {S : Nat → Prop} {w w' : World} {q : Nat} {most : Int} {o : DOp} (h : RepT w q most o) (F : Fr S w w') (hq : ¬ S q) : RepT w' q most o := by
  obtain ⟨gv, f, h1, h2⟩ := h
  exact ⟨gv, f, h1.keep F hq, h2⟩
theorem Rep.keep {S : Nat → Prop} {w w' : World} {q cp : Nat} {most : Int} {o : DOp} (h : Rep w q cp most o) (F : Fr S w w') (hq : ¬ S q) (hc : ¬ S cp) : Rep w' q cp most o := by
  rcases h with ⟨k, h⟩ | ⟨k, h⟩ | ⟨k, h⟩
  · exact .inl ⟨k, h.keep F hq hc⟩
  · exact .inr (.inl ⟨k, h.keep F hq⟩)
  · exact .inr (.inr ⟨k, h.keep F hq⟩)
theorem IsOp.keep {S : Nat → Prop} {w w' : World} {b : MB} {o q cp : Nat} {most : Int} {op : DOp} (h : IsOp w b o q cp most op) (F : Fr S w w') (ho : ¬ S o) (hq : ¬ S q) (hc : ¬ S cp) : IsOp w' b o q cp most op := by
  refine ⟨h.sep, h.kk, h.ob.keep F ho, ?_⟩
  rcases h.rep with ⟨h1, h2⟩ | ⟨h1, c, h2, h3⟩
  · exact .inl ⟨h1, h2.keep F hq hc⟩
  · exact .inr ⟨h1, c, h2.keep F hq, h3⟩
theorem IsOp.same {w w' : World} {b : MB} {o q cp : Nat} {most : Int} {op : DOp} (h : IsOp w b o q cp most op) (F : Fr (fun _ => False) w w') : IsOp w' b o q cp most op := h.keep F id id id

/-! ### What calls of the machine do, as the steps ask for it -/

section
variable {b : MB} {M : Mach} {s : List Int} {w : World} {j q : Nat}

theorem stays_m (hq : ¬ b.own q) (M : Mach) : Stays q (fun w => IsM w b M) := fun v v' h F => h.keep F (fun k hk e => hq (e ▸ hk))

theorem does_load (hM : IsM w b (MO M s)) (hq : ¬ b.own q) (hj : j < s.length) (y : Int) (h0 : 0 ≤ y) (hk : y < M.used) :
    Does 72 #[.pointer (some ⟨b.m, 0, none⟩), .int .i64 j, .int .i64 y] w q b.own (.tuple #[.int .i64 (rd M y), .int .i64 0]) (fun w => IsM w b (MO M (stp s j))) := by
  obtain ⟨k, rfl⟩ := Int.eq_ofNat_of_zero_le h0
  intro w' F
  exact load_ok b (MO M s) j k w' (hM.keep F (fun i hi e => hq (e ▸ hi))) hj (by exact_mod_cast hk)

theorem does_store (hM : IsM w b (MO M s)) (hq : ¬ b.own q) (hj : j < s.length) (y v : Int) (h0 : 0 ≤ y) (hk : y < M.used) :
    Does 47 #[.pointer (some ⟨b.m, 0, none⟩), .int .i64 j, .int .i64 y, .int .i64 v] w q b.own (.int .i64 0) (fun w => IsM w b (MO (wrc M y v) (stp s j))) := by
  obtain ⟨k, rfl⟩ := Int.eq_ofNat_of_zero_le h0
  intro w' F
  exact store_ok b (MO M s) j k v w' (hM.keep F (fun i hi e => hq (e ▸ hi))) hj (by exact_mod_cast hk)

theorem does_cas_yes (hM : IsM w b (MO M s)) (hq : ¬ b.own q) (hj : j < s.length) (o v : Int) (hk : 0 < M.used) (ho : rd M 0 = o) :
    Does 102 #[.pointer (some ⟨b.m, 0, none⟩), .int .i64 j, .int .i64 0, .int .i64 o, .int .i64 v] w q b.own (.tuple #[.bool true, .int .i64 0]) (fun w => IsM w b (MO (wrc M 0 v) (stp s j))) := by
  intro w' F
  exact cas_yes b (MO M s) j 0 o v w' (hM.keep F (fun i hi e => hq (e ▸ hi))) hj hk ho

theorem does_cas_not (hM : IsM w b (MO M s)) (hq : ¬ b.own q) (hj : j < s.length) (o v : Int) (hk : 0 < M.used) (ho : rd M 0 ≠ o) :
    Does 102 #[.pointer (some ⟨b.m, 0, none⟩), .int .i64 j, .int .i64 0, .int .i64 o, .int .i64 v] w q b.own (.tuple #[.bool false, .int .i64 0]) (fun w => IsM w b (MO M (stp s j))) := by
  intro w' F
  exact cas_not b (MO M s) j 0 o v w' (hM.keep F (fun i hi e => hq (e ▸ hi))) hj hk ho

theorem does_rnew (hM : IsM w b (MO M s)) (hq : ¬ b.own q) (hj : j < s.length) (l : Int) (h0 : 0 ≤ l) (h8 : l ≤ 8) (hn : (M.used : Int) + pow l ≤ M.all.length) :
    Does 99 #[.pointer (some ⟨b.m, 0, none⟩), .int .i64 j, .int .i64 l] w q b.own (.tuple #[.agg #[.int .i64 M.used, .int .i64 l], .int .i64 0]) (fun w => IsM w b (MO (M.give (pow l).toNat) (stp s j))) := by
  intro w' F
  exact rnew_ok b (MO M s) j j l w' (hM.keep F (fun i hi e => hq (e ▸ hi))) rfl hj h0 h8 hn

/-! ### the same, refused: a worker who is none -/

theorem no_load (hM : IsM w b (MO M s)) (hq : ¬ b.own q) (x : Int) (hx : x < 0 ∨ (s.length : Int) ≤ x) (y : Int) :
    Does 72 #[.pointer (some ⟨b.m, 0, none⟩), .int .i64 x, .int .i64 y] w q b.own (.tuple #[.int .i64 0, .int .i64 10]) (fun w => IsM w b (MO M s)) := by
  intro w' F
  have h := hM.keep F (fun i hi e => hq (e ▸ hi))
  refine (load_who b (MO M s) x y w' h hx).mono ?_
  rintro e w1 ⟨rfl, rfl⟩
  exact ⟨rfl, h, Fr.refl _ _⟩
theorem no_store (hM : IsM w b (MO M s)) (hq : ¬ b.own q) (x : Int) (hx : x < 0 ∨ (s.length : Int) ≤ x) (y v : Int) :
    Does 47 #[.pointer (some ⟨b.m, 0, none⟩), .int .i64 x, .int .i64 y, .int .i64 v] w q b.own (.int .i64 10) (fun w => IsM w b (MO M s)) := by
  intro w' F
  have h := hM.keep F (fun i hi e => hq (e ▸ hi))
  refine (store_who b (MO M s) x y v w' h hx).mono ?_
  rintro e w1 ⟨rfl, rfl⟩
  exact ⟨rfl, h, Fr.refl _ _⟩
theorem no_cas (hM : IsM w b (MO M s)) (hq : ¬ b.own q) (x : Int) (hx : x < 0 ∨ (s.length : Int) ≤ x) (y o v : Int) :
    Does 102 #[.pointer (some ⟨b.m, 0, none⟩), .int .i64 x, .int .i64 y, .int .i64 o, .int .i64 v] w q b.own (.tuple #[.bool false, .int .i64 10]) (fun w => IsM w b (MO M s)) := by
  intro w' F
  have h := hM.keep F (fun i hi e => hq (e ▸ hi))
  refine (cas_who b (MO M s) x y o v w' h hx).mono ?_
  rintro e w1 ⟨rfl, rfl⟩
  exact ⟨rfl, h, Fr.refl _ _⟩
theorem no_rnew (hM : IsM w b (MO M s)) (hq : ¬ b.own q) (x : Int) (hx : x < 0 ∨ (s.length : Int) ≤ x) (l : Int) (h0 : 0 ≤ l) (h8 : l ≤ 8) :
    Does 99 #[.pointer (some ⟨b.m, 0, none⟩), .int .i64 x, .int .i64 l] w q b.own (.tuple #[.agg #[.int .i64 0, .int .i64 0], .int .i64 10]) (fun w => IsM w b (MO M s)) := by
  intro w' F
  have h := hM.keep F (fun i hi e => hq (e ▸ hi))
  refine (rnew_who b (MO M s) x l w' h hx h0 h8).mono ?_
  rintro e w1 ⟨rfl, hF⟩
  exact ⟨rfl, h.same hF, hF.mono (fun _ h => h.elim)⟩
theorem full_rnew (hM : IsM w b (MO M s)) (hq : ¬ b.own q) (hj : j < s.length) (l : Int) (h0 : 0 ≤ l) (h8 : l ≤ 8) (hn : (M.all.length : Int) - M.used < pow l) :
    Does 99 #[.pointer (some ⟨b.m, 0, none⟩), .int .i64 j, .int .i64 l] w q b.own (.tuple #[.agg #[.int .i64 0, .int .i64 0], .int .i64 21]) (fun w => IsM w b (MO M s)) := by
  intro w' F
  exact rnew_full b (MO M s) j j l w' (hM.keep F (fun i hi e => hq (e ▸ hi))) rfl hj h0 h8 hn
theorem nil_load (x y : Int) : Does 72 #[.pointer none, .int .i64 x, .int .i64 y] w q (fun _ => False) (.tuple #[.int .i64 0, .int .i64 2]) (fun _ => True) := by
  intro w' F
  refine (load_nil x y w').mono ?_
  rintro e w1 ⟨rfl, rfl⟩
  exact ⟨rfl, trivial, Fr.refl _ _⟩
end
end Go.Proofs.Ytiofdfgcghiibaa
