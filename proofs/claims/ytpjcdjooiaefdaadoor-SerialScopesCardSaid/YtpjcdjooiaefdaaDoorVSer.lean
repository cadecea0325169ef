/-
  What a program comes to, if one does it all: as plain data.
-/
import Derived.Test.YtpjcdjooiaefdaaDoorVPlain
import Derived.Test.YtpjcdjooiaefdaaDoorVJoin
import Derived.Test.YtpjcdjooiaefdaaDoorVMem
import Derived.Laws.CopyRow
namespace Go.Proofs.YtpjcdjooiaefdaaDoor
open Go.RowKit
set_option linter.unusedVariables false

/-- A row of the table. -/
structure Rw where
  par : Int
  in_ : Int
  fn : Int
  kind : Int
  v : Int
  st : Int
  cl : List Bool
  deriving DecidableEq

/-- A task: its frame, its open scopes (the innermost first, its own last: which one of its, and whether it was asked), how many it opened, what those that it closed told, its row as it was made. -/
structure Tk where
  F : Frm
  os : List (Nat × Bool)
  op : Nat
  cl : List Bool
  row : Rw

/-- Rows, and steps. -/
structure Gl where
  rows : List Rw
  st : Nat

def Rw.new (par in_ fn : Int) : Rw := ⟨par, in_, fn, 0, 0, 0, []⟩
def Rw.zero : Rw := Rw.new 0 0 0
def Rw.lost (r : Rw) : Rw := { r with kind := 4 }

def insAt (P : List Fn) (F : Frm) : Ins := match P[F.f.toNat]? with
  | some f => f.code.getD F.pc.toNat Ins.zero
  | none => Ins.zero
def needsOf (P : List Fn) (q : Int) : Int := match P[q.toNat]? with
  | some f => f.needs
  | none => 0
def askd (os : List (Nat × Bool)) : Bool := os.any (·.2)
def hd (os : List (Nat × Bool)) : Nat × Bool := os.headD (0, false)
def asks : List (Nat × Bool) → List (Nat × Bool)
  | [] => []
  | x :: r => (x.1, true) :: r

/-- What one instruction comes to. -/
inductive Act1
  | go (T : Tk) (G : Gl)
  | stop (e : Int)
  | fin (T : Tk) (kind v : Int) (G : Gl)
  | sub (K : Tk) (T : Tk) (G : Gl)

def Tk.told (T : Tk) (kind v : Int) : Rw := { T.row with kind := kind, v := v, st := T.F.st, cl := T.cl }

def Gl.more (G : Gl) : Gl := { G with st := G.st + 1 }
def handOf (x : Ins) : Nat := if x.op = 10 then x.c.toNat else x.b.toNat
def rowOf (F : Frm) (x : Ins) (G : Gl) : Rw := G.rows.getD (F.h (handOf x)).toNat Rw.zero
def kidRow (a : Nat) (T : Tk) (x : Ins) : Rw := Rw.new a (hd T.os).1 x.n
def kidOf (P : List Fn) (a : Nat) (T : Tk) (x : Ins) : Tk := ⟨T.F.kid x.n.toNat (needsOf P x.n) 8, [(0, false)], 0, [], kidRow a T x⟩

def act (P : List Fn) (N base a : Nat) (T : Tk) (G : Gl) (x : Ins) : Act1 :=
  if N ≤ G.st then .stop 22
  else if x.op ≤ 7 then .go { T with F := T.F.did x.op.toNat x.a.toNat x.b.toNat x.c.toNat x.n } G.more
  else if x.op = 8 then
    if 32 ≤ base + T.os.length then .stop 23
    else if askd T.os then .go { T with F := T.F.forked x G.rows.length } ⟨G.rows ++ [(kidRow a T x).lost], G.st + 1⟩
    else .sub (kidOf P a T x) { T with F := T.F.forked x G.rows.length } ⟨G.rows ++ [kidRow a T x], G.st + 1⟩
  else if x.op = 9 ∨ x.op = 10 then
    if panics x (rowOf T.F x G).kind then .fin { T with F := T.F.joined x (rowOf T.F x G).kind (rowOf T.F x G).v } 3 (codeOf x (rowOf T.F x G).kind (rowOf T.F x G).v) G.more
    else .go { T with F := T.F.joined x (rowOf T.F x G).kind (rowOf T.F x G).v } G.more
  else if x.op = 11 then
    if 32 ≤ base + T.os.length then .stop 23
    else .go { T with F := T.F.on, os := (T.op + 1, false) :: T.os, op := T.op + 1 } G.more
  else if x.op = 12 then .go { T with F := T.F.closed x (hd T.os).2, os := T.os.tail, cl := T.cl ++ [(hd T.os).2] } G.more
  else if x.op = 13 then .go { T with F := T.F.on, os := asks T.os } G.more
  else if x.op = 14 then .go { T with F := T.F.on } G.more
  else .fin { T with F := T.F.on } (if x.op = 15 then 3 else 2) (T.F.r x.a.toNat) G.more

inductive Out
  | err (e : Int)
  | done (G : Gl)

/-- A task is done, to its end. -/
def exec (P : List Fn) (N : Nat) : Nat → Nat → Nat → Tk → Gl → Option Out
  | 0, _, _, _, _ => none
  | n + 1, base, a, T, G => match act P N base a T G (insAt P T.F) with
    | .stop e => some (.err e)
    | .fin T' kind v G' => some (.done ⟨G'.rows.set a (T'.told kind v), G'.st⟩)
    | .go T' G' => exec P N n base a T' G'
    | .sub K T' G' => match exec P N n (base + T.os.length) G.rows.length K G' with
      | none => none
      | some (.err e) => some (.err e)
      | some (.done G2) => exec P N n base a T' G2

def rootT : Tk := ⟨Frm.root, [(0, false)], 0, [], Rw.new (-1) 0 0⟩
def rootG : Gl := ⟨[Rw.new (-1) 0 0], 0⟩

/-! ### What holds of a task -/

def isDone (r : Rw) : Prop := 2 ≤ r.kind ∧ r.kind ≤ 4

structure Inv (P : List Fn) (N base a : Nat) (T : Tk) (G : Gl) : Prop where
  way : ∃ (q k v : Nat) (f : Fn), P[q]? = some f ∧ T.F.f = q ∧ T.F.pc = k ∧ Way P f k ((T.os.length : Int) - 1) v ∧
    ∀ h, h < 8 → v.testBit h = true → ∃ j : Nat, T.F.h h = j ∧ ∃ r, G.rows[j]? = some r ∧ isDone r
  row : G.rows[a]? = some T.row
  kind : T.row.kind = 0
  v0 : T.row.v = 0
  st0 : T.row.st = 0
  cl0 : T.row.cl = []
  deep : base + T.os.length ≤ 32
  own : 1 ≤ T.os.length
  st : 0 ≤ T.F.st ∧ T.F.st ≤ G.st
  op : T.op ≤ G.st
  cls : T.cl.length ≤ G.st
  steps : G.st ≤ N
  rows : G.rows.length ≤ G.st + 1

/-- Of the rows there were, those of a's are as they were. -/
structure Ext (a : Nat) (G G' : Gl) : Prop where
  len : G.rows.length ≤ G'.rows.length
  same : ∀ i, i < G.rows.length → i ≠ a → G'.rows[i]? = G.rows[i]?
  done : ∀ i, (i = a ∨ G.rows.length ≤ i) → ∀ r, G'.rows[i]? = some r → isDone r
  steps : G.st < G'.st
  few : G'.rows.length - G.rows.length ≤ G'.st - G.st

theorem wrap_small {x : Int} (h0 : -9223372036854775808 ≤ x) (h1 : x < 9223372036854775808) : wrap64 x = x := by
  unfold wrap64
  omega

theorem Frm.on_pc (F : Frm) (k : Nat) (h : F.pc = k) (hk : k < 1000) : F.on.pc = (k + 1 : Nat) := by
  unfold Frm.on Frm.to Frm.setPc Frm.setSt
  simp only
  rw [h, wrap_small (by omega) (by omega)]
  omega
theorem Frm.on_st (F : Frm) (k : Nat) (h0 : 0 ≤ F.st) (h : F.st ≤ k) (hk : k < 2000000) : F.on.st = F.st + 1 := by
  unfold Frm.on Frm.to Frm.setPc Frm.setSt
  simp only
  exact wrap_small (by omega) (by omega)
theorem Frm.to_st (F : Frm) (v : Int) (k : Nat) (h0 : 0 ≤ F.st) (h : F.st ≤ k) (hk : k < 2000000) : (F.to v).st = F.st + 1 := by
  unfold Frm.to Frm.setPc Frm.setSt
  simp only
  exact wrap_small (by omega) (by omega)

/-- What a task is of, and where. -/
theorem Inv.ins {P : List Fn} {N base a : Nat} {T : Tk} {G : Gl} (A : Acc P) (I : Inv P N base a T G) :
    ∃ (q k v : Nat) (f : Fn), P[q]? = some f ∧ T.F.f = q ∧ T.F.pc = k ∧ f.code[k]? = some (insAt P T.F) ∧ chk (insAt P T.F) = 0 ∧ k < 128 ∧ Way P f k ((T.os.length : Int) - 1) v ∧
    ∀ h, h < 8 → v.testBit h = true → ∃ j : Nat, T.F.h h = j ∧ ∃ r, G.rows[j]? = some r ∧ isDone r := by
  obtain ⟨q, k, v, f, hq, hf, hk, hW, hh⟩ := I.way
  have hl := hW.lt
  have e : f.code[k]? = some (insAt P T.F) := by
    unfold insAt
    rw [hf, hk]
    simp only [Int.toNat_natCast, hq]
    rw [List.getD_eq_getElem?_getD, List.getElem?_eq_getElem hl]
    rfl
  have hA := A.fns q f hq
  exact ⟨q, k, v, f, hq, hf, hk, e, hA.2.2.2.2 k _ e, by omega, hW, hh⟩

/-- A task that goes on. -/
theorem Inv.next {P : List Fn} {N base a : Nat} {T T' : Tk} {G G' : Gl} (I : Inv P N base a T G)
    {q k v : Nat} {f : Fn} (hq : P[q]? = some f) (hf : T'.F.f = q) (hk : T'.F.pc = k) (hW : Way P f k ((T'.os.length : Int) - 1) v)
    (hh : ∀ h, h < 8 → v.testBit h = true → ∃ j : Nat, T'.F.h h = j ∧ ∃ r, G'.rows[j]? = some r ∧ isDone r)
    (hrow : T'.row = T.row) (hra : G'.rows[a]? = G.rows[a]?) (hd : base + T'.os.length ≤ 32) (ho : 1 ≤ T'.os.length) (hs : T'.F.st = T.F.st + 1)
    (hop : T'.op ≤ T.op + 1) (hcl : T'.cl.length ≤ T.cl.length + 1) (hst : G.st + 1 ≤ G'.st) (hN : G'.st ≤ N) (hr : G'.rows.length ≤ G'.st + 1) : Inv P N base a T' G' := by
  have h1 := I.st
  have h2 := I.op
  have h3 := I.cls
  exact ⟨⟨q, k, v, f, hq, hf, hk, hW, hh⟩, by rw [hra, hrow]; exact I.row, by rw [hrow]; exact I.kind, by rw [hrow]; exact I.v0, by rw [hrow]; exact I.st0, by rw [hrow]; exact I.cl0, hd, ho, by omega, by omega, by omega, hN, hr⟩

theorem chk_op {x : Ins} (h : chk x = 0) : 0 ≤ x.op ∧ x.op ≤ 16 := ⟨(chk_fld h).1, (chk_fld h).2.1⟩

theorem isOp_of {x : Ins} {o : Int} (h : chk x = 0) (ho : x.op = o) : isOp x o = true := by
  unfold isOp
  rw [h, ho]
  simp

theorem Frm.did_keep (F : Frm) (o a b c : Nat) (n : Int) : (F.did o a b c n).f = F.f ∧ (F.did o a b c n).h = F.h := by
  unfold Frm.did
  split
  all_goals first | exact ⟨rfl, rfl⟩ | skip
  split <;> exact ⟨rfl, rfl⟩

/-- What is plain passes on, or jumps. -/
theorem Frm.did_goes (F : Frm) (x : Ins) (h0 : 0 ≤ x.op) (h7 : x.op ≤ 7) :
    ((F.did x.op.toNat x.a.toNat x.b.toNat x.c.toNat x.n).pc = F.on.pc ∧ isP x = true ∨ (F.did x.op.toNat x.a.toNat x.b.toNat x.c.toNat x.n).pc = x.n ∧ isJ x = true) ∧
    (F.did x.op.toNat x.a.toNat x.b.toNat x.c.toNat x.n).st = F.on.st := by
  obtain ⟨o, a, b, c, n⟩ := x
  simp only at *
  have hm : o = 0 ∨ o = 1 ∨ o = 2 ∨ o = 3 ∨ o = 4 ∨ o = 5 ∨ o = 6 ∨ o = 7 := by omega
  rcases hm with rfl | rfl | rfl | rfl | rfl | rfl | rfl | rfl
  · exact ⟨.inl ⟨rfl, rfl⟩, rfl⟩
  · exact ⟨.inl ⟨rfl, rfl⟩, rfl⟩
  · exact ⟨.inl ⟨rfl, rfl⟩, rfl⟩
  · exact ⟨.inl ⟨rfl, rfl⟩, rfl⟩
  · exact ⟨.inl ⟨rfl, rfl⟩, rfl⟩
  · exact ⟨.inl ⟨rfl, rfl⟩, rfl⟩
  · exact ⟨.inr ⟨rfl, rfl⟩, rfl⟩
  · have e : F.did (Int.toNat 7) a.toNat b.toNat c.toNat n = if F.r a.toNat = 0 then F.on else F.to n := rfl
    rw [e]
    split
    · exact ⟨.inl ⟨rfl, rfl⟩, rfl⟩
    · exact ⟨.inr ⟨rfl, rfl⟩, rfl⟩

/-- What one instruction keeps. -/
def ActOk (P : List Fn) (N base a : Nat) (T : Tk) (G : Gl) : Act1 → Prop
  | .stop e => e = 22 ∨ e = 23
  | .fin T' kind v G' => (2 ≤ kind ∧ kind ≤ 4) ∧ G' = G.more ∧ G.st < N ∧ T'.row = T.row ∧ T'.F.st = T.F.st + 1 ∧ T'.cl = T.cl
  | .go T' G' => Inv P N base a T' G' ∧ T'.row = T.row ∧ G'.st = G.st + 1 ∧ (G' = G.more ∨ ∃ r, isDone r ∧ G'.rows = G.rows ++ [r])
  | .sub K T' G' => Inv P N (base + T.os.length) G.rows.length K G' ∧ G'.st = G.st + 1 ∧ (∃ r, G'.rows = G.rows ++ [r]) ∧ T'.row = T.row ∧ T'.F.st = T.F.st + 1 ∧
      ∀ G2, Ext G.rows.length G' G2 → G2.st ≤ N → Inv P N base a T' G2

theorem nbit_testBit (nd : Nat) {h : Nat} (hh : h < 8) : nbit (nd : Int) h = (low (nd : Int)).testBit h := bit_is (nd : Int) hh

theorem Frm.forked_of {F : Frm} {x : Ins} (id : Int) (h : isOp x 8 = true) : F.forked x id = (F.hold x.a.toNat id).on := by
  unfold Frm.forked
  rw [h]
  rfl
theorem Frm.closed_of {F : Frm} {x : Ins} (b : Bool) (h : isOp x 12 = true) : F.closed x b = (F.put x.a.toNat (if b then 1 else 0)).on := by
  unfold Frm.closed
  rw [h]
  rfl

theorem asks_len (l : List (Nat × Bool)) : (asks l).length = l.length := by cases l <;> rfl

theorem act_ok {P : List Fn} {N base a : Nat} {T : Tk} {G : Gl} (A : Acc P) (hN : N ≤ 1048576) (I : Inv P N base a T G) : ActOk P N base a T G (act P N base a T G (insAt P T.F)) := by
  obtain ⟨q, k, v, f, hq, hf, hk, hx, hc, hk8, hW, hh⟩ := I.ins A
  generalize insAt P T.F = x at *
  have hop := chk_op hc
  have hst := I.st
  have hsN := I.steps
  have hrw := I.rows
  have hdp := I.deep
  have how := I.own
  have hia := (List.getElem?_eq_some_iff.1 I.row).1
  unfold act
  by_cases h0 : N ≤ G.st
  · rw [if_pos h0]; exact .inl rfl
  rw [if_neg h0]
  by_cases h7 : x.op ≤ 7
  · rw [if_pos h7]
    obtain ⟨hpc, hs⟩ := T.F.did_goes x hop.1 h7
    obtain ⟨hdf, hdh⟩ := T.F.did_keep x.op.toNat x.a.toNat x.b.toNat x.c.toNat x.n
    have hs' := hs.trans (T.F.on_st G.st hst.1 hst.2 (by omega))
    refine ⟨?_, rfl, rfl, .inl rfl⟩
    rcases hpc with ⟨hpc, hp⟩ | ⟨hpc, hp⟩
    · have hW2 := Way.went A hq hW hx hp (d' := (T.os.length : Int) - 1) (by unfold dstep; rw [if_neg (by omega), if_neg (by omega)]) (by omega)
      exact I.next hq (hdf.trans hf) (hpc.trans (T.F.on_pc k hk (by omega))) hW2 (fun h h8 hb => by rw [hdh]; exact hh h h8 hb) rfl rfl hdp how hs' (by simp) (by simp) (by simp [Gl.more]) (by simp [Gl.more]; omega) (by simp [Gl.more]; omega)
    · have hJ := Way.jump A hq hx hp
      have hW2 := Way.jumped A hq hW hx hp
      exact I.next hq (hdf.trans hf) (hpc.trans (by omega)) hW2 (fun h h8 hb => by rw [hdh]; exact hh h h8 hb) rfl rfl hdp how hs' (by simp) (by simp) (by simp [Gl.more]) (by simp [Gl.more]; omega) (by simp [Gl.more]; omega)
  rw [if_neg h7]
  by_cases h8 : x.op = 8
  · rw [if_pos h8]
    by_cases hd : 32 ≤ base + T.os.length
    · rw [if_pos hd]; exact .inr rfl
    rw [if_neg hd]
    obtain ⟨hm0, hm1, ha0, ha1, g, hg, hg0, hg1, hless⟩ := Way.fork A hq hW hx h8
    have hW2 := Way.forked A hq hW hx h8
    have hfk := Frm.forked_of (F := T.F) (G.rows.length : Int) (isOp_of hc h8)
    have hpc : (T.F.forked x G.rows.length).pc = (k + 1 : Nat) := by rw [hfk]; exact (T.F.hold _ _).on_pc k hk (by omega)
    have hs : (T.F.forked x G.rows.length).st = T.F.st + 1 := by rw [hfk]; exact (T.F.hold _ _).on_st G.st hst.1 hst.2 (by omega)
    have hff : (T.F.forked x G.rows.length).f = q := by rw [hfk]; exact hf
    have hha : ∀ h, (T.F.forked x G.rows.length).h h = if h = x.a.toNat then (G.rows.length : Int) else T.F.h h := by intro h; rw [hfk]; rfl
    -- the parent behind it
    have par : ∀ G2 : Gl, G.rows.length < G2.rows.length → (∀ i, i < G.rows.length → G2.rows[i]? = G.rows[i]?) → (∃ r, G2.rows[G.rows.length]? = some r ∧ isDone r) → G.st + 1 ≤ G2.st → G2.st ≤ N → G2.rows.length ≤ G2.st + 1 →
        Inv P N base a { T with F := T.F.forked x G.rows.length } G2 := by
      intro G2 hl2 hsame hdone h1 h2 h3
      refine I.next hq hff hpc hW2 (fun h hh8 hb => ?_) rfl (hsame a hia) hdp how hs (by simp) (by simp) h1 h2 h3
      show ∃ j : Nat, (T.F.forked x G.rows.length).h h = j ∧ _
      rw [hha]
      by_cases he : h = x.a.toNat
      · rw [if_pos he]
        exact ⟨_, rfl, hdone⟩
      · rw [if_neg he]
        rw [Nat.testBit_or, Nat.testBit_two_pow, decide_eq_false (fun e => he e.symm), Bool.or_false] at hb
        obtain ⟨j, hj, r, hr, hrd⟩ := hh h hh8 hb
        exact ⟨j, hj, r, (hsame j (List.getElem?_eq_some_iff.1 hr).1).trans hr, hrd⟩
    by_cases ho : askd T.os = true
    · rw [if_pos ho]
      refine ⟨?_, rfl, rfl, .inr ⟨_, ⟨by simp [Rw.lost], by simp [Rw.lost]⟩, rfl⟩⟩
      refine par _ (by simp) (fun i hi => by simp only; rw [List.getElem?_append_left hi]) ⟨(kidRow a T x).lost, by simp only; rw [List.getElem?_append_right (Nat.le_refl _)]; simp, ⟨by simp [Rw.lost], by simp [Rw.lost]⟩⟩ (Nat.le_refl _) (by simp only; omega) (by simp only [List.length_append, List.length_cons, List.length_nil]; omega)
    · rw [if_neg ho]
      refine ⟨?_, rfl, ⟨_, rfl⟩, rfl, hs, fun G2 E h2 => ?_⟩
      · obtain ⟨nd, hnd⟩ : ∃ nd : Nat, g.needs = nd := ⟨g.needs.toNat, by omega⟩
        have hneeds : needsOf P x.n = nd := by unfold needsOf; rw [hg]; exact hnd
        have hWs := Way.start A hg
        refine ⟨⟨x.n.toNat, 0, low g.needs, g, hg, by show ((x.n.toNat : Nat) : Int) = _; rfl, rfl, hWs, fun h hh8 hb => ?_⟩, ?_, rfl, rfl, rfl, rfl, ?_, by simp [kidOf], ⟨by simp [kidOf, Frm.kid], by simp only [kidOf, Frm.kid]; omega⟩, by simp [kidOf], by simp [kidOf], by simp only; omega, ?_⟩
        · have hv := (less_zero (low_lt _)).1 hless h hh8 hb
          obtain ⟨j, hj, r, hr, hrd⟩ := hh h hh8 hv
          have hn : nbit (needsOf P x.n) h = true := by rw [hneeds, nbit_testBit nd hh8, ← hnd]; exact hb
          refine ⟨j, ?_, r, ?_, hrd⟩
          · show (if h < 8 ∧ nbit (needsOf P x.n) h = true then T.F.h h else -1) = j
            rw [if_pos ⟨hh8, hn⟩]
            exact hj
          · simp only
            rw [List.getElem?_append_left (List.getElem?_eq_some_iff.1 hr).1]
            exact hr
        · simp only
          rw [List.getElem?_append_right (Nat.le_refl _)]
          simp [kidOf]
        · simp only [kidOf, List.length_cons, List.length_nil]
          omega
        · simp only [List.length_append, List.length_cons, List.length_nil]
          omega
      · have hlen := E.len
        have hfew := E.few
        have hstp := E.steps
        simp only [List.length_append, List.length_cons, List.length_nil] at hlen hfew hstp
        have hlt : G.rows.length < G2.rows.length := by omega
        refine par G2 hlt (fun i hi => ?_) ⟨_, List.getElem?_eq_getElem hlt, E.done _ (.inl rfl) _ (List.getElem?_eq_getElem hlt)⟩ (by omega) h2 (by omega)
        rw [E.same i (by simp only [List.length_append, List.length_cons, List.length_nil]; omega) (by omega)]
        simp only
        rw [List.getElem?_append_left hi]
  rw [if_neg h8]
  by_cases h9 : x.op = 9 ∨ x.op = 10
  · rw [if_pos h9]
    have hp : isP x = true := by unfold isP; rcases h9 with h | h <;> (rw [h]; decide)
    have hW2 := Way.went A hq hW hx hp (d' := (T.os.length : Int) - 1) (by unfold dstep; rw [if_neg (by omega), if_neg (by omega)]) (by omega)
    have hd : isDone (rowOf T.F x G) := by
      have key : ∀ h : Nat, h < 8 → v.testBit h = true → isDone (G.rows.getD (T.F.h h).toNat Rw.zero) := by
        intro h hh8 hb
        obtain ⟨j, hj, r, hr, hrd⟩ := hh h hh8 hb
        rw [hj, Int.toNat_natCast, List.getD_eq_getElem?_getD, hr]
        exact hrd
      unfold rowOf handOf
      rcases h9 with h | h
      · rw [if_neg (by omega)]
        obtain ⟨hb0, hb1, hbit⟩ := Way.join A hq hW hx h
        exact key _ (by omega) hbit
      · rw [if_pos h]
        obtain ⟨hb0, hb1, hbit⟩ := Way.try_ A hq hW hx h
        exact key _ (by omega) hbit
    obtain ⟨hd2, hd4⟩ := hd
    generalize rowOf T.F x G = r at *
    have hj : ∀ F', (∃ b y, F' = (T.F.put b y).on) ∨ (∃ b y c z, F' = ((T.F.put b y).put c z).on) → F'.f = q ∧ F'.pc = (k + 1 : Nat) ∧ F'.st = T.F.st + 1 ∧ F'.h = T.F.h := by
      rintro F' (⟨b, y, rfl⟩ | ⟨b, y, c, z, rfl⟩)
      · exact ⟨hf, (T.F.put b y).on_pc k hk (by omega), (T.F.put b y).on_st G.st hst.1 hst.2 (by omega), rfl⟩
      · exact ⟨hf, ((T.F.put b y).put c z).on_pc k hk (by omega), ((T.F.put b y).put c z).on_st G.st hst.1 hst.2 (by omega), rfl⟩
    by_cases hpa : panics x r.kind = true
    · rw [if_pos hpa]
      refine ⟨by omega, rfl, by omega, rfl, ?_, rfl⟩
      unfold panics at hpa
      simp only [Bool.and_eq_true, decide_eq_true_eq] at hpa
      show (T.F.joined x r.kind r.v).st = _
      unfold Frm.joined
      rw [if_pos ⟨hd2, hd4⟩, if_neg (by rw [isOp_not hpa.2 (p := 10) (by omega)]; simp), if_pos hpa.2, if_neg (by omega)]
      show wrap64 (T.F.st + 1) = _
      exact wrap_small (by omega) (by omega)
    · rw [if_neg hpa]
      have hF : (∃ b y, T.F.joined x r.kind r.v = (T.F.put b y).on) ∨ (∃ b y c z, T.F.joined x r.kind r.v = ((T.F.put b y).put c z).on) := by
        unfold Frm.joined
        rw [if_pos ⟨hd2, hd4⟩]
        rcases h9 with h | h
        · have h9' := isOp_of hc h
          rw [if_neg (by rw [isOp_not h9' (p := 10) (by omega)]; simp), if_pos h9']
          have : r.kind = 2 := by
            unfold panics at hpa
            rw [h9', Bool.and_true] at hpa
            simp only [Bool.and_eq_true, decide_eq_true_eq, not_and] at hpa
            have := hpa
            omega
          rw [if_pos this]
          exact .inl ⟨_, _, rfl⟩
        · rw [if_pos (isOp_of hc h)]
          exact .inr ⟨_, _, _, _, rfl⟩
      obtain ⟨e1, e2, e3, e4⟩ := hj _ hF
      exact ⟨I.next hq e1 e2 hW2 (fun h h8 hb => by rw [e4]; exact hh h h8 hb) rfl rfl hdp how e3 (by simp) (by simp) (by simp [Gl.more]) (by simp [Gl.more]; omega) (by simp [Gl.more]; omega), rfl, rfl, .inl rfl⟩
  rw [if_neg h9]
  have on : ∀ F' : Frm, F'.f = T.F.f → F'.pc = T.F.pc → F'.st = T.F.st → F'.on.f = q ∧ F'.on.pc = (k + 1 : Nat) ∧ F'.on.st = T.F.st + 1 := fun F' e1 e2 e3 =>
    ⟨e1.trans hf, F'.on_pc k (e2.trans hk) (by omega), (F'.on_st G.st (by omega) (by omega) (by omega)).trans (by rw [e3])⟩
  by_cases h11 : x.op = 11
  · rw [if_pos h11]
    by_cases hd : 32 ≤ base + T.os.length
    · rw [if_pos hd]; exact .inr rfl
    rw [if_neg hd]
    have hp : isP x = true := by unfold isP; rw [h11]; decide
    have hW2 := Way.went A hq hW hx hp (d' := (T.os.length : Int) - 1 + 1) (by unfold dstep; rw [if_pos h11]) (by omega)
    obtain ⟨e1, e2, e3⟩ := on T.F rfl rfl rfl
    exact ⟨I.next hq e1 e2 (by simp only [List.length_cons]; rw [show ((T.os.length + 1 : Nat) : Int) - 1 = (T.os.length : Int) - 1 + 1 by omega]; exact hW2) (fun h h8 hb => hh h h8 hb) rfl rfl (by simp only [List.length_cons]; omega) (by simp) e3 (by simp) (by simp) (by simp [Gl.more]) (by simp [Gl.more]; omega) (by simp [Gl.more]; omega), rfl, rfl, .inl rfl⟩
  rw [if_neg h11]
  by_cases h12 : x.op = 12
  · rw [if_pos h12]
    have hp : isP x = true := by unfold isP; rw [h12]; decide
    have h1 := Way.open_ A hq hW hx (.inl h12)
    have hW2 := Way.went A hq hW hx hp (d' := (T.os.length : Int) - 1 - 1) (by unfold dstep; rw [if_neg (by omega), if_pos h12]) (by omega)
    obtain ⟨e1, e2, e3⟩ := on (T.F.put x.a.toNat (if (hd T.os).2 then 1 else 0)) rfl rfl rfl
    have hcl := Frm.closed_of (F := T.F) (hd T.os).2 (isOp_of hc h12)
    have e4 : (T.F.closed x (hd T.os).2).h = T.F.h := by rw [hcl]; rfl
    rw [← hcl] at e1 e2 e3
    exact ⟨I.next hq e1 e2 (by simp only [List.length_tail]; rw [show ((T.os.length - 1 : Nat) : Int) - 1 = (T.os.length : Int) - 1 - 1 by omega]; exact hW2) (fun h h8 hb => by simp only; rw [e4]; exact hh h h8 hb) rfl rfl (by simp only [List.length_tail]; omega) (by simp only [List.length_tail]; omega) e3 (by simp) (by simp) (by simp [Gl.more]) (by simp [Gl.more]; omega) (by simp [Gl.more]; omega), rfl, rfl, .inl rfl⟩
  rw [if_neg h12]
  by_cases h13 : x.op = 13
  · rw [if_pos h13]
    have hp : isP x = true := by unfold isP; rw [h13]; decide
    have hW2 := Way.went A hq hW hx hp (d' := (T.os.length : Int) - 1) (by unfold dstep; rw [if_neg (by omega), if_neg (by omega)]) (by omega)
    obtain ⟨e1, e2, e3⟩ := on T.F rfl rfl rfl
    exact ⟨I.next hq e1 e2 (by simp only [asks_len]; exact hW2) (fun h h8 hb => hh h h8 hb) rfl rfl (by simp only [asks_len]; omega) (by simp only [asks_len]; omega) e3 (by simp) (by simp) (by simp [Gl.more]) (by simp [Gl.more]; omega) (by simp [Gl.more]; omega), rfl, rfl, .inl rfl⟩
  rw [if_neg h13]
  by_cases h14 : x.op = 14
  · rw [if_pos h14]
    have hp : isP x = true := by unfold isP; rw [h14]; decide
    have hW2 := Way.went A hq hW hx hp (d' := (T.os.length : Int) - 1) (by unfold dstep; rw [if_neg (by omega), if_neg (by omega)]) (by omega)
    obtain ⟨e1, e2, e3⟩ := on T.F rfl rfl rfl
    exact ⟨I.next hq e1 e2 hW2 (fun h h8 hb => hh h h8 hb) rfl rfl hdp how e3 (by simp) (by simp) (by simp [Gl.more]) (by simp [Gl.more]; omega) (by simp [Gl.more]; omega), rfl, rfl, .inl rfl⟩
  rw [if_neg h14]
  obtain ⟨e1, e2, e3⟩ := on T.F rfl rfl rfl
  exact ⟨by split <;> omega, rfl, by omega, rfl, e3, rfl⟩

/-- What a task's end leaves of the rows. -/
theorem exec_ext {P : List Fn} {N : Nat} (A : Acc P) (hN : N ≤ 1048576) (n : Nat) : ∀ (base a : Nat) (T : Tk) (G G' : Gl), Inv P N base a T G → exec P N n base a T G = some (.done G') → Ext a G G' ∧ G'.st ≤ N := by
  induction n with
  | zero => intro base a T G G' I h; cases h
  | succ n ih =>
    intro base a T G G' I h
    have hok := act_ok A hN I
    have hia := (List.getElem?_eq_some_iff.1 I.row).1
    unfold exec at h
    generalize act P N base a T G (insAt P T.F) = x at hok h
    cases x with
    | stop e => simp at h
    | fin T' kind v G1 =>
      obtain ⟨hk, rfl, hlt, hr, hs, hcl⟩ := hok
      simp only [Option.some.injEq, Out.done.injEq] at h
      subst h
      refine ⟨⟨by simp [Gl.more], fun i hi hne => by simp only [Gl.more]; rw [List.getElem?_set_ne (fun e => hne e.symm)], fun i hi r hr => ?_, by simp [Gl.more], by simp [Gl.more]⟩, by simp only [Gl.more]; omega⟩
      simp only [Gl.more] at hr
      rcases hi with rfl | hi
      · rw [List.getElem?_set_self hia] at hr
        injection hr with hr
        subst hr
        exact hk
      · have := (List.getElem?_eq_some_iff.1 hr).1
        simp at this
        omega
    | go T' G1 =>
      obtain ⟨I', hr, hs, hrow⟩ := hok
      obtain ⟨E, hle⟩ := ih base a T' G1 G' I' h
      have el := E.len
      have es := E.steps
      have ef := E.few
      rcases hrow with rfl | ⟨r, hrd, hrw⟩
      · simp only [Gl.more] at el es ef
        exact ⟨⟨el, E.same, E.done, by omega, by omega⟩, hle⟩
      · have hl1 : G1.rows.length = G.rows.length + 1 := by rw [hrw]; simp
        refine ⟨⟨by omega, fun i hi hne => ?_, fun i hi r' hr' => ?_, by omega, by omega⟩, hle⟩
        · rw [E.same i (by omega) hne, hrw, List.getElem?_append_left hi]
        · by_cases hi2 : i = a ∨ G1.rows.length ≤ i
          · exact E.done i hi2 r' hr'
          · have hi3 : i = G.rows.length := by omega
            subst hi3
            rw [E.same _ (by omega) (by omega), hrw, List.getElem?_append_right (Nat.le_refl _)] at hr'
            simp at hr'
            subst hr'
            exact hrd
    | sub K T' G1 =>
      obtain ⟨IK, hs, ⟨r, hrw⟩, hr, hst, hpar⟩ := hok
      have hl1 : G1.rows.length = G.rows.length + 1 := by rw [hrw]; simp
      simp only at h
      split at h
      · cases h
      · cases h
      · rename_i G2 hk
        obtain ⟨E2, hle2⟩ := ih _ _ K G1 G2 IK hk
        obtain ⟨E, hle⟩ := ih base a T' G2 G' (hpar G2 E2 hle2) h
        have el := E.len
        have es := E.steps
        have ef := E.few
        have el2 := E2.len
        have es2 := E2.steps
        have ef2 := E2.few
        refine ⟨⟨by omega, fun i hi hne => ?_, fun i hi r' hr' => ?_, by omega, by omega⟩, hle⟩
        · rw [E.same i (by omega) hne, E2.same i (by omega) (by omega), hrw, List.getElem?_append_left hi]
        · by_cases hi2 : i = a ∨ G2.rows.length ≤ i
          · exact E.done i hi2 r' hr'
          · rw [E.same _ (by omega) (by omega)] at hr'
            exact E2.done i (by omega) r' hr'

/-- It comes to an end. -/
theorem exec_some {P : List Fn} {N : Nat} (A : Acc P) (hN : N ≤ 1048576) (n : Nat) : ∀ (base a : Nat) (T : Tk) (G : Gl), Inv P N base a T G → N < G.st + n → ∃ o, exec P N n base a T G = some o := by
  induction n with
  | zero => intro base a T G I h; have := I.steps; omega
  | succ n ih =>
    intro base a T G I h
    have hok := act_ok A hN I
    unfold exec
    generalize act P N base a T G (insAt P T.F) = x at hok
    cases x with
    | stop e => exact ⟨_, rfl⟩
    | fin T' kind v G1 => exact ⟨_, rfl⟩
    | go T' G1 => exact ih base a T' G1 hok.1 (by have := hok.2.2.1; omega)
    | sub K T' G1 =>
      obtain ⟨IK, hs, ⟨r, hrw⟩, hr, hst, hpar⟩ := hok
      obtain ⟨o, ho⟩ := ih _ _ K G1 IK (by omega)
      simp only [ho]
      cases o with
      | err e => exact ⟨_, rfl⟩
      | done G2 =>
        obtain ⟨E2, hle2⟩ := exec_ext A hN n _ _ K G1 G2 IK ho
        have := E2.steps
        exact ih base a T' G2 (hpar G2 E2 hle2) (by omega)

theorem root_inv {P : List Fn} (A : Acc P) (N : Nat) : Inv P N 0 0 rootT rootG := by
  have h1 := A.one
  have hf : P[0]? = some P[0] := List.getElem?_eq_getElem (by omega)
  have hn := A.root _ hf
  have hW := Way.start A hf
  refine ⟨⟨0, 0, low P[0].needs, P[0], hf, rfl, rfl, hW, fun h hh8 hb => ?_⟩, rfl, rfl, rfl, rfl, rfl, by simp [rootT], by simp [rootT], ⟨Int.le_refl _, Int.le_refl _⟩, by simp [rootT], by simp [rootT], by simp [rootG], by simp [rootG]⟩
  rw [hn] at hb
  rw [show low 0 = 0 from rfl, Nat.zero_testBit] at hb
  cases hb

end Go.Proofs.YtpjcdjooiaefdaaDoor

/-
  What a program comes to, with more fuel, and with less; the sum of its steps; who forked whom; what is plain.
-/
namespace Go.Proofs.YtpjcdjooiaefdaaDoor
open Go.RowKit
set_option linter.unusedVariables false

section
variable {P : List Fn}

theorem act_same {N N' base a : Nat} {T : Tk} {G : Gl} {x : Ins} (h : G.st < N) (h' : G.st < N') : act P N base a T G x = act P N' base a T G x := by
  unfold act
  rw [if_neg (show ¬ N ≤ G.st by omega), if_neg (show ¬ N' ≤ G.st by omega)]

theorem act_dry {N base a : Nat} {T : Tk} {G : Gl} {x : Ins} (h : N ≤ G.st) : act P N base a T G x = .stop 22 := by
  unfold act
  rw [if_pos h]

theorem exec_grow {N : Nat} : ∀ (n n' base a : Nat) (T : Tk) (G : Gl) (o : Out), exec P N n base a T G = some o → n ≤ n' → exec P N n' base a T G = some o := by
  intro n
  induction n with
  | zero => intro n' base a T G o h; cases h
  | succ n ih =>
    intro n' base a T G o h hn
    obtain ⟨m, rfl⟩ : ∃ m, n' = m + 1 := ⟨n' - 1, by omega⟩
    unfold exec at h ⊢
    generalize act P N base a T G (insAt P T.F) = x at h
    cases x with
    | stop e => exact h
    | fin T' kind v G1 => exact h
    | go T' G1 => exact ih m _ _ _ _ _ h (by omega)
    | sub K T' G1 =>
      simp only at h ⊢
      split at h
      · cases h
      · rename_i e he
        rw [ih m _ _ _ _ _ he (by omega)]
        exact h
      · rename_i G2 he
        rw [ih m _ _ _ _ _ he (by omega)]
        exact ih m _ _ _ _ _ h (by omega)

theorem exec_more {N N' : Nat} (hN : N ≤ N') : ∀ (n base a : Nat) (T : Tk) (G : Gl) (o : Out), exec P N n base a T G = some o → o ≠ .err 22 → exec P N' n base a T G = some o := by
  intro n
  induction n with
  | zero => intro base a T G o h; cases h
  | succ n ih =>
    intro base a T G o h ho
    by_cases hs : N ≤ G.st
    · unfold exec at h
      rw [act_dry hs] at h
      injection h with h
      exact absurd h.symm ho
    unfold exec at h ⊢
    rw [act_same (N' := N') (by omega) (by omega)] at h
    generalize act P N' base a T G (insAt P T.F) = x at h
    cases x with
    | stop e => exact h
    | fin T' kind v G1 => exact h
    | go T' G1 => exact ih _ _ _ _ _ h ho
    | sub K T' G1 =>
      simp only at h ⊢
      split at h
      · cases h
      · rename_i e he
        rw [ih _ _ _ _ _ he (by intro e; apply ho; rw [← e]; injection h with h; exact h.symm)]
        exact h
      · rename_i G2 he
        rw [ih _ _ _ _ _ he (by intro e; cases e)]
        exact ih _ _ _ _ _ h ho

theorem exec_one {N : Nat} {n n' base a : Nat} {T : Tk} {G : Gl} {o o' : Out} (h : exec P N n base a T G = some o) (h' : exec P N n' base a T G = some o') : o = o' := by
  rcases Nat.le_total n n' with hl | hl
  · have := exec_grow _ _ _ _ _ _ _ h hl
    rw [this] at h'
    injection h'
  · have := exec_grow _ _ _ _ _ _ _ h' hl
    rw [this] at h
    injection h with h
    exact h.symm

theorem exec_less {N N' : Nat} (A : Acc P) (hN : N ≤ 1048576) : ∀ (n base a : Nat) (T : Tk) (G G' : Gl), Inv P N base a T G → exec P N n base a T G = some (.done G') → G'.st ≤ N' → exec P N' n base a T G = some (.done G') := by
  intro n
  induction n with
  | zero => intro base a T G G' I h; cases h
  | succ n ih =>
    intro base a T G G' I h hG
    have hx := (exec_ext A hN _ _ _ _ _ _ I h).1.steps
    have hle := (exec_ext A hN _ _ _ _ _ _ I h).2
    have hok := act_ok A hN I
    unfold exec at h ⊢
    rw [act_same (N' := N) (by omega) (by omega)]
    generalize act P N base a T G (insAt P T.F) = x at h hok
    cases x with
    | stop e => exact h
    | fin T' kind v G1 => exact h
    | go T' G1 => exact ih _ _ _ _ _ hok.1 h hG
    | sub K T' G1 =>
      obtain ⟨IK, hs, ⟨r, hrw⟩, hr, hst, hpar⟩ := hok
      simp only at h ⊢
      split at h
      · cases h
      · cases h
      · rename_i G2 he
        obtain ⟨E2, hle2⟩ := exec_ext A hN _ _ _ _ _ _ IK he
        have I2 := hpar G2 E2 hle2
        have h3 := (exec_ext A hN _ _ _ _ _ _ I2 h).1.steps
        rw [ih _ _ _ _ _ IK he (by omega)]
        exact ih _ _ _ _ _ I2 h hG

theorem exec_short {N N' : Nat} (A : Acc P) (hN : N ≤ 1048576) : ∀ (n base a : Nat) (T : Tk) (G G' : Gl), Inv P N base a T G → exec P N n base a T G = some (.done G') → N' < G'.st → exec P N' n base a T G = some (.err 22) := by
  intro n
  induction n with
  | zero => intro base a T G G' I h; cases h
  | succ n ih =>
    intro base a T G G' I h hG
    have hx := (exec_ext A hN _ _ _ _ _ _ I h).1.steps
    have hle := (exec_ext A hN _ _ _ _ _ _ I h).2
    have hok := act_ok A hN I
    by_cases hd : N' ≤ G.st
    · unfold exec
      rw [act_dry hd]
    unfold exec at h ⊢
    rw [act_same (N' := N) (by omega) (by omega)]
    generalize act P N base a T G (insAt P T.F) = x at h hok
    cases x with
    | stop e => cases h
    | fin T' kind v G1 =>
      obtain ⟨_, rfl, _⟩ := hok
      simp only [Option.some.injEq, Out.done.injEq] at h
      subst h
      simp only [Gl.more] at hG
      omega
    | go T' G1 => exact ih _ _ _ _ _ hok.1 h hG
    | sub K T' G1 =>
      obtain ⟨IK, hs, ⟨r, hrw⟩, hr, hst, hpar⟩ := hok
      simp only at h ⊢
      split at h
      · cases h
      · cases h
      · rename_i G2 he
        obtain ⟨E2, hle2⟩ := exec_ext A hN _ _ _ _ _ _ IK he
        have I2 := hpar G2 E2 hle2
        by_cases hk : N' < G2.st
        · rw [ih _ _ _ _ _ IK he hk]
        · rw [exec_less A hN _ _ _ _ _ _ IK he (by omega)]
          exact ih _ _ _ _ _ I2 h hG

theorem exec_errs {N : Nat} (A : Acc P) (hN : N ≤ 1048576) : ∀ (n base a : Nat) (T : Tk) (G : Gl) (e : Int), Inv P N base a T G → exec P N n base a T G = some (.err e) → e = 22 ∨ e = 23 := by
  intro n
  induction n with
  | zero => intro base a T G e I h; cases h
  | succ n ih =>
    intro base a T G e I h
    have hok := act_ok A hN I
    unfold exec at h
    generalize act P N base a T G (insAt P T.F) = x at h hok
    cases x with
    | stop e' => injection h with h; injection h with h; subst h; exact hok
    | fin T' kind v G1 => cases h
    | go T' G1 => exact ih _ _ _ _ _ hok.1 h
    | sub K T' G1 =>
      obtain ⟨IK, hs, ⟨r, hrw⟩, hr, hst, hpar⟩ := hok
      simp only at h
      split at h
      · cases h
      · rename_i e' he
        injection h with h
        injection h with h
        subst h
        exact ih _ _ _ _ _ IK he
      · rename_i G2 he
        obtain ⟨E2, hle2⟩ := exec_ext A hN _ _ _ _ _ _ IK he
        exact ih _ _ _ _ _ (hpar G2 E2 hle2) h

/-! ### What an instruction makes of rows, and of scopes -/

def ActForm (a : Nat) (P : List Fn) (x : Ins) (T : Tk) (G : Gl) : Act1 → Prop
  | .stop _ => True
  | .fin T' kind v G' => (kind = 2 ∨ kind = 3) ∧ G'.rows = G.rows ∧ T'.row = T.row ∧ T'.cl = T.cl
  | .go T' G' => (G'.rows = G.rows ∨ G'.rows = G.rows ++ [(kidRow a T x).lost] ∧ askd T.os = true) ∧
      ((T'.os = T.os ∨ (∃ k, T'.os = (k, false) :: T.os) ∨ x.op = 13) ∧ T'.cl = T.cl ∨ T'.os = T.os.tail ∧ T'.cl = T.cl ++ [(hd T.os).2])
  | .sub K T' G' => K = kidOf P a T x ∧ T' = { T with F := T.F.forked x G.rows.length } ∧ G' = ⟨G.rows ++ [kidRow a T x], G.st + 1⟩ ∧ askd T.os = false

theorem act_form (N base a : Nat) (T : Tk) (G : Gl) (x : Ins) : ActForm a P x T G (act P N base a T G x) := by
  unfold act
  by_cases h0 : N ≤ G.st
  · rw [if_pos h0]; trivial
  rw [if_neg h0]
  by_cases h7 : x.op ≤ 7
  · rw [if_pos h7]; exact ⟨.inl rfl, .inl ⟨.inl rfl, rfl⟩⟩
  rw [if_neg h7]
  by_cases h8 : x.op = 8
  · rw [if_pos h8]
    by_cases hd : 32 ≤ base + T.os.length
    · rw [if_pos hd]; trivial
    rw [if_neg hd]
    by_cases ho : askd T.os = true
    · rw [if_pos ho]; exact ⟨.inr ⟨rfl, ho⟩, .inl ⟨.inl rfl, rfl⟩⟩
    · rw [if_neg ho]; exact ⟨rfl, rfl, rfl, by simpa using ho⟩
  rw [if_neg h8]
  by_cases h9 : x.op = 9 ∨ x.op = 10
  · rw [if_pos h9]
    split
    · exact ⟨.inr rfl, rfl, rfl, rfl⟩
    · exact ⟨.inl rfl, .inl ⟨.inl rfl, rfl⟩⟩
  rw [if_neg h9]
  by_cases h11 : x.op = 11
  · rw [if_pos h11]
    by_cases hd : 32 ≤ base + T.os.length
    · rw [if_pos hd]; trivial
    rw [if_neg hd]
    exact ⟨.inl rfl, .inl ⟨.inr (.inl ⟨_, rfl⟩), rfl⟩⟩
  rw [if_neg h11]
  by_cases h12 : x.op = 12
  · rw [if_pos h12]; exact ⟨.inl rfl, .inr ⟨rfl, rfl⟩⟩
  rw [if_neg h12]
  by_cases h13 : x.op = 13
  · rw [if_pos h13]; exact ⟨.inl rfl, .inl ⟨.inr (.inr h13), rfl⟩⟩
  rw [if_neg h13]
  by_cases h14 : x.op = 14
  · rw [if_pos h14]; exact ⟨.inl rfl, .inl ⟨.inl rfl, rfl⟩⟩
  rw [if_neg h14]
  exact ⟨by split <;> simp, rfl, rfl, rfl⟩

/-! ### Steps -/

def sumS (l : List Rw) : Int := (l.map (·.st)).sum
theorem sumS_set {l : List Rw} {a : Nat} {r r' : Rw} (h : l[a]? = some r) : sumS (l.set a r') = sumS l - r.st + r'.st := by
  unfold sumS
  induction l generalizing a with
  | nil => cases h
  | cons x t ih =>
    cases a with
    | zero => simp at h; subst h; simp; omega
    | succ a =>
      simp only [List.getElem?_cons_succ] at h
      have := ih h
      simp only [List.set_cons_succ, List.map_cons, List.sum_cons, this]
      omega
theorem sumS_add (l m : List Rw) : sumS (l ++ m) = sumS l + sumS m := by
  unfold sumS
  simp

/-- What a join looks at. -/
theorem Inv.hand {N base a : Nat} {T : Tk} {G : Gl} (A : Acc P) (I : Inv P N base a T G) (h9 : (insAt P T.F).op = 9 ∨ (insAt P T.F).op = 10) :
    handOf (insAt P T.F) < 8 ∧ ∃ (j : Nat) (r : Rw), T.F.h (handOf (insAt P T.F)) = j ∧ G.rows[j]? = some r ∧ isDone r ∧ rowOf T.F (insAt P T.F) G = r := by
  obtain ⟨q, k, v, f, hq, hf, hk, hx, hc, hk8, hW, hh⟩ := I.ins A
  generalize insAt P T.F = x at *
  have key : ∀ h : Nat, h = handOf x → h < 8 → v.testBit h = true → handOf x < 8 ∧ ∃ (j : Nat) (r : Rw), T.F.h (handOf x) = j ∧ G.rows[j]? = some r ∧ isDone r ∧ rowOf T.F x G = r := by
    rintro h rfl hh8 hb
    obtain ⟨j, hj, r, hr, hrd⟩ := hh _ hh8 hb
    refine ⟨hh8, j, r, hj, hr, hrd, ?_⟩
    unfold rowOf
    rw [hj, Int.toNat_natCast, List.getD_eq_getElem?_getD, hr]
    rfl
  rcases h9 with h | h
  · obtain ⟨hb0, hb1, hbit⟩ := Way.join A hq hW hx h
    exact key _ (by unfold handOf; rw [if_neg (by omega)]) (by omega) hbit
  · obtain ⟨hb0, hb1, hbit⟩ := Way.try_ A hq hW hx h
    exact key _ (by unfold handOf; rw [if_pos h]) (by omega) hbit

/-- A join that goes on. -/
theorem joined_on {F : Frm} {x : Ins} {kd v : Int} (hc : chk x = 0) (h9 : x.op = 9 ∨ x.op = 10) (hd : 2 ≤ kd ∧ kd ≤ 4) (hp : panics x kd = false) : ∃ F' : Frm, F.joined x kd v = F'.on ∧ F'.st = F.st ∧ F'.h = F.h ∧ F'.f = F.f ∧ F'.pc = F.pc := by
  unfold Frm.joined
  rw [if_pos hd]
  rcases h9 with h | h
  · have h9' := isOp_of hc h
    rw [if_neg (by rw [isOp_not h9' (p := 10) (by omega)]; simp), if_pos h9']
    have : kd = 2 := by
      unfold panics at hp
      rw [h9', Bool.and_true, Bool.and_eq_false_iff] at hp
      simp only [decide_eq_false_iff_not] at hp
      omega
    rw [if_pos this]
    exact ⟨_, rfl, rfl, rfl, rfl, rfl⟩
  · rw [if_pos (isOp_of hc h)]
    exact ⟨_, rfl, rfl, rfl, rfl, rfl⟩

theorem act_st {N base a : Nat} {T T' : Tk} {G G' : Gl} (A : Acc P) (hN : N ≤ 1048576) (I : Inv P N base a T G) (h : act P N base a T G (insAt P T.F) = .go T' G') : T'.F.st = T.F.st + 1 := by
  have HD : (insAt P T.F).op = 9 ∨ (insAt P T.F).op = 10 → isDone (rowOf T.F (insAt P T.F) G) := fun h9 => by
    obtain ⟨_, _, _, _, _, hd, e⟩ := I.hand A h9
    rw [e]
    exact hd
  obtain ⟨q, k, v, f, hq, hf, hk, hx, hc, hk8, hW, hh⟩ := I.ins A
  generalize insAt P T.F = x at *
  have hop := chk_op hc
  have hst := I.st
  have hsN := I.steps
  have on : ∀ F' : Frm, F'.st = T.F.st → F'.on.st = T.F.st + 1 := fun F' e => (F'.on_st G.st (by omega) (by omega) (by omega)).trans (by rw [e])
  unfold act at h
  by_cases h0 : N ≤ G.st
  · rw [if_pos h0] at h; cases h
  rw [if_neg h0] at h
  by_cases h7 : x.op ≤ 7
  · rw [if_pos h7] at h
    injection h with h1 h2
    subst h1
    exact (T.F.did_goes x hop.1 h7).2.trans (on _ rfl)
  rw [if_neg h7] at h
  by_cases h8 : x.op = 8
  · rw [if_pos h8] at h
    split at h
    · cases h
    · split at h
      · injection h with h1 h2
        subst h1
        show (T.F.forked x G.rows.length).st = _
        rw [Frm.forked_of _ (isOp_of hc h8)]
        exact on _ rfl
      · cases h
  rw [if_neg h8] at h
  by_cases h9 : x.op = 9 ∨ x.op = 10
  · rw [if_pos h9] at h
    split at h
    · cases h
    · rename_i hp
      injection h with h1 h2
      subst h1
      show (T.F.joined x _ _).st = _
      have hdn := HD h9
      obtain ⟨F', e, e2, _⟩ := joined_on (F := T.F) (v := (rowOf T.F x G).v) hc h9 hdn (by simpa using hp)
      rw [e]
      exact on _ e2
  rw [if_neg h9] at h
  by_cases h11 : x.op = 11
  · rw [if_pos h11] at h
    split at h
    · cases h
    · injection h with h1 h2
      subst h1
      exact on _ rfl
  rw [if_neg h11] at h
  by_cases h12 : x.op = 12
  · rw [if_pos h12] at h
    injection h with h1 h2
    subst h1
    show (T.F.closed x _).st = _
    rw [Frm.closed_of _ (isOp_of hc h12)]
    exact on _ rfl
  rw [if_neg h12] at h
  by_cases h13 : x.op = 13
  · rw [if_pos h13] at h
    injection h with h1 h2
    subst h1
    exact on _ rfl
  rw [if_neg h13] at h
  by_cases h14 : x.op = 14
  · rw [if_pos h14] at h
    injection h with h1 h2
    subst h1
    exact on _ rfl
  rw [if_neg h14] at h
  cases h

theorem exec_sum {N : Nat} (A : Acc P) (hN : N ≤ 1048576) : ∀ (n base a : Nat) (T : Tk) (G G' : Gl), Inv P N base a T G → exec P N n base a T G = some (.done G') → sumS G'.rows + G.st = sumS G.rows + G'.st + T.F.st := by
  intro n
  induction n with
  | zero => intro base a T G G' I h; cases h
  | succ n ih =>
    intro base a T G G' I h
    have hok := act_ok A hN I
    have hfm := act_form (P := P) N base a T G (insAt P T.F)
    have hst0 := I.st0
    unfold exec at h
    generalize hact : act P N base a T G (insAt P T.F) = x at h hok hfm
    cases x with
    | stop e => cases h
    | fin T' kind v G1 =>
      obtain ⟨_, rfl, _, hr, hs, _⟩ := hok
      simp only [Option.some.injEq, Out.done.injEq] at h
      subst h
      simp only [Gl.more]
      rw [sumS_set I.row]
      simp only [Tk.told]
      omega
    | go T' G1 =>
      obtain ⟨I', hrow, hs, hg⟩ := hok
      have h2 := ih _ _ _ _ _ I' h
      have hF : T'.F.st = T.F.st + 1 := act_st A hN I hact
      have hR : sumS G1.rows = sumS G.rows := by
        rcases hfm.1 with e | ⟨e, _⟩
        · rw [e]
        · rw [e, sumS_add]
          simp [sumS, Rw.lost, kidRow, Rw.new]
      omega
    | sub K T' G1 =>
      obtain ⟨IK, hs, _, hr, hst, hpar⟩ := hok
      obtain ⟨rfl, rfl, rfl, _⟩ := hfm
      simp only at h hst
      split at h
      · cases h
      · cases h
      · rename_i G2 he
        obtain ⟨E2, hle2⟩ := exec_ext A hN _ _ _ _ _ _ IK he
        have h2 := ih _ _ _ _ _ IK he
        have h3 := ih _ _ _ _ _ (hpar G2 E2 hle2) h
        simp only [sumS_add] at h2 h3
        have e1 : sumS [kidRow a T (insAt P T.F)] = 0 := by simp [sumS, kidRow, Rw.new]
        have e2 : (kidOf P a T (insAt P T.F)).F.st = 0 := rfl
        rw [e1, e2] at h2
        simp only [Int.natCast_add] at h2
        omega

/-! ### Who forked whom -/

theorem exec_par {N : Nat} (A : Acc P) (hN : N ≤ 1048576) : ∀ (n base a : Nat) (T : Tk) (G G' : Gl), Inv P N base a T G → exec P N n base a T G = some (.done G') →
    (∀ i r, G.rows.length ≤ i → G'.rows[i]? = some r → (a : Int) ≤ r.par ∧ r.par < i) ∧ ∃ r, G'.rows[a]? = some r ∧ r.par = T.row.par ∧ r.in_ = T.row.in_ ∧ r.fn = T.row.fn := by
  intro n
  induction n with
  | zero => intro base a T G G' I h; cases h
  | succ n ih =>
    intro base a T G G' I h
    have hok := act_ok A hN I
    have hfm := act_form (P := P) N base a T G (insAt P T.F)
    have hia := (List.getElem?_eq_some_iff.1 I.row).1
    unfold exec at h
    generalize act P N base a T G (insAt P T.F) = x at h hok hfm
    cases x with
    | stop e => cases h
    | fin T' kind v G1 =>
      obtain ⟨_, rfl, _, hr, hs, _⟩ := hok
      simp only [Option.some.injEq, Out.done.injEq] at h
      subst h
      simp only [Gl.more]
      refine ⟨fun i r hi hri => ?_, T'.told kind v, List.getElem?_set_self hia, ?_⟩
      · have := (List.getElem?_eq_some_iff.1 hri).1
        simp only [List.length_set] at this
        omega
      · simp [Tk.told, hr]
    | go T' G1 =>
      obtain ⟨I', hrow, hs, hg⟩ := hok
      obtain ⟨h1, r, hr, hp⟩ := ih _ _ _ _ _ I' h
      obtain ⟨E, _⟩ := exec_ext A hN _ _ _ _ _ _ I' h
      rw [hrow] at hp
      refine ⟨fun i r hi hri => ?_, r, hr, hp⟩
      rcases hfm.1 with e | ⟨e, _⟩
      · exact h1 i r (by rw [e]; exact hi) hri
      · by_cases hi2 : G1.rows.length ≤ i
        · exact h1 i r hi2 hri
        · rw [E.same i (by omega) (by omega), e] at hri
          rw [e, List.length_append, List.length_singleton] at hi2
          obtain rfl : i = G.rows.length := by omega
          rw [List.getElem?_append_right (Nat.le_refl _)] at hri
          simp at hri
          subst hri
          simp only [Rw.lost, kidRow, Rw.new]
          omega
    | sub K T' G1 =>
      obtain ⟨IK, hs, _, hr, hst, hpar⟩ := hok
      obtain ⟨rfl, rfl, rfl, _⟩ := hfm
      simp only at h hst
      split at h
      · cases h
      · cases h
      · rename_i G2 he
        obtain ⟨E2, hle2⟩ := exec_ext A hN _ _ _ _ _ _ IK he
        have I2 := hpar G2 E2 hle2
        obtain ⟨E, _⟩ := exec_ext A hN _ _ _ _ _ _ I2 h
        obtain ⟨k1, r2, hr2, hp2, _⟩ := ih _ _ _ _ _ IK he
        obtain ⟨h1, r, hr, hp⟩ := ih _ _ _ _ _ I2 h
        refine ⟨fun i r hi hri => ?_, r, hr, hp⟩
        by_cases hi2 : G2.rows.length ≤ i
        · exact h1 i r hi2 hri
        · rw [E.same i (by omega) (by omega)] at hri
          by_cases hi3 : G.rows.length + 1 ≤ i
          · have := k1 i r (by simpa using hi3) hri
            omega
          · obtain rfl : i = G.rows.length := by omega
            rw [hr2] at hri
            injection hri with hri
            subst hri
            rw [hp2]
            simp only [kidOf, kidRow, Rw.new]
            omega

/-! ### What is plain -/

def calmR (r : Rw) : Prop := r.kind ≠ 4 ∧ ∀ b ∈ r.cl, b = false

theorem askd_tail {l : List (Nat × Bool)} (h : askd l = false) : askd l.tail = false := by
  unfold askd at *
  cases l with
  | nil => rfl
  | cons x t => simp only [List.any_cons, Bool.or_eq_false_iff] at h; exact h.2
theorem askd_hd {l : List (Nat × Bool)} (h : askd l = false) : (hd l).2 = false := by
  unfold askd at h
  cases l with
  | nil => rfl
  | cons x t => simp only [List.any_cons, Bool.or_eq_false_iff] at h; exact h.1

theorem exec_plain {N : Nat} (A : Acc P) (hN : N ≤ 1048576) (hpl : ∀ (q : Nat) f, P[q]? = some f → ∀ (j : Nat) i, f.code[j]? = some i → i.op ≠ 13) : ∀ (n base a : Nat) (T : Tk) (G G' : Gl), Inv P N base a T G → askd T.os = false → (∀ b ∈ T.cl, b = false) → (∀ r ∈ G.rows, calmR r) →
    exec P N n base a T G = some (.done G') → ∀ r ∈ G'.rows, calmR r := by
  intro n
  induction n with
  | zero => intro base a T G G' I _ _ _ h; cases h
  | succ n ih =>
    intro base a T G G' I ho hc hR h
    have hok := act_ok A hN I
    have hfm := act_form (P := P) N base a T G (insAt P T.F)
    obtain ⟨q, k, v, f, hq, hf, hk, hx, _⟩ := I.ins A
    have h13 := hpl q f hq k _ hx
    unfold exec at h
    generalize act P N base a T G (insAt P T.F) = x at h hok hfm
    cases x with
    | stop e => cases h
    | fin T' kind v G1 =>
      obtain ⟨_, rfl, _, hr, hs, hcl⟩ := hok
      simp only [Option.some.injEq, Out.done.injEq] at h
      subst h
      intro r hr2
      simp only [Gl.more] at hr2
      rcases List.mem_or_eq_of_mem_set hr2 with h2 | rfl
      · exact hR r h2
      · refine ⟨by simp only [Tk.told]; rcases hfm.1 with e | e <;> omega, ?_⟩
        simp only [Tk.told, hcl]
        exact hc
    | go T' G1 =>
      obtain ⟨I', hrow, hs, hg⟩ := hok
      obtain ⟨g1, g2⟩ := hfm
      have e1 : G1.rows = G.rows := by
        rcases g1 with e | ⟨_, e⟩
        · exact e
        · rw [ho] at e; cases e
      have e2 : askd T'.os = false ∧ ∀ b ∈ T'.cl, b = false := by
        rcases g2 with ⟨e | ⟨k, e⟩ | e, e'⟩ | ⟨e, e'⟩
        · rw [e, e']; exact ⟨ho, hc⟩
        · rw [e, e']; exact ⟨by unfold askd at *; simp only [List.any_cons, Bool.false_or]; exact ho, hc⟩
        · exact absurd e h13
        · rw [e, e']
          refine ⟨askd_tail ho, fun b hb => ?_⟩
          rcases List.mem_append.1 hb with hb | hb
          · exact hc b hb
          · simp only [List.mem_singleton] at hb; rw [hb]; exact askd_hd ho
      exact ih _ _ _ _ _ I' e2.1 e2.2 (by rw [e1]; exact hR) h
    | sub K T' G1 =>
      obtain ⟨IK, hs, _, hr, hst, hpar⟩ := hok
      obtain ⟨rfl, rfl, rfl, _⟩ := hfm
      simp only at h hst
      split at h
      · cases h
      · cases h
      · rename_i G2 he
        obtain ⟨E2, hle2⟩ := exec_ext A hN _ _ _ _ _ _ IK he
        have I2 := hpar G2 E2 hle2
        have hk := ih _ _ _ _ _ IK rfl (by intro b hb; cases hb) (by
          intro r hr
          rcases List.mem_append.1 hr with hr | hr
          · exact hR r hr
          · simp only [List.mem_singleton] at hr; subst hr; exact ⟨by simp [kidRow, Rw.new], by intro b hb; cases hb⟩) he
        exact ih _ _ _ _ _ I2 ho hc hk h
end

end Go.Proofs.YtpjcdjooiaefdaaDoor

/-
  Tasks, scopes and rows as they lie in memory.
-/
namespace Go.Proofs.YtpjcdjooiaefdaaDoor
open Go.RowKit
set_option linter.unusedVariables false

/-- What scopes told, as a text. -/
def clB (l : List Bool) : List UInt8 := l.map fun b => if b then 49 else 48
def clS (l : List Bool) : ByteArray := ⟨(clB l).toArray⟩

def Rw.cells (r : Rw) : List Value := [.int .i64 r.par, .int .i64 r.in_, .int .i64 r.fn, .int .i64 r.kind, .int .i64 r.v, .int .i64 r.st, .string (clS r.cl)]
theorem Rw.cells_len (r : Rw) : r.cells.length = 7 := rfl
theorem Rw.one (r : Rw) : ∀ u ∈ r.cells, u.oneCell' = true := by
  intro u hu
  simp only [Rw.cells, List.mem_cons, List.not_mem_nil, or_false] at hu
  rcases hu with rfl | rfl | rfl | rfl | rfl | rfl | rfl <;> rfl

def tpre (rb a : Nat) (r : Rw) : Array Value := #[.pointer (some ⟨rb, 0, none⟩), .int .i64 a, .int .i64 r.par, .int .i64 r.in_, .int .i64 r.fn, .int .i64 r.kind, .int .i64 r.v, .int .i64 r.st, .string (clS r.cl)]
def tpost (I : Value) (op : Int) (C K : Value) : Array Value := #[I, .int .i64 op, C, K]
/-- The cells of a task. -/
def tcel (cel : Frm → Array Value) (rb a : Nat) (r : Rw) (F : Frm) (I : Value) (op : Int) (C K : Value) : Array Value := tpre rb a r ++ cel F ++ tpost I op C K

section
variable {cel : Frm → Array Value} (rb a : Nat) (r : Rw) (F : Frm) (I : Value) (op : Int) (C K : Value)

theorem tcel_size (hC : Cel cel) : (tcel cel rb a r F I op C K).size = 32 := by
  unfold tcel
  rw [Array.size_append, Array.size_append, hC.size]
  rfl

theorem tcel_lo {j : Nat} (hj : j < 9) : (tcel cel rb a r F I op C K)[j]? = (tpre rb a r)[j]? := by
  unfold tcel
  rw [Array.getElem?_append_left (by rw [Array.size_append]; show j < 9 + _; omega), Array.getElem?_append_left (by show j < 9; omega)]

theorem tcel_mid (hC : Cel cel) {j : Nat} (hj : j < 19) : (tcel cel rb a r F I op C K)[9 + j]? = (cel F)[j]? := by
  unfold tcel
  have h9 : (tpre rb a r).size = 9 := rfl
  rw [Array.getElem?_append_left (by rw [Array.size_append, hC.size, h9]; omega), Array.getElem?_append_right (by rw [h9]; omega), h9, Nat.add_sub_cancel_left]

theorem tcel_hi (hC : Cel cel) {j : Nat} : (tcel cel rb a r F I op C K)[28 + j]? = (tpost I op C K)[j]? := by
  unfold tcel
  have h9 : (tpre rb a r).size = 9 := rfl
  rw [Array.getElem?_append_right (by rw [Array.size_append, hC.size, h9]; omega), Array.size_append, hC.size, h9, Nat.add_sub_cancel_left]

theorem tcel_one (hC : Cel cel) (hI : I.oneCell' = true) (hCc : C.oneCell' = true) (hK : K.oneCell' = true) : (tcel cel rb a r F I op C K).all (·.oneCell') = true := by
  unfold tcel
  rw [Array.all_append, Array.all_append, hC.one]
  simp [tpre, tpost, Value.oneCell']
  exact ⟨hI, hCc, hK⟩

/-- What is turned among the first cells, or the last ones. -/
theorem tcel_set_lo {j : Nat} (hj : j < 9) (v : Value) (r' : Rw) (a' : Nat) (h : (tpre rb a r).setIfInBounds j v = tpre rb a' r') : (tcel cel rb a r F I op C K).setIfInBounds j v = tcel cel rb a' r' F I op C K := by
  unfold tcel
  rw [Array.setIfInBounds_append_left (by rw [Array.size_append]; show j < 9 + _; omega), Array.setIfInBounds_append_left (by show j < 9; omega), h]

theorem tcel_set_hi (hC : Cel cel) {j : Nat} (v : Value) (I' : Value) (op' : Int) (C' K' : Value) (h : (tpost I op C K).setIfInBounds j v = tpost I' op' C' K') : (tcel cel rb a r F I op C K).setIfInBounds (28 + j) v = tcel cel rb a r F I' op' C' K' := by
  unfold tcel
  have h9 : (tpre rb a r).size = 9 := rfl
  rw [Array.setIfInBounds_append_right (by rw [Array.size_append, hC.size, h9]; omega), Array.size_append, hC.size, h9, Nat.add_sub_cancel_left, h]
end

/-- A block of a task. -/
def IsT (w : World) (cel : Frm → Array Value) (tb rb a : Nat) (r : Rw) (F : Frm) (I : Value) (op : Int) (C K : Value) : Prop := TBlk w tb (tcel cel rb a r F I op C K) 63

theorem setRow_tblk {w : World} {b : Nat} {c : Array Value} {t : TypeId} (h : TBlk w b c t) (c' : Array Value) : TBlk (w.setRow b c') b c' t := by
  unfold TBlk at *
  simp [World.setRow, Array.getElem?_modify, h]

theorem TBlk.ne {w : World} {b b' : Nat} {c c' : Array Value} {t t' : TypeId} (h : TBlk w b c t) (h' : TBlk w b' c' t') (ht : t ≠ t') : b ≠ b' := by
  rintro rfl
  unfold TBlk at h h'
  rw [h] at h'
  injection h' with h'
  injection h' with _ h' _
  exact ht h'
theorem TBlk.drew {w : World} {b : Nat} {c : Array Value} {t : TypeId} (h : TBlk w b c t) : TBlk w.drew b c t := h
theorem TBlk.alloc {w : World} {b : Nat} {c : Array Value} {t : TypeId} (h : TBlk w b c t) (o : Obj) : TBlk (w.alloc o) b c t := h.keep (Fr.alloc (fun _ => False) w o) (fun h => h)

section
variable {w : World} {cel : Frm → Array Value} {tb rb a : Nat} {r : Rw} {F : Frm} {I : Value} {op : Int} {C K : Value}

theorem IsT.keep {w' : World} {S : Nat → Prop} (h : IsT w cel tb rb a r F I op C K) (f : Fr S w w') (hs : ¬ S tb) : IsT w' cel tb rb a r F I op C K := TBlk.keep h f hs
theorem IsT.lt (h : IsT w cel tb rb a r F I op C K) : tb < w.heap.size := (TBlk.blk h).lt
theorem IsT.frozen (h : IsT w cel tb rb a r F I op C K) (j : Nat) : w.frozen? ⟨tb, j, none⟩ = false := (TBlk.blk h).frozen j

theorem IsT.lo (h : IsT w cel tb rb a r F I op C K) : w.cell? ⟨tb, 0, none⟩ = some (.pointer (some ⟨rb, 0, none⟩)) ∧ w.cell? ⟨tb, 1, none⟩ = some (.int .i64 a) ∧ w.cell? ⟨tb, 2, none⟩ = some (.int .i64 r.par) ∧ w.cell? ⟨tb, 3, none⟩ = some (.int .i64 r.in_) ∧ w.cell? ⟨tb, 4, none⟩ = some (.int .i64 r.fn) ∧ w.cell? ⟨tb, 5, none⟩ = some (.int .i64 r.kind) ∧ w.cell? ⟨tb, 6, none⟩ = some (.int .i64 r.v) ∧ w.cell? ⟨tb, 7, none⟩ = some (.int .i64 r.st) ∧ w.cell? ⟨tb, 8, none⟩ = some (.string (clS r.cl)) :=
  have k := TBlk.blk h
  ⟨k.cell (tcel_lo rb a r F I op C K (by omega)), k.cell (tcel_lo rb a r F I op C K (by omega)), k.cell (tcel_lo rb a r F I op C K (by omega)), k.cell (tcel_lo rb a r F I op C K (by omega)), k.cell (tcel_lo rb a r F I op C K (by omega)), k.cell (tcel_lo rb a r F I op C K (by omega)), k.cell (tcel_lo rb a r F I op C K (by omega)), k.cell (tcel_lo rb a r F I op C K (by omega)), k.cell (tcel_lo rb a r F I op C K (by omega))⟩

theorem IsT.hi (hC : Cel cel) (h : IsT w cel tb rb a r F I op C K) : w.cell? ⟨tb, 28, none⟩ = some I ∧ w.cell? ⟨tb, 29, none⟩ = some (.int .i64 op) ∧ w.cell? ⟨tb, 30, none⟩ = some C ∧ w.cell? ⟨tb, 31, none⟩ = some K :=
  have k := TBlk.blk h
  ⟨k.cell (tcel_hi (j := 0) rb a r F I op C K hC), k.cell (tcel_hi (j := 1) rb a r F I op C K hC), k.cell (tcel_hi (j := 2) rb a r F I op C K hC), k.cell (tcel_hi (j := 3) rb a r F I op C K hC)⟩

theorem IsT.mid (hC : Cel cel) (h : IsT w cel tb rb a r F I op C K) {j : Nat} (hj : j < 19) {v : Value} (hv : (cel F)[j]? = some v) : w.cell? ⟨tb, 9 + j, none⟩ = some v :=
  (TBlk.blk h).cell ((tcel_mid rb a r F I op C K hC hj).trans hv)

/-- Its frame is loaded. -/
theorem IsT.load (hC : Cel cel) (h : IsT w cel tb rb a r F I op C K) {N : Nat} (hN : N = 19) : (loadCellsFrom ⟨tb, 9, none⟩ 0 N #[]).run Tryd.prog w = .ok (cel F) w := by
  subst hN
  have h2 := run_loadCells_list (P := Tryd.prog) w ⟨tb, 9, none⟩ (cel F).toList (fun j v hv => by
    rw [add_none]
    rw [Array.getElem?_toList] at hv
    have hj := (Array.getElem?_eq_some_iff.1 hv).1
    rw [hC.size] at hj
    exact h.mid hC hj hv)
  have hs := hC.size F
  simpa [loadCells, hs] using h2

/-- Its frame is stored. -/
theorem IsT.store (hC : Cel cel) (h : IsT w cel tb rb a r F I op C K) (F' : Frm) : (storeCells ⟨tb, 9, none⟩ (cel F').toList 0).run Tryd.prog w = .ok () (w.setRow tb (tcel cel rb a r F' I op C K)) := by
  have hs := hC.size F'
  have h2 := run_storeCells_at (P := Tryd.prog) tb 9 _ (cel F').toList 0 (tcel cel rb a r F I op C K) w h (by rw [tcel_size rb a r F I op C K hC]; simp [hs]) (fun v hv => (Array.all_eq_true_iff_forall_mem.1 (hC.one F')) v (by simpa using hv))
  rw [h2]
  congr 2
  unfold tcel
  have h9 : (tpre rb a r).toList.length = 9 := rfl
  have hsl : (cel F).toList.length = 19 := by rw [Array.length_toList, hC.size]
  have hsl' : (cel F').toList.length = 19 := by rw [Array.length_toList, hC.size]
  apply Array.toList_inj.1
  simp only [Array.toList_append, Nat.add_zero, hsl']
  rw [List.drop_left' (by rw [List.length_append, h9, hsl]), List.append_assoc (tpre rb a r).toList (cel F).toList, List.take_left' h9]

theorem IsT.put (hC : Cel cel) (h : IsT w cel tb rb a r F I op C K) (F' : Frm) : IsT (w.setRow tb (tcel cel rb a r F' I op C K)) cel tb rb a r F' I op C K := setRow_tblk h _

theorem IsT.set_hi (hC : Cel cel) (h : IsT w cel tb rb a r F I op C K) {j : Nat} {v I' : Value} {op' : Int} {C' K' : Value} (hh : (tpost I op C K).setIfInBounds j v = tpost I' op' C' K') : IsT (w.setCell ⟨tb, 28 + j, none⟩ v) cel tb rb a r F I' op' C' K' := by
  have h2 := TBlk.set h (28 + j) v
  rw [tcel_set_hi rb a r F I op C K hC v I' op' C' K' hh] at h2
  exact h2
theorem IsT.set_lo (h : IsT w cel tb rb a r F I op C K) {j : Nat} (hj : j < 9) {v : Value} {r' : Rw} {a' : Nat} (hh : (tpre rb a r).setIfInBounds j v = tpre rb a' r') : IsT (w.setCell ⟨tb, j, none⟩ v) cel tb rb a' r' F I op C K := by
  have h2 := TBlk.set h j v
  rw [tcel_set_lo rb a r F I op C K hj v r' a' hh] at h2
  exact h2
end

/-- What a load of a frame gives, whatever stands there. -/
noncomputable def fv (tb N : Nat) (w : World) : Array Value := match (loadCellsFrom ⟨tb, 9, none⟩ 0 N #[]).run Tryd.prog w with
  | .ok c _ => c
  | _ => #[]
theorem IsT.fv {cel : Frm → Array Value} (hC : Cel cel) {w : World} {tb rb a : Nat} {r : Rw} {F : Frm} {I : Value} {op : Int} {C K : Value} (h : IsT w cel tb rb a r F I op C K) {N : Nat} (hN : N = 19) : fv tb N w = cel F := by
  unfold Proofs.YtpjcdjooiaefdaaDoor.fv
  rw [h.load hC hN]
theorem IsT.fload {cel : Frm → Array Value} (hC : Cel cel) {w : World} {tb rb a : Nat} {r : Rw} {F : Frm} {I : Value} {op : Int} {C K : Value} (h : IsT w cel tb rb a r F I op C K) {N : Nat} (hN : N = 19) : (loadCellsFrom ⟨tb, 9, none⟩ 0 N #[]).run Tryd.prog w = .ok (Proofs.YtpjcdjooiaefdaaDoor.fv tb N w) w := by
  rw [h.fv hC hN, h.load hC hN]

/-! ### Scopes -/

def scel (A : Option Addr) (d k : Nat) (b : Bool) : Array Value := #[.pointer A, .int .i64 d, .int .i64 k, .bool b]

/-- Scopes around one another, from an address on. -/
def Chn (w : World) : List (Nat × Bool) → Option Addr → Prop
  | [], A => A = none
  | x :: r, A => ∃ b A', A = some ⟨b, 0, none⟩ ∧ TBlk w b (scel A' r.length x.1 x.2) 69 ∧ Chn w r A'

theorem Chn.keep {w w' : World} {S : Nat → Prop} (f : Fr S w w') (hs : ∀ b c, TBlk w b c 69 → ¬ S b) : ∀ {l : List (Nat × Bool)} {A : Option Addr}, Chn w l A → Chn w' l A
  | [], _, h => h
  | x :: r, A, ⟨b, A', h1, h2, h3⟩ => ⟨b, A', h1, h2.keep f (hs _ _ h2), Chn.keep f hs h3⟩

theorem Chn.same {w w' : World} {l : List (Nat × Bool)} {A : Option Addr} (h : Chn w l A) (f : Fr (fun _ => False) w w') : Chn w' l A := h.keep f (fun _ _ _ h => h)

/-- The further ones stay, whatever becomes of a block with a greater depth. -/
theorem Chn.deep {w w' : World} {g d : Nat} {c : Array Value} {A0 : Option Addr} {k0 : Nat} {b0 : Bool} (hg : TBlk w g (scel A0 d k0 b0) 69) (f : Fr (fun j => j = g) w w') : ∀ {l : List (Nat × Bool)} {A : Option Addr}, l.length ≤ d → Chn w l A → Chn w' l A
  | [], _, _, h => h
  | x :: r, A, hl, ⟨b, A', h1, h2, h3⟩ => by
    simp only [List.length_cons] at hl
    refine ⟨b, A', h1, h2.keep f ?_, Chn.deep (c := c) hg f (by omega) h3⟩
    rintro rfl
    unfold TBlk at hg h2
    rw [hg] at h2
    simp only [Option.some.injEq, Obj.cells.injEq, scel, Array.mk.injEq, List.cons.injEq, Value.int.injEq] at h2
    omega

/-! ### Rows, and the run -/

def flatR (l : List Rw) : List Value := l.flatMap Rw.cells
theorem flatR_len (l : List Rw) : (flatR l).length = l.length * 7 := by
  unfold flatR
  induction l with
  | nil => rfl
  | cons x r ih => simp only [List.flatMap_cons, List.length_append, ih, Rw.cells_len, List.length_cons]; omega

/-- A row that is being done, as the program lays it. -/
def Rw.runs (r : Rw) : Rw := if r.kind = 0 then { r with kind := 1 } else r
def runsL (l : List Rw) : List Rw := l.map Rw.runs

def rcel (pa : Option Addr) (pn pc : Nat) (N st : Int) (A : Option Addr) (n cap : Nat) : Array Value := #[.slice pa pn pc, .int .i64 N, .int .i64 st, .slice A n cap]
def IsR (w : World) (rb : Nat) (pa : Option Addr) (pn pc : Nat) (N st : Int) (A : Option Addr) (n cap : Nat) : Prop := TBlk w rb (rcel pa pn pc N st A n cap) 47

/-- The rows of the call's own. -/
def Rws (w : World) (B : Nat) (A : Option Addr) (cap : Nat) (l : List Rw) : Prop := OwnR w B 33 7 A l.length cap (flatR (runsL l))

end Go.Proofs.YtpjcdjooiaefdaaDoor
