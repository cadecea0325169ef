/-
  A task in memory, and what one instruction makes of it.
-/
import Derived.Test.YtpjcdjooiaefdaaDoorVSer
import Derived.Test.YtpjcdjooiaefdaaDoorVMet
import Derived.Test.YtpjcdjooiaefdaaDoorVMetD
import Derived.Test.YtpjcdjooiaefdaaDoorVMetJ
import Derived.Test.YtpjcdjooiaefdaaDoorVMetG
import Derived.Test.YtpjcdjooiaefdaaDoorVMetN
namespace Go.Proofs.YtpjcdjooiaefdaaDoor
open Go.RowKit
set_option linter.unusedVariables false

/-- What all tasks of a run share. -/
structure Env where
  cel : Frm → Array Value
  B0 : Nat
  B : Nat
  P : List Fn
  pa : Option Addr
  pn : Nat
  pc : Nat
  N : Nat
  rb : Nat
  db : Nat
  xb : Nat

structure EnvOk (E : Env) : Prop where
  cel : Cel E.cel
  acc : Acc E.P
  few : E.N ≤ 1048576
  len : E.P.length = E.pn
  two : 2 ≤ E.B0
  rb : E.B0 ≤ E.rb
  B : E.B0 ≤ E.B

/-- A task's own scopes, and those around it. -/
def ChnO (w : World) (B1 : Nat) (nest : List (Nat × Bool)) : List (Nat × Bool) → Option Addr → Prop
  | [], A => Chn w nest A
  | x :: r, A => ∃ b A', A = some ⟨b, 0, none⟩ ∧ B1 ≤ b ∧ TBlk w b (scel A' (r.length + nest.length) x.1 x.2) 69 ∧ ChnO w B1 nest r A'

theorem ChnO.chn {w : World} {B1 : Nat} {nest : List (Nat × Bool)} : ∀ {l : List (Nat × Bool)} {A : Option Addr}, ChnO w B1 nest l A → Chn w (l ++ nest) A
  | [], _, h => h
  | x :: r, A, ⟨b, A', h1, _, h2, h3⟩ => ⟨b, A', h1, by rw [show (r.append nest).length = r.length + nest.length from List.length_append]; exact h2, h3.chn⟩

theorem ChnO.keep {w w' : World} {S : Nat → Prop} {B1 : Nat} {nest : List (Nat × Bool)} (f : Fr S w w') (hs : ∀ b c, TBlk w b c 69 → ¬ S b) : ∀ {l : List (Nat × Bool)} {A : Option Addr}, ChnO w B1 nest l A → ChnO w' B1 nest l A
  | [], _, h => Chn.keep f hs h
  | x :: r, A, ⟨b, A', h1, hb, h2, h3⟩ => ⟨b, A', h1, hb, h2.keep f (hs _ _ h2), ChnO.keep f hs h3⟩

theorem ChnO.deep {w w' : World} {g d B1 : Nat} {c : Array Value} {A0 : Option Addr} {k0 : Nat} {b0 : Bool} {nest : List (Nat × Bool)} (hg : TBlk w g (scel A0 d k0 b0) 69) (f : Fr (fun j => j = g) w w') : ∀ {l : List (Nat × Bool)} {A : Option Addr}, l.length + nest.length ≤ d → ChnO w B1 nest l A → ChnO w' B1 nest l A
  | [], _, hl, h => Chn.deep (c := c) hg f (by simpa using hl) h
  | x :: r, A, hl, ⟨b, A', h1, hb, h2, h3⟩ => by
    simp only [List.length_cons] at hl
    refine ⟨b, A', h1, hb, h2.keep f ?_, ChnO.deep (c := c) hg f (by omega) h3⟩
    rintro rfl
    unfold TBlk at hg h2
    rw [hg] at h2
    simp only [Option.some.injEq, Obj.cells.injEq, scel, Array.mk.injEq, List.cons.injEq, Value.int.injEq] at h2
    omega

def doV (E : Env) : Value := .func (.func 18) #[] #[.pointer (some ⟨E.db, 0, none⟩), .pointer (some ⟨E.xb, 0, none⟩)]

/-- A task in memory, with all that it reaches. -/
structure Mem (E : Env) (nest : List (Nat × Bool)) (B1 tb a : Nat) (A : Option Addr) (cap : Nat) (CA : Option Addr) (cc : Nat) (I : Option Addr) (K : Value) (r : Rw) (T : Tk) (G : Gl) (w : World) : Prop where
  run : IsR w E.rb E.pa E.pn E.pc E.N G.st A G.rows.length cap
  rows : Rws w E.B A cap G.rows
  task : IsT w E.cel tb E.rb a r T.F (.pointer I) T.op (.slice CA T.cl.length cc) K
  cls : OwnR w B1 5 1 CA T.cl.length cc (clV T.cl)
  scp : ChnO w B1 nest T.os I
  tabs : Tabs w
  prg : Prg w E.B0 E.pa E.P
  dob : TBlk w E.db #[doV E] 51
  rbx : TBlk w E.xb #[.pointer (some ⟨E.rb, 0, none⟩)] 45
  b0 : E.B0 ≤ B1
  b1 : B1 ≤ tb
  b2 : B1 ≤ w.heap.size
  b3 : E.B ≤ w.heap.size

section
variable {E : Env} {nest : List (Nat × Bool)} {B1 tb a : Nat} {A : Option Addr} {cap : Nat} {CA : Option Addr} {cc : Nat} {I : Option Addr} {K : Value} {r : Rw} {T : Tk} {G : Gl} {w : World}

/-- What one instruction may change, of the task's own. -/
def Own (B1 tb : Nat) (CA : Option Addr) (w : World) (j : Nat) : Prop := j = tb ∨ ownB CA j ∨ (B1 ≤ j ∧ ∃ c, TBlk w j c 69)

theorem Mem.own_ge (m : Mem E nest B1 tb a A cap CA cc I K r T G w) {j : Nat} (h : Own B1 tb CA w j) : B1 ≤ j := by
  rcases h with rfl | h | h
  · exact m.b1
  · exact (OwnR.lt m.cls _ h).1
  · exact h.1

theorem Mem.apart (m : Mem E nest B1 tb a A cap CA cc I K r T G w) {g : Nat} {c : Array Value} {t : TypeId} (hg : TBlk w g c t) (h1 : t ≠ 63) (h2 : t ≠ 5) (h3 : t ≠ 69) : ¬ Own B1 tb CA w g := by
  rintro (e | e | ⟨_, c', e⟩)
  · subst e; exact TBlk.ne hg m.task h1 rfl
  · exact OwnR.ne m.cls hg h2 e
  · exact TBlk.ne hg e h3 rfl

theorem Mem.rowsApart (m : Mem E nest B1 tb a A cap CA cc I K r T G w) (j : Nat) (hj : ownB A j) : ¬ Own B1 tb CA w j := by
  rintro (e | e | ⟨_, c', e⟩)
  · subst e; exact OwnR.ne m.rows m.task (by decide) hj
  · exact OwnR.apart m.rows m.cls (by decide) j hj e
  · exact OwnR.ne m.rows e (by decide) hj

/-- What is not the task's own stays. -/
theorem Mem.turn (ok : EnvOk E) (m : Mem E nest B1 tb a A cap CA cc I K r T G w) {S : Nat → Prop} {w' : World} (f : Fr S w w') (hS : ∀ j, S j → Own B1 tb CA w j) {CA' : Option Addr} {cc' : Nat} {I' : Option Addr} {r' : Rw} {T' : Tk}
    (h1 : IsT w' E.cel tb E.rb a r' T'.F (.pointer I') T'.op (.slice CA' T'.cl.length cc') K) (h2 : OwnR w' B1 5 1 CA' T'.cl.length cc' (clV T'.cl)) (h3 : ChnO w' B1 nest T'.os I') :
    Mem E nest B1 tb a A cap CA' cc' I' K r' T' G w' := by
  have hlo : ∀ k, k < E.B0 → ¬ S k := fun k hk hs => by
    have := m.own_ge (hS k hs)
    have := m.b0
    omega
  refine ⟨TBlk.keep m.run f (fun h => m.apart m.run (by decide) (by decide) (by decide) (hS _ h)), OwnR.keep m.rows f (fun j hj h => m.rowsApart j hj (hS _ h)), h1, h2, h3, m.tabs.keepS f (fun k hk => hlo k (by have := ok.two; omega)), m.prg.keep f (by have := m.b0; have := m.b2; omega) (fun k hk => hlo k hk), ?_, ?_, m.b0, m.b1, ?_, ?_⟩
  · exact m.dob.keep f (fun h => m.apart m.dob (by decide) (by decide) (by decide) (hS _ h))
  · exact m.rbx.keep f (fun h => m.apart m.rbx (by decide) (by decide) (by decide) (hS _ h))
  · have := m.b2; have := f.size; omega
  · have := m.b3; have := f.size; omega

/-- What a task may change, of what there was. -/
def May (E : Env) (B1 : Nat) (A0 : Option Addr) (j : Nat) : Prop := j = E.rb ∨ ownB A0 j ∨ B1 ≤ j

/-- A task further on. -/
def Moved (E : Env) (nest : List (Nat × Bool)) (B1 tb a : Nat) (A0 : Option Addr) (w0 : World) (r : Rw) (T : Tk) (G : Gl) (w : World) : Prop :=
  ∃ A cap CA cc I K, Mem E nest B1 tb a A cap CA cc I K r T G w ∧ Fr (May E B1 A0) w0 w ∧ ∀ j, ownB A j → ownB A0 j ∨ w0.heap.size ≤ j

/-- A task that forked another one. -/
def Forks (E : Env) (nest : List (Nat × Bool)) (B1 tb a : Nat) (A0 : Option Addr) (w0 : World) (r : Rw) (os : List (Nat × Bool)) (k : Nat) (rk : Rw) (Kd T : Tk) (G : Gl) (w : World) : Prop :=
  ∃ A cap CA cc I kb sb, Mem E nest B1 tb a A cap CA cc I (.pointer (some ⟨kb, 0, none⟩)) r T G w ∧ Mem E (os ++ nest) w0.heap.size kb k A cap none 0 (some ⟨sb, 0, none⟩) (.pointer none) rk Kd G w ∧
    Fr (May E B1 A0) w0 w ∧ (∀ j, ownB A j → ownB A0 j ∨ w0.heap.size ≤ j) ∧ tb < w0.heap.size ∧ E.db < w0.heap.size ∧ E.xb < w0.heap.size ∧ (∀ j, ownB CA j → j < w0.heap.size) ∧
    (∀ w2, Fr (May E w0.heap.size A) w w2 → ChnO w2 B1 nest T.os I)

/-- Instructions, and what does them, stay. -/
def Still (w0 w : World) : Prop := ∀ g c t, t = 43 ∨ t = 54 → TBlk w0 g c t → TBlk w g c t

theorem Mem.still {E : Env} {nest : List (Nat × Bool)} {B1 tb a : Nat} {A : Option Addr} {cap : Nat} {CA : Option Addr} {cc : Nat} {I : Option Addr} {K : Value} {r : Rw} {T : Tk} {G : Gl} {w w' : World} (m : Mem E nest B1 tb a A cap CA cc I K r T G w) {S : Nat → Prop} (f : Fr S w w') (hS : ∀ j, S j → Own B1 tb CA w j ∨ j = E.rb ∨ ownB A j) : Still w w' := by
  intro g c t ht hg
  refine hg.keep f (fun hs => ?_)
  rcases hS g hs with h | h | h
  · rcases ht with rfl | rfl
    · exact m.apart hg (by decide) (by decide) (by decide) h
    · exact m.apart hg (by decide) (by decide) (by decide) h
  · subst h
    rcases ht with rfl | rfl
    · exact TBlk.ne hg m.run (by decide) rfl
    · exact TBlk.ne hg m.run (by decide) rfl
  · rcases ht with rfl | rfl
    · exact OwnR.ne m.rows hg (by decide) h
    · exact OwnR.ne m.rows hg (by decide) h

def StepPost (E : Env) (nest : List (Nat × Bool)) (B1 tb a : Nat) (A0 : Option Addr) (w0 : World) (T : Tk) (G : Gl) (x : Ins) (y : Act1) (e : Ending) (w : World) : Prop :=
  match y with
  | .stop c => e = boom c ∧ Fr (fun _ => False) w0 w
  | .fin T' k v G' => e = .returned (.tuple #[]) ∧ Still w0 w ∧ Moved E nest B1 tb a A0 w0 { T.row with kind := k, v := v } T' G' w
  | .go T' G' => e = .returned (.tuple #[]) ∧ Still w0 w ∧ if x.op = 8 then Forks E nest B1 tb a A0 w0 T.row.runs T.os G.rows.length (kidRow a T x).lost (kidOf E.P a T x) T' G' w else Moved E nest B1 tb a A0 w0 T.row.runs T' G' w
  | .sub Kd T' G' => e = .returned (.tuple #[]) ∧ Still w0 w ∧ Forks E nest B1 tb a A0 w0 T.row.runs T.os G.rows.length (kidRow a T x).runs Kd T' G' w

/-- Who does an instruction. -/
def opF (o : Nat) : Nat := if o ≤ 7 then 29 else if o = 8 then 32 else if o ≤ 10 then 30 else if o = 11 then 33 else if o = 12 then 34 else if o = 13 then 35 else if o = 14 then 36 else 31

theorem dcel_at {o : Nat} (h : o ≤ 16) : (dcel tb)[o]? = some (mv (opF o) tb) := by
  have hm : o = 0 ∨ o = 1 ∨ o = 2 ∨ o = 3 ∨ o = 4 ∨ o = 5 ∨ o = 6 ∨ o = 7 ∨ o = 8 ∨ o = 9 ∨ o = 10 ∨ o = 11 ∨ o = 12 ∨ o = 13 ∨ o = 14 ∨ o = 15 ∨ o = 16 := by omega
  rcases hm with rfl | rfl | rfl | rfl | rfl | rfl | rfl | rfl | rfl | rfl | rfl | rfl | rfl | rfl | rfl | rfl | rfl <;> rfl

/-- The task alone is changed. -/
theorem Mem.alone (ok : EnvOk E) (m : Mem E nest B1 tb a A cap CA cc I K r T G w) {w' : World} (f : Fr (fun j => j = tb) w w') {r' : Rw} {F' : Frm}
    (h1 : IsT w' E.cel tb E.rb a r' F' (.pointer I) T.op (.slice CA T.cl.length cc) K) : Moved E nest B1 tb a A w r' { T with F := F' } G w' := by
  refine ⟨A, cap, CA, cc, I, K, m.turn ok f (fun j hj => .inl hj) (T' := { T with F := F' }) h1 (OwnR.keep m.cls f (fun j hj e => ?_)) (m.scp.keep f (fun b c hb e => ?_)), f.mono (fun j hj => ?_), fun j hj => .inl hj⟩
  · subst e; exact OwnR.ne m.cls m.task (by decide) hj
  · subst e; exact TBlk.ne hb m.task (by decide) rfl
  · subst hj; exact .inr (.inr m.b1)

/-- The innermost scope. -/
theorem Mem.inner (m : Mem E nest B1 tb a A cap CA cc I K r T G w) (h : 1 ≤ T.os.length) : ∃ b A' os, I = some ⟨b, 0, none⟩ ∧ T.os = hd T.os :: os ∧ B1 ≤ b ∧ TBlk w b (scel A' (os.length + nest.length) (hd T.os).1 (hd T.os).2) 69 ∧ ChnO w B1 nest os A' := by
  have hs := m.scp
  cases ho : T.os with
  | nil => rw [ho] at h; simp at h
  | cons x os =>
    rw [ho] at hs
    obtain ⟨b, A', h1, h2, h3, h4⟩ := hs
    exact ⟨b, A', os, h1, rfl, h2, h3, h4⟩

theorem askd_app (l m : List (Nat × Bool)) : askd (l ++ m) = (askd l || askd m) := by unfold askd; rw [List.any_append]

theorem flatR_add (l : List Rw) (r : Rw) : flatR (runsL (l ++ [r])) = flatR (runsL l) ++ r.runs.cells := by
  unfold flatR runsL
  rw [List.map_append, List.flatMap_append]
  simp

theorem runs_of {r : Rw} (h : r.kind = 0) : r.runs = { r with kind := 1 } := by unfold Rw.runs; rw [if_pos h]

/-- A fork, in memory. -/
theorem Mem.forks {P : List Fn} {s1 : Nat} (ok : EnvOk E) (hP : E.P = P) (m : Mem E nest B1 tb a A cap CA cc I K T.row.runs T ⟨G.rows, s1⟩ w) {x : Ins} {b k0 q : Nat} {s0 : Bool} {os : List (Nat × Bool)} {A' : Option Addr} {fq : Fn} (hI : I = some ⟨b, 0, none⟩) (hos : T.os = (k0, s0) :: os)
    (hb : TBlk w b (scel A' (os.length + nest.length) k0 s0) 69) (hn : askd nest = false) (hxn : x.n = q) (hq : P[q]? = some fq) {G2 : Frm} {rk : Rw} (hrk : rk = ⟨a, k0, q, if askd T.os then 4 else 1, 0, 0, []⟩) (rnew : Rw) (hnew : rnew.runs = rk)
    {w' : World} (h : ForkAt E.cel tb E.rb a T.row.runs G2 T.op (.slice CA T.cl.length cc) w (T.F.kid q fq.needs 8) b k0 s0 (os ++ nest) E.pa E.pn E.pc E.N s1 G.rows.length E.B A (flatR (runsL G.rows)) w') :
    Forks E nest B1 tb a A w T.row.runs T.os G.rows.length rk (kidOf P a T x) { T with F := G2 } ⟨G.rows ++ [rnew], s1⟩ w' := by
  obtain ⟨kb, sb, A2, cap2, h1, h2, h3, h4, h5, h6, h7, h8, h9⟩ := h
  have hsc : ∀ b c, TBlk w b c 69 → ¬ (b = tb ∨ b = E.rb ∨ ownB A b) := by
    rintro b c hb (e | e | e)
    · subst e; exact TBlk.ne hb m.task (by decide) rfl
    · subst e; exact TBlk.ne hb m.run (by decide) rfl
    · exact OwnR.ne m.rows hb (by decide) e
  have hdo : ∀ {g : Nat} {c : Array Value} {t : TypeId}, TBlk w g c t → t ≠ 63 → t ≠ 47 → t ≠ 33 → TBlk w' g c t := fun hg n1 n2 n3 => hg.keep h8 (by
    rintro (e | e | e)
    · subst e; exact TBlk.ne hg m.task n1 rfl
    · subst e; exact TBlk.ne hg m.run n2 rfl
    · exact OwnR.ne m.rows hg n3 e)
  have hlo : ∀ k, k < E.B0 → ¬ (k = tb ∨ k = E.rb ∨ ownB A k) := by
    rintro k hk (e | e | e)
    · have := m.b0; have := m.b1; omega
    · have := ok.rb; omega
    · have := (OwnR.lt m.rows _ e).1; have := ok.B; omega
  have hchn : Chn w (T.os ++ nest) I := m.scp.chn
  have hask : askd ((k0, s0) :: (os ++ nest)) = askd T.os := by rw [← List.cons_append, ← hos, askd_app, hn, Bool.or_false]
  rw [hask] at h1 h4
  have hrows : Rws w' E.B A2 cap2 (G.rows ++ [rnew]) := by
    have e : (G.rows ++ [rnew]).length = G.rows.length + 1 := by simp
    unfold Rws
    rw [e, flatR_add, hnew, hrk]
    exact h4
  have hrun : IsR w' E.rb E.pa E.pn E.pc E.N s1 A2 (G.rows ++ [rnew]).length cap2 := by rw [List.length_append]; exact h3
  have htabs := m.tabs.keepS h8 (fun k hk => hlo k (by have := ok.two; omega))
  have hprg := m.prg.keep h8 (by have := m.b0; have := m.b2; omega) (fun k hk => hlo k hk)
  have hdob := hdo m.dob (by decide) (by decide) (by decide)
  have hrbx := hdo m.rbx (by decide) (by decide) (by decide)
  have hsz := h8.size
  refine ⟨A2, cap2, CA, cc, I, kb, sb, ⟨hrun, hrows, by rw [hI]; exact h5, ?_, m.scp.keep h8 hsc, htabs, hprg, hdob, hrbx, m.b0, m.b1, by have := m.b2; omega, by have := m.b3; omega⟩,
    ⟨hrun, hrows, ?_, OwnR.nil _ _ _ _, ?_, htabs, hprg, hdob, hrbx, by have := m.b0; have := m.b2; omega, h6, hsz, by have := m.b3; omega⟩, h8.mono ?_, h9, m.task.lt, (TBlk.blk m.dob).lt, (TBlk.blk m.rbx).lt, fun j hj => (OwnR.lt m.cls j hj).2, ?_⟩
  · refine OwnR.keep m.cls h8 ?_
    rintro j hj (e | e | e)
    · subst e; exact OwnR.ne m.cls m.task (by decide) hj
    · subst e; exact OwnR.ne m.cls m.run (by decide) hj
    · exact OwnR.apart m.cls m.rows (by decide) j hj e
  · have e2 : needsOf P x.n = fq.needs := by unfold needsOf; rw [hxn, Int.toNat_natCast, hq]
    have e3 : (kidOf P a T x).F = T.F.kid q fq.needs 8 := by unfold kidOf; rw [e2, hxn, Int.toNat_natCast]
    rw [e3, hrk]
    exact h1
  · refine ⟨sb, some ⟨b, 0, none⟩, rfl, h7, ?_, ?_⟩
    · have e : ([] : List (Nat × Bool)).length + (T.os ++ nest).length = (os ++ nest).length + 1 := by rw [hos]; simp
      rw [e]
      exact h2
    · rw [← hI]
      exact hchn.keep h8 hsc
  · rintro j (e | e | e)
    · exact .inr (.inr (by rw [e]; exact m.b1))
    · exact .inl e
    · exact .inr (.inl e)
  · intro w2 f2
    refine m.scp.keep (h8.since f2 ?_) hsc
    rintro j (e | e | e) hl
    · exact .inr (.inl e)
    · rcases h9 j e with h | h
      · exact .inr (.inr h)
      · omega
    · omega
end

end Go.Proofs.YtpjcdjooiaefdaaDoor

/-
  One instruction of a task.
-/
namespace Go.Proofs.YtpjcdjooiaefdaaDoor
open Go.RowKit
set_option linter.unusedVariables false

section
variable {E : Env} {nest : List (Nat × Bool)} {B1 tb a : Nat} {A : Option Addr} {cap : Nat} {CA : Option Addr} {cc : Nat} {I : Option Addr} {K : Value} {T : Tk} {G : Gl} {w : World} {base : Nat}

theorem step_ok (ok : EnvOk E) (i : Inv E.P E.N base a T G) (hst : G.st < E.N) (m : Mem E nest B1 tb a A cap CA cc I K T.row.runs T G.more w) (hb : nest.length = base + 1) (ha : askd nest = false) :
    Calls Tryd.prog (opF (insAt E.P T.F).op.toNat) #[.pointer (some ⟨tb, 0, none⟩), (insAt E.P T.F).val] w fun e w' => StepPost E nest B1 tb a A w T G (insAt E.P T.F) (act E.P E.N base a T G (insAt E.P T.F)) e w' := by
  have HD := i.hand ok.acc
  obtain ⟨q, k, v, f, hq, hf, hk, hx, hc, hk8, hW, hh⟩ := i.ins ok.acc
  generalize insAt E.P T.F = x at *
  have hop := chk_op hc
  have hrn := runs_of i.kind
  have hrw := i.rows
  have hfew := ok.few
  have hdp := i.deep
  have hcl := i.cls
  have hopn := i.op
  have how := i.own
  have hstN := i.steps
  unfold act
  rw [if_neg (by omega : ¬ E.N ≤ G.st)]
  by_cases h7 : x.op ≤ 7
  · rw [if_pos h7]
    have eo : opF x.op.toNat = 29 := by unfold opF; rw [if_pos (by omega)]
    rw [eo]
    refine (plain_do tb E.rb a _ T.F _ _ _ _ w x ok.cel m.tabs hc h7 m.task).mono ?_
    rintro e w' ⟨rfl, h1, h2⟩
    refine ⟨rfl, m.still h2 (fun j hj => .inl (.inl hj)), ?_⟩
    rw [if_neg (by omega)]
    exact m.alone ok h2 h1
  rw [if_neg h7]
  by_cases h8 : x.op = 8
  · rw [if_pos h8]
    have eo : opF x.op.toNat = 32 := by rw [h8]; rfl
    rw [eo]
    obtain ⟨b, A', os, hI, hos, hb1, hsb, hrest⟩ := m.inner how
    obtain ⟨hm0, hm1, ha0, ha1, g, hg, hg0, hg1, hless⟩ := Way.fork ok.acc hq hW hx h8
    obtain ⟨y, z1, z2, n, hy, hz1, hz2, rfl⟩ := isOp_letters (isOp_of hc h8)
    obtain ⟨qn, rfl⟩ : ∃ qn : Nat, n = qn := ⟨n.toNat, by simp only at hm0; omega⟩
    simp only [Int.toNat_natCast] at hg
    have hlow : ∀ k, k < 2 → ¬ (k = tb ∨ k = E.rb ∨ ownB A k) := by
      have h2 := ok.two
      rintro k hk (e | e | e)
      · have := m.b0; have := m.b1; omega
      · have := ok.rb; omega
      · have := (OwnR.lt m.rows _ e).1; have := ok.B; omega
    have hB0 : E.B0 ≤ w.heap.size := by have := m.b0; have := m.b2; omega
    have hchn : Chn w ((hd T.os) :: (os ++ nest)) (some ⟨b, 0, none⟩) := by
      have := m.scp.chn
      rw [hos, hI] at this
      exact this
    have hlen : (os ++ nest).length = base + T.os.length := by rw [List.length_append, hb, hos]; simp only [List.length_cons]; omega
    have htask := m.task
    rw [hI] at htask
    by_cases hdd : 32 ≤ base + T.os.length
    · rw [if_pos hdd]
      refine (fork_deep tb E.rb a _ T.F _ _ _ w ok.cel m.tabs hlow y z1 z2 qn (isOp_of hc h8) E.P g b (hd T.os).1 (hd T.os).2 (os ++ nest) E.pa E.pn E.pc E.N (G.st + 1 : Nat) G.rows.length cap E.B _ ok.len hg E.B0 m.prg hB0 (by omega) m.b3 m.run m.rows hchn (by omega) htask).mono ?_
      rintro e w' ⟨rfl, h1⟩
      exact ⟨rfl, h1⟩
    rw [if_neg hdd]
    have hfork := fork_do tb E.rb a _ T.F _ _ _ w ok.cel m.tabs hlow y z1 z2 qn (isOp_of hc h8) E.P g b (hd T.os).1 (hd T.os).2 (os ++ nest) E.pa E.pn E.pc E.N (G.st + 1 : Nat) G.rows.length cap E.B _ ok.len hg E.B0 m.prg hB0 (by omega) m.b3 m.run m.rows hchn (by omega) htask
    have stf : ∀ w' {G2 KF n xs}, ForkAt E.cel tb E.rb a T.row.runs G2 T.op (.slice CA T.cl.length cc) w KF b (hd T.os).1 (hd T.os).2 (os ++ nest) E.pa E.pn E.pc E.N (G.st + 1 : Nat) n E.B A xs w' → Still w w' := fun w' _ _ _ _ h => by
      obtain ⟨_, _, _, _, _, _, _, _, _, _, _, h8, _⟩ := h
      exact m.still h8 (by rintro j (e | e | e); exact .inl (.inl e); exact .inr (.inl e); exact .inr (.inr e))
    by_cases ho : askd T.os = true
    · rw [if_pos ho]
      refine hfork.mono ?_
      rintro e w' ⟨rfl, h1⟩
      refine ⟨rfl, stf w' h1, ?_⟩
      rw [if_pos h8]
      refine m.forks (G := G) ok rfl hI hos hsb ha rfl hg ?_ (kidRow a T ⟨8, y, z1, z2, qn⟩).lost (by unfold Rw.lost Rw.runs; rw [if_neg (by simp)]) h1
      rw [ho]
      rfl
    · rw [if_neg ho]
      refine hfork.mono ?_
      rintro e w' ⟨rfl, h1⟩
      refine ⟨rfl, stf w' h1, ?_⟩
      refine m.forks (G := G) ok rfl hI hos hsb ha rfl hg ?_ (kidRow a T ⟨8, y, z1, z2, qn⟩) rfl h1
      rw [if_neg ho, runs_of rfl]
      rfl
  rw [if_neg h8]
  by_cases h9 : x.op = 9 ∨ x.op = 10
  · rw [if_pos h9]
    obtain ⟨hh8, j, r, hj, hr, hd, hrow⟩ := HD h9
    have eo : opF x.op.toNat = 30 := by unfold opF; rw [if_neg (by omega), if_neg (by omega), if_pos (by omega)]
    rw [eo, hrow]
    have hlow : 2 ≤ tb := by have := m.b0; have := m.b1; have := ok.two; omega
    refine (join_do tb E.rb a _ T.F _ _ _ _ w x ok.cel m.tabs hlow hc h9 E.pa E.pn E.pc E.N _ cap E.B A G.rows (by omega) m.run m.rows j r hj hr hd m.task).mono ?_
    rintro e w' ⟨rfl, h1, h2⟩
    by_cases hp : panics x r.kind = true
    · rw [if_pos hp]
      rw [if_pos hp, hrn] at h1
      exact ⟨rfl, m.still h2 (fun j hj => .inl (.inl hj)), m.alone ok h2 h1⟩
    · rw [if_neg hp]
      rw [if_neg hp] at h1
      refine ⟨rfl, m.still h2 (fun j hj => .inl (.inl hj)), ?_⟩
      rw [if_neg h8]
      exact m.alone ok h2 h1
  rw [if_neg h9]
  obtain ⟨b, A', os, hI, hos, hb1, hsb, hrest⟩ := m.inner how
  have htask := m.task
  rw [hI] at htask
  have hosl : T.os.length = os.length + 1 := by rw [hos]; simp
  by_cases h11 : x.op = 11
  · rw [if_pos h11]
    have eo : opF x.op.toNat = 33 := by rw [h11]; rfl
    rw [eo]
    by_cases hdd : 32 ≤ base + T.os.length
    · rw [if_pos hdd]
      rw [show os.length + nest.length = 32 by omega] at hsb
      refine (open_deep tb E.rb a _ T.F _ _ w x ok.cel b _ T.op _ A' (by omega) hsb htask).mono ?_
      rintro e w' ⟨rfl, h1⟩
      exact ⟨rfl, h1⟩
    rw [if_neg hdd]
    refine (open_ok tb E.rb a _ T.F _ _ w x ok.cel b (os.length + nest.length) _ T.op _ A' (by omega) (by omega) hsb htask).mono ?_
    rintro e w' ⟨g, rfl, h1, h2, h3, h4⟩
    refine ⟨rfl, m.still h4 (fun j hj => .inl (.inl hj)), ?_⟩
    rw [if_neg h8]
    have hsc : ∀ b c, TBlk w b c 69 → ¬ (b = tb) := fun b c hb e => by subst e; exact TBlk.ne hb m.task (by decide) rfl
    refine ⟨A, cap, CA, cc, some ⟨g, 0, none⟩, K, m.turn ok h4 (fun j hj => .inl hj) (T' := { T with F := T.F.on, os := (T.op + 1, false) :: T.os, op := T.op + 1 }) h3 (OwnR.keep m.cls h4 (fun j hj e => ?_)) ⟨g, I, rfl, Nat.le_trans m.b2 h2, ?_, m.scp.keep h4 hsc⟩, h4.mono (fun j hj => ?_), fun j hj => .inl hj⟩
    · subst e; exact OwnR.ne m.cls m.task (by decide) hj
    · rw [hI, hosl, show os.length + 1 + nest.length = os.length + nest.length + 1 by omega]
      exact h1
    · subst hj; exact .inr (.inr m.b1)
  rw [if_neg h11]
  by_cases h12 : x.op = 12
  · rw [if_pos h12]
    have eo : opF x.op.toNat = 34 := by rw [h12]; rfl
    rw [eo]
    have hlow : ∀ k, k < 2 → ¬ (k = tb ∨ ownB CA k) := by
      have h2 := ok.two
      have hb0 := m.b0
      rintro k hk (e | e)
      · have := m.b1; omega
      · have := (OwnR.lt m.cls _ e).1; omega
    have hsc : ∀ b c, TBlk w b c 69 → ¬ (b = tb ∨ ownB CA b) := by
      rintro b c hb (e | e)
      · subst e; exact TBlk.ne hb m.task (by decide) rfl
      · exact OwnR.ne m.cls hb (by decide) e
    have fin : ∀ w' CA' cap', OwnR w' B1 5 1 CA' (T.cl.length + 1) cap' (clV (T.cl ++ [(hd T.os).2])) → IsT w' E.cel tb E.rb a T.row.runs (T.F.closed x (hd T.os).2) (.pointer A') T.op (.slice CA' (T.cl.length + 1 : Nat) cap') K → Fr (fun j => j = tb ∨ ownB CA j) w w' →
        Moved E nest B1 tb a A w T.row.runs { T with F := T.F.closed x (hd T.os).2, os := T.os.tail, cl := T.cl ++ [(hd T.os).2] } G.more w' := by
      intro w' CA' cap' h1 h2 h3
      have el : (T.cl ++ [(hd T.os).2]).length = T.cl.length + 1 := by simp
      refine ⟨A, cap, CA', cap', A', K, m.turn ok h3 (fun j hj => by rcases hj with h | h; exact .inl h; exact .inr (.inl h)) (T' := { T with F := T.F.closed x (hd T.os).2, os := T.os.tail, cl := T.cl ++ [(hd T.os).2] }) (by simp only; rw [el]; exact h2) (by simp only; rw [el]; exact h1) (by simp only; rw [show T.os.tail = os by rw [hos]; rfl]; exact hrest.keep h3 hsc), h3.mono (fun j hj => ?_), fun j hj => .inl hj⟩
      rcases hj with h | h
      · subst h; exact .inr (.inr m.b1)
      · exact .inr (.inr (OwnR.lt m.cls _ h).1)
    cases ht : (hd T.os).2 with
    | true =>
      rw [ht] at hsb fin
      refine (close_true tb E.rb a _ T.F _ _ w x ok.cel CA m.tabs hlow B1 b _ _ A' T.cl cc (by omega) m.b2 m.cls hsb htask).mono ?_
      rintro e w' ⟨CA', cap', rfl, h1, h2, h3⟩
      refine ⟨rfl, m.still h3 (fun j hj => by rcases hj with h | h; exact .inl (.inl h); exact .inl (.inr (.inl h))), ?_⟩
      rw [if_neg h8]
      exact fin _ _ _ h1 h2 h3
    | false =>
      rw [ht] at hsb fin
      refine (close_false tb E.rb a _ T.F _ _ w x ok.cel CA m.tabs hlow B1 b _ _ A' T.cl cc (by omega) m.b2 m.cls hsb htask).mono ?_
      rintro e w' ⟨CA', cap', rfl, h1, h2, h3⟩
      refine ⟨rfl, m.still h3 (fun j hj => by rcases hj with h | h; exact .inl (.inl h); exact .inl (.inr (.inl h))), ?_⟩
      rw [if_neg h8]
      exact fin _ _ _ h1 h2 h3
  rw [if_neg h12]
  by_cases h13 : x.op = 13
  · rw [if_pos h13]
    have eo : opF x.op.toNat = 35 := by rw [h13]; rfl
    rw [eo]
    refine (cancel_do tb E.rb a _ T.F _ _ _ w x ok.cel b _ _ _ A' hsb htask).mono ?_
    rintro e w' ⟨rfl, h1, h2, h3⟩
    refine ⟨rfl, m.still h3 (fun j hj => by rcases hj with h | h; exact .inl (.inl h); exact .inl (.inr (.inr ⟨by rw [h]; exact hb1, _, by rw [h]; exact hsb⟩))), ?_⟩
    rw [if_neg h8]
    have hbt : b ≠ tb := TBlk.ne hsb m.task (by decide)
    have hrest2 : ChnO w' B1 nest os A' := by
      -- each further one has another depth
      have key : ∀ {l : List (Nat × Bool)} {D : Option Addr}, l.length ≤ os.length → ChnO w B1 nest l D → ChnO w' B1 nest l D := by
        have nk : ∀ {l : List (Nat × Bool)} {D : Option Addr}, l.length ≤ nest.length → Chn w l D → Chn w' l D := by
          intro l
          induction l with
          | nil => intro D _ h; exact h
          | cons y l ih =>
            rintro D hl ⟨b', D', g1, g2, g3⟩
            simp only [List.length_cons] at hl
            refine ⟨b', D', g1, g2.keep h3 ?_, ih (by omega) g3⟩
            rintro (e | e)
            · subst e; exact TBlk.ne g2 m.task (by decide) rfl
            · subst e
              unfold TBlk at hsb g2
              rw [hsb] at g2
              simp only [Option.some.injEq, Obj.cells.injEq, scel, Array.mk.injEq, List.cons.injEq, Value.int.injEq] at g2
              omega
        intro l
        induction l with
        | nil => intro D _ h; exact nk (Nat.le_refl _) h
        | cons y l ih =>
          rintro D hl ⟨b', D', g1, gb, g2, g3⟩
          simp only [List.length_cons] at hl
          refine ⟨b', D', g1, gb, g2.keep h3 ?_, ih (by omega) g3⟩
          rintro (e | e)
          · subst e; exact TBlk.ne g2 m.task (by decide) rfl
          · subst e
            unfold TBlk at hsb g2
            rw [hsb] at g2
            simp only [Option.some.injEq, Obj.cells.injEq, scel, Array.mk.injEq, List.cons.injEq, Value.int.injEq] at g2
            omega
      exact key (Nat.le_refl _) hrest
    refine ⟨A, cap, CA, cc, some ⟨b, 0, none⟩, K, m.turn ok h3 (fun j hj => by rcases hj with h | h; exact .inl h; exact .inr (.inr ⟨by rw [h]; exact hb1, _, by rw [h]; exact hsb⟩)) (T' := { T with F := T.F.on, os := asks T.os }) h2 (OwnR.keep m.cls h3 (fun j hj e => ?_)) (by
      simp only
      rw [hos]
      exact ⟨b, A', rfl, hb1, h1, hrest2⟩), h3.mono (fun j hj => ?_), fun j hj => .inl hj⟩
    · rcases e with e | e
      · subst e; exact OwnR.ne m.cls m.task (by decide) hj
      · subst e; exact OwnR.ne m.cls hsb (by decide) hj
    · rcases hj with h | h
      · subst h; exact .inr (.inr m.b1)
      · subst h; exact .inr (.inr hb1)
  rw [if_neg h13]
  by_cases h14 : x.op = 14
  · rw [if_pos h14]
    have eo : opF x.op.toNat = 36 := by rw [h14]; rfl
    rw [eo]
    refine (pass_any tb E.rb a _ T.F _ _ _ _ w x ok.cel m.task).mono ?_
    rintro e w' ⟨rfl, h1, h2⟩
    refine ⟨rfl, m.still h2 (fun j hj => .inl (.inl hj)), ?_⟩
    rw [if_neg h8]
    exact m.alone ok h2 h1
  rw [if_neg h14]
  have eo : opF x.op.toNat = 31 := by
    unfold opF
    rw [if_neg (by omega), if_neg (by omega), if_neg (by omega), if_neg (by omega), if_neg (by omega), if_neg (by omega), if_neg (by omega)]
  rw [eo]
  refine (end_do tb E.rb a _ T.F _ _ _ w x ok.cel _ hc m.task).mono ?_
  rintro e w' ⟨rfl, h1, h2⟩
  rw [hrn] at h1
  exact ⟨rfl, m.still h2 (fun j hj => .inl (.inl hj)), m.alone ok h2 h1⟩
end

end Go.Proofs.YtpjcdjooiaefdaaDoor

/-
  A row of the table is stored.
-/
namespace Go.Proofs.YtpjcdjooiaefdaaDoor
open Go.RowKit
set_option linter.unusedVariables false

theorem flat_take {α : Type} (g : α → List Value) (k : Nat) (hg : ∀ x, (g x).length = k) : ∀ (l : List α) (j : Nat), (l.flatMap g).take (j * k) = (l.take j).flatMap g
  | [], j => by simp
  | x :: l, 0 => by simp
  | x :: l, j + 1 => by
    simp only [List.flatMap_cons, List.take_succ_cons]
    rw [List.take_append, hg, Nat.add_mul, Nat.one_mul, Nat.add_sub_cancel, flat_take g k hg l j, List.take_of_length_le (by rw [hg]; omega)]

theorem flat_drop {α : Type} (g : α → List Value) (k : Nat) (hg : ∀ x, (g x).length = k) : ∀ (l : List α) (j : Nat), (l.flatMap g).drop (j * k) = (l.drop j).flatMap g
  | [], j => by simp
  | x :: l, 0 => by simp
  | x :: l, j + 1 => by
    simp only [List.flatMap_cons, List.drop_succ_cons]
    rw [List.drop_append, hg, Nat.add_mul, Nat.one_mul, Nat.add_sub_cancel, flat_drop g k hg l j, List.drop_of_length_le (by rw [hg]; omega), List.nil_append]

theorem flat_set {α : Type} (g : α → List Value) (k : Nat) (hg : ∀ x, (g x).length = k) (l : List α) (j : Nat) (y : α) (hj : j < l.length) : (l.set j y).flatMap g = (l.take j).flatMap g ++ g y ++ (l.drop (j + 1)).flatMap g := by
  rw [List.set_eq_take_append_cons_drop, if_pos hj, List.flatMap_append, List.flatMap_cons, List.append_assoc]

theorem take_mid (X Y : List Value) (a k n : Nat) (hY : Y.length = k) (ha : a ≤ X.length) (hn : a + k ≤ n) : (X.take a ++ Y ++ X.drop (a + k)).take n = X.take a ++ Y ++ (X.take n).drop (a + k) := by
  have h : (X.take a ++ Y).length = a + k := by rw [List.length_append, List.length_take, hY]; omega
  rw [List.take_append, List.take_of_length_le (by omega), h, List.drop_take]

/-- A row is stored. -/
theorem Rws.store {w : World} {B : Nat} {A : Option Addr} {cap : Nat} {l : List Rw} (h : Rws w B A cap l) {j : Nat} (hj : j < l.length) (r : Rw) (hr : r.kind ≠ 0) {g : Nat} (hA : A = some ⟨g, 0, none⟩) {M : Nat} (hM : M = 7) :
    ∃ c, (storeCells ⟨g, j * M, none⟩ r.cells 0).run Tryd.prog w = .ok () (w.setRow g c) ∧ Rws (w.setRow g c) B A cap (l.set j r) := by
  subst hM
  obtain ⟨h1, h2⟩ := h
  rcases h2 with ⟨_, h2⟩ | ⟨g', cp, cur, hv, hb, hh, hn, hcp, hsz, htk⟩
  · omega
  · injection hv with hv1 hv2 hv3
    rw [hA] at hv1
    injection hv1 with hv1
    injection hv1 with hv1
    subst hv1
    subst hv3
    have hsz7 : j * 7 + 7 ≤ cur.size := by rw [hsz]; omega
    have h2 := run_storeCells_at (P := Tryd.prog) g (j * 7) _ r.cells 0 cur w hh (by rw [Rw.cells_len]; omega) r.one
    refine ⟨_, h2, ?_, .inr ⟨g, cap, _, hA ▸ (by rw [List.length_set]), hb, setRow_tblk hh _, by rw [List.length_set]; exact hn, hcp, ?_, ?_⟩⟩
    · rw [flatR_len, runsL, List.length_map, List.length_set]
    · simp only [List.size_toArray, List.length_append, List.length_take, List.length_drop, Rw.cells_len, Array.length_toList]
      omega
    · rw [List.length_set]
      simp only [Nat.add_zero, Rw.cells_len]
      have e1 : runsL (l.set j r) = (runsL l).set j r := by
        unfold runsL
        rw [List.map_set]
        congr 1
        unfold Rw.runs
        rw [if_neg hr]
      have e2 : flatR (runsL (l.set j r)) = flatR ((runsL l).take j) ++ r.cells ++ flatR ((runsL l).drop (j + 1)) := by
        rw [e1]
        exact flat_set Rw.cells 7 (fun _ => rfl) _ _ _ (by unfold runsL; rw [List.length_map]; exact hj)
      have e3 : flatR ((runsL l).take j) = cur.toList.take (j * 7) := by
        have := flat_take Rw.cells 7 (fun _ => rfl) (runsL l) j
        unfold flatR
        rw [← this]
        have e : (runsL l).flatMap Rw.cells = flatR (runsL l) := rfl
        rw [e, ← htk, List.take_take]
        congr 1
        omega
      have e4 : flatR ((runsL l).drop (j + 1)) = (cur.toList.take (l.length * 7)).drop (j * 7 + 7) := by
        have := flat_drop Rw.cells 7 (fun _ => rfl) (runsL l) (j + 1)
        unfold flatR
        rw [← this]
        have e : (runsL l).flatMap Rw.cells = flatR (runsL l) := rfl
        rw [e, ← htk, show (j + 1) * 7 = j * 7 + 7 by omega]
      rw [e2, e3, e4]
      exact take_mid cur.toList r.cells (j * 7) 7 (l.length * 7) rfl (by rw [Array.length_toList]; omega) (by omega)

end Go.Proofs.YtpjcdjooiaefdaaDoor

/-
  A task is done: what goes on from one round to the next.
-/
namespace Go.Proofs.YtpjcdjooiaefdaaDoor
open Go.RowKit
set_option linter.unusedVariables false

/-- What a task's end comes to. -/
def DoPost (E : Env) (B1 : Nat) (A0 : Option Addr) (w0 : World) (o : Out) (e : Ending) (w : World) : Prop :=
  match o with
  | .err c => e = boom c ∧ Fr (May E B1 A0) w0 w
  | .done G => e = .returned (.tuple #[]) ∧ (∃ A cap, IsR w E.rb E.pa E.pn E.pc E.N G.st A G.rows.length cap ∧ Rws w E.B A cap G.rows ∧ ∀ j, ownB A j → ownB A0 j ∨ w0.heap.size ≤ j) ∧ Fr (May E B1 A0) w0 w

/-- How a task stands: it goes on, or has come to something. -/
def Stands (E : Env) (base a : Nat) (o : Out) (d : Nat) (r : Rw) (T : Tk) (G : Gl) : Prop :=
  r = T.row.runs ∧ r.kind = 1 ∧ Inv E.P E.N base a T G ∧ exec E.P E.N d base a T G = some o ∨ 2 ≤ r.kind ∧ a < G.rows.length ∧ o = .done ⟨G.rows.set a { r with st := T.F.st, cl := T.cl }, G.st⟩

/-- Where a loop stands. -/
def AtLoop (E : Env) (nest : List (Nat × Bool)) (B1 tb a base : Nat) (A0 : Option Addr) (w0 : World) (o : Out) (ab d : Nat) (w : World) : Prop :=
  ∃ r T G, Stands E base a o d r T G ∧ (r.kind = 1 → askd nest = false) ∧ Moved E nest B1 tb a A0 w0 r T G w ∧ TBlk w ab (dcel tb) 54

def CameD (tb : Nat) (w : World) (u : Value) (wx : World) : Prop := ∃ ab, u = .pointer (some ⟨ab, 0, none⟩) ∧ TBlk wx ab (dcel tb) 54 ∧ w.heap.size ≤ ab ∧ Fr (fun _ => False) w wx

def DoOk (E : Env) (n : Nat) : Prop := ∀ (nest : List (Nat × Bool)) (B1 tb a base : Nat) (A : Option Addr) (cap : Nat) (CA : Option Addr) (cc : Nat) (I : Option Addr) (K : Value) (r : Rw) (T : Tk) (G : Gl) (w : World) (o : Out),
  nest.length = base + 1 → (r.kind = 1 → askd nest = false) → Stands E base a o n r T G → Mem E nest B1 tb a A cap CA cc I K r T G w →
    Calls Tryd.prog 18 #[.pointer (some ⟨tb, 0, none⟩), .pointer (some ⟨E.db, 0, none⟩), .pointer (some ⟨E.xb, 0, none⟩)] w (DoPost E B1 A w o)

theorem act_eight {P : List Fn} {N base a : Nat} {T : Tk} {G : Gl} {x : Ins} (h : x.op = 8) (hs : G.st < N) :
    act P N base a T G x = .stop 23 ∨ (askd T.os = true ∧ act P N base a T G x = .go { T with F := T.F.forked x G.rows.length } ⟨G.rows ++ [(kidRow a T x).lost], G.st + 1⟩) ∨
    (askd T.os = false ∧ act P N base a T G x = .sub (kidOf P a T x) { T with F := T.F.forked x G.rows.length } ⟨G.rows ++ [kidRow a T x], G.st + 1⟩) := by
  unfold act
  rw [if_neg (show ¬ N ≤ G.st by omega), if_neg (show ¬ x.op ≤ 7 by omega), if_pos h]
  by_cases hd : 32 ≤ base + T.os.length
  · rw [if_pos hd]; exact .inl rfl
  rw [if_neg hd]
  by_cases ho : askd T.os = true
  · rw [if_pos ho]; exact .inr (.inl ⟨ho, rfl⟩)
  · rw [if_neg ho]; exact .inr (.inr ⟨by simpa using ho, rfl⟩)

theorem act_other {P : List Fn} {N base a : Nat} {T : Tk} {G : Gl} {x : Ins} (h : x.op ≠ 8) {K T' : Tk} {G' : Gl} : act P N base a T G x ≠ .sub K T' G' := by
  unfold act
  intro e
  split at e
  · cases e
  split at e
  · cases e
  split at e
  · split at e <;> cases e
  split at e
  · split at e <;> cases e
  split at e
  · cases e
  split at e
  · cases e
  split at e
  · cases e
  · cases e

/-- What one instruction leaves to be done. -/
theorem exec_act {P : List Fn} {N n base a : Nat} {T : Tk} {G : Gl} {x : Ins} {o : Out} (hx : insAt P T.F = x) (h : exec P N n base a T G = some o) : ∃ m, n = m + 1 ∧ match act P N base a T G x with
    | .stop e => o = .err e
    | .fin T' kind v G' => o = .done ⟨G'.rows.set a (T'.told kind v), G'.st⟩
    | .go T' G' => exec P N m base a T' G' = some o
    | .sub K T' G' => ∃ o1, exec P N m (base + T.os.length) G.rows.length K G' = some o1 ∧ match o1 with
      | .err e => o = .err e
      | .done G2 => exec P N m base a T' G2 = some o := by
  cases n with
  | zero => cases h
  | succ m =>
    refine ⟨m, rfl, ?_⟩
    unfold exec at h
    rw [hx] at h
    generalize act P N base a T G x = y at h
    cases y with
    | stop e => simp only [Option.some.injEq] at h; exact h.symm
    | fin T' kind v G' => simp only [Option.some.injEq] at h; exact h.symm
    | go T' G' => exact h
    | sub K T' G' =>
      simp only at h
      split at h
      · cases h
      · rename_i e he
        simp only [Option.some.injEq] at h
        exact ⟨_, he, h.symm⟩
      · rename_i G2 he
        exact ⟨_, he, h⟩

/-- Behind an instruction. -/
def After (E : Env) (nest : List (Nat × Bool)) (B1 tb a : Nat) (A : Option Addr) (T : Tk) (G : Gl) (x : Ins) (y : Act1) (w3 wx : World) : Prop :=
  ∃ W, Fr (fun _ => False) w3 W ∧ StepPost E nest B1 tb a A W T G x y (.returned (.tuple #[])) wx

/-- Behind one that was forked. -/
def Kid (E : Env) (B1 : Nat) (A0 : Option Addr) (w0 : World) (o : Out) (wx : World) : Prop := DoPost E B1 A0 w0 o (.returned (.tuple #[])) wx

section
variable {E : Env} {nest : List (Nat × Bool)} {B1 tb a : Nat} {A0 A : Option Addr} {cap : Nat} {CA : Option Addr} {cc : Nat} {I : Option Addr} {K : Value} {r : Rw} {T : Tk} {G : Gl} {w0 w w' : World} {base : Nat}

theorem Moved.after (hB : B1 ≤ w0.heap.size) (h1 : Fr (May E B1 A0) w0 w) (h2 : ∀ j, ownB A j → ownB A0 j ∨ w0.heap.size ≤ j) (h : Moved E nest B1 tb a A w r T G w') : Moved E nest B1 tb a A0 w0 r T G w' := by
  obtain ⟨A', cap, CA, cc, I, K, m, f, o⟩ := h
  refine ⟨A', cap, CA, cc, I, K, m, h1.since f (fun j hj hl => ?_), fun j hj => ?_⟩
  · rcases hj with h | h | h
    · exact .inl h
    · rcases h2 j h with h | h
      · exact .inr (.inl h)
      · omega
    · exact .inr (.inr h)
  · rcases o j hj with h | h
    · exact h2 j h
    · exact .inr (Nat.le_trans h1.size h)

/-- A step is counted. -/
theorem Mem.ticks (ok : EnvOk E) (m : Mem E nest B1 tb a A cap CA cc I K r T G w) (f : Fr (fun j => j = E.rb) w w') (hR : IsR w' E.rb E.pa E.pn E.pc E.N (G.st + 1 : Nat) A G.rows.length cap) : Mem E nest B1 tb a A cap CA cc I K r T G.more w' := by
  have ne : ∀ {g : Nat} {c : Array Value} {t : TypeId}, TBlk w g c t → t ≠ 47 → ¬ g = E.rb := fun hg ht e => by subst e; exact TBlk.ne hg m.run ht rfl
  refine ⟨hR, OwnR.keep m.rows f (fun j hj e => by subst e; exact OwnR.ne m.rows m.run (by decide) hj), m.task.keep f (ne m.task (by decide)), OwnR.keep m.cls f (fun j hj e => by subst e; exact OwnR.ne m.cls m.run (by decide) hj), m.scp.keep f (fun b c hb => ne hb (by decide)),
    m.tabs.keepS f (fun k hk e => by have := ok.rb; have := ok.two; omega), m.prg.keep f (by have := m.b0; have := m.b2; omega) (fun k hk e => by have := ok.rb; omega), m.dob.keep f (ne m.dob (by decide)), m.rbx.keep f (ne m.rbx (by decide)), m.b0, m.b1, by have := m.b2; have := f.size; omega, by have := m.b3; have := f.size; omega⟩

theorem Mem.same (ok : EnvOk E) (m : Mem E nest B1 tb a A cap CA cc I K r T G w) (f : Fr (fun _ => False) w w') : Mem E nest B1 tb a A cap CA cc I K r T G w' :=
  m.turn ok f (fun _ h => h.elim) (m.task.keep f (fun h => h)) (OwnR.same m.cls f) (m.scp.keep f (fun _ _ _ h => h))

/-- Behind a task that was forked, and done. -/
theorem kid_back (ok : EnvOk E) {w4 w5 : World} {kb : Nat} {nest2 : List (Nat × Bool)} {kk : Nat} {rk : Rw} {Kd : Tk} {ik : Option Addr} {kk2 : Value} {G2 : Gl}
    (m : Mem E nest B1 tb a A cap CA cc I K r T G w4) (mk : Mem E nest2 w.heap.size kb kk A cap none 0 ik kk2 rk Kd G w4) (hF : Fr (May E B1 A0) w w4) (hOw : ∀ j, ownB A j → ownB A0 j ∨ w.heap.size ≤ j)
    (htl : tb < w.heap.size) (hdb : E.db < w.heap.size) (hxb : E.xb < w.heap.size) (hCA : ∀ j, ownB CA j → j < w.heap.size) (hch : ∀ w2, Fr (May E w.heap.size A) w4 w2 → ChnO w2 B1 nest T.os I)
    {A5 : Option Addr} {cap5 : Nat} (hR : IsR w5 E.rb E.pa E.pn E.pc E.N G2.st A5 G2.rows.length cap5) (hO : Rws w5 E.B A5 cap5 G2.rows) (hO5 : ∀ j, ownB A5 j → ownB A j ∨ w4.heap.size ≤ j) (hF5 : Fr (May E w.heap.size A) w4 w5) :
    Moved E nest B1 tb a A0 w r T G2 w5 := by
  have ne : ∀ {g : Nat} {c : Array Value} {t : TypeId}, TBlk w4 g c t → g < w.heap.size → t ≠ 47 → t ≠ 33 → ¬ May E w.heap.size A g := by
    rintro g c t hg hl h1 h2 (e | e | e)
    · subst e; exact TBlk.ne hg m.run h1 rfl
    · exact OwnR.ne m.rows hg h2 e
    · omega
  have hlo : ∀ k, k < E.B0 → ¬ May E w.heap.size A k := by
    rintro k hk (e | e | e)
    · have := ok.rb; omega
    · have := (OwnR.lt m.rows _ e).1; have := ok.B; omega
    · have := mk.b0; omega
  refine ⟨A5, cap5, CA, cc, I, K, ⟨hR, hO, m.task.keep hF5 (ne m.task htl (by decide) (by decide)), ?_, hch w5 hF5, m.tabs.keepS hF5 (fun k hk => hlo k (by have := ok.two; omega)), m.prg.keep hF5 (by have := m.b0; have := m.b2; omega) (fun k hk => hlo k hk),
    m.dob.keep hF5 (ne m.dob hdb (by decide) (by decide)), m.rbx.keep hF5 (ne m.rbx hxb (by decide) (by decide)), m.b0, m.b1, by have := m.b2; have := hF5.size; omega, by have := m.b3; have := hF5.size; omega⟩, hF.since hF5 ?_, ?_⟩
  · refine OwnR.keep m.cls hF5 ?_
    rintro j hj (e | e | e)
    · subst e; exact OwnR.ne m.cls m.run (by decide) hj
    · exact OwnR.apart m.cls m.rows (by decide) j hj e
    · have := hCA j hj; omega
  · rintro j (e | e | e) hl
    · exact .inl e
    · rcases hOw j e with h | h
      · exact .inr (.inl h)
      · omega
    · omega
  · intro j hj
    rcases hO5 j hj with h | h
    · exact hOw j h
    · exact .inr (Nat.le_trans hF.size h)

theorem rset_same (l : List Rw) (r : Rw) : (l ++ [r]).set l.length r = l ++ [r] := by
  rw [List.set_append, if_neg (by omega), Nat.sub_self]
  rfl

/-- What comes behind an instruction: a task that goes on, or has come to its end, or one that was forked. -/
theorem after_cases {x : Ins} {m : Nat} {o : Out} (ok : EnvOk E) (i : Inv E.P E.N base a T G) (hlt : G.st < E.N) (hx : insAt E.P T.F = x) (he : exec E.P E.N (m + 1) base a T G = some o) (hn : askd nest = false)
    (hP : StepPost E nest B1 tb a A w T G x (act E.P E.N base a T G x) (.returned (.tuple #[])) w') :
    Still w w' ∧ ((x.op ≠ 8 ∧ ∃ r T' G', Stands E base a o m r T' G' ∧ Moved E nest B1 tb a A w r T' G' w') ∨
      (x.op = 8 ∧ ∃ rk Kd T' G' o1, Forks E nest B1 tb a A w T.row.runs T.os G.rows.length rk Kd T' G' w' ∧ Stands E (base + T.os.length) G.rows.length o1 m rk Kd G' ∧ (rk.kind = 1 → askd (T.os ++ nest) = false) ∧
        match o1 with
        | .err c => o = .err c
        | .done G2 => T'.row = T.row ∧ Inv E.P E.N base a T' G2 ∧ exec E.P E.N m base a T' G2 = some o)) := by
  have hok := act_ok ok.acc ok.few i
  obtain ⟨m', hm, hxa⟩ := exec_act hx he
  obtain rfl : m = m' := by omega
  rw [hx] at hok
  have h8 := @act_eight E.P E.N base a T G x
  have ho := @act_other E.P E.N base a T G x
  generalize act E.P E.N base a T G x = y at hok hxa hP h8 ho
  cases y with
  | stop c =>
    have := hP.1
    unfold boom at this
    cases this
  | fin T' kd v G' =>
    obtain ⟨hk, rfl, _, hrow, hs, hcl⟩ := hok
    obtain ⟨_, hst, hmv⟩ := hP
    refine ⟨hst, .inl ⟨fun h => ?_, _, T', G.more, .inr ⟨hk.1, (List.getElem?_eq_some_iff.1 i.row).1, ?_⟩, hmv⟩⟩
    · rcases h8 h hlt with e | ⟨_, e⟩ | ⟨_, e⟩ <;> cases e
    · simp only at hxa
      rw [hxa]
      unfold Tk.told
      rw [hrow]
  | go T' G' =>
    obtain ⟨hi, hrow, hs, _⟩ := hok
    obtain ⟨_, hst, hmv⟩ := hP
    simp only at hxa
    refine ⟨hst, ?_⟩
    by_cases hx8 : x.op = 8
    · rw [if_pos hx8] at hmv
      refine .inr ⟨hx8, _, _, T', G', .done G', hmv, .inr ⟨by simp [Rw.lost], ?_, ?_⟩, fun h => by simp [Rw.lost] at h, hrow, hi, hxa⟩
      · rcases h8 hx8 hlt with e | ⟨_, e⟩ | ⟨_, e⟩
        · cases e
        · injection e with _ e
          rw [e]
          simp
        · cases e
      · rcases h8 hx8 hlt with e | ⟨_, e⟩ | ⟨_, e⟩
        · cases e
        · injection e with _ e
          rw [e]
          have er : ({ (kidRow a T x).lost with st := (kidOf E.P a T x).F.st, cl := (kidOf E.P a T x).cl } : Rw) = (kidRow a T x).lost := rfl
          rw [er, rset_same]
        · cases e
    · rw [if_neg hx8] at hmv
      exact .inl ⟨hx8, _, T', G', .inl ⟨by rw [hrow], by rw [runs_of i.kind], hi, hxa⟩, hmv⟩
  | sub K' T' G' =>
    obtain ⟨IK, hs, _, hrow, hst2, hpar⟩ := hok
    obtain ⟨_, hst, hmv⟩ := hP
    obtain ⟨o1, he1, hc⟩ := hxa
    have hx8 : x.op = 8 := by
      by_cases h : x.op = 8
      · exact h
      · exact absurd rfl (ho h)
    rcases h8 hx8 hlt with e | ⟨_, e⟩ | ⟨hask, e⟩
    · cases e
    · cases e
    injection e with e1 e2 e3
    refine ⟨hst, .inr ⟨hx8, _, K', T', G', o1, hmv, .inl ⟨by rw [e1]; rfl, by rw [runs_of rfl], IK, he1⟩, fun _ => by rw [askd_app, hask, hn]; rfl, ?_⟩⟩
    cases o1 with
    | err c => exact hc
    | done G2 =>
      obtain ⟨E2, hle⟩ := exec_ext ok.acc ok.few _ _ _ _ _ _ IK he1
      exact ⟨hrow, hpar G2 E2 hle, hc⟩

/-- Behind a task that was forked, and done: the parent goes on. -/
theorem kid_loop {m : Nat} {o : Out} (ok : EnvOk E) {w4 wV w5 : World} {kb ab : Nat} {nest2 : List (Nat × Bool)} {kk : Nat} {rk : Rw} {Kd T' : Tk} {ik : Option Addr} {kk2 : Value} {G' G2 : Gl}
    (hB1 : B1 ≤ w0.heap.size) (hFW : Fr (May E B1 A0) w0 w) (hOW : ∀ j, ownB A j → ownB A0 j ∨ w0.heap.size ≤ j) (hnest : askd nest = false)
    {A4 CA4 : Option Addr} {cap4 cc4 : Nat} {I4 : Option Addr}
    (m4 : Mem E nest B1 tb a A4 cap4 CA4 cc4 I4 K T.row.runs T' G' w4) (mk : Mem E nest2 w.heap.size kb kk A4 cap4 none 0 ik kk2 rk Kd G' w4) (hF : Fr (May E B1 A) w w4) (hOw : ∀ j, ownB A4 j → ownB A j ∨ w.heap.size ≤ j)
    (htl : tb < w.heap.size) (hdb : E.db < w.heap.size) (hxb : E.xb < w.heap.size) (hCA : ∀ j, ownB CA4 j → j < w.heap.size) (hch : ∀ w2, Fr (May E w.heap.size A4) w4 w2 → ChnO w2 B1 nest T'.os I4)
    (hab : TBlk w4 ab (dcel tb) 54) (habl : ab < w.heap.size) (hV : Fr (fun _ => False) w4 wV) (hk : Kid E w.heap.size A4 wV (.done G2) w5) (hT : T'.row = T.row) (hkd : T.row.kind = 0) (hI : Inv E.P E.N base a T' G2) (hx : exec E.P E.N m base a T' G2 = some o) :
    AtLoop E nest B1 tb a base A0 w0 o ab m w5 := by
  obtain ⟨_, ⟨A5, cap5, hR, hO, hO5⟩, hF5⟩ := hk
  have hF45 : Fr (May E w.heap.size A4) w4 w5 := (hV.mono (fun _ h => h.elim)).trans hF5
  have mv := kid_back ok m4 mk hF hOw htl hdb hxb hCA hch hR hO (fun j hj => (hO5 j hj).elim .inl (fun h => .inr (Nat.le_trans hV.size h))) hF45
  refine ⟨_, T', G2, .inl ⟨by rw [hT], by rw [runs_of hkd], hI, hx⟩, fun _ => hnest, Moved.after hB1 hFW hOW mv, hab.keep hF45 ?_⟩
  rintro (e | e | e)
  · subst e; exact TBlk.ne hab m4.run (by decide) rfl
  · exact OwnR.ne m4.rows hab (by decide) e
  · omega

theorem kid_err {w4 wV w5 : World} (hB1 : B1 ≤ w0.heap.size) (hFW : Fr (May E B1 A0) w0 w) (hOW : ∀ j, ownB A j → ownB A0 j ∨ w0.heap.size ≤ j) {A4 : Option Addr} (hF : Fr (May E B1 A) w w4) (hOw : ∀ j, ownB A4 j → ownB A j ∨ w.heap.size ≤ j)
    (hV : Fr (fun _ => False) w4 wV) (h5 : Fr (May E w.heap.size A4) wV w5) : Fr (May E B1 A0) w0 w5 := by
  have hAA : ∀ j, ownB A j → j < w0.heap.size → May E B1 A0 j := fun j hj hl => by
    rcases hOW j hj with h | h
    · exact .inr (.inl h)
    · omega
  have h04 : Fr (May E B1 A0) w0 w4 := hFW.since hF (fun j hj hl => by
    rcases hj with h | h | h
    · exact .inl h
    · exact hAA j h hl
    · exact .inr (.inr h))
  have h0V := h04.trans (hV.mono (fun _ h => h.elim))
  refine h0V.since h5 (fun j hj hl => ?_)
  have := hFW.size
  rcases hj with h | h | h
  · exact .inl h
  · rcases hOw j h with h | h
    · exact hAA j h hl
    · omega
  · omega
end

end Go.Proofs.YtpjcdjooiaefdaaDoor
