/-
  The bytes of an instruction, put behind others.
-/
import Derived.Test.YtepbnneggpcbcaaGreatDoorCheck
import Derived.Laws.AppendOwn
import Derived.OwnWalk
namespace Go.Proofs.YtepbnneggpcbcaaGreatDoor
open Go.RowKit

theorem Tryz.infob : (Tryz.prog.info? 5).map (fun i => (i.zero, i.size, i.bytes)) = some (some (.int .u8 0), 1, 1) := by kernel_rfl

/-- The bytes of an instruction. -/
def encB (i : Ins) : List Int := [i.op % 256, i.a % 256, i.b % 256, i.c % 256, i.n % 4294967296 / 16777216, i.n % 4294967296 / 65536 % 256, i.n % 4294967296 / 256 % 256, i.n % 256]

/-- Bytes as they lie in cells. -/
def byts (l : List Int) : List Value := l.map (Value.int .u8)

/-- A block is that of an address. -/
def ownB (A : Option Addr) (k : Nat) : Prop := ∃ a, A = some a ∧ a.block = k

theorem Fr.of_grown {w w' : World} {A : Option Addr} {n c : Nat} (h : w.grownBy w' (Value.slice A n c).ownBlock) : Fr (ownB A) w w' :=
  ⟨h.os, h.tape, h.output, h.size, fun k hk hn => h.block k hk (fun e => hn (by
    rcases A with _ | a
    · simp [Value.ownBlock] at e
    · simp only [Value.ownBlock, Option.some.injEq] at e
      exact ⟨a, rfl, e.symm⟩))⟩

/-- A row of bytes that is the call's own. -/
def OwnB (w : World) (B : Nat) (A : Option Addr) (n cap : Nat) (l : List Int) : Prop := w.ownsRow B 5 1 (.slice A n cap) n (byts l)

theorem OwnB.nil (w : World) (B : Nat) : OwnB w B none 0 0 [] := ⟨rfl, .inl ⟨rfl, rfl⟩⟩

theorem OwnB.lt {w : World} {B : Nat} {A : Option Addr} {n cap : Nat} {l : List Int} (h : OwnB w B A n cap l) : ∀ k, ownB A k → B ≤ k ∧ k < w.heap.size := by
  rintro k ⟨a, rfl, rfl⟩
  exact World.ownsRow.lt h _ rfl

theorem OwnB.keep {w w' : World} {B : Nat} {A : Option Addr} {n cap : Nat} {l : List Int} (h : OwnB w B A n cap l) {S : Nat → Prop} (f : Fr S w w') (hs : ∀ k, ownB A k → ¬ S k) : OwnB w' B A n cap l := by
  have hlt := h.lt
  obtain ⟨h1, h2⟩ := h
  refine ⟨h1, ?_⟩
  rcases h2 with h2 | ⟨g, c, cur, hv, hb, hh, r⟩
  · exact .inl h2
  · refine .inr ⟨g, c, cur, hv, hb, ?_, r⟩
    have hA : A = some ⟨g, 0, none⟩ := by injection hv
    have ho : ownB A g := ⟨_, hA, rfl⟩
    rw [f.block g (hlt g ho).2 (hs g ho)]
    exact hh

theorem OwnB.same {w w' : World} {B : Nat} {A : Option Addr} {n cap : Nat} {l : List Int} (h : OwnB w B A n cap l) (f : Fr (fun _ => False) w w') : OwnB w' B A n cap l := h.keep f (fun _ _ hh => hh)

theorem OwnB.len {w : World} {B : Nat} {A : Option Addr} {n cap : Nat} {l : List Int} (h : OwnB w B A n cap l) : l.length = n := by
  have := h.1
  simpa [byts] using this

/-- Bytes that are read. -/
def Bys (w : World) (B : Nat) (A : Option Addr) (l : List Int) : Prop :=
  0 < l.length → ∃ b o, A = some ⟨b, o, none⟩ ∧ b < B ∧ ∀ k x, l[k]? = some x → w.cell? ⟨b, o + k, none⟩ = some (.int .u8 x)

theorem Bys.keep {w w' : World} {B : Nat} {A : Option Addr} {l : List Int} (h : Bys w B A l) {S : Nat → Prop} (f : Fr S w w') (hB : B ≤ w.heap.size) (hs : ∀ k, k < B → ¬ S k) : Bys w' B A l := fun hl => by
  obtain ⟨b, o, rfl, hb, hc⟩ := h hl
  exact ⟨b, o, rfl, hb, fun k x hx => (cell_keep f (p := ⟨b, o + k, none⟩) (Nat.lt_of_lt_of_le hb hB) (hs b hb)).trans (hc k x hx)⟩

theorem Bys.same {w w' : World} {B : Nat} {A : Option Addr} {l : List Int} (h : Bys w B A l) (f : Fr (fun _ => False) w w') (hB : B ≤ w.heap.size) : Bys w' B A l := h.keep f hB (fun _ _ hh => hh)

theorem Bys.more {w : World} {B C : Nat} {A : Option Addr} {l : List Int} (h : Bys w B A l) (hB : B ≤ C) : Bys w C A l := fun hl => by
  obtain ⟨b, o, rfl, hb, hc⟩ := h hl
  exact ⟨b, o, rfl, Nat.lt_of_lt_of_le hb hB, hc⟩

theorem OwnB.bys {w : World} {B : Nat} {A : Option Addr} {n cap : Nat} {l : List Int} (h : OwnB w B A n cap l) : Bys w w.heap.size A l := fun hl => by
  have hlt := h.lt
  have hlen := h.len
  obtain ⟨h1, h2⟩ := h
  rcases h2 with ⟨_, h2⟩ | ⟨g, c, cur, hv, hb, hh, _, _, _, htk⟩
  · omega
  · have hA : A = some ⟨g, 0, none⟩ := by injection hv
    refine ⟨g, 0, hA, (hlt g ⟨_, hA, rfl⟩).2, fun k x hx => ?_⟩
    have hk : (cur.toList.take (n * 1))[k]? = some (.int .u8 x) := by rw [htk]; simp [byts, hx]
    rw [List.getElem?_take] at hk
    split at hk
    · rw [Nat.zero_add]
      exact Blk.cell (c := cur) ⟨_, hh⟩ (by simpa using hk)
    · cases hk

theorem news8 (w : World) (e : TypeId) (l : List Value) : ∀ j u, l[j]? = some u → (w.alloc (.cells l.toArray e)).cell? ((⟨w.heap.size, 0, none⟩ : Addr).add j) = some u := by
  intro j u hj
  rw [add_none, Nat.zero_add]
  exact (Blk.new w _ e).cell (by simpa using hj)

theorem size_alloc (w : World) (o : Obj) : (w.alloc o).heap.size = w.heap.size + 1 := by simp

theorem byts_one (l : List Int) : ∀ u ∈ byts l, u.oneCell' = true := by
  intro u hu
  simp only [byts, List.mem_map] at hu
  obtain ⟨x, _, rfl⟩ := hu
  rfl

theorem own_form {w : World} {B : Nat} {v : Value} {n : Nat} {l : List Int} (h : w.ownsRow B 5 1 v n (byts l)) : ∃ A cap, v = .slice A n cap ∧ OwnB w B A n cap l := by
  have h' := h
  obtain ⟨h1, h2⟩ := h
  rcases h2 with ⟨rfl, rfl⟩ | ⟨g, c, cur, rfl, _⟩
  · exact ⟨_, _, rfl, h'⟩
  · exact ⟨_, _, rfl, h'⟩

def PutPost (w : World) (B : Nat) (A : Option Addr) (n : Nat) (l : List Int) (e : Ending) (w' : World) : Prop :=
  ∃ A' cap', e = .returned (.slice A' n cap') ∧ OwnB w' B A' n cap' l ∧ Fr (ownB A) w w'

set_option maxHeartbeats 1000000 in
theorem put_ok (B : Nat) (A : Option Addr) (n cap : Nat) (l : List Int) (op a b c m : Int) (w : World) (hown : OwnB w B A n cap l) (hn : n ≤ 1000000) (hB : B ≤ w.heap.size) :
    Calls Tryz.prog 30 #[.slice A n cap, Ins.val ⟨op, a, b, c, m⟩] w (PutPost w B A (n + 8) (l ++ encB ⟨op, a, b, c, m⟩)) := by
  unfold Ins.val
  obtain ⟨i0, hi, hz⟩ := Option.map_eq_some_iff.1 Tryz.infob
  simp only [Prod.mk.injEq] at hz
  obtain ⟨hz0, hz1, hz2⟩ := hz
  have HI := hid hi
  have HZ0 := hid hz0
  have HZ1 := hid hz1
  have HZ2 := hid hz2
  clear hi hz0 hz1 hz2
  have HO := hid (hown.same ((Fr.alloc _ w (.cells #[.int .i64 op, .int .i64 a, .int .i64 b, .int .i64 c, .int .i64 m] 35)).trans (Fr.alloc _ _ (.cells #[.int .u8 (op % 256), .int .u8 (a % 256), .int .u8 (b % 256), .int .u8 (c % 256), .int .u8 (m % 4294967296 / 16777216), .int .u8 (m % 4294967296 / 65536 % 256), .int .u8 (m % 4294967296 / 256 % 256), .int .u8 (m % 256)] 5))))
  have hN : ∀ j u, (byts (encB ⟨op, a, b, c, m⟩))[j]? = some u → ((w.alloc (.cells #[.int .i64 op, .int .i64 a, .int .i64 b, .int .i64 c, .int .i64 m] 35)).alloc (.cells #[.int .u8 (op % 256), .int .u8 (a % 256), .int .u8 (b % 256), .int .u8 (c % 256), .int .u8 (m % 4294967296 / 16777216), .int .u8 (m % 4294967296 / 65536 % 256), .int .u8 (m % 4294967296 / 256 % 256), .int .u8 (m % 256)] 5)).cell? ((⟨w.heap.size + 1, 0, none⟩ : Addr).add j) = some u := by
    have h := news8 (w.alloc (.cells #[.int .i64 op, .int .i64 a, .int .i64 b, .int .i64 c, .int .i64 m] 35)) 5 (byts (encB ⟨op, a, b, c, m⟩))
    rw [size_alloc] at h
    exact h
  have HN := hid hN
  clear hN hown
  go_enter Tryz.func30, Tryz.ntmps30
  go_wp2_with (at_builtin; go_loud (refine wpList_append_own _ rfl _ _ 40 rfl B 5 i0 (.int .u8 0) 1 1 Tryz.underlying40 HI.out HZ0.out HZ1.out HZ2.out rfl (by decide) (.slice A n cap) n (byts l) rfl HO.out ⟨w.heap.size + 1, 0, none⟩ 8 8 (byts (encB ⟨op, a, b, c, m⟩)) rfl rfl HN.out (byts_one _) (by unfold maxLen; omega) (by omega) (by simp; omega) ?_; intro v' w3 hown3 hgrow3 hnil3; clear hnil3; have HO3 := hid hown3; have HG3 := hid hgrow3; clear hown3 hgrow3))
  go_ret
  obtain ⟨A', cap', rfl, ho⟩ := own_form (l := l ++ encB ⟨op, a, b, c, m⟩) (by simpa [byts] using HO3.out)
  exact ⟨A', cap', rfl, ho, ((Fr.alloc _ _ _).trans (Fr.alloc _ _ _)).trans (Fr.of_grown HG3.out)⟩

end Go.Proofs.YtepbnneggpcbcaaGreatDoor
