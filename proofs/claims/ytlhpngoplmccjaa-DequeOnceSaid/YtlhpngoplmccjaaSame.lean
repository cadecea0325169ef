/-
  Whether two lists are the same: same of the laws.
-/
import Derived.Test.YtlhpngoplmccjaaSeqA
import Derived.Test.YtlhpngoplmccjaaOpen
namespace Go.Proofs.Ytlhpngoplmccjaa
open Go.RowKit
set_option linter.unusedVariables false

theorem Row.at_one {w : World} {a : Option Addr} {len i : Nat} {f : Nat → Nat → Int} (h : Row w a len 1 f) (hi : i < len) :
    ∃ b off, a = some ⟨b, off, none⟩ ∧ (∀ v, Fr (fun _ => False) w v → v.cell? ⟨b, off + i, none⟩ = some (.int .i64 (f i 0))) := by
  obtain ⟨b, off, ha, hb, hc⟩ := h (by omega)
  refine ⟨b, off, ha, fun v hf => ?_⟩
  have := (hc i 0 hi (by omega)).1
  rw [show off + (i * 1 + 0) = off + i by omega] at this
  rw [← this]
  exact World.cell?_of_block (w := w) (hf.block b hb id)

/-- A row of numbers that is read. -/
def IntR (w : World) (A : Option Addr) (L : List Int) : Prop :=
  0 < L.length → ∃ g off, A = some ⟨g, off, none⟩ ∧ g < w.heap.size ∧ ∀ k, k < L.length → w.cell? ⟨g, off + k, none⟩ = some (.int .i64 (L.getD k 0))

theorem IntR.same {w w' : World} {A : Option Addr} {L : List Int} (h : IntR w A L) (F : Fr (fun _ => False) w w') : IntR w' A L := by
  intro h0
  obtain ⟨g, off, hA, hg, hc⟩ := h h0
  exact ⟨g, off, hA, Nat.lt_of_lt_of_le hg F.size, fun k hk => (World.cell?_of_block (w := w) (F.block g hg id)).trans (hc k hk)⟩

theorem OwnR.intR {w : World} {B : Nat} {e : TypeId} {A : Option Addr} {n cap : Nat} {L : List Int} (h : OwnR w B e 1 A n cap (intsV L)) (hn : n = L.length) : IntR w A L := by
  intro h0
  obtain ⟨g, hA, hB, hg, _, hc⟩ := h.cell (by omega)
  refine ⟨g, 0, hA, hg, fun k hk => ?_⟩
  rw [Nat.zero_add]
  refine hc k _ ?_
  simp [intsV, hk]

def SmRel (L : List Int) (L' : List Int) (w : World) (d : Nat) (x : Value) (wr : World) : Prop :=
  ∃ k : Nat, k ≤ L.length ∧ d = L.length + 1 - k ∧ x = .int .i64 k ∧ (∀ i, i < k → L.getD i 0 = L'.getD i 0) ∧ Fr (fun _ => False) w wr

set_option maxRecDepth 100000 in
set_option maxHeartbeats 1000000 in
theorem same_no (A A' : Option Addr) (L L' : List Int) (c c' : Nat) (w : World) (h : L.length ≠ L'.length) (hl : L.length ≤ 1000) (hl' : L'.length ≤ 1000) :
    Calls Try.prog 25 #[.slice A L.length c, .slice A' L'.length c'] w fun e w' => e = .returned (.bool false) ∧ Fr (fun _ => False) w w' := by
  obtain ⟨n, hn⟩ : ∃ n, L.length = n := ⟨_, rfl⟩
  obtain ⟨m, hm⟩ : ∃ n, L'.length = n := ⟨_, rfl⟩
  rw [hn] at h hl ⊢
  rw [hm] at h hl' ⊢
  clear hn hm
  have t1 : ((n : Int) != m) = true := by simp; omega
  go_enter Try.func25, Try.ntmps25
  go_wp2_with fail
  go_ret
  exact ⟨rfl, Fr.refl _ _⟩

set_option maxRecDepth 100000 in
set_option maxHeartbeats 1000000 in
theorem same_yes (A A' : Option Addr) (L : List Int) (n c c' : Nat) (w : World) (hA : IntR w A L) (hA' : IntR w A' L) (hn : L.length = n) (hl : n ≤ 1000) :
    Calls Try.prog 25 #[.slice A n c, .slice A' n c'] w fun e w' => e = .returned (.bool true) ∧ Fr (fun _ => False) w w' := by
  have HA := hid hA
  have HA' := hid hA'
  have HN := hid hn
  have HREL := hid (show SmRel L L w (n + 1) (.int .i64 0) w from ⟨0, by omega, by omega, rfl, fun _ _ => rfl, Fr.refl _ _⟩)
  clear hA hA' hn
  go_enter Try.func25, Try.ntmps25
  go_wp2_with fail
  go_loopg [5] (n + 1) (fun d x wr => SmRel L L w d x wr)
  case atStart => exact HREL.out
  case round =>
    clear HREL
    obtain ⟨k, hk, rfl, rfl, _, hF⟩ := hrel
    have HF := hid hF
    have HK := hid hk
    clear hF hk
    by_cases hlt : k < n
    · obtain ⟨g, off, rfl, hg, hc⟩ := (HA.out.same HF.out) (by have := HN.out; omega)
      obtain ⟨g', off', rfl, hg', hc'⟩ := (HA'.out.same HF.out) (by have := HN.out; omega)
      have c1 := hc k (by have := HN.out; omega)
      have c2 := hc' k (by have := HN.out; omega)
      have hlt2 : (k : Int) < n := by omega
      have t1 : (L.getD k 0 != L.getD k 0) = false := by simp
      obtain ⟨z, hz⟩ : ∃ z, L.getD k 0 = z := ⟨_, rfl⟩
      rw [hz] at c1 c2 t1
      clear hc hc' hz hg hg'
      go_wp2_with fail
      go_quiet (fail)
      go_wp2_with fail
      go_roundg (L.length + 1 - (k + 1))
      case rel => exact ⟨k + 1, by have := HN.out; omega, rfl, by go_num, fun _ _ => rfl, HF.out.trans (Fr.drewN _ _ _)⟩
      case measure => have := HN.out; omega
    · obtain rfl : k = n := by have := HK.out; have := HN.out; omega
      go_wp2_with fail
      go_ret
      exact ⟨rfl, HF.out⟩
end Go.Proofs.Ytlhpngoplmccjaa
