/-
  Stage 7: what the laws' walks share.
-/
import Derived.Test.YtnlbellbeepkaaaGreatDoorAwake
import Derived.Test.YtnlbellbeepkaaaGreatDoorOpen
import Derived.Test.YtnlbellbeepkaaaGreatDoorFew
import Derived.Test.YtnlbellbeepkaaaGreatDoorWithin
namespace Go.Proofs.YtnlbellbeepkaaaGreatDoor
open Go.RowKit
set_option linter.unusedVariables false

theorem fewB.t {l : List Tw} (h : fewB l) : FewT l := fun i r hr => by have := h.2 i r hr; omega

theorem tabT_le {l : List Tw} (hb : ∀ (i : Nat) r, l[i]? = some r → Bnd r) (hc : ∀ (i : Nat) r, l[i]? = some r → r.cl.size ≤ 100) : (tabT l).length ≤ l.length * 300 := by
  induction l with
  | nil => simp [tabT]
  | cons a t ih =>
    have h1 := rowT_len (hb 0 a rfl)
    have h2 := hc 0 a rfl
    have h3 := ih (fun i r hr => hb (i + 1) r hr) (fun i r hr => hc (i + 1) r hr)
    have e : tabT (a :: t) = rowT a ++ tabT t := rfl
    rw [e, List.length_append, List.length_cons]
    omega

theorem Opn.fits {w : World} {A : Option Addr} {n c : Nat} {l : List Tw} (h : Opn w A n c l) (hf : fewB l) : Fits l :=
  ⟨h.bnd, fun i r hr => by have := hf.2 i r hr; omega, by
    have h1 := tabT_le h.bnd hf.2
    have h2 := hf.1
    omega⟩

theorem wth_next {l : List Tw} (h : Tabl l) {n : Nat} (hn : l.length = n) (i t : Int) : wth l t (n + 1) i = wth l t n i := by
  by_cases hi : i < n
  · exact wth_more l h.down t _ _ i (by omega) hi
  · rw [wth_out (by omega), wth_out (by omega)]

theorem OwnR.le {w : World} {B : Nat} {e : TypeId} {k : Nat} {A : Option Addr} {n cap : Nat} {xs : List Value} (h : OwnR w B e k A n cap xs) : n ≤ cap ∧ cap ≤ 9223372036854775807 := by
  obtain ⟨h1, h2⟩ := h
  rcases h2 with ⟨h2, h3⟩ | ⟨g, c, cur, hv, hb, hh, h4, h5, _⟩
  · injection h2 with _ h6 h7
    omega
  · injection hv with _ _ h6
    unfold maxLen at h5
    omega

/-- The numbers one slice law may go by. -/
theorem Opn.n60 {w : World} {A : Option Addr} {n c : Nat} {l : List Tw} (h : Opn w A n c l) (hf : fewB l) : n ≤ 60 := by
  have := h.len
  have := hf.1
  omega

theorem dec_self {l : List Tw} : decide (l = l) = true := decide_eq_true rfl

end Go.Proofs.YtnlbellbeepkaaaGreatDoor
