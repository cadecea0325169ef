/-
  No cell of these rows narrows 'for every input' (looked for: loops, veiled, ifaces, maps, wideKeys, modest, calm, conditions, laid).
  DERIVED. THE GIVEN ROWS OF THIS SEAT. 6 by the template 'for every input the law returns true; each argument reads behind the call as it read before'; 0 by the template 'total and deterministic' (their statements: YtoajdknhllaoeaaTotals.lean).
  GIVEN WITH THE SEED: the statements are not yours to turn. If you find one false, say at which input.
  Laid BY PROGRAM, IN A SANDBOX (cutbox-rows.mjs): the forced cells as the released guide's own fill.sh prints them over the translation abe31167acaacf95… (all of the seat's roots in one cut). By AI agents, Wed Nov 11 2026. No macro, syntax, notation, axiom, sorry.
-/
import Derived.Test.YtoajdknhllaoeaaChecked
import GoSem.Claim
import GoSem.ClaimJoined
import GoSem.ClaimMapViews
import Derived.JoinedTies
import Derived.KernelRfl
namespace Go.Proofs.Ytoajdknhllaoeaa
/- THE CELL 'sum', in the pinned program and in every row, IS THE sha256 OF THE DUMP (.gsa) THAT YtoajdknhllaoeaaProg.lean LOADS. Nothing in Lean hashes anything: it is a label: what it is worth is what the hold of that sum in a sandbox is worth. -/
noncomputable def Try.pinned : Pinned := { name := "ytoajdknhllaoeaa", sum := "abe31167acaacf95ef1acbcf3a460c0c0068f801ebca5827addfbc1baeb98f4b", checked := Try.checked }
namespace Rows
def none {H : Type} : Left H := { results := [], args := [] }

/-- 'pelotonlaw14.ScopeActs': WHATEVER THE INPUT: true; the input reads as it did. -/
def scopeActsSpec : ChangeSpec := { name := "scopeActs", fn := fun _ => fun
  | [d1, d2] => { results := [.lit (.bool true)], args := [d1, d2] }
  | _ => none }
def scopeActsRow : OpenClaim := { program := "ytoajdknhllaoeaa", sum := "abe31167acaacf95ef1acbcf3a460c0c0068f801ebca5827addfbc1baeb98f4b", func := "peloton/pelotonlaw14.ScopeActs", spec := "scopeActs", unfollowed := true, recurses := true, apart := false }
def ScopeActsSaid : Prop := scopeActsRow.holds Try.pinned (OpenSpec.ofChange scopeActsSpec)

/-- ITS FALSE NEIGHBOUR: 'it returns false'. Refute it at one input. -/
def scopeActsWrong : ChangeSpec := { name := "scopeActs", fn := fun _ => fun
  | [d1, d2] => { results := [.lit (.bool false)], args := [d1, d2] }
  | _ => none }
def ScopeActsWrongFalsely : Prop := scopeActsRow.holds Try.pinned (OpenSpec.ofChange scopeActsWrong)

/-- 'pelotonlaw14.ScopeNests': WHATEVER THE INPUT: true; the input reads as it did. -/
def scopeNestsSpec : ChangeSpec := { name := "scopeNests", fn := fun _ => fun
  | [d1, d2, d3] => { results := [.lit (.bool true)], args := [d1, d2, d3] }
  | _ => none }
def scopeNestsRow : OpenClaim := { program := "ytoajdknhllaoeaa", sum := "abe31167acaacf95ef1acbcf3a460c0c0068f801ebca5827addfbc1baeb98f4b", func := "peloton/pelotonlaw14.ScopeNests", spec := "scopeNests", unfollowed := true, recurses := true, apart := false }
def ScopeNestsSaid : Prop := scopeNestsRow.holds Try.pinned (OpenSpec.ofChange scopeNestsSpec)

/-- ITS FALSE NEIGHBOUR: 'it returns false'. Refute it at one input. -/
def scopeNestsWrong : ChangeSpec := { name := "scopeNests", fn := fun _ => fun
  | [d1, d2, d3] => { results := [.lit (.bool false)], args := [d1, d2, d3] }
  | _ => none }
def ScopeNestsWrongFalsely : Prop := scopeNestsRow.holds Try.pinned (OpenSpec.ofChange scopeNestsWrong)

/-- 'pelotonlaw14.ScopeSteps': WHATEVER THE INPUT: true; the input reads as it did. -/
def scopeStepsSpec : ChangeSpec := { name := "scopeSteps", fn := fun _ => fun
  | [d1, d2, d3] => { results := [.lit (.bool true)], args := [d1, d2, d3] }
  | _ => none }
def scopeStepsRow : OpenClaim := { program := "ytoajdknhllaoeaa", sum := "abe31167acaacf95ef1acbcf3a460c0c0068f801ebca5827addfbc1baeb98f4b", func := "peloton/pelotonlaw14.ScopeSteps", spec := "scopeSteps", unfollowed := true, recurses := true, apart := false }
def ScopeStepsSaid : Prop := scopeStepsRow.holds Try.pinned (OpenSpec.ofChange scopeStepsSpec)

/-- ITS FALSE NEIGHBOUR: 'it returns false'. Refute it at one input. -/
def scopeStepsWrong : ChangeSpec := { name := "scopeSteps", fn := fun _ => fun
  | [d1, d2, d3] => { results := [.lit (.bool false)], args := [d1, d2, d3] }
  | _ => none }
def ScopeStepsWrongFalsely : Prop := scopeStepsRow.holds Try.pinned (OpenSpec.ofChange scopeStepsWrong)

/-- 'pelotonlaw14.ScopeSpreads': WHATEVER THE INPUT: true; the input reads as it did. -/
def scopeSpreadsSpec : ChangeSpec := { name := "scopeSpreads", fn := fun _ => fun
  | [d1, d2] => { results := [.lit (.bool true)], args := [d1, d2] }
  | _ => none }
def scopeSpreadsRow : OpenClaim := { program := "ytoajdknhllaoeaa", sum := "abe31167acaacf95ef1acbcf3a460c0c0068f801ebca5827addfbc1baeb98f4b", func := "peloton/pelotonlaw14.ScopeSpreads", spec := "scopeSpreads", unfollowed := true, recurses := true, apart := false }
def ScopeSpreadsSaid : Prop := scopeSpreadsRow.holds Try.pinned (OpenSpec.ofChange scopeSpreadsSpec)

/-- ITS FALSE NEIGHBOUR: 'it returns false'. Refute it at one input. -/
def scopeSpreadsWrong : ChangeSpec := { name := "scopeSpreads", fn := fun _ => fun
  | [d1, d2] => { results := [.lit (.bool false)], args := [d1, d2] }
  | _ => none }
def ScopeSpreadsWrongFalsely : Prop := scopeSpreadsRow.holds Try.pinned (OpenSpec.ofChange scopeSpreadsWrong)

/-- 'pelotonlaw14.ScopeLives': WHATEVER THE INPUT: true; the input reads as it did. -/
def scopeLivesSpec : ChangeSpec := { name := "scopeLives", fn := fun _ => fun
  | [d1, d2] => { results := [.lit (.bool true)], args := [d1, d2] }
  | _ => none }
def scopeLivesRow : OpenClaim := { program := "ytoajdknhllaoeaa", sum := "abe31167acaacf95ef1acbcf3a460c0c0068f801ebca5827addfbc1baeb98f4b", func := "peloton/pelotonlaw14.ScopeLives", spec := "scopeLives", unfollowed := true, recurses := true, apart := false }
def ScopeLivesSaid : Prop := scopeLivesRow.holds Try.pinned (OpenSpec.ofChange scopeLivesSpec)

/-- ITS FALSE NEIGHBOUR: 'it returns false'. Refute it at one input. -/
def scopeLivesWrong : ChangeSpec := { name := "scopeLives", fn := fun _ => fun
  | [d1, d2] => { results := [.lit (.bool false)], args := [d1, d2] }
  | _ => none }
def ScopeLivesWrongFalsely : Prop := scopeLivesRow.holds Try.pinned (OpenSpec.ofChange scopeLivesWrong)

/-- 'pelotonlaw14.ScopeNil': WHATEVER THE INPUT: true; the input reads as it did. -/
def scopeNilSpec : ChangeSpec := { name := "scopeNil", fn := fun _ => fun
  | [d1, d2] => { results := [.lit (.bool true)], args := [d1, d2] }
  | _ => none }
def scopeNilRow : OpenClaim := { program := "ytoajdknhllaoeaa", sum := "abe31167acaacf95ef1acbcf3a460c0c0068f801ebca5827addfbc1baeb98f4b", func := "peloton/pelotonlaw14.ScopeNil", spec := "scopeNil", unfollowed := true, recurses := true, apart := false }
def ScopeNilSaid : Prop := scopeNilRow.holds Try.pinned (OpenSpec.ofChange scopeNilSpec)

/-- ITS FALSE NEIGHBOUR: 'it returns false'. Refute it at one input. -/
def scopeNilWrong : ChangeSpec := { name := "scopeNil", fn := fun _ => fun
  | [d1, d2] => { results := [.lit (.bool false)], args := [d1, d2] }
  | _ => none }
def ScopeNilWrongFalsely : Prop := scopeNilRow.holds Try.pinned (OpenSpec.ofChange scopeNilWrong)

/- THE SECOND FORM. 'bulk': how many values and letters a reading holds, each counted each time it is reached (what is shared counts as often as it is met; a slice's spare places count too). A statement '..UptoSaid' is the law's where the arguments, and the package variables that the reading takes, are together of bulk at most 1048576: NARROWER than '..Said'. Prove '..Said' where nothing that the law and all that it calls make is longer than what came in: it says more and counts as full. Else prove '..UptoSaid'. A law counts once. -/
mutual
def uptoBulk {H : Type} : DataW H → Nat
  | .lit (.string bytes) => bytes.length + 1
  | .lit _ => 1
  | .nil => 1
  | .ptr d => uptoBulk d + 1
  | .slice elems spare => uptoBulkAll elems + uptoBulkAll spare + 1
  | .agg parts => uptoBulkAll parts + 1
  | .iface _ d => uptoBulk d + 1
  | .map entries => uptoBulkEntries entries + 1
  | .held _ => 1
def uptoBulkAll {H : Type} : List (DataW H) → Nat
  | [] => 0
  | d :: r => uptoBulk d + uptoBulkAll r
def uptoBulkEntries {H : Type} : List (Lit × DataW H) → Nat
  | [] => 0
  | x :: r => uptoBulkEntry x + uptoBulkEntries r
def uptoBulkEntry {H : Type} : Lit × DataW H → Nat
  | (.string bytes, d) => bytes.length + uptoBulk d + 1
  | (_, d) => uptoBulk d + 1
 end
def uptoSmall : (H : Type) → List (DataW H) → Bool := fun _ ds => decide (uptoBulkAll ds ≤ 1048576)
def OpenSpec.upto (s : _root_.Go.ChangeSpec) : _root_.Go.OpenSpec := { _root_.Go.OpenSpec.ofChange s with cond := some uptoSmall }

/-- 'pelotonlaw14.ScopeActs', WHERE WHAT IT READS IS OF BULK AT MOST 1048576: true; the input reads as it did. -/
def scopeActsUptoRow : OpenClaim := { program := "ytoajdknhllaoeaa", sum := "abe31167acaacf95ef1acbcf3a460c0c0068f801ebca5827addfbc1baeb98f4b", func := "peloton/pelotonlaw14.ScopeActs", spec := "scopeActs", unfollowed := true, recurses := true, apart := false, narrowed := true }
def ScopeActsUptoSaid : Prop := scopeActsUptoRow.holds Try.pinned (OpenSpec.upto scopeActsSpec)

/-- 'pelotonlaw14.ScopeNests', WHERE WHAT IT READS IS OF BULK AT MOST 1048576: true; the input reads as it did. -/
def scopeNestsUptoRow : OpenClaim := { program := "ytoajdknhllaoeaa", sum := "abe31167acaacf95ef1acbcf3a460c0c0068f801ebca5827addfbc1baeb98f4b", func := "peloton/pelotonlaw14.ScopeNests", spec := "scopeNests", unfollowed := true, recurses := true, apart := false, narrowed := true }
def ScopeNestsUptoSaid : Prop := scopeNestsUptoRow.holds Try.pinned (OpenSpec.upto scopeNestsSpec)

/-- 'pelotonlaw14.ScopeSteps', WHERE WHAT IT READS IS OF BULK AT MOST 1048576: true; the input reads as it did. -/
def scopeStepsUptoRow : OpenClaim := { program := "ytoajdknhllaoeaa", sum := "abe31167acaacf95ef1acbcf3a460c0c0068f801ebca5827addfbc1baeb98f4b", func := "peloton/pelotonlaw14.ScopeSteps", spec := "scopeSteps", unfollowed := true, recurses := true, apart := false, narrowed := true }
def ScopeStepsUptoSaid : Prop := scopeStepsUptoRow.holds Try.pinned (OpenSpec.upto scopeStepsSpec)

/-- 'pelotonlaw14.ScopeSpreads', WHERE WHAT IT READS IS OF BULK AT MOST 1048576: true; the input reads as it did. -/
def scopeSpreadsUptoRow : OpenClaim := { program := "ytoajdknhllaoeaa", sum := "abe31167acaacf95ef1acbcf3a460c0c0068f801ebca5827addfbc1baeb98f4b", func := "peloton/pelotonlaw14.ScopeSpreads", spec := "scopeSpreads", unfollowed := true, recurses := true, apart := false, narrowed := true }
def ScopeSpreadsUptoSaid : Prop := scopeSpreadsUptoRow.holds Try.pinned (OpenSpec.upto scopeSpreadsSpec)

/-- 'pelotonlaw14.ScopeLives', WHERE WHAT IT READS IS OF BULK AT MOST 1048576: true; the input reads as it did. -/
def scopeLivesUptoRow : OpenClaim := { program := "ytoajdknhllaoeaa", sum := "abe31167acaacf95ef1acbcf3a460c0c0068f801ebca5827addfbc1baeb98f4b", func := "peloton/pelotonlaw14.ScopeLives", spec := "scopeLives", unfollowed := true, recurses := true, apart := false, narrowed := true }
def ScopeLivesUptoSaid : Prop := scopeLivesUptoRow.holds Try.pinned (OpenSpec.upto scopeLivesSpec)

/-- 'pelotonlaw14.ScopeNil', WHERE WHAT IT READS IS OF BULK AT MOST 1048576: true; the input reads as it did. -/
def scopeNilUptoRow : OpenClaim := { program := "ytoajdknhllaoeaa", sum := "abe31167acaacf95ef1acbcf3a460c0c0068f801ebca5827addfbc1baeb98f4b", func := "peloton/pelotonlaw14.ScopeNil", spec := "scopeNil", unfollowed := true, recurses := true, apart := false, narrowed := true }
def ScopeNilUptoSaid : Prop := scopeNilUptoRow.holds Try.pinned (OpenSpec.upto scopeNilSpec)

end Rows
end Go.Proofs.Ytoajdknhllaoeaa
