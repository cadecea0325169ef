/-
  No cell of these rows narrows 'for every input' (looked for: loops, veiled, ifaces, maps, wideKeys, modest, calm, conditions, laid).
  DERIVED. THE GIVEN ROWS OF THIS SEAT. 6 by the template 'for every input the law returns true; each argument reads behind the call as it read before'; 0 by the template 'total and deterministic' (their statements: YtlhpngoplmccjaaTotals.lean).
  GIVEN WITH THE SEED: the statements are not yours to turn. If you find one false, say at which input.
  Laid BY PROGRAM, IN A SANDBOX (cutbox-rows.mjs): the forced cells as the released guide's own fill.sh prints them over the translation 4f37e7c92a5ac61a… (all of the seat's roots in one cut). By AI agents, Wed Nov 11 2026. No macro, syntax, notation, axiom, sorry.
-/
import Derived.Test.YtlhpngoplmccjaaChecked
import GoSem.Claim
import GoSem.ClaimJoined
import GoSem.ClaimMapViews
import Derived.JoinedTies
import Derived.KernelRfl
namespace Go.Proofs.Ytlhpngoplmccjaa
/- THE CELL 'sum', in the pinned program and in every row, IS THE sha256 OF THE DUMP (.gsa) THAT YtlhpngoplmccjaaProg.lean LOADS. Nothing in Lean hashes anything: it is a label: what it is worth is what the hold of that sum in a sandbox is worth. -/
noncomputable def Try.pinned : Pinned := { name := "ytlhpngoplmccjaa", sum := "4f37e7c92a5ac61a5c32fe16b277c1621b0c08f30004fd1b70e8acd3fba8c18b", checked := Try.checked }
namespace Rows
def none {H : Type} : Left H := { results := [], args := [] }

/-- 'pelotonlaw10.DequeSteps': WHATEVER THE INPUT: true; the input reads as it did. -/
def dequeStepsSpec : ChangeSpec := { name := "dequeSteps", fn := fun _ => fun
  | [d1, d2, d3] => { results := [.lit (.bool true)], args := [d1, d2, d3] }
  | _ => none }
def dequeStepsRow : OpenClaim := { program := "ytlhpngoplmccjaa", sum := "4f37e7c92a5ac61a5c32fe16b277c1621b0c08f30004fd1b70e8acd3fba8c18b", func := "peloton/pelotonlaw10.DequeSteps", spec := "dequeSteps", unfollowed := true, recurses := true, apart := false }
def DequeStepsSaid : Prop := dequeStepsRow.holds Try.pinned (OpenSpec.ofChange dequeStepsSpec)

/-- ITS FALSE NEIGHBOUR: 'it returns false'. Refute it at one input. -/
def dequeStepsWrong : ChangeSpec := { name := "dequeSteps", fn := fun _ => fun
  | [d1, d2, d3] => { results := [.lit (.bool false)], args := [d1, d2, d3] }
  | _ => none }
def DequeStepsWrongFalsely : Prop := dequeStepsRow.holds Try.pinned (OpenSpec.ofChange dequeStepsWrong)

/-- 'pelotonlaw10.DequeOnce': WHATEVER THE INPUT: true; the input reads as it did. -/
def dequeOnceSpec : ChangeSpec := { name := "dequeOnce", fn := fun _ => fun
  | [d1, d2] => { results := [.lit (.bool true)], args := [d1, d2] }
  | _ => none }
def dequeOnceRow : OpenClaim := { program := "ytlhpngoplmccjaa", sum := "4f37e7c92a5ac61a5c32fe16b277c1621b0c08f30004fd1b70e8acd3fba8c18b", func := "peloton/pelotonlaw10.DequeOnce", spec := "dequeOnce", unfollowed := true, recurses := true, apart := false }
def DequeOnceSaid : Prop := dequeOnceRow.holds Try.pinned (OpenSpec.ofChange dequeOnceSpec)

/-- ITS FALSE NEIGHBOUR: 'it returns false'. Refute it at one input. -/
def dequeOnceWrong : ChangeSpec := { name := "dequeOnce", fn := fun _ => fun
  | [d1, d2] => { results := [.lit (.bool false)], args := [d1, d2] }
  | _ => none }
def DequeOnceWrongFalsely : Prop := dequeOnceRow.holds Try.pinned (OpenSpec.ofChange dequeOnceWrong)

/-- 'pelotonlaw11.EventActs': WHATEVER THE INPUT: true; the input reads as it did. -/
def eventActsSpec : ChangeSpec := { name := "eventActs", fn := fun _ => fun
  | [d] => { results := [.lit (.bool true)], args := [d] }
  | _ => none }
def eventActsRow : OpenClaim := { program := "ytlhpngoplmccjaa", sum := "4f37e7c92a5ac61a5c32fe16b277c1621b0c08f30004fd1b70e8acd3fba8c18b", func := "peloton/pelotonlaw11.EventActs", spec := "eventActs", unfollowed := true, recurses := true, apart := false }
def EventActsSaid : Prop := eventActsRow.holds Try.pinned (OpenSpec.ofChange eventActsSpec)

/-- ITS FALSE NEIGHBOUR: 'it returns false'. Refute it at one input. -/
def eventActsWrong : ChangeSpec := { name := "eventActs", fn := fun _ => fun
  | [d] => { results := [.lit (.bool false)], args := [d] }
  | _ => none }
def EventActsWrongFalsely : Prop := eventActsRow.holds Try.pinned (OpenSpec.ofChange eventActsWrong)

/-- 'pelotonlaw11.EventWakes': WHATEVER THE INPUT: true; the input reads as it did. -/
def eventWakesSpec : ChangeSpec := { name := "eventWakes", fn := fun _ => fun
  | [d] => { results := [.lit (.bool true)], args := [d] }
  | _ => none }
def eventWakesRow : OpenClaim := { program := "ytlhpngoplmccjaa", sum := "4f37e7c92a5ac61a5c32fe16b277c1621b0c08f30004fd1b70e8acd3fba8c18b", func := "peloton/pelotonlaw11.EventWakes", spec := "eventWakes", unfollowed := true, recurses := true, apart := false }
def EventWakesSaid : Prop := eventWakesRow.holds Try.pinned (OpenSpec.ofChange eventWakesSpec)

/-- ITS FALSE NEIGHBOUR: 'it returns false'. Refute it at one input. -/
def eventWakesWrong : ChangeSpec := { name := "eventWakes", fn := fun _ => fun
  | [d] => { results := [.lit (.bool false)], args := [d] }
  | _ => none }
def EventWakesWrongFalsely : Prop := eventWakesRow.holds Try.pinned (OpenSpec.ofChange eventWakesWrong)

/-- 'pelotonlaw11.EventRests': WHATEVER THE INPUT: true; the input reads as it did. -/
def eventRestsSpec : ChangeSpec := { name := "eventRests", fn := fun _ => fun
  | [d1, d2, d3] => { results := [.lit (.bool true)], args := [d1, d2, d3] }
  | _ => none }
def eventRestsRow : OpenClaim := { program := "ytlhpngoplmccjaa", sum := "4f37e7c92a5ac61a5c32fe16b277c1621b0c08f30004fd1b70e8acd3fba8c18b", func := "peloton/pelotonlaw11.EventRests", spec := "eventRests", unfollowed := true, recurses := true, apart := false }
def EventRestsSaid : Prop := eventRestsRow.holds Try.pinned (OpenSpec.ofChange eventRestsSpec)

/-- ITS FALSE NEIGHBOUR: 'it returns false'. Refute it at one input. -/
def eventRestsWrong : ChangeSpec := { name := "eventRests", fn := fun _ => fun
  | [d1, d2, d3] => { results := [.lit (.bool false)], args := [d1, d2, d3] }
  | _ => none }
def EventRestsWrongFalsely : Prop := eventRestsRow.holds Try.pinned (OpenSpec.ofChange eventRestsWrong)

/-- 'pelotonlaw11.EventParked': WHATEVER THE INPUT: true; the input reads as it did. -/
def eventParkedSpec : ChangeSpec := { name := "eventParked", fn := fun _ => fun
  | [d1, d2, d3] => { results := [.lit (.bool true)], args := [d1, d2, d3] }
  | _ => none }
def eventParkedRow : OpenClaim := { program := "ytlhpngoplmccjaa", sum := "4f37e7c92a5ac61a5c32fe16b277c1621b0c08f30004fd1b70e8acd3fba8c18b", func := "peloton/pelotonlaw11.EventParked", spec := "eventParked", unfollowed := true, recurses := true, apart := false }
def EventParkedSaid : Prop := eventParkedRow.holds Try.pinned (OpenSpec.ofChange eventParkedSpec)

/-- ITS FALSE NEIGHBOUR: 'it returns false'. Refute it at one input. -/
def eventParkedWrong : ChangeSpec := { name := "eventParked", fn := fun _ => fun
  | [d1, d2, d3] => { results := [.lit (.bool false)], args := [d1, d2, d3] }
  | _ => none }
def EventParkedWrongFalsely : Prop := eventParkedRow.holds Try.pinned (OpenSpec.ofChange eventParkedWrong)

/- THE SECOND FORM. 'bulk': how many values and letters a reading holds, each counted each time it is reached (what is shared counts as often as it is met; a slice's spare places count too). A statement '..UptoSaid' is the law's where the arguments, and the package variables that the reading takes, are together of bulk at most 1048576: NARROWER than '..Said'. Prove '..Said' where nothing that the law and all that it calls make is longer than what came in: it says more and counts as full. Else prove '..UptoSaid'. A law counts once. -/
mutual
def uptoBulk {H : Type} : DataW H → Nat
  | .lit (.string bytes) => bytes.length + 1
  | .lit _ => 1
  | .nil => 1
  | .ptr d => uptoBulk d + 1
  | .slice elems spare => uptoBulkAll elems + uptoBulkAll spare + 1
  | .agg parts => uptoBulkAll parts + 1
  | .iface _ d => uptoBulk d + 1
  | .map entries => uptoBulkEntries entries + 1
  | .held _ => 1
def uptoBulkAll {H : Type} : List (DataW H) → Nat
  | [] => 0
  | d :: r => uptoBulk d + uptoBulkAll r
def uptoBulkEntries {H : Type} : List (Lit × DataW H) → Nat
  | [] => 0
  | x :: r => uptoBulkEntry x + uptoBulkEntries r
def uptoBulkEntry {H : Type} : Lit × DataW H → Nat
  | (.string bytes, d) => bytes.length + uptoBulk d + 1
  | (_, d) => uptoBulk d + 1
 end
def uptoSmall : (H : Type) → List (DataW H) → Bool := fun _ ds => decide (uptoBulkAll ds ≤ 1048576)
def OpenSpec.upto (s : _root_.Go.ChangeSpec) : _root_.Go.OpenSpec := { _root_.Go.OpenSpec.ofChange s with cond := some uptoSmall }

/-- 'pelotonlaw10.DequeSteps', WHERE WHAT IT READS IS OF BULK AT MOST 1048576: true; the input reads as it did. -/
def dequeStepsUptoRow : OpenClaim := { program := "ytlhpngoplmccjaa", sum := "4f37e7c92a5ac61a5c32fe16b277c1621b0c08f30004fd1b70e8acd3fba8c18b", func := "peloton/pelotonlaw10.DequeSteps", spec := "dequeSteps", unfollowed := true, recurses := true, apart := false, narrowed := true }
def DequeStepsUptoSaid : Prop := dequeStepsUptoRow.holds Try.pinned (OpenSpec.upto dequeStepsSpec)

/-- 'pelotonlaw10.DequeOnce', WHERE WHAT IT READS IS OF BULK AT MOST 1048576: true; the input reads as it did. -/
def dequeOnceUptoRow : OpenClaim := { program := "ytlhpngoplmccjaa", sum := "4f37e7c92a5ac61a5c32fe16b277c1621b0c08f30004fd1b70e8acd3fba8c18b", func := "peloton/pelotonlaw10.DequeOnce", spec := "dequeOnce", unfollowed := true, recurses := true, apart := false, narrowed := true }
def DequeOnceUptoSaid : Prop := dequeOnceUptoRow.holds Try.pinned (OpenSpec.upto dequeOnceSpec)

/-- 'pelotonlaw11.EventActs', WHERE WHAT IT READS IS OF BULK AT MOST 1048576: true; the input reads as it did. -/
def eventActsUptoRow : OpenClaim := { program := "ytlhpngoplmccjaa", sum := "4f37e7c92a5ac61a5c32fe16b277c1621b0c08f30004fd1b70e8acd3fba8c18b", func := "peloton/pelotonlaw11.EventActs", spec := "eventActs", unfollowed := true, recurses := true, apart := false, narrowed := true }
def EventActsUptoSaid : Prop := eventActsUptoRow.holds Try.pinned (OpenSpec.upto eventActsSpec)

/-- 'pelotonlaw11.EventWakes', WHERE WHAT IT READS IS OF BULK AT MOST 1048576: true; the input reads as it did. -/
def eventWakesUptoRow : OpenClaim := { program := "ytlhpngoplmccjaa", sum := "4f37e7c92a5ac61a5c32fe16b277c1621b0c08f30004fd1b70e8acd3fba8c18b", func := "peloton/pelotonlaw11.EventWakes", spec := "eventWakes", unfollowed := true, recurses := true, apart := false, narrowed := true }
def EventWakesUptoSaid : Prop := eventWakesUptoRow.holds Try.pinned (OpenSpec.upto eventWakesSpec)

/-- 'pelotonlaw11.EventRests', WHERE WHAT IT READS IS OF BULK AT MOST 1048576: true; the input reads as it did. -/
def eventRestsUptoRow : OpenClaim := { program := "ytlhpngoplmccjaa", sum := "4f37e7c92a5ac61a5c32fe16b277c1621b0c08f30004fd1b70e8acd3fba8c18b", func := "peloton/pelotonlaw11.EventRests", spec := "eventRests", unfollowed := true, recurses := true, apart := false, narrowed := true }
def EventRestsUptoSaid : Prop := eventRestsUptoRow.holds Try.pinned (OpenSpec.upto eventRestsSpec)

/-- 'pelotonlaw11.EventParked', WHERE WHAT IT READS IS OF BULK AT MOST 1048576: true; the input reads as it did. -/
def eventParkedUptoRow : OpenClaim := { program := "ytlhpngoplmccjaa", sum := "4f37e7c92a5ac61a5c32fe16b277c1621b0c08f30004fd1b70e8acd3fba8c18b", func := "peloton/pelotonlaw11.EventParked", spec := "eventParked", unfollowed := true, recurses := true, apart := false, narrowed := true }
def EventParkedUptoSaid : Prop := eventParkedUptoRow.holds Try.pinned (OpenSpec.upto eventParkedSpec)

end Rows
end Go.Proofs.Ytlhpngoplmccjaa
