/-
  No cell of these rows narrows 'for every input' (looked for: loops, veiled, ifaces, maps, wideKeys, modest, calm, conditions, laid).
  DERIVED. THE GIVEN ROWS OF THIS SEAT. 6 by the template 'for every input the law returns true; each argument reads behind the call as it read before'; 0 by the template 'total and deterministic' (their statements: YtecpdhfncmlbaaaTotals.lean).
  GIVEN WITH THE SEED: the statements are not yours to turn. If you find one false, say at which input.
  Laid BY PROGRAM, IN A SANDBOX (cutbox-rows.mjs): the forced cells as the released guide's own fill.sh prints them over the translation 8072fcdf095a859a… (all of the seat's roots in one cut). By AI agents, Wed Nov 11 2026. No macro, syntax, notation, axiom, sorry.
-/
import Derived.Test.YtecpdhfncmlbaaaChecked
import GoSem.Claim
import GoSem.ClaimJoined
import GoSem.ClaimMapViews
import Derived.JoinedTies
import Derived.KernelRfl
namespace Go.Proofs.Ytecpdhfncmlbaaa
/- THE CELL 'sum', in the pinned program and in every row, IS THE sha256 OF THE DUMP (.gsa) THAT YtecpdhfncmlbaaaProg.lean LOADS. Nothing in Lean hashes anything: it is a label: what it is worth is what the hold of that sum in a sandbox is worth. -/
noncomputable def Try.pinned : Pinned := { name := "ytecpdhfncmlbaaa", sum := "8072fcdf095a859a8b8192322d9d738938e0f27789bd7848108d29d2e05493d0", checked := Try.checked }
namespace Rows
def none {H : Type} : Left H := { results := [], args := [] }

/-- 'pelotonlaw10.DequeSteps': WHATEVER THE INPUT: true; the input reads as it did. -/
def dequeStepsSpec : ChangeSpec := { name := "dequeSteps", fn := fun _ => fun
  | [d1, d2, d3] => { results := [.lit (.bool true)], args := [d1, d2, d3] }
  | _ => none }
def dequeStepsRow : OpenClaim := { program := "ytecpdhfncmlbaaa", sum := "8072fcdf095a859a8b8192322d9d738938e0f27789bd7848108d29d2e05493d0", func := "peloton/pelotonlaw10.DequeSteps", spec := "dequeSteps", unfollowed := true, recurses := true, apart := false }
def DequeStepsSaid : Prop := dequeStepsRow.holds Try.pinned (OpenSpec.ofChange dequeStepsSpec)

/-- ITS FALSE NEIGHBOUR: 'it returns false'. Refute it at one input. -/
def dequeStepsWrong : ChangeSpec := { name := "dequeSteps", fn := fun _ => fun
  | [d1, d2, d3] => { results := [.lit (.bool false)], args := [d1, d2, d3] }
  | _ => none }
def DequeStepsWrongFalsely : Prop := dequeStepsRow.holds Try.pinned (OpenSpec.ofChange dequeStepsWrong)

/-- 'pelotonlaw10.DequeOnce': WHATEVER THE INPUT: true; the input reads as it did. -/
def dequeOnceSpec : ChangeSpec := { name := "dequeOnce", fn := fun _ => fun
  | [d1, d2] => { results := [.lit (.bool true)], args := [d1, d2] }
  | _ => none }
def dequeOnceRow : OpenClaim := { program := "ytecpdhfncmlbaaa", sum := "8072fcdf095a859a8b8192322d9d738938e0f27789bd7848108d29d2e05493d0", func := "peloton/pelotonlaw10.DequeOnce", spec := "dequeOnce", unfollowed := true, recurses := true, apart := false }
def DequeOnceSaid : Prop := dequeOnceRow.holds Try.pinned (OpenSpec.ofChange dequeOnceSpec)

/-- ITS FALSE NEIGHBOUR: 'it returns false'. Refute it at one input. -/
def dequeOnceWrong : ChangeSpec := { name := "dequeOnce", fn := fun _ => fun
  | [d1, d2] => { results := [.lit (.bool false)], args := [d1, d2] }
  | _ => none }
def DequeOnceWrongFalsely : Prop := dequeOnceRow.holds Try.pinned (OpenSpec.ofChange dequeOnceWrong)

/-- 'pelotonlaw10.DequeAlone': WHATEVER THE INPUT: true; the input reads as it did. -/
def dequeAloneSpec : ChangeSpec := { name := "dequeAlone", fn := fun _ => fun
  | [d1, d2, d3] => { results := [.lit (.bool true)], args := [d1, d2, d3] }
  | _ => none }
def dequeAloneRow : OpenClaim := { program := "ytecpdhfncmlbaaa", sum := "8072fcdf095a859a8b8192322d9d738938e0f27789bd7848108d29d2e05493d0", func := "peloton/pelotonlaw10.DequeAlone", spec := "dequeAlone", unfollowed := true, recurses := true, apart := false }
def DequeAloneSaid : Prop := dequeAloneRow.holds Try.pinned (OpenSpec.ofChange dequeAloneSpec)

/-- ITS FALSE NEIGHBOUR: 'it returns false'. Refute it at one input. -/
def dequeAloneWrong : ChangeSpec := { name := "dequeAlone", fn := fun _ => fun
  | [d1, d2, d3] => { results := [.lit (.bool false)], args := [d1, d2, d3] }
  | _ => none }
def DequeAloneWrongFalsely : Prop := dequeAloneRow.holds Try.pinned (OpenSpec.ofChange dequeAloneWrong)

/-- 'pelotonlaw10.DequeGrows': WHATEVER THE INPUT: true; the input reads as it did. -/
def dequeGrowsSpec : ChangeSpec := { name := "dequeGrows", fn := fun _ => fun
  | [d1, d2, d3] => { results := [.lit (.bool true)], args := [d1, d2, d3] }
  | _ => none }
def dequeGrowsRow : OpenClaim := { program := "ytecpdhfncmlbaaa", sum := "8072fcdf095a859a8b8192322d9d738938e0f27789bd7848108d29d2e05493d0", func := "peloton/pelotonlaw10.DequeGrows", spec := "dequeGrows", unfollowed := true, recurses := true, apart := false }
def DequeGrowsSaid : Prop := dequeGrowsRow.holds Try.pinned (OpenSpec.ofChange dequeGrowsSpec)

/-- ITS FALSE NEIGHBOUR: 'it returns false'. Refute it at one input. -/
def dequeGrowsWrong : ChangeSpec := { name := "dequeGrows", fn := fun _ => fun
  | [d1, d2, d3] => { results := [.lit (.bool false)], args := [d1, d2, d3] }
  | _ => none }
def DequeGrowsWrongFalsely : Prop := dequeGrowsRow.holds Try.pinned (OpenSpec.ofChange dequeGrowsWrong)

/-- 'pelotonlaw10.DequeLets': WHATEVER THE INPUT: true; the input reads as it did. -/
def dequeLetsSpec : ChangeSpec := { name := "dequeLets", fn := fun _ => fun
  | [d1, d2] => { results := [.lit (.bool true)], args := [d1, d2] }
  | _ => none }
def dequeLetsRow : OpenClaim := { program := "ytecpdhfncmlbaaa", sum := "8072fcdf095a859a8b8192322d9d738938e0f27789bd7848108d29d2e05493d0", func := "peloton/pelotonlaw10.DequeLets", spec := "dequeLets", unfollowed := true, recurses := true, apart := false }
def DequeLetsSaid : Prop := dequeLetsRow.holds Try.pinned (OpenSpec.ofChange dequeLetsSpec)

/-- ITS FALSE NEIGHBOUR: 'it returns false'. Refute it at one input. -/
def dequeLetsWrong : ChangeSpec := { name := "dequeLets", fn := fun _ => fun
  | [d1, d2] => { results := [.lit (.bool false)], args := [d1, d2] }
  | _ => none }
def DequeLetsWrongFalsely : Prop := dequeLetsRow.holds Try.pinned (OpenSpec.ofChange dequeLetsWrong)

/-- 'pelotonlaw10.DequeNil': WHATEVER THE INPUT: true; the input reads as it did. -/
def dequeNilSpec : ChangeSpec := { name := "dequeNil", fn := fun _ => fun
  | [d1, d2, d3] => { results := [.lit (.bool true)], args := [d1, d2, d3] }
  | _ => none }
def dequeNilRow : OpenClaim := { program := "ytecpdhfncmlbaaa", sum := "8072fcdf095a859a8b8192322d9d738938e0f27789bd7848108d29d2e05493d0", func := "peloton/pelotonlaw10.DequeNil", spec := "dequeNil", unfollowed := true, recurses := true, apart := false }
def DequeNilSaid : Prop := dequeNilRow.holds Try.pinned (OpenSpec.ofChange dequeNilSpec)

/-- ITS FALSE NEIGHBOUR: 'it returns false'. Refute it at one input. -/
def dequeNilWrong : ChangeSpec := { name := "dequeNil", fn := fun _ => fun
  | [d1, d2, d3] => { results := [.lit (.bool false)], args := [d1, d2, d3] }
  | _ => none }
def DequeNilWrongFalsely : Prop := dequeNilRow.holds Try.pinned (OpenSpec.ofChange dequeNilWrong)

/- THE SECOND FORM. 'bulk': how many values and letters a reading holds, each counted each time it is reached (what is shared counts as often as it is met; a slice's spare places count too). A statement '..UptoSaid' is the law's where the arguments, and the package variables that the reading takes, are together of bulk at most 1048576: NARROWER than '..Said'. Prove '..Said' where nothing that the law and all that it calls make is longer than what came in: it says more and counts as full. Else prove '..UptoSaid'. A law counts once. -/
mutual
def uptoBulk {H : Type} : DataW H → Nat
  | .lit (.string bytes) => bytes.length + 1
  | .lit _ => 1
  | .nil => 1
  | .ptr d => uptoBulk d + 1
  | .slice elems spare => uptoBulkAll elems + uptoBulkAll spare + 1
  | .agg parts => uptoBulkAll parts + 1
  | .iface _ d => uptoBulk d + 1
  | .map entries => uptoBulkEntries entries + 1
  | .held _ => 1
def uptoBulkAll {H : Type} : List (DataW H) → Nat
  | [] => 0
  | d :: r => uptoBulk d + uptoBulkAll r
def uptoBulkEntries {H : Type} : List (Lit × DataW H) → Nat
  | [] => 0
  | x :: r => uptoBulkEntry x + uptoBulkEntries r
def uptoBulkEntry {H : Type} : Lit × DataW H → Nat
  | (.string bytes, d) => bytes.length + uptoBulk d + 1
  | (_, d) => uptoBulk d + 1
 end
def uptoSmall : (H : Type) → List (DataW H) → Bool := fun _ ds => decide (uptoBulkAll ds ≤ 1048576)
def OpenSpec.upto (s : _root_.Go.ChangeSpec) : _root_.Go.OpenSpec := { _root_.Go.OpenSpec.ofChange s with cond := some uptoSmall }

/-- 'pelotonlaw10.DequeSteps', WHERE WHAT IT READS IS OF BULK AT MOST 1048576: true; the input reads as it did. -/
def dequeStepsUptoRow : OpenClaim := { program := "ytecpdhfncmlbaaa", sum := "8072fcdf095a859a8b8192322d9d738938e0f27789bd7848108d29d2e05493d0", func := "peloton/pelotonlaw10.DequeSteps", spec := "dequeSteps", unfollowed := true, recurses := true, apart := false, narrowed := true }
def DequeStepsUptoSaid : Prop := dequeStepsUptoRow.holds Try.pinned (OpenSpec.upto dequeStepsSpec)

/-- 'pelotonlaw10.DequeOnce', WHERE WHAT IT READS IS OF BULK AT MOST 1048576: true; the input reads as it did. -/
def dequeOnceUptoRow : OpenClaim := { program := "ytecpdhfncmlbaaa", sum := "8072fcdf095a859a8b8192322d9d738938e0f27789bd7848108d29d2e05493d0", func := "peloton/pelotonlaw10.DequeOnce", spec := "dequeOnce", unfollowed := true, recurses := true, apart := false, narrowed := true }
def DequeOnceUptoSaid : Prop := dequeOnceUptoRow.holds Try.pinned (OpenSpec.upto dequeOnceSpec)

/-- 'pelotonlaw10.DequeAlone', WHERE WHAT IT READS IS OF BULK AT MOST 1048576: true; the input reads as it did. -/
def dequeAloneUptoRow : OpenClaim := { program := "ytecpdhfncmlbaaa", sum := "8072fcdf095a859a8b8192322d9d738938e0f27789bd7848108d29d2e05493d0", func := "peloton/pelotonlaw10.DequeAlone", spec := "dequeAlone", unfollowed := true, recurses := true, apart := false, narrowed := true }
def DequeAloneUptoSaid : Prop := dequeAloneUptoRow.holds Try.pinned (OpenSpec.upto dequeAloneSpec)

/-- 'pelotonlaw10.DequeGrows', WHERE WHAT IT READS IS OF BULK AT MOST 1048576: true; the input reads as it did. -/
def dequeGrowsUptoRow : OpenClaim := { program := "ytecpdhfncmlbaaa", sum := "8072fcdf095a859a8b8192322d9d738938e0f27789bd7848108d29d2e05493d0", func := "peloton/pelotonlaw10.DequeGrows", spec := "dequeGrows", unfollowed := true, recurses := true, apart := false, narrowed := true }
def DequeGrowsUptoSaid : Prop := dequeGrowsUptoRow.holds Try.pinned (OpenSpec.upto dequeGrowsSpec)

/-- 'pelotonlaw10.DequeLets', WHERE WHAT IT READS IS OF BULK AT MOST 1048576: true; the input reads as it did. -/
def dequeLetsUptoRow : OpenClaim := { program := "ytecpdhfncmlbaaa", sum := "8072fcdf095a859a8b8192322d9d738938e0f27789bd7848108d29d2e05493d0", func := "peloton/pelotonlaw10.DequeLets", spec := "dequeLets", unfollowed := true, recurses := true, apart := false, narrowed := true }
def DequeLetsUptoSaid : Prop := dequeLetsUptoRow.holds Try.pinned (OpenSpec.upto dequeLetsSpec)

/-- 'pelotonlaw10.DequeNil', WHERE WHAT IT READS IS OF BULK AT MOST 1048576: true; the input reads as it did. -/
def dequeNilUptoRow : OpenClaim := { program := "ytecpdhfncmlbaaa", sum := "8072fcdf095a859a8b8192322d9d738938e0f27789bd7848108d29d2e05493d0", func := "peloton/pelotonlaw10.DequeNil", spec := "dequeNil", unfollowed := true, recurses := true, apart := false, narrowed := true }
def DequeNilUptoSaid : Prop := dequeNilUptoRow.holds Try.pinned (OpenSpec.upto dequeNilSpec)

end Rows
end Go.Proofs.Ytecpdhfncmlbaaa
