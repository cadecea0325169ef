/-
  No cell of these rows narrows 'for every input' (looked for: loops, veiled, ifaces, maps, wideKeys, modest, calm, conditions, laid).
  DERIVED. THE GIVEN ROWS OF THIS SEAT. 6 by the template 'for every input the law returns true; each argument reads behind the call as it read before'; 0 by the template 'total and deterministic' (their statements: YtiofdfgcghiibaaTotals.lean).
  GIVEN WITH THE SEED: the statements are not yours to turn. If you find one false, say at which input.
  Laid BY PROGRAM, IN A SANDBOX (cutbox-rows.mjs): the forced cells as the released guide's own fill.sh prints them over the translation 8c863b453f4dd237… (all of the seat's roots in one cut). By AI agents, Wed Nov 11 2026. No macro, syntax, notation, axiom, sorry.
-/
import Derived.Test.YtiofdfgcghiibaaChecked
import GoSem.Claim
import GoSem.ClaimJoined
import GoSem.ClaimMapViews
import Derived.JoinedTies
import Derived.KernelRfl
namespace Go.Proofs.Ytiofdfgcghiibaa
/- THE CELL 'sum', in the pinned program and in every row, IS THE sha256 OF THE DUMP (.gsa) THAT YtiofdfgcghiibaaProg.lean LOADS. Nothing in Lean hashes anything: it is a label: what it is worth is what the hold of that sum in a sandbox is worth. -/
noncomputable def Try.pinned : Pinned := { name := "ytiofdfgcghiibaa", sum := "8c863b453f4dd237fc8b1b02ef9c036de61279784f08bdf84b20ecc6cfca1ea1", checked := Try.checked }
namespace Rows
def none {H : Type} : Left H := { results := [], args := [] }

/-- 'pelotonlaw10.DequeSteps': WHATEVER THE INPUT: true; the input reads as it did. -/
def dequeStepsSpec : ChangeSpec := { name := "dequeSteps", fn := fun _ => fun
  | [d1, d2, d3] => { results := [.lit (.bool true)], args := [d1, d2, d3] }
  | _ => none }
def dequeStepsRow : OpenClaim := { program := "ytiofdfgcghiibaa", sum := "8c863b453f4dd237fc8b1b02ef9c036de61279784f08bdf84b20ecc6cfca1ea1", func := "peloton/pelotonlaw10.DequeSteps", spec := "dequeSteps", unfollowed := true, recurses := true, apart := false }
def DequeStepsSaid : Prop := dequeStepsRow.holds Try.pinned (OpenSpec.ofChange dequeStepsSpec)

/-- ITS FALSE NEIGHBOUR: 'it returns false'. Refute it at one input. -/
def dequeStepsWrong : ChangeSpec := { name := "dequeSteps", fn := fun _ => fun
  | [d1, d2, d3] => { results := [.lit (.bool false)], args := [d1, d2, d3] }
  | _ => none }
def DequeStepsWrongFalsely : Prop := dequeStepsRow.holds Try.pinned (OpenSpec.ofChange dequeStepsWrong)

/-- 'pelotonlaw12.IdleBits': WHATEVER THE INPUT: true; the input reads as it did. -/
def idleBitsSpec : ChangeSpec := { name := "idleBits", fn := fun _ => fun
  | [d1, d2, d3] => { results := [.lit (.bool true)], args := [d1, d2, d3] }
  | _ => none }
def idleBitsRow : OpenClaim := { program := "ytiofdfgcghiibaa", sum := "8c863b453f4dd237fc8b1b02ef9c036de61279784f08bdf84b20ecc6cfca1ea1", func := "peloton/pelotonlaw12.IdleBits", spec := "idleBits", unfollowed := true, recurses := true, apart := false }
def IdleBitsSaid : Prop := idleBitsRow.holds Try.pinned (OpenSpec.ofChange idleBitsSpec)

/-- ITS FALSE NEIGHBOUR: 'it returns false'. Refute it at one input. -/
def idleBitsWrong : ChangeSpec := { name := "idleBits", fn := fun _ => fun
  | [d1, d2, d3] => { results := [.lit (.bool false)], args := [d1, d2, d3] }
  | _ => none }
def IdleBitsWrongFalsely : Prop := idleBitsRow.holds Try.pinned (OpenSpec.ofChange idleBitsWrong)

/-- 'pelotonlaw12.IdleSums': WHATEVER THE INPUT: true; the input reads as it did. -/
def idleSumsSpec : ChangeSpec := { name := "idleSums", fn := fun _ => fun
  | [d] => { results := [.lit (.bool true)], args := [d] }
  | _ => none }
def idleSumsRow : OpenClaim := { program := "ytiofdfgcghiibaa", sum := "8c863b453f4dd237fc8b1b02ef9c036de61279784f08bdf84b20ecc6cfca1ea1", func := "peloton/pelotonlaw12.IdleSums", spec := "idleSums", unfollowed := true, recurses := true, apart := false }
def IdleSumsSaid : Prop := idleSumsRow.holds Try.pinned (OpenSpec.ofChange idleSumsSpec)

/-- ITS FALSE NEIGHBOUR: 'it returns false'. Refute it at one input. -/
def idleSumsWrong : ChangeSpec := { name := "idleSums", fn := fun _ => fun
  | [d] => { results := [.lit (.bool false)], args := [d] }
  | _ => none }
def IdleSumsWrongFalsely : Prop := idleSumsRow.holds Try.pinned (OpenSpec.ofChange idleSumsWrong)

/-- 'pelotonlaw12.IdleFirst': WHATEVER THE INPUT: true; the input reads as it did. -/
def idleFirstSpec : ChangeSpec := { name := "idleFirst", fn := fun _ => fun
  | [d1, d2, d3] => { results := [.lit (.bool true)], args := [d1, d2, d3] }
  | _ => none }
def idleFirstRow : OpenClaim := { program := "ytiofdfgcghiibaa", sum := "8c863b453f4dd237fc8b1b02ef9c036de61279784f08bdf84b20ecc6cfca1ea1", func := "peloton/pelotonlaw12.IdleFirst", spec := "idleFirst", unfollowed := true, recurses := true, apart := false }
def IdleFirstSaid : Prop := idleFirstRow.holds Try.pinned (OpenSpec.ofChange idleFirstSpec)

/-- ITS FALSE NEIGHBOUR: 'it returns false'. Refute it at one input. -/
def idleFirstWrong : ChangeSpec := { name := "idleFirst", fn := fun _ => fun
  | [d1, d2, d3] => { results := [.lit (.bool false)], args := [d1, d2, d3] }
  | _ => none }
def IdleFirstWrongFalsely : Prop := idleFirstRow.holds Try.pinned (OpenSpec.ofChange idleFirstWrong)

/-- 'pelotonlaw12.IdleBreaks': WHATEVER THE INPUT: true; the input reads as it did. -/
def idleBreaksSpec : ChangeSpec := { name := "idleBreaks", fn := fun _ => fun
  | [d1, d2] => { results := [.lit (.bool true)], args := [d1, d2] }
  | _ => none }
def idleBreaksRow : OpenClaim := { program := "ytiofdfgcghiibaa", sum := "8c863b453f4dd237fc8b1b02ef9c036de61279784f08bdf84b20ecc6cfca1ea1", func := "peloton/pelotonlaw12.IdleBreaks", spec := "idleBreaks", unfollowed := true, recurses := true, apart := false }
def IdleBreaksSaid : Prop := idleBreaksRow.holds Try.pinned (OpenSpec.ofChange idleBreaksSpec)

/-- ITS FALSE NEIGHBOUR: 'it returns false'. Refute it at one input. -/
def idleBreaksWrong : ChangeSpec := { name := "idleBreaks", fn := fun _ => fun
  | [d1, d2] => { results := [.lit (.bool false)], args := [d1, d2] }
  | _ => none }
def IdleBreaksWrongFalsely : Prop := idleBreaksRow.holds Try.pinned (OpenSpec.ofChange idleBreaksWrong)

/-- 'pelotonlaw12.IdleMoves': WHATEVER THE INPUT: true; the input reads as it did. -/
def idleMovesSpec : ChangeSpec := { name := "idleMoves", fn := fun _ => fun
  | [d] => { results := [.lit (.bool true)], args := [d] }
  | _ => none }
def idleMovesRow : OpenClaim := { program := "ytiofdfgcghiibaa", sum := "8c863b453f4dd237fc8b1b02ef9c036de61279784f08bdf84b20ecc6cfca1ea1", func := "peloton/pelotonlaw12.IdleMoves", spec := "idleMoves", unfollowed := true, recurses := true, apart := false }
def IdleMovesSaid : Prop := idleMovesRow.holds Try.pinned (OpenSpec.ofChange idleMovesSpec)

/-- ITS FALSE NEIGHBOUR: 'it returns false'. Refute it at one input. -/
def idleMovesWrong : ChangeSpec := { name := "idleMoves", fn := fun _ => fun
  | [d] => { results := [.lit (.bool false)], args := [d] }
  | _ => none }
def IdleMovesWrongFalsely : Prop := idleMovesRow.holds Try.pinned (OpenSpec.ofChange idleMovesWrong)

/- THE SECOND FORM. 'bulk': how many values and letters a reading holds, each counted each time it is reached (what is shared counts as often as it is met; a slice's spare places count too). A statement '..UptoSaid' is the law's where the arguments, and the package variables that the reading takes, are together of bulk at most 1048576: NARROWER than '..Said'. Prove '..Said' where nothing that the law and all that it calls make is longer than what came in: it says more and counts as full. Else prove '..UptoSaid'. A law counts once. -/
mutual
def uptoBulk {H : Type} : DataW H → Nat
  | .lit (.string bytes) => bytes.length + 1
  | .lit _ => 1
  | .nil => 1
  | .ptr d => uptoBulk d + 1
  | .slice elems spare => uptoBulkAll elems + uptoBulkAll spare + 1
  | .agg parts => uptoBulkAll parts + 1
  | .iface _ d => uptoBulk d + 1
  | .map entries => uptoBulkEntries entries + 1
  | .held _ => 1
def uptoBulkAll {H : Type} : List (DataW H) → Nat
  | [] => 0
  | d :: r => uptoBulk d + uptoBulkAll r
def uptoBulkEntries {H : Type} : List (Lit × DataW H) → Nat
  | [] => 0
  | x :: r => uptoBulkEntry x + uptoBulkEntries r
def uptoBulkEntry {H : Type} : Lit × DataW H → Nat
  | (.string bytes, d) => bytes.length + uptoBulk d + 1
  | (_, d) => uptoBulk d + 1
 end
def uptoSmall : (H : Type) → List (DataW H) → Bool := fun _ ds => decide (uptoBulkAll ds ≤ 1048576)
def OpenSpec.upto (s : _root_.Go.ChangeSpec) : _root_.Go.OpenSpec := { _root_.Go.OpenSpec.ofChange s with cond := some uptoSmall }

/-- 'pelotonlaw10.DequeSteps', WHERE WHAT IT READS IS OF BULK AT MOST 1048576: true; the input reads as it did. -/
def dequeStepsUptoRow : OpenClaim := { program := "ytiofdfgcghiibaa", sum := "8c863b453f4dd237fc8b1b02ef9c036de61279784f08bdf84b20ecc6cfca1ea1", func := "peloton/pelotonlaw10.DequeSteps", spec := "dequeSteps", unfollowed := true, recurses := true, apart := false, narrowed := true }
def DequeStepsUptoSaid : Prop := dequeStepsUptoRow.holds Try.pinned (OpenSpec.upto dequeStepsSpec)

/-- 'pelotonlaw12.IdleBits', WHERE WHAT IT READS IS OF BULK AT MOST 1048576: true; the input reads as it did. -/
def idleBitsUptoRow : OpenClaim := { program := "ytiofdfgcghiibaa", sum := "8c863b453f4dd237fc8b1b02ef9c036de61279784f08bdf84b20ecc6cfca1ea1", func := "peloton/pelotonlaw12.IdleBits", spec := "idleBits", unfollowed := true, recurses := true, apart := false, narrowed := true }
def IdleBitsUptoSaid : Prop := idleBitsUptoRow.holds Try.pinned (OpenSpec.upto idleBitsSpec)

/-- 'pelotonlaw12.IdleSums', WHERE WHAT IT READS IS OF BULK AT MOST 1048576: true; the input reads as it did. -/
def idleSumsUptoRow : OpenClaim := { program := "ytiofdfgcghiibaa", sum := "8c863b453f4dd237fc8b1b02ef9c036de61279784f08bdf84b20ecc6cfca1ea1", func := "peloton/pelotonlaw12.IdleSums", spec := "idleSums", unfollowed := true, recurses := true, apart := false, narrowed := true }
def IdleSumsUptoSaid : Prop := idleSumsUptoRow.holds Try.pinned (OpenSpec.upto idleSumsSpec)

/-- 'pelotonlaw12.IdleFirst', WHERE WHAT IT READS IS OF BULK AT MOST 1048576: true; the input reads as it did. -/
def idleFirstUptoRow : OpenClaim := { program := "ytiofdfgcghiibaa", sum := "8c863b453f4dd237fc8b1b02ef9c036de61279784f08bdf84b20ecc6cfca1ea1", func := "peloton/pelotonlaw12.IdleFirst", spec := "idleFirst", unfollowed := true, recurses := true, apart := false, narrowed := true }
def IdleFirstUptoSaid : Prop := idleFirstUptoRow.holds Try.pinned (OpenSpec.upto idleFirstSpec)

/-- 'pelotonlaw12.IdleBreaks', WHERE WHAT IT READS IS OF BULK AT MOST 1048576: true; the input reads as it did. -/
def idleBreaksUptoRow : OpenClaim := { program := "ytiofdfgcghiibaa", sum := "8c863b453f4dd237fc8b1b02ef9c036de61279784f08bdf84b20ecc6cfca1ea1", func := "peloton/pelotonlaw12.IdleBreaks", spec := "idleBreaks", unfollowed := true, recurses := true, apart := false, narrowed := true }
def IdleBreaksUptoSaid : Prop := idleBreaksUptoRow.holds Try.pinned (OpenSpec.upto idleBreaksSpec)

/-- 'pelotonlaw12.IdleMoves', WHERE WHAT IT READS IS OF BULK AT MOST 1048576: true; the input reads as it did. -/
def idleMovesUptoRow : OpenClaim := { program := "ytiofdfgcghiibaa", sum := "8c863b453f4dd237fc8b1b02ef9c036de61279784f08bdf84b20ecc6cfca1ea1", func := "peloton/pelotonlaw12.IdleMoves", spec := "idleMoves", unfollowed := true, recurses := true, apart := false, narrowed := true }
def IdleMovesUptoSaid : Prop := idleMovesUptoRow.holds Try.pinned (OpenSpec.upto idleMovesSpec)

end Rows
end Go.Proofs.Ytiofdfgcghiibaa
