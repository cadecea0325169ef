/-
  NARROWER THAN 'FOR EVERY INPUT', by the rows' own cells (each row's printed sentence says how): CheckDepths: laid · CheckHeld: laid · CheckPrograms: laid · CheckHolds: laid · CheckNeeds: laid · CheckMoves: laid · CheckDead: laid.
  DERIVED. THE GIVEN ROWS OF THIS SEAT. 7 by the template 'for every input the law returns true; each argument reads behind the call as it read before'; 0 by the template 'total and deterministic' (their statements: YthpkhcompkfcaaaDoorTotals.lean).
  GIVEN WITH THE SEED: the statements are not yours to turn. If you find one false, say at which input.
  Laid BY PROGRAM, IN A SANDBOX (cutbox-rows.mjs): the forced cells as the released guide's own fill.sh prints them over the translation 88c3aace7a2fe7c2… (all of the seat's roots in one cut). By AI agents, Wed Nov 11 2026. No macro, syntax, notation, axiom, sorry.
-/
import Derived.Test.YthpkhcompkfcaaaDoorChecked
import GoSem.Claim
import GoSem.ClaimJoined
import GoSem.ClaimMapViews
import Derived.JoinedTies
import Derived.KernelRfl
namespace Go.Proofs.YthpkhcompkfcaaaDoor
/- THE CELL 'sum', in the pinned program and in every row, IS THE sha256 OF THE DUMP (.gsa) THAT YthpkhcompkfcaaaDoorProg.lean LOADS. Nothing in Lean hashes anything: it is a label: what it is worth is what the hold of that sum in a sandbox is worth. -/
noncomputable def Tryd.pinned : Pinned := { name := "ythpkhcompkfcaaadoor", sum := "88c3aace7a2fe7c2286ad118b85b8b7aff9e8479f077107399f7b7ab35ac1780", checked := Tryd.checked }
namespace Rows
def none {H : Type} : Left H := { results := [], args := [] }

/- WHAT THE LISTED PACKAGE-LEVEL VARIABLES READ AS WHEN THE CALL BEGINS. Each datum BY PROGRAM (the guide's laid-datum.mjs) off the statement by which the dump's own 'gosem.cut.vars' lays the variable. In a bare row this is a premise. The card (YthpkhcompkfcaaaDoorCards.lean) ties it to the program's text. -/
def laid_peloton_code_operands {H : Type} : DataW H := .agg [.agg [.lit (.int .i64 1), .lit (.int .i64 0), .lit (.int .i64 0), .lit (.int .i64 3)], .agg [.lit (.int .i64 1), .lit (.int .i64 1), .lit (.int .i64 0), .lit (.int .i64 0)], .agg [.lit (.int .i64 1), .lit (.int .i64 1), .lit (.int .i64 1), .lit (.int .i64 0)], .agg [.lit (.int .i64 1), .lit (.int .i64 1), .lit (.int .i64 1), .lit (.int .i64 0)], .agg [.lit (.int .i64 1), .lit (.int .i64 1), .lit (.int .i64 1), .lit (.int .i64 0)], .agg [.lit (.int .i64 1), .lit (.int .i64 1), .lit (.int .i64 1), .lit (.int .i64 0)], .agg [.lit (.int .i64 0), .lit (.int .i64 0), .lit (.int .i64 0), .lit (.int .i64 4)], .agg [.lit (.int .i64 1), .lit (.int .i64 0), .lit (.int .i64 0), .lit (.int .i64 4)], .agg [.lit (.int .i64 2), .lit (.int .i64 0), .lit (.int .i64 0), .lit (.int .i64 5)], .agg [.lit (.int .i64 1), .lit (.int .i64 2), .lit (.int .i64 0), .lit (.int .i64 0)], .agg [.lit (.int .i64 1), .lit (.int .i64 1), .lit (.int .i64 2), .lit (.int .i64 0)], .agg [.lit (.int .i64 0), .lit (.int .i64 0), .lit (.int .i64 0), .lit (.int .i64 6)], .agg [.lit (.int .i64 1), .lit (.int .i64 0), .lit (.int .i64 0), .lit (.int .i64 0)], .agg [.lit (.int .i64 0), .lit (.int .i64 0), .lit (.int .i64 0), .lit (.int .i64 0)], .agg [.lit (.int .i64 0), .lit (.int .i64 0), .lit (.int .i64 0), .lit (.int .i64 0)], .agg [.lit (.int .i64 1), .lit (.int .i64 0), .lit (.int .i64 0), .lit (.int .i64 0)], .agg [.lit (.int .i64 1), .lit (.int .i64 0), .lit (.int .i64 0), .lit (.int .i64 0)]]
def laid_peloton_code_spans {H : Type} : DataW H := .agg [.agg [.lit (.int .i64 0), .lit (.int .i64 0)], .agg [.lit (.int .i64 0), .lit (.int .i64 7)], .agg [.lit (.int .i64 0), .lit (.int .i64 7)], .agg [.lit (.int .i64 (-2147483648)), .lit (.int .i64 2147483647)], .agg [.lit (.int .i64 0), .lit (.int .i64 127)], .agg [.lit (.int .i64 0), .lit (.int .i64 31)], .agg [.lit (.int .i64 0), .lit (.int .i64 65535)]]

/-- 'pelotonlaw04.CheckDepths': WHATEVER THE INPUT: true; the input reads as it did. -/
def checkDepthsSpec : ChangeSpec := { name := "checkDepths", fn := fun _ => fun
  | [d] => { results := [.lit (.bool true)], args := [d] }
  | _ => none }
def checkDepthsRow : OpenClaim := { program := "ythpkhcompkfcaaadoor", sum := "88c3aace7a2fe7c2286ad118b85b8b7aff9e8479f077107399f7b7ab35ac1780", func := "peloton/pelotonlaw04.CheckDepths", spec := "checkDepths", unfollowed := true, recurses := true, named := ["peloton/code.operands", "peloton/code.spans"], apart := false, laid := [("peloton/code.operands", laid_peloton_code_operands), ("peloton/code.spans", laid_peloton_code_spans)] }
def CheckDepthsSaid : Prop := checkDepthsRow.holds Tryd.pinned (OpenSpec.ofChange checkDepthsSpec)

/-- ITS FALSE NEIGHBOUR: 'it returns false'. Refute it at one input. -/
def checkDepthsWrong : ChangeSpec := { name := "checkDepths", fn := fun _ => fun
  | [d] => { results := [.lit (.bool false)], args := [d] }
  | _ => none }
def CheckDepthsWrongFalsely : Prop := checkDepthsRow.holds Tryd.pinned (OpenSpec.ofChange checkDepthsWrong)

/-- 'pelotonlaw04.CheckHeld': WHATEVER THE INPUT: true; the input reads as it did. -/
def checkHeldSpec : ChangeSpec := { name := "checkHeld", fn := fun _ => fun
  | [d] => { results := [.lit (.bool true)], args := [d] }
  | _ => none }
def checkHeldRow : OpenClaim := { program := "ythpkhcompkfcaaadoor", sum := "88c3aace7a2fe7c2286ad118b85b8b7aff9e8479f077107399f7b7ab35ac1780", func := "peloton/pelotonlaw04.CheckHeld", spec := "checkHeld", unfollowed := true, recurses := true, named := ["peloton/code.operands", "peloton/code.spans"], apart := false, laid := [("peloton/code.operands", laid_peloton_code_operands), ("peloton/code.spans", laid_peloton_code_spans)] }
def CheckHeldSaid : Prop := checkHeldRow.holds Tryd.pinned (OpenSpec.ofChange checkHeldSpec)

/-- ITS FALSE NEIGHBOUR: 'it returns false'. Refute it at one input. -/
def checkHeldWrong : ChangeSpec := { name := "checkHeld", fn := fun _ => fun
  | [d] => { results := [.lit (.bool false)], args := [d] }
  | _ => none }
def CheckHeldWrongFalsely : Prop := checkHeldRow.holds Tryd.pinned (OpenSpec.ofChange checkHeldWrong)

/-- 'pelotonlaw04.CheckPrograms': WHATEVER THE INPUT: true; the input reads as it did. -/
def checkProgramsSpec : ChangeSpec := { name := "checkPrograms", fn := fun _ => fun
  | [d] => { results := [.lit (.bool true)], args := [d] }
  | _ => none }
def checkProgramsRow : OpenClaim := { program := "ythpkhcompkfcaaadoor", sum := "88c3aace7a2fe7c2286ad118b85b8b7aff9e8479f077107399f7b7ab35ac1780", func := "peloton/pelotonlaw04.CheckPrograms", spec := "checkPrograms", unfollowed := true, recurses := true, named := ["peloton/code.operands", "peloton/code.spans"], apart := false, laid := [("peloton/code.operands", laid_peloton_code_operands), ("peloton/code.spans", laid_peloton_code_spans)] }
def CheckProgramsSaid : Prop := checkProgramsRow.holds Tryd.pinned (OpenSpec.ofChange checkProgramsSpec)

/-- ITS FALSE NEIGHBOUR: 'it returns false'. Refute it at one input. -/
def checkProgramsWrong : ChangeSpec := { name := "checkPrograms", fn := fun _ => fun
  | [d] => { results := [.lit (.bool false)], args := [d] }
  | _ => none }
def CheckProgramsWrongFalsely : Prop := checkProgramsRow.holds Tryd.pinned (OpenSpec.ofChange checkProgramsWrong)

/-- 'pelotonlaw04.CheckHolds': WHATEVER THE INPUT: true; the input reads as it did. -/
def checkHoldsSpec : ChangeSpec := { name := "checkHolds", fn := fun _ => fun
  | [d1, d2, d3] => { results := [.lit (.bool true)], args := [d1, d2, d3] }
  | _ => none }
def checkHoldsRow : OpenClaim := { program := "ythpkhcompkfcaaadoor", sum := "88c3aace7a2fe7c2286ad118b85b8b7aff9e8479f077107399f7b7ab35ac1780", func := "peloton/pelotonlaw04.CheckHolds", spec := "checkHolds", unfollowed := true, recurses := true, named := ["peloton/code.operands", "peloton/code.spans"], apart := false, laid := [("peloton/code.operands", laid_peloton_code_operands), ("peloton/code.spans", laid_peloton_code_spans)] }
def CheckHoldsSaid : Prop := checkHoldsRow.holds Tryd.pinned (OpenSpec.ofChange checkHoldsSpec)

/-- ITS FALSE NEIGHBOUR: 'it returns false'. Refute it at one input. -/
def checkHoldsWrong : ChangeSpec := { name := "checkHolds", fn := fun _ => fun
  | [d1, d2, d3] => { results := [.lit (.bool false)], args := [d1, d2, d3] }
  | _ => none }
def CheckHoldsWrongFalsely : Prop := checkHoldsRow.holds Tryd.pinned (OpenSpec.ofChange checkHoldsWrong)

/-- 'pelotonlaw04.CheckNeeds': WHATEVER THE INPUT: true; the input reads as it did. -/
def checkNeedsSpec : ChangeSpec := { name := "checkNeeds", fn := fun _ => fun
  | [d1, d2] => { results := [.lit (.bool true)], args := [d1, d2] }
  | _ => none }
def checkNeedsRow : OpenClaim := { program := "ythpkhcompkfcaaadoor", sum := "88c3aace7a2fe7c2286ad118b85b8b7aff9e8479f077107399f7b7ab35ac1780", func := "peloton/pelotonlaw04.CheckNeeds", spec := "checkNeeds", unfollowed := true, recurses := true, named := ["peloton/code.operands", "peloton/code.spans"], apart := false, laid := [("peloton/code.operands", laid_peloton_code_operands), ("peloton/code.spans", laid_peloton_code_spans)] }
def CheckNeedsSaid : Prop := checkNeedsRow.holds Tryd.pinned (OpenSpec.ofChange checkNeedsSpec)

/-- ITS FALSE NEIGHBOUR: 'it returns false'. Refute it at one input. -/
def checkNeedsWrong : ChangeSpec := { name := "checkNeeds", fn := fun _ => fun
  | [d1, d2] => { results := [.lit (.bool false)], args := [d1, d2] }
  | _ => none }
def CheckNeedsWrongFalsely : Prop := checkNeedsRow.holds Tryd.pinned (OpenSpec.ofChange checkNeedsWrong)

/-- 'pelotonlaw04.CheckMoves': WHATEVER THE INPUT: true; the input reads as it did. -/
def checkMovesSpec : ChangeSpec := { name := "checkMoves", fn := fun _ => fun
  | [d1, d2] => { results := [.lit (.bool true)], args := [d1, d2] }
  | _ => none }
def checkMovesRow : OpenClaim := { program := "ythpkhcompkfcaaadoor", sum := "88c3aace7a2fe7c2286ad118b85b8b7aff9e8479f077107399f7b7ab35ac1780", func := "peloton/pelotonlaw04.CheckMoves", spec := "checkMoves", unfollowed := true, recurses := true, named := ["peloton/code.operands", "peloton/code.spans"], apart := false, laid := [("peloton/code.operands", laid_peloton_code_operands), ("peloton/code.spans", laid_peloton_code_spans)] }
def CheckMovesSaid : Prop := checkMovesRow.holds Tryd.pinned (OpenSpec.ofChange checkMovesSpec)

/-- ITS FALSE NEIGHBOUR: 'it returns false'. Refute it at one input. -/
def checkMovesWrong : ChangeSpec := { name := "checkMoves", fn := fun _ => fun
  | [d1, d2] => { results := [.lit (.bool false)], args := [d1, d2] }
  | _ => none }
def CheckMovesWrongFalsely : Prop := checkMovesRow.holds Tryd.pinned (OpenSpec.ofChange checkMovesWrong)

/-- 'pelotonlaw04.CheckDead': WHATEVER THE INPUT: true; the input reads as it did. -/
def checkDeadSpec : ChangeSpec := { name := "checkDead", fn := fun _ => fun
  | [d1, d2] => { results := [.lit (.bool true)], args := [d1, d2] }
  | _ => none }
def checkDeadRow : OpenClaim := { program := "ythpkhcompkfcaaadoor", sum := "88c3aace7a2fe7c2286ad118b85b8b7aff9e8479f077107399f7b7ab35ac1780", func := "peloton/pelotonlaw04.CheckDead", spec := "checkDead", unfollowed := true, recurses := true, named := ["peloton/code.operands", "peloton/code.spans"], apart := false, laid := [("peloton/code.operands", laid_peloton_code_operands), ("peloton/code.spans", laid_peloton_code_spans)] }
def CheckDeadSaid : Prop := checkDeadRow.holds Tryd.pinned (OpenSpec.ofChange checkDeadSpec)

/-- ITS FALSE NEIGHBOUR: 'it returns false'. Refute it at one input. -/
def checkDeadWrong : ChangeSpec := { name := "checkDead", fn := fun _ => fun
  | [d1, d2] => { results := [.lit (.bool false)], args := [d1, d2] }
  | _ => none }
def CheckDeadWrongFalsely : Prop := checkDeadRow.holds Tryd.pinned (OpenSpec.ofChange checkDeadWrong)

/- THE SECOND FORM. 'bulk': how many values and letters a reading holds, each counted each time it is reached (what is shared counts as often as it is met; a slice's spare places count too). A statement '..UptoSaid' is the law's where the arguments, and the package variables that the reading takes, are together of bulk at most 1048576: NARROWER than '..Said'. Prove '..Said' where nothing that the law and all that it calls make is longer than what came in: it says more and counts as full. Else prove '..UptoSaid'. A law counts once. -/
mutual
def uptoBulk {H : Type} : DataW H → Nat
  | .lit (.string bytes) => bytes.length + 1
  | .lit _ => 1
  | .nil => 1
  | .ptr d => uptoBulk d + 1
  | .slice elems spare => uptoBulkAll elems + uptoBulkAll spare + 1
  | .agg parts => uptoBulkAll parts + 1
  | .iface _ d => uptoBulk d + 1
  | .map entries => uptoBulkEntries entries + 1
  | .held _ => 1
def uptoBulkAll {H : Type} : List (DataW H) → Nat
  | [] => 0
  | d :: r => uptoBulk d + uptoBulkAll r
def uptoBulkEntries {H : Type} : List (Lit × DataW H) → Nat
  | [] => 0
  | x :: r => uptoBulkEntry x + uptoBulkEntries r
def uptoBulkEntry {H : Type} : Lit × DataW H → Nat
  | (.string bytes, d) => bytes.length + uptoBulk d + 1
  | (_, d) => uptoBulk d + 1
 end
def uptoSmall : (H : Type) → List (DataW H) → Bool := fun _ ds => decide (uptoBulkAll ds ≤ 1048576)
def OpenSpec.upto (s : _root_.Go.ChangeSpec) : _root_.Go.OpenSpec := { _root_.Go.OpenSpec.ofChange s with cond := some uptoSmall }

/-- 'pelotonlaw04.CheckDepths', WHERE WHAT IT READS IS OF BULK AT MOST 1048576: true; the input reads as it did. -/
def checkDepthsUptoRow : OpenClaim := { program := "ythpkhcompkfcaaadoor", sum := "88c3aace7a2fe7c2286ad118b85b8b7aff9e8479f077107399f7b7ab35ac1780", func := "peloton/pelotonlaw04.CheckDepths", spec := "checkDepths", unfollowed := true, recurses := true, named := ["peloton/code.operands", "peloton/code.spans"], apart := false, laid := [("peloton/code.operands", laid_peloton_code_operands), ("peloton/code.spans", laid_peloton_code_spans)], narrowed := true }
def CheckDepthsUptoSaid : Prop := checkDepthsUptoRow.holds Tryd.pinned (OpenSpec.upto checkDepthsSpec)

/-- 'pelotonlaw04.CheckHeld', WHERE WHAT IT READS IS OF BULK AT MOST 1048576: true; the input reads as it did. -/
def checkHeldUptoRow : OpenClaim := { program := "ythpkhcompkfcaaadoor", sum := "88c3aace7a2fe7c2286ad118b85b8b7aff9e8479f077107399f7b7ab35ac1780", func := "peloton/pelotonlaw04.CheckHeld", spec := "checkHeld", unfollowed := true, recurses := true, named := ["peloton/code.operands", "peloton/code.spans"], apart := false, laid := [("peloton/code.operands", laid_peloton_code_operands), ("peloton/code.spans", laid_peloton_code_spans)], narrowed := true }
def CheckHeldUptoSaid : Prop := checkHeldUptoRow.holds Tryd.pinned (OpenSpec.upto checkHeldSpec)

/-- 'pelotonlaw04.CheckPrograms', WHERE WHAT IT READS IS OF BULK AT MOST 1048576: true; the input reads as it did. -/
def checkProgramsUptoRow : OpenClaim := { program := "ythpkhcompkfcaaadoor", sum := "88c3aace7a2fe7c2286ad118b85b8b7aff9e8479f077107399f7b7ab35ac1780", func := "peloton/pelotonlaw04.CheckPrograms", spec := "checkPrograms", unfollowed := true, recurses := true, named := ["peloton/code.operands", "peloton/code.spans"], apart := false, laid := [("peloton/code.operands", laid_peloton_code_operands), ("peloton/code.spans", laid_peloton_code_spans)], narrowed := true }
def CheckProgramsUptoSaid : Prop := checkProgramsUptoRow.holds Tryd.pinned (OpenSpec.upto checkProgramsSpec)

/-- 'pelotonlaw04.CheckHolds', WHERE WHAT IT READS IS OF BULK AT MOST 1048576: true; the input reads as it did. -/
def checkHoldsUptoRow : OpenClaim := { program := "ythpkhcompkfcaaadoor", sum := "88c3aace7a2fe7c2286ad118b85b8b7aff9e8479f077107399f7b7ab35ac1780", func := "peloton/pelotonlaw04.CheckHolds", spec := "checkHolds", unfollowed := true, recurses := true, named := ["peloton/code.operands", "peloton/code.spans"], apart := false, laid := [("peloton/code.operands", laid_peloton_code_operands), ("peloton/code.spans", laid_peloton_code_spans)], narrowed := true }
def CheckHoldsUptoSaid : Prop := checkHoldsUptoRow.holds Tryd.pinned (OpenSpec.upto checkHoldsSpec)

/-- 'pelotonlaw04.CheckNeeds', WHERE WHAT IT READS IS OF BULK AT MOST 1048576: true; the input reads as it did. -/
def checkNeedsUptoRow : OpenClaim := { program := "ythpkhcompkfcaaadoor", sum := "88c3aace7a2fe7c2286ad118b85b8b7aff9e8479f077107399f7b7ab35ac1780", func := "peloton/pelotonlaw04.CheckNeeds", spec := "checkNeeds", unfollowed := true, recurses := true, named := ["peloton/code.operands", "peloton/code.spans"], apart := false, laid := [("peloton/code.operands", laid_peloton_code_operands), ("peloton/code.spans", laid_peloton_code_spans)], narrowed := true }
def CheckNeedsUptoSaid : Prop := checkNeedsUptoRow.holds Tryd.pinned (OpenSpec.upto checkNeedsSpec)

/-- 'pelotonlaw04.CheckMoves', WHERE WHAT IT READS IS OF BULK AT MOST 1048576: true; the input reads as it did. -/
def checkMovesUptoRow : OpenClaim := { program := "ythpkhcompkfcaaadoor", sum := "88c3aace7a2fe7c2286ad118b85b8b7aff9e8479f077107399f7b7ab35ac1780", func := "peloton/pelotonlaw04.CheckMoves", spec := "checkMoves", unfollowed := true, recurses := true, named := ["peloton/code.operands", "peloton/code.spans"], apart := false, laid := [("peloton/code.operands", laid_peloton_code_operands), ("peloton/code.spans", laid_peloton_code_spans)], narrowed := true }
def CheckMovesUptoSaid : Prop := checkMovesUptoRow.holds Tryd.pinned (OpenSpec.upto checkMovesSpec)

/-- 'pelotonlaw04.CheckDead', WHERE WHAT IT READS IS OF BULK AT MOST 1048576: true; the input reads as it did. -/
def checkDeadUptoRow : OpenClaim := { program := "ythpkhcompkfcaaadoor", sum := "88c3aace7a2fe7c2286ad118b85b8b7aff9e8479f077107399f7b7ab35ac1780", func := "peloton/pelotonlaw04.CheckDead", spec := "checkDead", unfollowed := true, recurses := true, named := ["peloton/code.operands", "peloton/code.spans"], apart := false, laid := [("peloton/code.operands", laid_peloton_code_operands), ("peloton/code.spans", laid_peloton_code_spans)], narrowed := true }
def CheckDeadUptoSaid : Prop := checkDeadUptoRow.holds Tryd.pinned (OpenSpec.upto checkDeadSpec)

end Rows
end Go.Proofs.YthpkhcompkfcaaaDoor
