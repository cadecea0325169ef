/-
  NARROWER THAN 'FOR EVERY INPUT', by the rows' own cells (each row's printed sentence says how): CodeMay: laid · CodeBytes: laid · CodeReads: laid · CodeBack: laid · CodePacks: laid · CodeUnpacks: laid · CodeWhole: laid · CodeCut: laid.
  DERIVED. THE GIVEN ROWS OF THIS SEAT. 8 by the template 'for every input the law returns true; each argument reads behind the call as it read before'; 0 by the template 'total and deterministic' (their statements: YtecobbojbdfffaaDoorTotals.lean).
  GIVEN WITH THE SEED: the statements are not yours to turn. If you find one false, say at which input.
  Laid BY PROGRAM, IN A SANDBOX (cutbox-rows.mjs): the forced cells as the released guide's own fill.sh prints them over the translation ed7acfc7686cb70a… (all of the seat's roots in one cut). By AI agents, Wed Nov 11 2026. No macro, syntax, notation, axiom, sorry.
-/
import Derived.Test.YtecobbojbdfffaaDoorChecked
import GoSem.Claim
import GoSem.ClaimJoined
import GoSem.ClaimMapViews
import Derived.JoinedTies
import Derived.KernelRfl
namespace Go.Proofs.YtecobbojbdfffaaDoor
/- THE CELL 'sum', in the pinned program and in every row, IS THE sha256 OF THE DUMP (.gsa) THAT YtecobbojbdfffaaDoorProg.lean LOADS. Nothing in Lean hashes anything: it is a label: what it is worth is what the hold of that sum in a sandbox is worth. -/
noncomputable def Tryd.pinned : Pinned := { name := "ytecobbojbdfffaadoor", sum := "ed7acfc7686cb70abcbe7a8104d9947223d32f4bf11f96f5c74693c4cdbc4a64", checked := Tryd.checked }
namespace Rows
def none {H : Type} : Left H := { results := [], args := [] }

/- WHAT THE LISTED PACKAGE-LEVEL VARIABLES READ AS WHEN THE CALL BEGINS. Each datum BY PROGRAM (the guide's laid-datum.mjs) off the statement by which the dump's own 'gosem.cut.vars' lays the variable. In a bare row this is a premise. The card (YtecobbojbdfffaaDoorCards.lean) ties it to the program's text. -/
def laid_peloton_code_operands {H : Type} : DataW H := .agg [.agg [.lit (.int .i64 1), .lit (.int .i64 0), .lit (.int .i64 0), .lit (.int .i64 3)], .agg [.lit (.int .i64 1), .lit (.int .i64 1), .lit (.int .i64 0), .lit (.int .i64 0)], .agg [.lit (.int .i64 1), .lit (.int .i64 1), .lit (.int .i64 1), .lit (.int .i64 0)], .agg [.lit (.int .i64 1), .lit (.int .i64 1), .lit (.int .i64 1), .lit (.int .i64 0)], .agg [.lit (.int .i64 1), .lit (.int .i64 1), .lit (.int .i64 1), .lit (.int .i64 0)], .agg [.lit (.int .i64 1), .lit (.int .i64 1), .lit (.int .i64 1), .lit (.int .i64 0)], .agg [.lit (.int .i64 0), .lit (.int .i64 0), .lit (.int .i64 0), .lit (.int .i64 4)], .agg [.lit (.int .i64 1), .lit (.int .i64 0), .lit (.int .i64 0), .lit (.int .i64 4)], .agg [.lit (.int .i64 2), .lit (.int .i64 0), .lit (.int .i64 0), .lit (.int .i64 5)], .agg [.lit (.int .i64 1), .lit (.int .i64 2), .lit (.int .i64 0), .lit (.int .i64 0)], .agg [.lit (.int .i64 1), .lit (.int .i64 1), .lit (.int .i64 2), .lit (.int .i64 0)], .agg [.lit (.int .i64 0), .lit (.int .i64 0), .lit (.int .i64 0), .lit (.int .i64 6)], .agg [.lit (.int .i64 1), .lit (.int .i64 0), .lit (.int .i64 0), .lit (.int .i64 0)], .agg [.lit (.int .i64 0), .lit (.int .i64 0), .lit (.int .i64 0), .lit (.int .i64 0)], .agg [.lit (.int .i64 0), .lit (.int .i64 0), .lit (.int .i64 0), .lit (.int .i64 0)], .agg [.lit (.int .i64 1), .lit (.int .i64 0), .lit (.int .i64 0), .lit (.int .i64 0)], .agg [.lit (.int .i64 1), .lit (.int .i64 0), .lit (.int .i64 0), .lit (.int .i64 0)]]
def laid_peloton_code_spans {H : Type} : DataW H := .agg [.agg [.lit (.int .i64 0), .lit (.int .i64 0)], .agg [.lit (.int .i64 0), .lit (.int .i64 7)], .agg [.lit (.int .i64 0), .lit (.int .i64 7)], .agg [.lit (.int .i64 (-2147483648)), .lit (.int .i64 2147483647)], .agg [.lit (.int .i64 0), .lit (.int .i64 127)], .agg [.lit (.int .i64 0), .lit (.int .i64 31)], .agg [.lit (.int .i64 0), .lit (.int .i64 65535)]]

/-- 'pelotonlaw02.CodeMay': WHATEVER THE INPUT: true; the input reads as it did. -/
def codeMaySpec : ChangeSpec := { name := "codeMay", fn := fun _ => fun
  | [d] => { results := [.lit (.bool true)], args := [d] }
  | _ => none }
def codeMayRow : OpenClaim := { program := "ytecobbojbdfffaadoor", sum := "ed7acfc7686cb70abcbe7a8104d9947223d32f4bf11f96f5c74693c4cdbc4a64", func := "peloton/pelotonlaw02.CodeMay", spec := "codeMay", named := ["peloton/code.operands", "peloton/code.spans"], apart := false, laid := [("peloton/code.operands", laid_peloton_code_operands), ("peloton/code.spans", laid_peloton_code_spans)] }
def CodeMaySaid : Prop := codeMayRow.holds Tryd.pinned (OpenSpec.ofChange codeMaySpec)

/-- ITS FALSE NEIGHBOUR: 'it returns false'. Refute it at one input. -/
def codeMayWrong : ChangeSpec := { name := "codeMay", fn := fun _ => fun
  | [d] => { results := [.lit (.bool false)], args := [d] }
  | _ => none }
def CodeMayWrongFalsely : Prop := codeMayRow.holds Tryd.pinned (OpenSpec.ofChange codeMayWrong)

/-- 'pelotonlaw02.CodeBytes': WHATEVER THE INPUT: true; the input reads as it did. -/
def codeBytesSpec : ChangeSpec := { name := "codeBytes", fn := fun _ => fun
  | [d] => { results := [.lit (.bool true)], args := [d] }
  | _ => none }
def codeBytesRow : OpenClaim := { program := "ytecobbojbdfffaadoor", sum := "ed7acfc7686cb70abcbe7a8104d9947223d32f4bf11f96f5c74693c4cdbc4a64", func := "peloton/pelotonlaw02.CodeBytes", spec := "codeBytes", named := ["peloton/code.operands", "peloton/code.spans"], apart := false, laid := [("peloton/code.operands", laid_peloton_code_operands), ("peloton/code.spans", laid_peloton_code_spans)] }
def CodeBytesSaid : Prop := codeBytesRow.holds Tryd.pinned (OpenSpec.ofChange codeBytesSpec)

/-- ITS FALSE NEIGHBOUR: 'it returns false'. Refute it at one input. -/
def codeBytesWrong : ChangeSpec := { name := "codeBytes", fn := fun _ => fun
  | [d] => { results := [.lit (.bool false)], args := [d] }
  | _ => none }
def CodeBytesWrongFalsely : Prop := codeBytesRow.holds Tryd.pinned (OpenSpec.ofChange codeBytesWrong)

/-- 'pelotonlaw02.CodeReads': WHATEVER THE INPUT: true; the input reads as it did. -/
def codeReadsSpec : ChangeSpec := { name := "codeReads", fn := fun _ => fun
  | [d] => { results := [.lit (.bool true)], args := [d] }
  | _ => none }
def codeReadsRow : OpenClaim := { program := "ytecobbojbdfffaadoor", sum := "ed7acfc7686cb70abcbe7a8104d9947223d32f4bf11f96f5c74693c4cdbc4a64", func := "peloton/pelotonlaw02.CodeReads", spec := "codeReads", named := ["peloton/code.operands", "peloton/code.spans"], apart := false, laid := [("peloton/code.operands", laid_peloton_code_operands), ("peloton/code.spans", laid_peloton_code_spans)] }
def CodeReadsSaid : Prop := codeReadsRow.holds Tryd.pinned (OpenSpec.ofChange codeReadsSpec)

/-- ITS FALSE NEIGHBOUR: 'it returns false'. Refute it at one input. -/
def codeReadsWrong : ChangeSpec := { name := "codeReads", fn := fun _ => fun
  | [d] => { results := [.lit (.bool false)], args := [d] }
  | _ => none }
def CodeReadsWrongFalsely : Prop := codeReadsRow.holds Tryd.pinned (OpenSpec.ofChange codeReadsWrong)

/-- 'pelotonlaw02.CodeBack': WHATEVER THE INPUT: true; the input reads as it did. -/
def codeBackSpec : ChangeSpec := { name := "codeBack", fn := fun _ => fun
  | [d1, d2] => { results := [.lit (.bool true)], args := [d1, d2] }
  | _ => none }
def codeBackRow : OpenClaim := { program := "ytecobbojbdfffaadoor", sum := "ed7acfc7686cb70abcbe7a8104d9947223d32f4bf11f96f5c74693c4cdbc4a64", func := "peloton/pelotonlaw02.CodeBack", spec := "codeBack", named := ["peloton/code.operands", "peloton/code.spans"], apart := false, laid := [("peloton/code.operands", laid_peloton_code_operands), ("peloton/code.spans", laid_peloton_code_spans)] }
def CodeBackSaid : Prop := codeBackRow.holds Tryd.pinned (OpenSpec.ofChange codeBackSpec)

/-- ITS FALSE NEIGHBOUR: 'it returns false'. Refute it at one input. -/
def codeBackWrong : ChangeSpec := { name := "codeBack", fn := fun _ => fun
  | [d1, d2] => { results := [.lit (.bool false)], args := [d1, d2] }
  | _ => none }
def CodeBackWrongFalsely : Prop := codeBackRow.holds Tryd.pinned (OpenSpec.ofChange codeBackWrong)

/-- 'pelotonlaw02.CodePacks': WHATEVER THE INPUT: true; the input reads as it did. -/
def codePacksSpec : ChangeSpec := { name := "codePacks", fn := fun _ => fun
  | [d] => { results := [.lit (.bool true)], args := [d] }
  | _ => none }
def codePacksRow : OpenClaim := { program := "ytecobbojbdfffaadoor", sum := "ed7acfc7686cb70abcbe7a8104d9947223d32f4bf11f96f5c74693c4cdbc4a64", func := "peloton/pelotonlaw02.CodePacks", spec := "codePacks", named := ["peloton/code.operands", "peloton/code.spans"], apart := false, laid := [("peloton/code.operands", laid_peloton_code_operands), ("peloton/code.spans", laid_peloton_code_spans)] }
def CodePacksSaid : Prop := codePacksRow.holds Tryd.pinned (OpenSpec.ofChange codePacksSpec)

/-- ITS FALSE NEIGHBOUR: 'it returns false'. Refute it at one input. -/
def codePacksWrong : ChangeSpec := { name := "codePacks", fn := fun _ => fun
  | [d] => { results := [.lit (.bool false)], args := [d] }
  | _ => none }
def CodePacksWrongFalsely : Prop := codePacksRow.holds Tryd.pinned (OpenSpec.ofChange codePacksWrong)

/-- 'pelotonlaw02.CodeUnpacks': WHATEVER THE INPUT: true; the input reads as it did. -/
def codeUnpacksSpec : ChangeSpec := { name := "codeUnpacks", fn := fun _ => fun
  | [d] => { results := [.lit (.bool true)], args := [d] }
  | _ => none }
def codeUnpacksRow : OpenClaim := { program := "ytecobbojbdfffaadoor", sum := "ed7acfc7686cb70abcbe7a8104d9947223d32f4bf11f96f5c74693c4cdbc4a64", func := "peloton/pelotonlaw02.CodeUnpacks", spec := "codeUnpacks", unfollowed := true, recurses := true, named := ["peloton/code.operands", "peloton/code.spans"], apart := false, laid := [("peloton/code.operands", laid_peloton_code_operands), ("peloton/code.spans", laid_peloton_code_spans)] }
def CodeUnpacksSaid : Prop := codeUnpacksRow.holds Tryd.pinned (OpenSpec.ofChange codeUnpacksSpec)

/-- ITS FALSE NEIGHBOUR: 'it returns false'. Refute it at one input. -/
def codeUnpacksWrong : ChangeSpec := { name := "codeUnpacks", fn := fun _ => fun
  | [d] => { results := [.lit (.bool false)], args := [d] }
  | _ => none }
def CodeUnpacksWrongFalsely : Prop := codeUnpacksRow.holds Tryd.pinned (OpenSpec.ofChange codeUnpacksWrong)

/-- 'pelotonlaw02.CodeWhole': WHATEVER THE INPUT: true; the input reads as it did. -/
def codeWholeSpec : ChangeSpec := { name := "codeWhole", fn := fun _ => fun
  | [d1, d2, d3] => { results := [.lit (.bool true)], args := [d1, d2, d3] }
  | _ => none }
def codeWholeRow : OpenClaim := { program := "ytecobbojbdfffaadoor", sum := "ed7acfc7686cb70abcbe7a8104d9947223d32f4bf11f96f5c74693c4cdbc4a64", func := "peloton/pelotonlaw02.CodeWhole", spec := "codeWhole", unfollowed := true, recurses := true, named := ["peloton/code.operands", "peloton/code.spans"], apart := false, laid := [("peloton/code.operands", laid_peloton_code_operands), ("peloton/code.spans", laid_peloton_code_spans)] }
def CodeWholeSaid : Prop := codeWholeRow.holds Tryd.pinned (OpenSpec.ofChange codeWholeSpec)

/-- ITS FALSE NEIGHBOUR: 'it returns false'. Refute it at one input. -/
def codeWholeWrong : ChangeSpec := { name := "codeWhole", fn := fun _ => fun
  | [d1, d2, d3] => { results := [.lit (.bool false)], args := [d1, d2, d3] }
  | _ => none }
def CodeWholeWrongFalsely : Prop := codeWholeRow.holds Tryd.pinned (OpenSpec.ofChange codeWholeWrong)

/-- 'pelotonlaw02.CodeCut': WHATEVER THE INPUT: true; the input reads as it did. -/
def codeCutSpec : ChangeSpec := { name := "codeCut", fn := fun _ => fun
  | [d1, d2, d3] => { results := [.lit (.bool true)], args := [d1, d2, d3] }
  | _ => none }
def codeCutRow : OpenClaim := { program := "ytecobbojbdfffaadoor", sum := "ed7acfc7686cb70abcbe7a8104d9947223d32f4bf11f96f5c74693c4cdbc4a64", func := "peloton/pelotonlaw02.CodeCut", spec := "codeCut", unfollowed := true, recurses := true, named := ["peloton/code.operands", "peloton/code.spans"], apart := false, laid := [("peloton/code.operands", laid_peloton_code_operands), ("peloton/code.spans", laid_peloton_code_spans)] }
def CodeCutSaid : Prop := codeCutRow.holds Tryd.pinned (OpenSpec.ofChange codeCutSpec)

/-- ITS FALSE NEIGHBOUR: 'it returns false'. Refute it at one input. -/
def codeCutWrong : ChangeSpec := { name := "codeCut", fn := fun _ => fun
  | [d1, d2, d3] => { results := [.lit (.bool false)], args := [d1, d2, d3] }
  | _ => none }
def CodeCutWrongFalsely : Prop := codeCutRow.holds Tryd.pinned (OpenSpec.ofChange codeCutWrong)

/- THE SECOND FORM. 'bulk': how many values and letters a reading holds, each counted each time it is reached (what is shared counts as often as it is met; a slice's spare places count too). A statement '..UptoSaid' is the law's where the arguments, and the package variables that the reading takes, are together of bulk at most 1048576: NARROWER than '..Said'. Prove '..Said' where nothing that the law and all that it calls make is longer than what came in: it says more and counts as full. Else prove '..UptoSaid'. A law counts once. -/
mutual
def uptoBulk {H : Type} : DataW H → Nat
  | .lit (.string bytes) => bytes.length + 1
  | .lit _ => 1
  | .nil => 1
  | .ptr d => uptoBulk d + 1
  | .slice elems spare => uptoBulkAll elems + uptoBulkAll spare + 1
  | .agg parts => uptoBulkAll parts + 1
  | .iface _ d => uptoBulk d + 1
  | .map entries => uptoBulkEntries entries + 1
  | .held _ => 1
def uptoBulkAll {H : Type} : List (DataW H) → Nat
  | [] => 0
  | d :: r => uptoBulk d + uptoBulkAll r
def uptoBulkEntries {H : Type} : List (Lit × DataW H) → Nat
  | [] => 0
  | x :: r => uptoBulkEntry x + uptoBulkEntries r
def uptoBulkEntry {H : Type} : Lit × DataW H → Nat
  | (.string bytes, d) => bytes.length + uptoBulk d + 1
  | (_, d) => uptoBulk d + 1
 end
def uptoSmall : (H : Type) → List (DataW H) → Bool := fun _ ds => decide (uptoBulkAll ds ≤ 1048576)
def OpenSpec.upto (s : _root_.Go.ChangeSpec) : _root_.Go.OpenSpec := { _root_.Go.OpenSpec.ofChange s with cond := some uptoSmall }

/-- 'pelotonlaw02.CodeMay', WHERE WHAT IT READS IS OF BULK AT MOST 1048576: true; the input reads as it did. -/
def codeMayUptoRow : OpenClaim := { program := "ytecobbojbdfffaadoor", sum := "ed7acfc7686cb70abcbe7a8104d9947223d32f4bf11f96f5c74693c4cdbc4a64", func := "peloton/pelotonlaw02.CodeMay", spec := "codeMay", named := ["peloton/code.operands", "peloton/code.spans"], apart := false, laid := [("peloton/code.operands", laid_peloton_code_operands), ("peloton/code.spans", laid_peloton_code_spans)], narrowed := true }
def CodeMayUptoSaid : Prop := codeMayUptoRow.holds Tryd.pinned (OpenSpec.upto codeMaySpec)

/-- 'pelotonlaw02.CodeBytes', WHERE WHAT IT READS IS OF BULK AT MOST 1048576: true; the input reads as it did. -/
def codeBytesUptoRow : OpenClaim := { program := "ytecobbojbdfffaadoor", sum := "ed7acfc7686cb70abcbe7a8104d9947223d32f4bf11f96f5c74693c4cdbc4a64", func := "peloton/pelotonlaw02.CodeBytes", spec := "codeBytes", named := ["peloton/code.operands", "peloton/code.spans"], apart := false, laid := [("peloton/code.operands", laid_peloton_code_operands), ("peloton/code.spans", laid_peloton_code_spans)], narrowed := true }
def CodeBytesUptoSaid : Prop := codeBytesUptoRow.holds Tryd.pinned (OpenSpec.upto codeBytesSpec)

/-- 'pelotonlaw02.CodeReads', WHERE WHAT IT READS IS OF BULK AT MOST 1048576: true; the input reads as it did. -/
def codeReadsUptoRow : OpenClaim := { program := "ytecobbojbdfffaadoor", sum := "ed7acfc7686cb70abcbe7a8104d9947223d32f4bf11f96f5c74693c4cdbc4a64", func := "peloton/pelotonlaw02.CodeReads", spec := "codeReads", named := ["peloton/code.operands", "peloton/code.spans"], apart := false, laid := [("peloton/code.operands", laid_peloton_code_operands), ("peloton/code.spans", laid_peloton_code_spans)], narrowed := true }
def CodeReadsUptoSaid : Prop := codeReadsUptoRow.holds Tryd.pinned (OpenSpec.upto codeReadsSpec)

/-- 'pelotonlaw02.CodeBack', WHERE WHAT IT READS IS OF BULK AT MOST 1048576: true; the input reads as it did. -/
def codeBackUptoRow : OpenClaim := { program := "ytecobbojbdfffaadoor", sum := "ed7acfc7686cb70abcbe7a8104d9947223d32f4bf11f96f5c74693c4cdbc4a64", func := "peloton/pelotonlaw02.CodeBack", spec := "codeBack", named := ["peloton/code.operands", "peloton/code.spans"], apart := false, laid := [("peloton/code.operands", laid_peloton_code_operands), ("peloton/code.spans", laid_peloton_code_spans)], narrowed := true }
def CodeBackUptoSaid : Prop := codeBackUptoRow.holds Tryd.pinned (OpenSpec.upto codeBackSpec)

/-- 'pelotonlaw02.CodePacks', WHERE WHAT IT READS IS OF BULK AT MOST 1048576: true; the input reads as it did. -/
def codePacksUptoRow : OpenClaim := { program := "ytecobbojbdfffaadoor", sum := "ed7acfc7686cb70abcbe7a8104d9947223d32f4bf11f96f5c74693c4cdbc4a64", func := "peloton/pelotonlaw02.CodePacks", spec := "codePacks", named := ["peloton/code.operands", "peloton/code.spans"], apart := false, laid := [("peloton/code.operands", laid_peloton_code_operands), ("peloton/code.spans", laid_peloton_code_spans)], narrowed := true }
def CodePacksUptoSaid : Prop := codePacksUptoRow.holds Tryd.pinned (OpenSpec.upto codePacksSpec)

/-- 'pelotonlaw02.CodeUnpacks', WHERE WHAT IT READS IS OF BULK AT MOST 1048576: true; the input reads as it did. -/
def codeUnpacksUptoRow : OpenClaim := { program := "ytecobbojbdfffaadoor", sum := "ed7acfc7686cb70abcbe7a8104d9947223d32f4bf11f96f5c74693c4cdbc4a64", func := "peloton/pelotonlaw02.CodeUnpacks", spec := "codeUnpacks", unfollowed := true, recurses := true, named := ["peloton/code.operands", "peloton/code.spans"], apart := false, laid := [("peloton/code.operands", laid_peloton_code_operands), ("peloton/code.spans", laid_peloton_code_spans)], narrowed := true }
def CodeUnpacksUptoSaid : Prop := codeUnpacksUptoRow.holds Tryd.pinned (OpenSpec.upto codeUnpacksSpec)

/-- 'pelotonlaw02.CodeWhole', WHERE WHAT IT READS IS OF BULK AT MOST 1048576: true; the input reads as it did. -/
def codeWholeUptoRow : OpenClaim := { program := "ytecobbojbdfffaadoor", sum := "ed7acfc7686cb70abcbe7a8104d9947223d32f4bf11f96f5c74693c4cdbc4a64", func := "peloton/pelotonlaw02.CodeWhole", spec := "codeWhole", unfollowed := true, recurses := true, named := ["peloton/code.operands", "peloton/code.spans"], apart := false, laid := [("peloton/code.operands", laid_peloton_code_operands), ("peloton/code.spans", laid_peloton_code_spans)], narrowed := true }
def CodeWholeUptoSaid : Prop := codeWholeUptoRow.holds Tryd.pinned (OpenSpec.upto codeWholeSpec)

/-- 'pelotonlaw02.CodeCut', WHERE WHAT IT READS IS OF BULK AT MOST 1048576: true; the input reads as it did. -/
def codeCutUptoRow : OpenClaim := { program := "ytecobbojbdfffaadoor", sum := "ed7acfc7686cb70abcbe7a8104d9947223d32f4bf11f96f5c74693c4cdbc4a64", func := "peloton/pelotonlaw02.CodeCut", spec := "codeCut", unfollowed := true, recurses := true, named := ["peloton/code.operands", "peloton/code.spans"], apart := false, laid := [("peloton/code.operands", laid_peloton_code_operands), ("peloton/code.spans", laid_peloton_code_spans)], narrowed := true }
def CodeCutUptoSaid : Prop := codeCutUptoRow.holds Tryd.pinned (OpenSpec.upto codeCutSpec)

end Rows
end Go.Proofs.YtecobbojbdfffaaDoor
