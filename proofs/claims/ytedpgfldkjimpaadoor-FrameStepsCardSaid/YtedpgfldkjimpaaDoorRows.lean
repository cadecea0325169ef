/-
  NARROWER THAN 'FOR EVERY INPUT', by the rows' own cells (each row's printed sentence says how): FramePlain: laid · FrameForks: laid · FrameJoins: laid · FramePasses: laid · FrameSteps: laid · FrameRing: laid · FrameLess: laid · FrameBlind: laid.
  DERIVED. THE GIVEN ROWS OF THIS SEAT. 8 by the template 'for every input the law returns true; each argument reads behind the call as it read before'; 0 by the template 'total and deterministic' (their statements: YtedpgfldkjimpaaDoorTotals.lean).
  GIVEN WITH THE SEED: the statements are not yours to turn. If you find one false, say at which input.
  Laid BY PROGRAM, IN A SANDBOX (cutbox-rows.mjs): the forced cells as the released guide's own fill.sh prints them over the translation 013e7852edb93a5a… (all of the seat's roots in one cut). By AI agents, Wed Nov 11 2026. No macro, syntax, notation, axiom, sorry.
-/
import Derived.Test.YtedpgfldkjimpaaDoorChecked
import GoSem.Claim
import GoSem.ClaimJoined
import GoSem.ClaimMapViews
import Derived.JoinedTies
import Derived.KernelRfl
namespace Go.Proofs.YtedpgfldkjimpaaDoor
/- THE CELL 'sum', in the pinned program and in every row, IS THE sha256 OF THE DUMP (.gsa) THAT YtedpgfldkjimpaaDoorProg.lean LOADS. Nothing in Lean hashes anything: it is a label: what it is worth is what the hold of that sum in a sandbox is worth. -/
noncomputable def Tryd.pinned : Pinned := { name := "ytedpgfldkjimpaadoor", sum := "013e7852edb93a5a8b0ae7d74759addf5ea7eea894a3e1c9d0523990f0954591", checked := Tryd.checked }
namespace Rows
def none {H : Type} : Left H := { results := [], args := [] }

/- WHAT THE LISTED PACKAGE-LEVEL VARIABLES READ AS WHEN THE CALL BEGINS. Each datum BY PROGRAM (the guide's laid-datum.mjs) off the statement by which the dump's own 'gosem.cut.vars' lays the variable. In a bare row this is a premise. The card (YtedpgfldkjimpaaDoorCards.lean) ties it to the program's text. -/
def laid_peloton_code_operands {H : Type} : DataW H := .agg [.agg [.lit (.int .i64 1), .lit (.int .i64 0), .lit (.int .i64 0), .lit (.int .i64 3)], .agg [.lit (.int .i64 1), .lit (.int .i64 1), .lit (.int .i64 0), .lit (.int .i64 0)], .agg [.lit (.int .i64 1), .lit (.int .i64 1), .lit (.int .i64 1), .lit (.int .i64 0)], .agg [.lit (.int .i64 1), .lit (.int .i64 1), .lit (.int .i64 1), .lit (.int .i64 0)], .agg [.lit (.int .i64 1), .lit (.int .i64 1), .lit (.int .i64 1), .lit (.int .i64 0)], .agg [.lit (.int .i64 1), .lit (.int .i64 1), .lit (.int .i64 1), .lit (.int .i64 0)], .agg [.lit (.int .i64 0), .lit (.int .i64 0), .lit (.int .i64 0), .lit (.int .i64 4)], .agg [.lit (.int .i64 1), .lit (.int .i64 0), .lit (.int .i64 0), .lit (.int .i64 4)], .agg [.lit (.int .i64 2), .lit (.int .i64 0), .lit (.int .i64 0), .lit (.int .i64 5)], .agg [.lit (.int .i64 1), .lit (.int .i64 2), .lit (.int .i64 0), .lit (.int .i64 0)], .agg [.lit (.int .i64 1), .lit (.int .i64 1), .lit (.int .i64 2), .lit (.int .i64 0)], .agg [.lit (.int .i64 0), .lit (.int .i64 0), .lit (.int .i64 0), .lit (.int .i64 6)], .agg [.lit (.int .i64 1), .lit (.int .i64 0), .lit (.int .i64 0), .lit (.int .i64 0)], .agg [.lit (.int .i64 0), .lit (.int .i64 0), .lit (.int .i64 0), .lit (.int .i64 0)], .agg [.lit (.int .i64 0), .lit (.int .i64 0), .lit (.int .i64 0), .lit (.int .i64 0)], .agg [.lit (.int .i64 1), .lit (.int .i64 0), .lit (.int .i64 0), .lit (.int .i64 0)], .agg [.lit (.int .i64 1), .lit (.int .i64 0), .lit (.int .i64 0), .lit (.int .i64 0)]]
def laid_peloton_code_spans {H : Type} : DataW H := .agg [.agg [.lit (.int .i64 0), .lit (.int .i64 0)], .agg [.lit (.int .i64 0), .lit (.int .i64 7)], .agg [.lit (.int .i64 0), .lit (.int .i64 7)], .agg [.lit (.int .i64 (-2147483648)), .lit (.int .i64 2147483647)], .agg [.lit (.int .i64 0), .lit (.int .i64 127)], .agg [.lit (.int .i64 0), .lit (.int .i64 31)], .agg [.lit (.int .i64 0), .lit (.int .i64 65535)]]

/-- 'pelotonlaw05.FramePlain': WHATEVER THE INPUT: true; the input reads as it did. -/
def framePlainSpec : ChangeSpec := { name := "framePlain", fn := fun _ => fun
  | [d1, d2] => { results := [.lit (.bool true)], args := [d1, d2] }
  | _ => none }
def framePlainRow : OpenClaim := { program := "ytedpgfldkjimpaadoor", sum := "013e7852edb93a5a8b0ae7d74759addf5ea7eea894a3e1c9d0523990f0954591", func := "peloton/pelotonlaw05.FramePlain", spec := "framePlain", unfollowed := true, recurses := true, named := ["peloton/code.operands", "peloton/code.spans"], apart := false, laid := [("peloton/code.operands", laid_peloton_code_operands), ("peloton/code.spans", laid_peloton_code_spans)] }
def FramePlainSaid : Prop := framePlainRow.holds Tryd.pinned (OpenSpec.ofChange framePlainSpec)

/-- ITS FALSE NEIGHBOUR: 'it returns false'. Refute it at one input. -/
def framePlainWrong : ChangeSpec := { name := "framePlain", fn := fun _ => fun
  | [d1, d2] => { results := [.lit (.bool false)], args := [d1, d2] }
  | _ => none }
def FramePlainWrongFalsely : Prop := framePlainRow.holds Tryd.pinned (OpenSpec.ofChange framePlainWrong)

/-- 'pelotonlaw05.FrameForks': WHATEVER THE INPUT: true; the input reads as it did. -/
def frameForksSpec : ChangeSpec := { name := "frameForks", fn := fun _ => fun
  | [d1, d2, d3] => { results := [.lit (.bool true)], args := [d1, d2, d3] }
  | _ => none }
def frameForksRow : OpenClaim := { program := "ytedpgfldkjimpaadoor", sum := "013e7852edb93a5a8b0ae7d74759addf5ea7eea894a3e1c9d0523990f0954591", func := "peloton/pelotonlaw05.FrameForks", spec := "frameForks", unfollowed := true, recurses := true, named := ["peloton/code.operands", "peloton/code.spans"], apart := false, laid := [("peloton/code.operands", laid_peloton_code_operands), ("peloton/code.spans", laid_peloton_code_spans)] }
def FrameForksSaid : Prop := frameForksRow.holds Tryd.pinned (OpenSpec.ofChange frameForksSpec)

/-- ITS FALSE NEIGHBOUR: 'it returns false'. Refute it at one input. -/
def frameForksWrong : ChangeSpec := { name := "frameForks", fn := fun _ => fun
  | [d1, d2, d3] => { results := [.lit (.bool false)], args := [d1, d2, d3] }
  | _ => none }
def FrameForksWrongFalsely : Prop := frameForksRow.holds Tryd.pinned (OpenSpec.ofChange frameForksWrong)

/-- 'pelotonlaw05.FrameJoins': WHATEVER THE INPUT: true; the input reads as it did. -/
def frameJoinsSpec : ChangeSpec := { name := "frameJoins", fn := fun _ => fun
  | [d1, d2] => { results := [.lit (.bool true)], args := [d1, d2] }
  | _ => none }
def frameJoinsRow : OpenClaim := { program := "ytedpgfldkjimpaadoor", sum := "013e7852edb93a5a8b0ae7d74759addf5ea7eea894a3e1c9d0523990f0954591", func := "peloton/pelotonlaw05.FrameJoins", spec := "frameJoins", unfollowed := true, recurses := true, named := ["peloton/code.operands", "peloton/code.spans"], apart := false, laid := [("peloton/code.operands", laid_peloton_code_operands), ("peloton/code.spans", laid_peloton_code_spans)] }
def FrameJoinsSaid : Prop := frameJoinsRow.holds Tryd.pinned (OpenSpec.ofChange frameJoinsSpec)

/-- ITS FALSE NEIGHBOUR: 'it returns false'. Refute it at one input. -/
def frameJoinsWrong : ChangeSpec := { name := "frameJoins", fn := fun _ => fun
  | [d1, d2] => { results := [.lit (.bool false)], args := [d1, d2] }
  | _ => none }
def FrameJoinsWrongFalsely : Prop := frameJoinsRow.holds Tryd.pinned (OpenSpec.ofChange frameJoinsWrong)

/-- 'pelotonlaw05.FramePasses': WHATEVER THE INPUT: true; the input reads as it did. -/
def framePassesSpec : ChangeSpec := { name := "framePasses", fn := fun _ => fun
  | [d1, d2, d3] => { results := [.lit (.bool true)], args := [d1, d2, d3] }
  | _ => none }
def framePassesRow : OpenClaim := { program := "ytedpgfldkjimpaadoor", sum := "013e7852edb93a5a8b0ae7d74759addf5ea7eea894a3e1c9d0523990f0954591", func := "peloton/pelotonlaw05.FramePasses", spec := "framePasses", unfollowed := true, recurses := true, named := ["peloton/code.operands", "peloton/code.spans"], apart := false, laid := [("peloton/code.operands", laid_peloton_code_operands), ("peloton/code.spans", laid_peloton_code_spans)] }
def FramePassesSaid : Prop := framePassesRow.holds Tryd.pinned (OpenSpec.ofChange framePassesSpec)

/-- ITS FALSE NEIGHBOUR: 'it returns false'. Refute it at one input. -/
def framePassesWrong : ChangeSpec := { name := "framePasses", fn := fun _ => fun
  | [d1, d2, d3] => { results := [.lit (.bool false)], args := [d1, d2, d3] }
  | _ => none }
def FramePassesWrongFalsely : Prop := framePassesRow.holds Tryd.pinned (OpenSpec.ofChange framePassesWrong)

/-- 'pelotonlaw05.FrameSteps': WHATEVER THE INPUT: true; the input reads as it did. -/
def frameStepsSpec : ChangeSpec := { name := "frameSteps", fn := fun _ => fun
  | [d1, d2] => { results := [.lit (.bool true)], args := [d1, d2] }
  | _ => none }
def frameStepsRow : OpenClaim := { program := "ytedpgfldkjimpaadoor", sum := "013e7852edb93a5a8b0ae7d74759addf5ea7eea894a3e1c9d0523990f0954591", func := "peloton/pelotonlaw05.FrameSteps", spec := "frameSteps", unfollowed := true, recurses := true, named := ["peloton/code.operands", "peloton/code.spans"], apart := false, laid := [("peloton/code.operands", laid_peloton_code_operands), ("peloton/code.spans", laid_peloton_code_spans)] }
def FrameStepsSaid : Prop := frameStepsRow.holds Tryd.pinned (OpenSpec.ofChange frameStepsSpec)

/-- ITS FALSE NEIGHBOUR: 'it returns false'. Refute it at one input. -/
def frameStepsWrong : ChangeSpec := { name := "frameSteps", fn := fun _ => fun
  | [d1, d2] => { results := [.lit (.bool false)], args := [d1, d2] }
  | _ => none }
def FrameStepsWrongFalsely : Prop := frameStepsRow.holds Tryd.pinned (OpenSpec.ofChange frameStepsWrong)

/-- 'pelotonlaw05.FrameRing': WHATEVER THE INPUT: true; the input reads as it did. -/
def frameRingSpec : ChangeSpec := { name := "frameRing", fn := fun _ => fun
  | [d1, d2, d3] => { results := [.lit (.bool true)], args := [d1, d2, d3] }
  | _ => none }
def frameRingRow : OpenClaim := { program := "ytedpgfldkjimpaadoor", sum := "013e7852edb93a5a8b0ae7d74759addf5ea7eea894a3e1c9d0523990f0954591", func := "peloton/pelotonlaw05.FrameRing", spec := "frameRing", unfollowed := true, recurses := true, named := ["peloton/code.operands", "peloton/code.spans"], apart := false, laid := [("peloton/code.operands", laid_peloton_code_operands), ("peloton/code.spans", laid_peloton_code_spans)] }
def FrameRingSaid : Prop := frameRingRow.holds Tryd.pinned (OpenSpec.ofChange frameRingSpec)

/-- ITS FALSE NEIGHBOUR: 'it returns false'. Refute it at one input. -/
def frameRingWrong : ChangeSpec := { name := "frameRing", fn := fun _ => fun
  | [d1, d2, d3] => { results := [.lit (.bool false)], args := [d1, d2, d3] }
  | _ => none }
def FrameRingWrongFalsely : Prop := frameRingRow.holds Tryd.pinned (OpenSpec.ofChange frameRingWrong)

/-- 'pelotonlaw05.FrameLess': WHATEVER THE INPUT: true; the input reads as it did. -/
def frameLessSpec : ChangeSpec := { name := "frameLess", fn := fun _ => fun
  | [d1, d2, d3] => { results := [.lit (.bool true)], args := [d1, d2, d3] }
  | _ => none }
def frameLessRow : OpenClaim := { program := "ytedpgfldkjimpaadoor", sum := "013e7852edb93a5a8b0ae7d74759addf5ea7eea894a3e1c9d0523990f0954591", func := "peloton/pelotonlaw05.FrameLess", spec := "frameLess", unfollowed := true, recurses := true, named := ["peloton/code.operands", "peloton/code.spans"], apart := false, laid := [("peloton/code.operands", laid_peloton_code_operands), ("peloton/code.spans", laid_peloton_code_spans)] }
def FrameLessSaid : Prop := frameLessRow.holds Tryd.pinned (OpenSpec.ofChange frameLessSpec)

/-- ITS FALSE NEIGHBOUR: 'it returns false'. Refute it at one input. -/
def frameLessWrong : ChangeSpec := { name := "frameLess", fn := fun _ => fun
  | [d1, d2, d3] => { results := [.lit (.bool false)], args := [d1, d2, d3] }
  | _ => none }
def FrameLessWrongFalsely : Prop := frameLessRow.holds Tryd.pinned (OpenSpec.ofChange frameLessWrong)

/-- 'pelotonlaw05.FrameBlind': WHATEVER THE INPUT: true; the input reads as it did. -/
def frameBlindSpec : ChangeSpec := { name := "frameBlind", fn := fun _ => fun
  | [d1, d2, d3] => { results := [.lit (.bool true)], args := [d1, d2, d3] }
  | _ => none }
def frameBlindRow : OpenClaim := { program := "ytedpgfldkjimpaadoor", sum := "013e7852edb93a5a8b0ae7d74759addf5ea7eea894a3e1c9d0523990f0954591", func := "peloton/pelotonlaw05.FrameBlind", spec := "frameBlind", unfollowed := true, recurses := true, named := ["peloton/code.operands", "peloton/code.spans"], apart := false, laid := [("peloton/code.operands", laid_peloton_code_operands), ("peloton/code.spans", laid_peloton_code_spans)] }
def FrameBlindSaid : Prop := frameBlindRow.holds Tryd.pinned (OpenSpec.ofChange frameBlindSpec)

/-- ITS FALSE NEIGHBOUR: 'it returns false'. Refute it at one input. -/
def frameBlindWrong : ChangeSpec := { name := "frameBlind", fn := fun _ => fun
  | [d1, d2, d3] => { results := [.lit (.bool false)], args := [d1, d2, d3] }
  | _ => none }
def FrameBlindWrongFalsely : Prop := frameBlindRow.holds Tryd.pinned (OpenSpec.ofChange frameBlindWrong)

/- THE SECOND FORM. 'bulk': how many values and letters a reading holds, each counted each time it is reached (what is shared counts as often as it is met; a slice's spare places count too). A statement '..UptoSaid' is the law's where the arguments, and the package variables that the reading takes, are together of bulk at most 1048576: NARROWER than '..Said'. Prove '..Said' where nothing that the law and all that it calls make is longer than what came in: it says more and counts as full. Else prove '..UptoSaid'. A law counts once. -/
mutual
def uptoBulk {H : Type} : DataW H → Nat
  | .lit (.string bytes) => bytes.length + 1
  | .lit _ => 1
  | .nil => 1
  | .ptr d => uptoBulk d + 1
  | .slice elems spare => uptoBulkAll elems + uptoBulkAll spare + 1
  | .agg parts => uptoBulkAll parts + 1
  | .iface _ d => uptoBulk d + 1
  | .map entries => uptoBulkEntries entries + 1
  | .held _ => 1
def uptoBulkAll {H : Type} : List (DataW H) → Nat
  | [] => 0
  | d :: r => uptoBulk d + uptoBulkAll r
def uptoBulkEntries {H : Type} : List (Lit × DataW H) → Nat
  | [] => 0
  | x :: r => uptoBulkEntry x + uptoBulkEntries r
def uptoBulkEntry {H : Type} : Lit × DataW H → Nat
  | (.string bytes, d) => bytes.length + uptoBulk d + 1
  | (_, d) => uptoBulk d + 1
 end
def uptoSmall : (H : Type) → List (DataW H) → Bool := fun _ ds => decide (uptoBulkAll ds ≤ 1048576)
def OpenSpec.upto (s : _root_.Go.ChangeSpec) : _root_.Go.OpenSpec := { _root_.Go.OpenSpec.ofChange s with cond := some uptoSmall }

/-- 'pelotonlaw05.FramePlain', WHERE WHAT IT READS IS OF BULK AT MOST 1048576: true; the input reads as it did. -/
def framePlainUptoRow : OpenClaim := { program := "ytedpgfldkjimpaadoor", sum := "013e7852edb93a5a8b0ae7d74759addf5ea7eea894a3e1c9d0523990f0954591", func := "peloton/pelotonlaw05.FramePlain", spec := "framePlain", unfollowed := true, recurses := true, named := ["peloton/code.operands", "peloton/code.spans"], apart := false, laid := [("peloton/code.operands", laid_peloton_code_operands), ("peloton/code.spans", laid_peloton_code_spans)], narrowed := true }
def FramePlainUptoSaid : Prop := framePlainUptoRow.holds Tryd.pinned (OpenSpec.upto framePlainSpec)

/-- 'pelotonlaw05.FrameForks', WHERE WHAT IT READS IS OF BULK AT MOST 1048576: true; the input reads as it did. -/
def frameForksUptoRow : OpenClaim := { program := "ytedpgfldkjimpaadoor", sum := "013e7852edb93a5a8b0ae7d74759addf5ea7eea894a3e1c9d0523990f0954591", func := "peloton/pelotonlaw05.FrameForks", spec := "frameForks", unfollowed := true, recurses := true, named := ["peloton/code.operands", "peloton/code.spans"], apart := false, laid := [("peloton/code.operands", laid_peloton_code_operands), ("peloton/code.spans", laid_peloton_code_spans)], narrowed := true }
def FrameForksUptoSaid : Prop := frameForksUptoRow.holds Tryd.pinned (OpenSpec.upto frameForksSpec)

/-- 'pelotonlaw05.FrameJoins', WHERE WHAT IT READS IS OF BULK AT MOST 1048576: true; the input reads as it did. -/
def frameJoinsUptoRow : OpenClaim := { program := "ytedpgfldkjimpaadoor", sum := "013e7852edb93a5a8b0ae7d74759addf5ea7eea894a3e1c9d0523990f0954591", func := "peloton/pelotonlaw05.FrameJoins", spec := "frameJoins", unfollowed := true, recurses := true, named := ["peloton/code.operands", "peloton/code.spans"], apart := false, laid := [("peloton/code.operands", laid_peloton_code_operands), ("peloton/code.spans", laid_peloton_code_spans)], narrowed := true }
def FrameJoinsUptoSaid : Prop := frameJoinsUptoRow.holds Tryd.pinned (OpenSpec.upto frameJoinsSpec)

/-- 'pelotonlaw05.FramePasses', WHERE WHAT IT READS IS OF BULK AT MOST 1048576: true; the input reads as it did. -/
def framePassesUptoRow : OpenClaim := { program := "ytedpgfldkjimpaadoor", sum := "013e7852edb93a5a8b0ae7d74759addf5ea7eea894a3e1c9d0523990f0954591", func := "peloton/pelotonlaw05.FramePasses", spec := "framePasses", unfollowed := true, recurses := true, named := ["peloton/code.operands", "peloton/code.spans"], apart := false, laid := [("peloton/code.operands", laid_peloton_code_operands), ("peloton/code.spans", laid_peloton_code_spans)], narrowed := true }
def FramePassesUptoSaid : Prop := framePassesUptoRow.holds Tryd.pinned (OpenSpec.upto framePassesSpec)

/-- 'pelotonlaw05.FrameSteps', WHERE WHAT IT READS IS OF BULK AT MOST 1048576: true; the input reads as it did. -/
def frameStepsUptoRow : OpenClaim := { program := "ytedpgfldkjimpaadoor", sum := "013e7852edb93a5a8b0ae7d74759addf5ea7eea894a3e1c9d0523990f0954591", func := "peloton/pelotonlaw05.FrameSteps", spec := "frameSteps", unfollowed := true, recurses := true, named := ["peloton/code.operands", "peloton/code.spans"], apart := false, laid := [("peloton/code.operands", laid_peloton_code_operands), ("peloton/code.spans", laid_peloton_code_spans)], narrowed := true }
def FrameStepsUptoSaid : Prop := frameStepsUptoRow.holds Tryd.pinned (OpenSpec.upto frameStepsSpec)

/-- 'pelotonlaw05.FrameRing', WHERE WHAT IT READS IS OF BULK AT MOST 1048576: true; the input reads as it did. -/
def frameRingUptoRow : OpenClaim := { program := "ytedpgfldkjimpaadoor", sum := "013e7852edb93a5a8b0ae7d74759addf5ea7eea894a3e1c9d0523990f0954591", func := "peloton/pelotonlaw05.FrameRing", spec := "frameRing", unfollowed := true, recurses := true, named := ["peloton/code.operands", "peloton/code.spans"], apart := false, laid := [("peloton/code.operands", laid_peloton_code_operands), ("peloton/code.spans", laid_peloton_code_spans)], narrowed := true }
def FrameRingUptoSaid : Prop := frameRingUptoRow.holds Tryd.pinned (OpenSpec.upto frameRingSpec)

/-- 'pelotonlaw05.FrameLess', WHERE WHAT IT READS IS OF BULK AT MOST 1048576: true; the input reads as it did. -/
def frameLessUptoRow : OpenClaim := { program := "ytedpgfldkjimpaadoor", sum := "013e7852edb93a5a8b0ae7d74759addf5ea7eea894a3e1c9d0523990f0954591", func := "peloton/pelotonlaw05.FrameLess", spec := "frameLess", unfollowed := true, recurses := true, named := ["peloton/code.operands", "peloton/code.spans"], apart := false, laid := [("peloton/code.operands", laid_peloton_code_operands), ("peloton/code.spans", laid_peloton_code_spans)], narrowed := true }
def FrameLessUptoSaid : Prop := frameLessUptoRow.holds Tryd.pinned (OpenSpec.upto frameLessSpec)

/-- 'pelotonlaw05.FrameBlind', WHERE WHAT IT READS IS OF BULK AT MOST 1048576: true; the input reads as it did. -/
def frameBlindUptoRow : OpenClaim := { program := "ytedpgfldkjimpaadoor", sum := "013e7852edb93a5a8b0ae7d74759addf5ea7eea894a3e1c9d0523990f0954591", func := "peloton/pelotonlaw05.FrameBlind", spec := "frameBlind", unfollowed := true, recurses := true, named := ["peloton/code.operands", "peloton/code.spans"], apart := false, laid := [("peloton/code.operands", laid_peloton_code_operands), ("peloton/code.spans", laid_peloton_code_spans)], narrowed := true }
def FrameBlindUptoSaid : Prop := frameBlindUptoRow.holds Tryd.pinned (OpenSpec.upto frameBlindSpec)

end Rows
end Go.Proofs.YtedpgfldkjimpaaDoor
