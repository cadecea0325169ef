/-
  NARROWER THAN 'FOR EVERY INPUT', by the rows' own cells (each row's printed sentence says how): SerialFuel: laid · SerialPlain: laid · SerialTwice: laid · SerialScopes: laid.
  DERIVED. THE GIVEN ROWS OF THIS SEAT. 4 by the template 'for every input the law returns true; each argument reads behind the call as it read before'; 0 by the template 'total and deterministic' (their statements: YtpjcdjooiaefdaaDoorTotals.lean).
  GIVEN WITH THE SEED: the statements are not yours to turn. If you find one false, say at which input.
  Laid BY PROGRAM, IN A SANDBOX (cutbox-rows.mjs): the forced cells as the released guide's own fill.sh prints them over the translation 7c5bebd76624ca70… (all of the seat's roots in one cut). By AI agents, Wed Nov 11 2026. No macro, syntax, notation, axiom, sorry.
-/
import Derived.Test.YtpjcdjooiaefdaaDoorChecked
import GoSem.Claim
import GoSem.ClaimJoined
import GoSem.ClaimMapViews
import Derived.JoinedTies
import Derived.KernelRfl
namespace Go.Proofs.YtpjcdjooiaefdaaDoor
/- THE CELL 'sum', in the pinned program and in every row, IS THE sha256 OF THE DUMP (.gsa) THAT YtpjcdjooiaefdaaDoorProg.lean LOADS. Nothing in Lean hashes anything: it is a label: what it is worth is what the hold of that sum in a sandbox is worth. -/
noncomputable def Tryd.pinned : Pinned := { name := "ytpjcdjooiaefdaadoor", sum := "7c5bebd76624ca7091152538dd28b5d7e197a4546edbab52d663750dd3607d87", checked := Tryd.checked }
namespace Rows
def none {H : Type} : Left H := { results := [], args := [] }

/- WHAT THE LISTED PACKAGE-LEVEL VARIABLES READ AS WHEN THE CALL BEGINS. Each datum BY PROGRAM (the guide's laid-datum.mjs) off the statement by which the dump's own 'gosem.cut.vars' lays the variable. In a bare row this is a premise. The card (YtpjcdjooiaefdaaDoorCards.lean) ties it to the program's text. -/
def laid_peloton_code_operands {H : Type} : DataW H := .agg [.agg [.lit (.int .i64 1), .lit (.int .i64 0), .lit (.int .i64 0), .lit (.int .i64 3)], .agg [.lit (.int .i64 1), .lit (.int .i64 1), .lit (.int .i64 0), .lit (.int .i64 0)], .agg [.lit (.int .i64 1), .lit (.int .i64 1), .lit (.int .i64 1), .lit (.int .i64 0)], .agg [.lit (.int .i64 1), .lit (.int .i64 1), .lit (.int .i64 1), .lit (.int .i64 0)], .agg [.lit (.int .i64 1), .lit (.int .i64 1), .lit (.int .i64 1), .lit (.int .i64 0)], .agg [.lit (.int .i64 1), .lit (.int .i64 1), .lit (.int .i64 1), .lit (.int .i64 0)], .agg [.lit (.int .i64 0), .lit (.int .i64 0), .lit (.int .i64 0), .lit (.int .i64 4)], .agg [.lit (.int .i64 1), .lit (.int .i64 0), .lit (.int .i64 0), .lit (.int .i64 4)], .agg [.lit (.int .i64 2), .lit (.int .i64 0), .lit (.int .i64 0), .lit (.int .i64 5)], .agg [.lit (.int .i64 1), .lit (.int .i64 2), .lit (.int .i64 0), .lit (.int .i64 0)], .agg [.lit (.int .i64 1), .lit (.int .i64 1), .lit (.int .i64 2), .lit (.int .i64 0)], .agg [.lit (.int .i64 0), .lit (.int .i64 0), .lit (.int .i64 0), .lit (.int .i64 6)], .agg [.lit (.int .i64 1), .lit (.int .i64 0), .lit (.int .i64 0), .lit (.int .i64 0)], .agg [.lit (.int .i64 0), .lit (.int .i64 0), .lit (.int .i64 0), .lit (.int .i64 0)], .agg [.lit (.int .i64 0), .lit (.int .i64 0), .lit (.int .i64 0), .lit (.int .i64 0)], .agg [.lit (.int .i64 1), .lit (.int .i64 0), .lit (.int .i64 0), .lit (.int .i64 0)], .agg [.lit (.int .i64 1), .lit (.int .i64 0), .lit (.int .i64 0), .lit (.int .i64 0)]]
def laid_peloton_code_spans {H : Type} : DataW H := .agg [.agg [.lit (.int .i64 0), .lit (.int .i64 0)], .agg [.lit (.int .i64 0), .lit (.int .i64 7)], .agg [.lit (.int .i64 0), .lit (.int .i64 7)], .agg [.lit (.int .i64 (-2147483648)), .lit (.int .i64 2147483647)], .agg [.lit (.int .i64 0), .lit (.int .i64 127)], .agg [.lit (.int .i64 0), .lit (.int .i64 31)], .agg [.lit (.int .i64 0), .lit (.int .i64 65535)]]

/-- 'pelotonlaw06.SerialFuel': WHATEVER THE INPUT: true; the input reads as it did. -/
def serialFuelSpec : ChangeSpec := { name := "serialFuel", fn := fun _ => fun
  | [d1, d2, d3] => { results := [.lit (.bool true)], args := [d1, d2, d3] }
  | _ => none }
def serialFuelRow : OpenClaim := { program := "ytpjcdjooiaefdaadoor", sum := "7c5bebd76624ca7091152538dd28b5d7e197a4546edbab52d663750dd3607d87", func := "peloton/pelotonlaw06.SerialFuel", spec := "serialFuel", unfollowed := true, recurses := true, named := ["peloton/code.operands", "peloton/code.spans"], apart := false, laid := [("peloton/code.operands", laid_peloton_code_operands), ("peloton/code.spans", laid_peloton_code_spans)] }
def SerialFuelSaid : Prop := serialFuelRow.holds Tryd.pinned (OpenSpec.ofChange serialFuelSpec)

/-- ITS FALSE NEIGHBOUR: 'it returns false'. Refute it at one input. -/
def serialFuelWrong : ChangeSpec := { name := "serialFuel", fn := fun _ => fun
  | [d1, d2, d3] => { results := [.lit (.bool false)], args := [d1, d2, d3] }
  | _ => none }
def SerialFuelWrongFalsely : Prop := serialFuelRow.holds Tryd.pinned (OpenSpec.ofChange serialFuelWrong)

/-- 'pelotonlaw06.SerialPlain': WHATEVER THE INPUT: true; the input reads as it did. -/
def serialPlainSpec : ChangeSpec := { name := "serialPlain", fn := fun _ => fun
  | [d1, d2] => { results := [.lit (.bool true)], args := [d1, d2] }
  | _ => none }
def serialPlainRow : OpenClaim := { program := "ytpjcdjooiaefdaadoor", sum := "7c5bebd76624ca7091152538dd28b5d7e197a4546edbab52d663750dd3607d87", func := "peloton/pelotonlaw06.SerialPlain", spec := "serialPlain", unfollowed := true, recurses := true, named := ["peloton/code.operands", "peloton/code.spans"], apart := false, laid := [("peloton/code.operands", laid_peloton_code_operands), ("peloton/code.spans", laid_peloton_code_spans)] }
def SerialPlainSaid : Prop := serialPlainRow.holds Tryd.pinned (OpenSpec.ofChange serialPlainSpec)

/-- ITS FALSE NEIGHBOUR: 'it returns false'. Refute it at one input. -/
def serialPlainWrong : ChangeSpec := { name := "serialPlain", fn := fun _ => fun
  | [d1, d2] => { results := [.lit (.bool false)], args := [d1, d2] }
  | _ => none }
def SerialPlainWrongFalsely : Prop := serialPlainRow.holds Tryd.pinned (OpenSpec.ofChange serialPlainWrong)

/-- 'pelotonlaw06.SerialTwice': WHATEVER THE INPUT: true; the input reads as it did. -/
def serialTwiceSpec : ChangeSpec := { name := "serialTwice", fn := fun _ => fun
  | [d1, d2, d3] => { results := [.lit (.bool true)], args := [d1, d2, d3] }
  | _ => none }
def serialTwiceRow : OpenClaim := { program := "ytpjcdjooiaefdaadoor", sum := "7c5bebd76624ca7091152538dd28b5d7e197a4546edbab52d663750dd3607d87", func := "peloton/pelotonlaw06.SerialTwice", spec := "serialTwice", unfollowed := true, recurses := true, named := ["peloton/code.operands", "peloton/code.spans"], apart := false, laid := [("peloton/code.operands", laid_peloton_code_operands), ("peloton/code.spans", laid_peloton_code_spans)] }
def SerialTwiceSaid : Prop := serialTwiceRow.holds Tryd.pinned (OpenSpec.ofChange serialTwiceSpec)

/-- ITS FALSE NEIGHBOUR: 'it returns false'. Refute it at one input. -/
def serialTwiceWrong : ChangeSpec := { name := "serialTwice", fn := fun _ => fun
  | [d1, d2, d3] => { results := [.lit (.bool false)], args := [d1, d2, d3] }
  | _ => none }
def SerialTwiceWrongFalsely : Prop := serialTwiceRow.holds Tryd.pinned (OpenSpec.ofChange serialTwiceWrong)

/-- 'pelotonlaw06.SerialScopes': WHATEVER THE INPUT: true; the input reads as it did. -/
def serialScopesSpec : ChangeSpec := { name := "serialScopes", fn := fun _ => fun
  | [d1, d2, d3] => { results := [.lit (.bool true)], args := [d1, d2, d3] }
  | _ => none }
def serialScopesRow : OpenClaim := { program := "ytpjcdjooiaefdaadoor", sum := "7c5bebd76624ca7091152538dd28b5d7e197a4546edbab52d663750dd3607d87", func := "peloton/pelotonlaw06.SerialScopes", spec := "serialScopes", unfollowed := true, recurses := true, named := ["peloton/code.operands", "peloton/code.spans"], apart := false, laid := [("peloton/code.operands", laid_peloton_code_operands), ("peloton/code.spans", laid_peloton_code_spans)] }
def SerialScopesSaid : Prop := serialScopesRow.holds Tryd.pinned (OpenSpec.ofChange serialScopesSpec)

/-- ITS FALSE NEIGHBOUR: 'it returns false'. Refute it at one input. -/
def serialScopesWrong : ChangeSpec := { name := "serialScopes", fn := fun _ => fun
  | [d1, d2, d3] => { results := [.lit (.bool false)], args := [d1, d2, d3] }
  | _ => none }
def SerialScopesWrongFalsely : Prop := serialScopesRow.holds Tryd.pinned (OpenSpec.ofChange serialScopesWrong)

/- THE SECOND FORM. 'bulk': how many values and letters a reading holds, each counted each time it is reached (what is shared counts as often as it is met; a slice's spare places count too). A statement '..UptoSaid' is the law's where the arguments, and the package variables that the reading takes, are together of bulk at most 1048576: NARROWER than '..Said'. Prove '..Said' where nothing that the law and all that it calls make is longer than what came in: it says more and counts as full. Else prove '..UptoSaid'. A law counts once. -/
mutual
def uptoBulk {H : Type} : DataW H → Nat
  | .lit (.string bytes) => bytes.length + 1
  | .lit _ => 1
  | .nil => 1
  | .ptr d => uptoBulk d + 1
  | .slice elems spare => uptoBulkAll elems + uptoBulkAll spare + 1
  | .agg parts => uptoBulkAll parts + 1
  | .iface _ d => uptoBulk d + 1
  | .map entries => uptoBulkEntries entries + 1
  | .held _ => 1
def uptoBulkAll {H : Type} : List (DataW H) → Nat
  | [] => 0
  | d :: r => uptoBulk d + uptoBulkAll r
def uptoBulkEntries {H : Type} : List (Lit × DataW H) → Nat
  | [] => 0
  | x :: r => uptoBulkEntry x + uptoBulkEntries r
def uptoBulkEntry {H : Type} : Lit × DataW H → Nat
  | (.string bytes, d) => bytes.length + uptoBulk d + 1
  | (_, d) => uptoBulk d + 1
 end
def uptoSmall : (H : Type) → List (DataW H) → Bool := fun _ ds => decide (uptoBulkAll ds ≤ 1048576)
def OpenSpec.upto (s : _root_.Go.ChangeSpec) : _root_.Go.OpenSpec := { _root_.Go.OpenSpec.ofChange s with cond := some uptoSmall }

/-- 'pelotonlaw06.SerialFuel', WHERE WHAT IT READS IS OF BULK AT MOST 1048576: true; the input reads as it did. -/
def serialFuelUptoRow : OpenClaim := { program := "ytpjcdjooiaefdaadoor", sum := "7c5bebd76624ca7091152538dd28b5d7e197a4546edbab52d663750dd3607d87", func := "peloton/pelotonlaw06.SerialFuel", spec := "serialFuel", unfollowed := true, recurses := true, named := ["peloton/code.operands", "peloton/code.spans"], apart := false, laid := [("peloton/code.operands", laid_peloton_code_operands), ("peloton/code.spans", laid_peloton_code_spans)], narrowed := true }
def SerialFuelUptoSaid : Prop := serialFuelUptoRow.holds Tryd.pinned (OpenSpec.upto serialFuelSpec)

/-- 'pelotonlaw06.SerialPlain', WHERE WHAT IT READS IS OF BULK AT MOST 1048576: true; the input reads as it did. -/
def serialPlainUptoRow : OpenClaim := { program := "ytpjcdjooiaefdaadoor", sum := "7c5bebd76624ca7091152538dd28b5d7e197a4546edbab52d663750dd3607d87", func := "peloton/pelotonlaw06.SerialPlain", spec := "serialPlain", unfollowed := true, recurses := true, named := ["peloton/code.operands", "peloton/code.spans"], apart := false, laid := [("peloton/code.operands", laid_peloton_code_operands), ("peloton/code.spans", laid_peloton_code_spans)], narrowed := true }
def SerialPlainUptoSaid : Prop := serialPlainUptoRow.holds Tryd.pinned (OpenSpec.upto serialPlainSpec)

/-- 'pelotonlaw06.SerialTwice', WHERE WHAT IT READS IS OF BULK AT MOST 1048576: true; the input reads as it did. -/
def serialTwiceUptoRow : OpenClaim := { program := "ytpjcdjooiaefdaadoor", sum := "7c5bebd76624ca7091152538dd28b5d7e197a4546edbab52d663750dd3607d87", func := "peloton/pelotonlaw06.SerialTwice", spec := "serialTwice", unfollowed := true, recurses := true, named := ["peloton/code.operands", "peloton/code.spans"], apart := false, laid := [("peloton/code.operands", laid_peloton_code_operands), ("peloton/code.spans", laid_peloton_code_spans)], narrowed := true }
def SerialTwiceUptoSaid : Prop := serialTwiceUptoRow.holds Tryd.pinned (OpenSpec.upto serialTwiceSpec)

/-- 'pelotonlaw06.SerialScopes', WHERE WHAT IT READS IS OF BULK AT MOST 1048576: true; the input reads as it did. -/
def serialScopesUptoRow : OpenClaim := { program := "ytpjcdjooiaefdaadoor", sum := "7c5bebd76624ca7091152538dd28b5d7e197a4546edbab52d663750dd3607d87", func := "peloton/pelotonlaw06.SerialScopes", spec := "serialScopes", unfollowed := true, recurses := true, named := ["peloton/code.operands", "peloton/code.spans"], apart := false, laid := [("peloton/code.operands", laid_peloton_code_operands), ("peloton/code.spans", laid_peloton_code_spans)], narrowed := true }
def SerialScopesUptoSaid : Prop := serialScopesUptoRow.holds Tryd.pinned (OpenSpec.upto serialScopesSpec)

end Rows
end Go.Proofs.YtpjcdjooiaefdaaDoor
