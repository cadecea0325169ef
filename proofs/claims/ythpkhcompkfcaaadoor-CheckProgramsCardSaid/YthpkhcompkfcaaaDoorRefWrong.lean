/-
  What is wrong with an instruction, as the document has it.
-/
import Derived.Test.YthpkhcompkfcaaaDoorRefWrongB
import Derived.Test.YthpkhcompkfcaaaDoorRefWrongC
import Derived.Test.YthpkhcompkfcaaaDoorRefWrongD
import Derived.Test.YthpkhcompkfcaaaDoorRefWrongE
import Derived.Test.YthpkhcompkfcaaaDoorRefWrongF
namespace Go.Proofs.YthpkhcompkfcaaaDoor
open Go.RowKit

theorem rwrong_any (A : Option Addr) (n c : Nat) (P : List Fn) (f : Fn) (Af : Option Addr) (ln cf i : Nat) (D : Option Addr) (cd : Nat) (H : Option Addr) (ch : Nat) (x : Ins) (w : World) (hn : P.length = n) (hln : f.code.length = ln) (hle : ln ≤ 1000) (hx : f.code[i]? = some x) (hc : chk x = 0)
    (hp : Prg w w.heap.size A P) (hcod : Cod w w.heap.size Af f.code) (hD : Nums w w.heap.size D (dep 0 f.code)) (hH : Nums w w.heap.size H (natsI (heldL f))) (hne : ∀ (k : Nat) g, P[k]? = some g → 0 ≤ g.needs ∧ g.needs ≤ 255) :
    Calls Tryd.prog 35 #[.agg #[.slice A n c], .agg #[.int .i64 f.needs, .slice Af ln cf], .int .i64 i, .slice D ln cd, .slice H ln ch] w (WrPost w (wrongAt P f i x)) := by
  by_cases h16 : x.op = 16
  · exact rwrong_16 A n c P f Af ln cf i D cd H ch x w hn hln hle hx hc hp hcod hD hH hne h16
  by_cases h15 : x.op = 15
  · exact rwrong_15 A n c P f Af ln cf i D cd H ch x w hn hln hle hx hc hp hcod hD hH hne h15
  by_cases h12 : x.op = 12
  · exact rwrong_12 A n c P f Af ln cf i D cd H ch x w hn hln hle hx hc hp hcod hD hH hne h12
  by_cases h13 : x.op = 13
  · exact rwrong_13 A n c P f Af ln cf i D cd H ch x w hn hln hle hx hc hp hcod hD hH hne h13
  by_cases h6 : x.op = 6
  · exact rwrong_6 A n c P f Af ln cf i D cd H ch x w hn hln hle hx hc hp hcod hD hH hne h6
  by_cases h7 : x.op = 7
  · exact rwrong_7 A n c P f Af ln cf i D cd H ch x w hn hln hle hx hc hp hcod hD hH hne h7
  by_cases h9 : x.op = 9
  · exact rwrong_9 A n c P f Af ln cf i D cd H ch x w hn hln hle hx hc hp hcod hD hH hne h9
  by_cases h10 : x.op = 10
  · exact rwrong_10 A n c P f Af ln cf i D cd H ch x w hn hln hle hx hc hp hcod hD hH hne h10
  by_cases h8 : x.op = 8
  · exact rwrong_8 A n c P f Af ln cf i D cd H ch x w hn hln hle hx hc hp hcod hD hH hne h8
  · exact rwrong_o A n c P f Af ln cf i D cd H ch x w hn hln hle hx hc hp hcod hD hH hne h16 h15 h12 h13 h6 h7 h9 h10 h8

end Go.Proofs.YthpkhcompkfcaaaDoor
