/-
  NARROWER THAN 'FOR EVERY INPUT', by the rows' own cells (each row's printed sentence says how): CpuDoes: laid · CpuRuns: laid · CpuParts: laid · CpuKeeps: laid · CpuNil: laid.
  DERIVED. THE GIVEN ROWS OF THIS SEAT. 5 by the template 'for every input the law returns true; each argument reads behind the call as it read before'; 0 by the template 'total and deterministic' (their statements: YtoalgajbahlpjaaDoorTotals.lean).
  GIVEN WITH THE SEED: the statements are not yours to turn. If you find one false, say at which input.
  Laid BY PROGRAM, IN A SANDBOX (cutbox-rows.mjs): the forced cells as the released guide's own fill.sh prints them over the translation d37d637a6bac3fa3… (all of the seat's roots in one cut). By AI agents, Wed Nov 11 2026. No macro, syntax, notation, axiom, sorry.
-/
import Derived.Test.YtoalgajbahlpjaaDoorChecked
import GoSem.Claim
import GoSem.ClaimJoined
import GoSem.ClaimMapViews
import Derived.JoinedTies
import Derived.KernelRfl
namespace Go.Proofs.YtoalgajbahlpjaaDoor
/- THE CELL 'sum', in the pinned program and in every row, IS THE sha256 OF THE DUMP (.gsa) THAT YtoalgajbahlpjaaDoorProg.lean LOADS. Nothing in Lean hashes anything: it is a label: what it is worth is what the hold of that sum in a sandbox is worth. -/
noncomputable def Tryd.pinned : Pinned := { name := "ytoalgajbahlpjaadoor", sum := "d37d637a6bac3fa3668fc041b22d80eaa50239de719dd7d266e695ea29d7cb1b", checked := Tryd.checked }
namespace Rows
def none {H : Type} : Left H := { results := [], args := [] }

/- WHAT THE LISTED PACKAGE-LEVEL VARIABLES READ AS WHEN THE CALL BEGINS. Each datum BY PROGRAM (the guide's laid-datum.mjs) off the statement by which the dump's own 'gosem.cut.vars' lays the variable. In a bare row this is a premise. The card (YtoalgajbahlpjaaDoorCards.lean) ties it to the program's text. -/
def laid_taffrail_isa_rows {H : Type} : DataW H := .agg [.agg [.lit (.string []), .lit (.int .i64 0), .lit (.int .i64 0)], .agg [.lit (.string [115, 101, 116]), .lit (.int .i64 17), .lit (.int .i64 1)], .agg [.lit (.string [109, 111, 118]), .lit (.int .i64 3), .lit (.int .i64 1)], .agg [.lit (.string [97, 100, 100]), .lit (.int .i64 7), .lit (.int .i64 1)], .agg [.lit (.string [115, 117, 98]), .lit (.int .i64 7), .lit (.int .i64 1)], .agg [.lit (.string [109, 117, 108]), .lit (.int .i64 7), .lit (.int .i64 3)], .agg [.lit (.string [100, 105, 118]), .lit (.int .i64 7), .lit (.int .i64 8)], .agg [.lit (.string [109, 111, 100]), .lit (.int .i64 7), .lit (.int .i64 8)], .agg [.lit (.string [97, 110, 100]), .lit (.int .i64 7), .lit (.int .i64 1)], .agg [.lit (.string [111, 114]), .lit (.int .i64 7), .lit (.int .i64 1)], .agg [.lit (.string [120, 111, 114]), .lit (.int .i64 7), .lit (.int .i64 1)], .agg [.lit (.string [115, 104, 108]), .lit (.int .i64 7), .lit (.int .i64 1)], .agg [.lit (.string [115, 104, 114]), .lit (.int .i64 7), .lit (.int .i64 1)], .agg [.lit (.string [108, 116]), .lit (.int .i64 7), .lit (.int .i64 1)], .agg [.lit (.string [101, 113]), .lit (.int .i64 7), .lit (.int .i64 1)], .agg [.lit (.string [108, 111, 97, 100]), .lit (.int .i64 19), .lit (.int .i64 2)], .agg [.lit (.string [115, 116, 111, 114, 101]), .lit (.int .i64 19), .lit (.int .i64 2)], .agg [.lit (.string [106, 109, 112]), .lit (.int .i64 16), .lit (.int .i64 1)], .agg [.lit (.string [106, 122]), .lit (.int .i64 17), .lit (.int .i64 1)], .agg [.lit (.string [106, 110, 122]), .lit (.int .i64 17), .lit (.int .i64 1)], .agg [.lit (.string [119, 111, 114, 107]), .lit (.int .i64 16), .lit (.int .i64 (-1))], .agg [.lit (.string [105, 110]), .lit (.int .i64 17), .lit (.int .i64 6)], .agg [.lit (.string [111, 117, 116]), .lit (.int .i64 17), .lit (.int .i64 6)], .agg [.lit (.string [109, 97, 115, 107]), .lit (.int .i64 1), .lit (.int .i64 1)], .agg [.lit (.string [115, 101, 108, 102]), .lit (.int .i64 1), .lit (.int .i64 1)], .agg [.lit (.string [110, 111, 119]), .lit (.int .i64 1), .lit (.int .i64 1)], .agg [.lit (.string [112, 111, 115, 116]), .lit (.int .i64 17), .lit (.int .i64 12)], .agg [.lit (.string [115, 101, 110, 100]), .lit (.int .i64 31), .lit (.int .i64 12)], .agg [.lit (.string [114, 101, 99, 118]), .lit (.int .i64 31), .lit (.int .i64 12)], .agg [.lit (.string [97, 114, 109]), .lit (.int .i64 21), .lit (.int .i64 12)], .agg [.lit (.string [100, 105, 115, 97, 114, 109]), .lit (.int .i64 17), .lit (.int .i64 12)], .agg [.lit (.string [108, 111, 99, 107]), .lit (.int .i64 17), .lit (.int .i64 12)], .agg [.lit (.string [117, 110, 108, 111, 99, 107]), .lit (.int .i64 17), .lit (.int .i64 12)], .agg [.lit (.string [119, 97, 105, 116]), .lit (.int .i64 29), .lit (.int .i64 12)], .agg [.lit (.string [115, 108, 101, 101, 112]), .lit (.int .i64 5), .lit (.int .i64 12)], .agg [.lit (.string [121, 105, 101, 108, 100]), .lit (.int .i64 0), .lit (.int .i64 12)], .agg [.lit (.string [110, 101, 120, 116]), .lit (.int .i64 0), .lit (.int .i64 12)], .agg [.lit (.string [104, 97, 108, 116]), .lit (.int .i64 0), .lit (.int .i64 12)], .agg [.lit (.string [105, 114, 101, 116]), .lit (.int .i64 0), .lit (.int .i64 4)]]

/-- 'taffraillaw13.CpuDoes': WHATEVER THE INPUT: true; the input reads as it did. -/
def cpuDoesSpec : ChangeSpec := { name := "cpuDoes", fn := fun _ => fun
  | [d1, d2] => { results := [.lit (.bool true)], args := [d1, d2] }
  | _ => none }
def cpuDoesRow : OpenClaim := { program := "ytoalgajbahlpjaadoor", sum := "d37d637a6bac3fa3668fc041b22d80eaa50239de719dd7d266e695ea29d7cb1b", func := "taffrail/taffraillaw13.CpuDoes", spec := "cpuDoes", named := ["taffrail/isa.rows"], apart := false, laid := [("taffrail/isa.rows", laid_taffrail_isa_rows)] }
def CpuDoesSaid : Prop := cpuDoesRow.holds Tryd.pinned (OpenSpec.ofChange cpuDoesSpec)

/-- ITS FALSE NEIGHBOUR: 'it returns false'. Refute it at one input. -/
def cpuDoesWrong : ChangeSpec := { name := "cpuDoes", fn := fun _ => fun
  | [d1, d2] => { results := [.lit (.bool false)], args := [d1, d2] }
  | _ => none }
def CpuDoesWrongFalsely : Prop := cpuDoesRow.holds Tryd.pinned (OpenSpec.ofChange cpuDoesWrong)

/-- 'taffraillaw13.CpuRuns': WHATEVER THE INPUT: true; the input reads as it did. -/
def cpuRunsSpec : ChangeSpec := { name := "cpuRuns", fn := fun _ => fun
  | [d1, d2, d3] => { results := [.lit (.bool true)], args := [d1, d2, d3] }
  | _ => none }
def cpuRunsRow : OpenClaim := { program := "ytoalgajbahlpjaadoor", sum := "d37d637a6bac3fa3668fc041b22d80eaa50239de719dd7d266e695ea29d7cb1b", func := "taffrail/taffraillaw13.CpuRuns", spec := "cpuRuns", named := ["taffrail/isa.rows"], apart := false, laid := [("taffrail/isa.rows", laid_taffrail_isa_rows)] }
def CpuRunsSaid : Prop := cpuRunsRow.holds Tryd.pinned (OpenSpec.ofChange cpuRunsSpec)

/-- ITS FALSE NEIGHBOUR: 'it returns false'. Refute it at one input. -/
def cpuRunsWrong : ChangeSpec := { name := "cpuRuns", fn := fun _ => fun
  | [d1, d2, d3] => { results := [.lit (.bool false)], args := [d1, d2, d3] }
  | _ => none }
def CpuRunsWrongFalsely : Prop := cpuRunsRow.holds Tryd.pinned (OpenSpec.ofChange cpuRunsWrong)

/-- 'taffraillaw13.CpuParts': WHATEVER THE INPUT: true; the input reads as it did. -/
def cpuPartsSpec : ChangeSpec := { name := "cpuParts", fn := fun _ => fun
  | [d1, d2, d3] => { results := [.lit (.bool true)], args := [d1, d2, d3] }
  | _ => none }
def cpuPartsRow : OpenClaim := { program := "ytoalgajbahlpjaadoor", sum := "d37d637a6bac3fa3668fc041b22d80eaa50239de719dd7d266e695ea29d7cb1b", func := "taffrail/taffraillaw13.CpuParts", spec := "cpuParts", named := ["taffrail/isa.rows"], apart := false, laid := [("taffrail/isa.rows", laid_taffrail_isa_rows)] }
def CpuPartsSaid : Prop := cpuPartsRow.holds Tryd.pinned (OpenSpec.ofChange cpuPartsSpec)

/-- ITS FALSE NEIGHBOUR: 'it returns false'. Refute it at one input. -/
def cpuPartsWrong : ChangeSpec := { name := "cpuParts", fn := fun _ => fun
  | [d1, d2, d3] => { results := [.lit (.bool false)], args := [d1, d2, d3] }
  | _ => none }
def CpuPartsWrongFalsely : Prop := cpuPartsRow.holds Tryd.pinned (OpenSpec.ofChange cpuPartsWrong)

/-- 'taffraillaw13.CpuKeeps': WHATEVER THE INPUT: true; the input reads as it did. -/
def cpuKeepsSpec : ChangeSpec := { name := "cpuKeeps", fn := fun _ => fun
  | [d1, d2] => { results := [.lit (.bool true)], args := [d1, d2] }
  | _ => none }
def cpuKeepsRow : OpenClaim := { program := "ytoalgajbahlpjaadoor", sum := "d37d637a6bac3fa3668fc041b22d80eaa50239de719dd7d266e695ea29d7cb1b", func := "taffrail/taffraillaw13.CpuKeeps", spec := "cpuKeeps", named := ["taffrail/isa.rows"], apart := false, laid := [("taffrail/isa.rows", laid_taffrail_isa_rows)] }
def CpuKeepsSaid : Prop := cpuKeepsRow.holds Tryd.pinned (OpenSpec.ofChange cpuKeepsSpec)

/-- ITS FALSE NEIGHBOUR: 'it returns false'. Refute it at one input. -/
def cpuKeepsWrong : ChangeSpec := { name := "cpuKeeps", fn := fun _ => fun
  | [d1, d2] => { results := [.lit (.bool false)], args := [d1, d2] }
  | _ => none }
def CpuKeepsWrongFalsely : Prop := cpuKeepsRow.holds Tryd.pinned (OpenSpec.ofChange cpuKeepsWrong)

/-- 'taffraillaw13.CpuNil': WHATEVER THE INPUT: true; the input reads as it did. -/
def cpuNilSpec : ChangeSpec := { name := "cpuNil", fn := fun _ => fun
  | [d1, d2] => { results := [.lit (.bool true)], args := [d1, d2] }
  | _ => none }
def cpuNilRow : OpenClaim := { program := "ytoalgajbahlpjaadoor", sum := "d37d637a6bac3fa3668fc041b22d80eaa50239de719dd7d266e695ea29d7cb1b", func := "taffrail/taffraillaw13.CpuNil", spec := "cpuNil", named := ["taffrail/isa.rows"], apart := false, laid := [("taffrail/isa.rows", laid_taffrail_isa_rows)] }
def CpuNilSaid : Prop := cpuNilRow.holds Tryd.pinned (OpenSpec.ofChange cpuNilSpec)

/-- ITS FALSE NEIGHBOUR: 'it returns false'. Refute it at one input. -/
def cpuNilWrong : ChangeSpec := { name := "cpuNil", fn := fun _ => fun
  | [d1, d2] => { results := [.lit (.bool false)], args := [d1, d2] }
  | _ => none }
def CpuNilWrongFalsely : Prop := cpuNilRow.holds Tryd.pinned (OpenSpec.ofChange cpuNilWrong)

/- THE SECOND FORM. 'bulk': how many values and letters a reading holds, each counted each time it is reached (what is shared counts as often as it is met; a slice's spare places count too). A statement '..UptoSaid' is the law's where the arguments, and the package variables that the reading takes, are together of bulk at most 1048576: NARROWER than '..Said'. Prove '..Said' where nothing that the law and all that it calls make is longer than what came in: it says more and counts as full. Else prove '..UptoSaid'. A law counts once. -/
mutual
def uptoBulk {H : Type} : DataW H → Nat
  | .lit (.string bytes) => bytes.length + 1
  | .lit _ => 1
  | .nil => 1
  | .ptr d => uptoBulk d + 1
  | .slice elems spare => uptoBulkAll elems + uptoBulkAll spare + 1
  | .agg parts => uptoBulkAll parts + 1
  | .iface _ d => uptoBulk d + 1
  | .map entries => uptoBulkEntries entries + 1
  | .held _ => 1
def uptoBulkAll {H : Type} : List (DataW H) → Nat
  | [] => 0
  | d :: r => uptoBulk d + uptoBulkAll r
def uptoBulkEntries {H : Type} : List (Lit × DataW H) → Nat
  | [] => 0
  | x :: r => uptoBulkEntry x + uptoBulkEntries r
def uptoBulkEntry {H : Type} : Lit × DataW H → Nat
  | (.string bytes, d) => bytes.length + uptoBulk d + 1
  | (_, d) => uptoBulk d + 1
 end
def uptoSmall : (H : Type) → List (DataW H) → Bool := fun _ ds => decide (uptoBulkAll ds ≤ 1048576)
def OpenSpec.upto (s : _root_.Go.ChangeSpec) : _root_.Go.OpenSpec := { _root_.Go.OpenSpec.ofChange s with cond := some uptoSmall }

/-- 'taffraillaw13.CpuDoes', WHERE WHAT IT READS IS OF BULK AT MOST 1048576: true; the input reads as it did. -/
def cpuDoesUptoRow : OpenClaim := { program := "ytoalgajbahlpjaadoor", sum := "d37d637a6bac3fa3668fc041b22d80eaa50239de719dd7d266e695ea29d7cb1b", func := "taffrail/taffraillaw13.CpuDoes", spec := "cpuDoes", named := ["taffrail/isa.rows"], apart := false, laid := [("taffrail/isa.rows", laid_taffrail_isa_rows)], narrowed := true }
def CpuDoesUptoSaid : Prop := cpuDoesUptoRow.holds Tryd.pinned (OpenSpec.upto cpuDoesSpec)

/-- 'taffraillaw13.CpuRuns', WHERE WHAT IT READS IS OF BULK AT MOST 1048576: true; the input reads as it did. -/
def cpuRunsUptoRow : OpenClaim := { program := "ytoalgajbahlpjaadoor", sum := "d37d637a6bac3fa3668fc041b22d80eaa50239de719dd7d266e695ea29d7cb1b", func := "taffrail/taffraillaw13.CpuRuns", spec := "cpuRuns", named := ["taffrail/isa.rows"], apart := false, laid := [("taffrail/isa.rows", laid_taffrail_isa_rows)], narrowed := true }
def CpuRunsUptoSaid : Prop := cpuRunsUptoRow.holds Tryd.pinned (OpenSpec.upto cpuRunsSpec)

/-- 'taffraillaw13.CpuParts', WHERE WHAT IT READS IS OF BULK AT MOST 1048576: true; the input reads as it did. -/
def cpuPartsUptoRow : OpenClaim := { program := "ytoalgajbahlpjaadoor", sum := "d37d637a6bac3fa3668fc041b22d80eaa50239de719dd7d266e695ea29d7cb1b", func := "taffrail/taffraillaw13.CpuParts", spec := "cpuParts", named := ["taffrail/isa.rows"], apart := false, laid := [("taffrail/isa.rows", laid_taffrail_isa_rows)], narrowed := true }
def CpuPartsUptoSaid : Prop := cpuPartsUptoRow.holds Tryd.pinned (OpenSpec.upto cpuPartsSpec)

/-- 'taffraillaw13.CpuKeeps', WHERE WHAT IT READS IS OF BULK AT MOST 1048576: true; the input reads as it did. -/
def cpuKeepsUptoRow : OpenClaim := { program := "ytoalgajbahlpjaadoor", sum := "d37d637a6bac3fa3668fc041b22d80eaa50239de719dd7d266e695ea29d7cb1b", func := "taffrail/taffraillaw13.CpuKeeps", spec := "cpuKeeps", named := ["taffrail/isa.rows"], apart := false, laid := [("taffrail/isa.rows", laid_taffrail_isa_rows)], narrowed := true }
def CpuKeepsUptoSaid : Prop := cpuKeepsUptoRow.holds Tryd.pinned (OpenSpec.upto cpuKeepsSpec)

/-- 'taffraillaw13.CpuNil', WHERE WHAT IT READS IS OF BULK AT MOST 1048576: true; the input reads as it did. -/
def cpuNilUptoRow : OpenClaim := { program := "ytoalgajbahlpjaadoor", sum := "d37d637a6bac3fa3668fc041b22d80eaa50239de719dd7d266e695ea29d7cb1b", func := "taffrail/taffraillaw13.CpuNil", spec := "cpuNil", named := ["taffrail/isa.rows"], apart := false, laid := [("taffrail/isa.rows", laid_taffrail_isa_rows)], narrowed := true }
def CpuNilUptoSaid : Prop := cpuNilUptoRow.holds Tryd.pinned (OpenSpec.upto cpuNilSpec)

end Rows
end Go.Proofs.YtoalgajbahlpjaaDoor
