/-
  NARROWER THAN 'FOR EVERY INPUT', by the rows' own cells (each row's printed sentence says how): IsaForms: laid · IsaChecks: laid · IsaUses: laid · IsaNames: laid · IsaWays: laid.
  DERIVED. THE GIVEN ROWS OF THIS SEAT. 5 by the template 'for every input the law returns true; each argument reads behind the call as it read before'; 0 by the template 'total and deterministic' (their statements: YtgbldgoaocfljaaDoorTotals.lean).
  GIVEN WITH THE SEED: the statements are not yours to turn. If you find one false, say at which input.
  Laid BY PROGRAM, IN A SANDBOX (cutbox-rows.mjs): the forced cells as the released guide's own fill.sh prints them over the translation 346638b51d8f8048… (all of the seat's roots in one cut). By AI agents, Wed Nov 11 2026. No macro, syntax, notation, axiom, sorry.
-/
import Derived.Test.YtgbldgoaocfljaaDoorChecked
import GoSem.Claim
import GoSem.ClaimJoined
import GoSem.ClaimMapViews
import Derived.JoinedTies
import Derived.KernelRfl
namespace Go.Proofs.YtgbldgoaocfljaaDoor
/- THE CELL 'sum', in the pinned program and in every row, IS THE sha256 OF THE DUMP (.gsa) THAT YtgbldgoaocfljaaDoorProg.lean LOADS. Nothing in Lean hashes anything: it is a label: what it is worth is what the hold of that sum in a sandbox is worth. -/
noncomputable def Tryd.pinned : Pinned := { name := "ytgbldgoaocfljaadoor", sum := "346638b51d8f8048462394ed48ade509c00c108277ce2d196e15f46b3ed03ca3", checked := Tryd.checked }
namespace Rows
def none {H : Type} : Left H := { results := [], args := [] }

/- WHAT THE LISTED PACKAGE-LEVEL VARIABLES READ AS WHEN THE CALL BEGINS. Each datum BY PROGRAM (the guide's laid-datum.mjs) off the statement by which the dump's own 'gosem.cut.vars' lays the variable. In a bare row this is a premise. The card (YtgbldgoaocfljaaDoorCards.lean) ties it to the program's text. -/
def laid_taffrail_isa_rows {H : Type} : DataW H := .agg [.agg [.lit (.string []), .lit (.int .i64 0), .lit (.int .i64 0)], .agg [.lit (.string [115, 101, 116]), .lit (.int .i64 17), .lit (.int .i64 1)], .agg [.lit (.string [109, 111, 118]), .lit (.int .i64 3), .lit (.int .i64 1)], .agg [.lit (.string [97, 100, 100]), .lit (.int .i64 7), .lit (.int .i64 1)], .agg [.lit (.string [115, 117, 98]), .lit (.int .i64 7), .lit (.int .i64 1)], .agg [.lit (.string [109, 117, 108]), .lit (.int .i64 7), .lit (.int .i64 3)], .agg [.lit (.string [100, 105, 118]), .lit (.int .i64 7), .lit (.int .i64 8)], .agg [.lit (.string [109, 111, 100]), .lit (.int .i64 7), .lit (.int .i64 8)], .agg [.lit (.string [97, 110, 100]), .lit (.int .i64 7), .lit (.int .i64 1)], .agg [.lit (.string [111, 114]), .lit (.int .i64 7), .lit (.int .i64 1)], .agg [.lit (.string [120, 111, 114]), .lit (.int .i64 7), .lit (.int .i64 1)], .agg [.lit (.string [115, 104, 108]), .lit (.int .i64 7), .lit (.int .i64 1)], .agg [.lit (.string [115, 104, 114]), .lit (.int .i64 7), .lit (.int .i64 1)], .agg [.lit (.string [108, 116]), .lit (.int .i64 7), .lit (.int .i64 1)], .agg [.lit (.string [101, 113]), .lit (.int .i64 7), .lit (.int .i64 1)], .agg [.lit (.string [108, 111, 97, 100]), .lit (.int .i64 19), .lit (.int .i64 2)], .agg [.lit (.string [115, 116, 111, 114, 101]), .lit (.int .i64 19), .lit (.int .i64 2)], .agg [.lit (.string [106, 109, 112]), .lit (.int .i64 16), .lit (.int .i64 1)], .agg [.lit (.string [106, 122]), .lit (.int .i64 17), .lit (.int .i64 1)], .agg [.lit (.string [106, 110, 122]), .lit (.int .i64 17), .lit (.int .i64 1)], .agg [.lit (.string [119, 111, 114, 107]), .lit (.int .i64 16), .lit (.int .i64 (-1))], .agg [.lit (.string [105, 110]), .lit (.int .i64 17), .lit (.int .i64 6)], .agg [.lit (.string [111, 117, 116]), .lit (.int .i64 17), .lit (.int .i64 6)], .agg [.lit (.string [109, 97, 115, 107]), .lit (.int .i64 1), .lit (.int .i64 1)], .agg [.lit (.string [115, 101, 108, 102]), .lit (.int .i64 1), .lit (.int .i64 1)], .agg [.lit (.string [110, 111, 119]), .lit (.int .i64 1), .lit (.int .i64 1)], .agg [.lit (.string [112, 111, 115, 116]), .lit (.int .i64 17), .lit (.int .i64 12)], .agg [.lit (.string [115, 101, 110, 100]), .lit (.int .i64 31), .lit (.int .i64 12)], .agg [.lit (.string [114, 101, 99, 118]), .lit (.int .i64 31), .lit (.int .i64 12)], .agg [.lit (.string [97, 114, 109]), .lit (.int .i64 21), .lit (.int .i64 12)], .agg [.lit (.string [100, 105, 115, 97, 114, 109]), .lit (.int .i64 17), .lit (.int .i64 12)], .agg [.lit (.string [108, 111, 99, 107]), .lit (.int .i64 17), .lit (.int .i64 12)], .agg [.lit (.string [117, 110, 108, 111, 99, 107]), .lit (.int .i64 17), .lit (.int .i64 12)], .agg [.lit (.string [119, 97, 105, 116]), .lit (.int .i64 29), .lit (.int .i64 12)], .agg [.lit (.string [115, 108, 101, 101, 112]), .lit (.int .i64 5), .lit (.int .i64 12)], .agg [.lit (.string [121, 105, 101, 108, 100]), .lit (.int .i64 0), .lit (.int .i64 12)], .agg [.lit (.string [110, 101, 120, 116]), .lit (.int .i64 0), .lit (.int .i64 12)], .agg [.lit (.string [104, 97, 108, 116]), .lit (.int .i64 0), .lit (.int .i64 12)], .agg [.lit (.string [105, 114, 101, 116]), .lit (.int .i64 0), .lit (.int .i64 4)]]

/-- 'taffraillaw10.IsaForms': WHATEVER THE INPUT: true; the input reads as it did. -/
def isaFormsSpec : ChangeSpec := { name := "isaForms", fn := fun _ => fun
  | [d] => { results := [.lit (.bool true)], args := [d] }
  | _ => none }
def isaFormsRow : OpenClaim := { program := "ytgbldgoaocfljaadoor", sum := "346638b51d8f8048462394ed48ade509c00c108277ce2d196e15f46b3ed03ca3", func := "taffrail/taffraillaw10.IsaForms", spec := "isaForms", named := ["taffrail/isa.rows"], apart := false, laid := [("taffrail/isa.rows", laid_taffrail_isa_rows)] }
def IsaFormsSaid : Prop := isaFormsRow.holds Tryd.pinned (OpenSpec.ofChange isaFormsSpec)

/-- ITS FALSE NEIGHBOUR: 'it returns false'. Refute it at one input. -/
def isaFormsWrong : ChangeSpec := { name := "isaForms", fn := fun _ => fun
  | [d] => { results := [.lit (.bool false)], args := [d] }
  | _ => none }
def IsaFormsWrongFalsely : Prop := isaFormsRow.holds Tryd.pinned (OpenSpec.ofChange isaFormsWrong)

/-- 'taffraillaw10.IsaChecks': WHATEVER THE INPUT: true; the input reads as it did. -/
def isaChecksSpec : ChangeSpec := { name := "isaChecks", fn := fun _ => fun
  | [d1, d2, d3] => { results := [.lit (.bool true)], args := [d1, d2, d3] }
  | _ => none }
def isaChecksRow : OpenClaim := { program := "ytgbldgoaocfljaadoor", sum := "346638b51d8f8048462394ed48ade509c00c108277ce2d196e15f46b3ed03ca3", func := "taffrail/taffraillaw10.IsaChecks", spec := "isaChecks", named := ["taffrail/isa.rows"], apart := false, laid := [("taffrail/isa.rows", laid_taffrail_isa_rows)] }
def IsaChecksSaid : Prop := isaChecksRow.holds Tryd.pinned (OpenSpec.ofChange isaChecksSpec)

/-- ITS FALSE NEIGHBOUR: 'it returns false'. Refute it at one input. -/
def isaChecksWrong : ChangeSpec := { name := "isaChecks", fn := fun _ => fun
  | [d1, d2, d3] => { results := [.lit (.bool false)], args := [d1, d2, d3] }
  | _ => none }
def IsaChecksWrongFalsely : Prop := isaChecksRow.holds Tryd.pinned (OpenSpec.ofChange isaChecksWrong)

/-- 'taffraillaw10.IsaUses': WHATEVER THE INPUT: true; the input reads as it did. -/
def isaUsesSpec : ChangeSpec := { name := "isaUses", fn := fun _ => fun
  | [d1, d2] => { results := [.lit (.bool true)], args := [d1, d2] }
  | _ => none }
def isaUsesRow : OpenClaim := { program := "ytgbldgoaocfljaadoor", sum := "346638b51d8f8048462394ed48ade509c00c108277ce2d196e15f46b3ed03ca3", func := "taffrail/taffraillaw10.IsaUses", spec := "isaUses", named := ["taffrail/isa.rows"], apart := false, laid := [("taffrail/isa.rows", laid_taffrail_isa_rows)] }
def IsaUsesSaid : Prop := isaUsesRow.holds Tryd.pinned (OpenSpec.ofChange isaUsesSpec)

/-- ITS FALSE NEIGHBOUR: 'it returns false'. Refute it at one input. -/
def isaUsesWrong : ChangeSpec := { name := "isaUses", fn := fun _ => fun
  | [d1, d2] => { results := [.lit (.bool false)], args := [d1, d2] }
  | _ => none }
def IsaUsesWrongFalsely : Prop := isaUsesRow.holds Tryd.pinned (OpenSpec.ofChange isaUsesWrong)

/-- 'taffraillaw10.IsaNames': WHATEVER THE INPUT: true; the input reads as it did. -/
def isaNamesSpec : ChangeSpec := { name := "isaNames", fn := fun _ => fun
  | [d1, d2] => { results := [.lit (.bool true)], args := [d1, d2] }
  | _ => none }
def isaNamesRow : OpenClaim := { program := "ytgbldgoaocfljaadoor", sum := "346638b51d8f8048462394ed48ade509c00c108277ce2d196e15f46b3ed03ca3", func := "taffrail/taffraillaw10.IsaNames", spec := "isaNames", named := ["taffrail/isa.rows"], apart := false, laid := [("taffrail/isa.rows", laid_taffrail_isa_rows)] }
def IsaNamesSaid : Prop := isaNamesRow.holds Tryd.pinned (OpenSpec.ofChange isaNamesSpec)

/-- ITS FALSE NEIGHBOUR: 'it returns false'. Refute it at one input. -/
def isaNamesWrong : ChangeSpec := { name := "isaNames", fn := fun _ => fun
  | [d1, d2] => { results := [.lit (.bool false)], args := [d1, d2] }
  | _ => none }
def IsaNamesWrongFalsely : Prop := isaNamesRow.holds Tryd.pinned (OpenSpec.ofChange isaNamesWrong)

/-- 'taffraillaw10.IsaWays': WHATEVER THE INPUT: true; the input reads as it did. -/
def isaWaysSpec : ChangeSpec := { name := "isaWays", fn := fun _ => fun
  | [d1, d2, d3] => { results := [.lit (.bool true)], args := [d1, d2, d3] }
  | _ => none }
def isaWaysRow : OpenClaim := { program := "ytgbldgoaocfljaadoor", sum := "346638b51d8f8048462394ed48ade509c00c108277ce2d196e15f46b3ed03ca3", func := "taffrail/taffraillaw10.IsaWays", spec := "isaWays", named := ["taffrail/isa.rows"], apart := false, laid := [("taffrail/isa.rows", laid_taffrail_isa_rows)] }
def IsaWaysSaid : Prop := isaWaysRow.holds Tryd.pinned (OpenSpec.ofChange isaWaysSpec)

/-- ITS FALSE NEIGHBOUR: 'it returns false'. Refute it at one input. -/
def isaWaysWrong : ChangeSpec := { name := "isaWays", fn := fun _ => fun
  | [d1, d2, d3] => { results := [.lit (.bool false)], args := [d1, d2, d3] }
  | _ => none }
def IsaWaysWrongFalsely : Prop := isaWaysRow.holds Tryd.pinned (OpenSpec.ofChange isaWaysWrong)

/- THE SECOND FORM. 'bulk': how many values and letters a reading holds, each counted each time it is reached (what is shared counts as often as it is met; a slice's spare places count too). A statement '..UptoSaid' is the law's where the arguments, and the package variables that the reading takes, are together of bulk at most 1048576: NARROWER than '..Said'. Prove '..Said' where nothing that the law and all that it calls make is longer than what came in: it says more and counts as full. Else prove '..UptoSaid'. A law counts once. -/
mutual
def uptoBulk {H : Type} : DataW H → Nat
  | .lit (.string bytes) => bytes.length + 1
  | .lit _ => 1
  | .nil => 1
  | .ptr d => uptoBulk d + 1
  | .slice elems spare => uptoBulkAll elems + uptoBulkAll spare + 1
  | .agg parts => uptoBulkAll parts + 1
  | .iface _ d => uptoBulk d + 1
  | .map entries => uptoBulkEntries entries + 1
  | .held _ => 1
def uptoBulkAll {H : Type} : List (DataW H) → Nat
  | [] => 0
  | d :: r => uptoBulk d + uptoBulkAll r
def uptoBulkEntries {H : Type} : List (Lit × DataW H) → Nat
  | [] => 0
  | x :: r => uptoBulkEntry x + uptoBulkEntries r
def uptoBulkEntry {H : Type} : Lit × DataW H → Nat
  | (.string bytes, d) => bytes.length + uptoBulk d + 1
  | (_, d) => uptoBulk d + 1
 end
def uptoSmall : (H : Type) → List (DataW H) → Bool := fun _ ds => decide (uptoBulkAll ds ≤ 1048576)
def OpenSpec.upto (s : _root_.Go.ChangeSpec) : _root_.Go.OpenSpec := { _root_.Go.OpenSpec.ofChange s with cond := some uptoSmall }

/-- 'taffraillaw10.IsaForms', WHERE WHAT IT READS IS OF BULK AT MOST 1048576: true; the input reads as it did. -/
def isaFormsUptoRow : OpenClaim := { program := "ytgbldgoaocfljaadoor", sum := "346638b51d8f8048462394ed48ade509c00c108277ce2d196e15f46b3ed03ca3", func := "taffrail/taffraillaw10.IsaForms", spec := "isaForms", named := ["taffrail/isa.rows"], apart := false, laid := [("taffrail/isa.rows", laid_taffrail_isa_rows)], narrowed := true }
def IsaFormsUptoSaid : Prop := isaFormsUptoRow.holds Tryd.pinned (OpenSpec.upto isaFormsSpec)

/-- 'taffraillaw10.IsaChecks', WHERE WHAT IT READS IS OF BULK AT MOST 1048576: true; the input reads as it did. -/
def isaChecksUptoRow : OpenClaim := { program := "ytgbldgoaocfljaadoor", sum := "346638b51d8f8048462394ed48ade509c00c108277ce2d196e15f46b3ed03ca3", func := "taffrail/taffraillaw10.IsaChecks", spec := "isaChecks", named := ["taffrail/isa.rows"], apart := false, laid := [("taffrail/isa.rows", laid_taffrail_isa_rows)], narrowed := true }
def IsaChecksUptoSaid : Prop := isaChecksUptoRow.holds Tryd.pinned (OpenSpec.upto isaChecksSpec)

/-- 'taffraillaw10.IsaUses', WHERE WHAT IT READS IS OF BULK AT MOST 1048576: true; the input reads as it did. -/
def isaUsesUptoRow : OpenClaim := { program := "ytgbldgoaocfljaadoor", sum := "346638b51d8f8048462394ed48ade509c00c108277ce2d196e15f46b3ed03ca3", func := "taffrail/taffraillaw10.IsaUses", spec := "isaUses", named := ["taffrail/isa.rows"], apart := false, laid := [("taffrail/isa.rows", laid_taffrail_isa_rows)], narrowed := true }
def IsaUsesUptoSaid : Prop := isaUsesUptoRow.holds Tryd.pinned (OpenSpec.upto isaUsesSpec)

/-- 'taffraillaw10.IsaNames', WHERE WHAT IT READS IS OF BULK AT MOST 1048576: true; the input reads as it did. -/
def isaNamesUptoRow : OpenClaim := { program := "ytgbldgoaocfljaadoor", sum := "346638b51d8f8048462394ed48ade509c00c108277ce2d196e15f46b3ed03ca3", func := "taffrail/taffraillaw10.IsaNames", spec := "isaNames", named := ["taffrail/isa.rows"], apart := false, laid := [("taffrail/isa.rows", laid_taffrail_isa_rows)], narrowed := true }
def IsaNamesUptoSaid : Prop := isaNamesUptoRow.holds Tryd.pinned (OpenSpec.upto isaNamesSpec)

/-- 'taffraillaw10.IsaWays', WHERE WHAT IT READS IS OF BULK AT MOST 1048576: true; the input reads as it did. -/
def isaWaysUptoRow : OpenClaim := { program := "ytgbldgoaocfljaadoor", sum := "346638b51d8f8048462394ed48ade509c00c108277ce2d196e15f46b3ed03ca3", func := "taffrail/taffraillaw10.IsaWays", spec := "isaWays", named := ["taffrail/isa.rows"], apart := false, laid := [("taffrail/isa.rows", laid_taffrail_isa_rows)], narrowed := true }
def IsaWaysUptoSaid : Prop := isaWaysUptoRow.holds Tryd.pinned (OpenSpec.upto isaWaysSpec)

end Rows
end Go.Proofs.YtgbldgoaocfljaaDoor
