/-
  NARROWER THAN 'FOR EVERY INPUT', by the rows' own cells (each row's printed sentence says how): CoilPrints: laid · CoilReads: laid · CoilBack: laid · CoilOne: laid · CoilSize: laid · CoilRuns: laid.
  DERIVED. THE GIVEN ROWS OF THIS SEAT. 6 by the template 'for every input the law returns true; each argument reads behind the call as it read before'; 0 by the template 'total and deterministic' (their statements: YtobljhgiibpmkaaDoorTotals.lean).
  GIVEN WITH THE SEED: the statements are not yours to turn. If you find one false, say at which input.
  Laid BY PROGRAM, IN A SANDBOX (cutbox-rows.mjs): the forced cells as the released guide's own fill.sh prints them over the translation 3605fe841f850ff3… (all of the seat's roots in one cut). By AI agents, Wed Nov 11 2026. No macro, syntax, notation, axiom, sorry.
-/
import Derived.Test.YtobljhgiibpmkaaDoorChecked
import GoSem.Claim
import GoSem.ClaimJoined
import GoSem.ClaimMapViews
import Derived.JoinedTies
import Derived.KernelRfl
namespace Go.Proofs.YtobljhgiibpmkaaDoor
/- THE CELL 'sum', in the pinned program and in every row, IS THE sha256 OF THE DUMP (.gsa) THAT YtobljhgiibpmkaaDoorProg.lean LOADS. Nothing in Lean hashes anything: it is a label: what it is worth is what the hold of that sum in a sandbox is worth. -/
noncomputable def Tryd.pinned : Pinned := { name := "ytobljhgiibpmkaadoor", sum := "3605fe841f850ff32bf37a67b4618b405f262abbe0b5467e00335aae26305557", checked := Tryd.checked }
namespace Rows
def none {H : Type} : Left H := { results := [], args := [] }

/- WHAT THE LISTED PACKAGE-LEVEL VARIABLES READ AS WHEN THE CALL BEGINS. Each datum BY PROGRAM (the guide's laid-datum.mjs) off the statement by which the dump's own 'gosem.cut.vars' lays the variable. In a bare row this is a premise. The card (YtobljhgiibpmkaaDoorCards.lean) ties it to the program's text. -/
def laid_taffrail_event_rows {H : Type} : DataW H := .agg [.agg [.lit (.string []), .lit (.int .i64 0), .lit (.int .i64 0), .lit (.int .i64 0)], .agg [.lit (.string [105, 114, 113]), .lit (.int .i64 3), .lit (.int .i64 2), .lit (.int .i64 0)], .agg [.lit (.string [100, 101, 118]), .lit (.int .i64 3), .lit (.int .i64 6), .lit (.int .i64 1)], .agg [.lit (.string [101, 110, 116, 101, 114]), .lit (.int .i64 3), .lit (.int .i64 0), .lit (.int .i64 0)], .agg [.lit (.string [101, 120, 105, 116]), .lit (.int .i64 3), .lit (.int .i64 0), .lit (.int .i64 0)], .agg [.lit (.string [115, 119, 105, 116, 99, 104]), .lit (.int .i64 5), .lit (.int .i64 5), .lit (.int .i64 0)], .agg [.lit (.string [114, 101, 108, 101, 97, 115, 101]), .lit (.int .i64 4), .lit (.int .i64 0), .lit (.int .i64 1)], .agg [.lit (.string [108, 97, 116, 101]), .lit (.int .i64 4), .lit (.int .i64 0), .lit (.int .i64 11)], .agg [.lit (.string [101, 110, 100]), .lit (.int .i64 4), .lit (.int .i64 0), .lit (.int .i64 1)], .agg [.lit (.string [98, 108, 111, 99, 107]), .lit (.int .i64 4), .lit (.int .i64 10), .lit (.int .i64 0)], .agg [.lit (.string [119, 97, 107, 101]), .lit (.int .i64 4), .lit (.int .i64 2), .lit (.int .i64 0)], .agg [.lit (.string [108, 101, 118, 101, 108]), .lit (.int .i64 4), .lit (.int .i64 9), .lit (.int .i64 0)], .agg [.lit (.string [108, 111, 99, 107]), .lit (.int .i64 4), .lit (.int .i64 8), .lit (.int .i64 0)], .agg [.lit (.string [117, 110, 108, 111, 99, 107]), .lit (.int .i64 4), .lit (.int .i64 8), .lit (.int .i64 0)], .agg [.lit (.string [112, 111, 115, 116]), .lit (.int .i64 7), .lit (.int .i64 8), .lit (.int .i64 12)], .agg [.lit (.string [116, 97, 107, 101]), .lit (.int .i64 4), .lit (.int .i64 8), .lit (.int .i64 12)], .agg [.lit (.string [115, 101, 110, 100]), .lit (.int .i64 6), .lit (.int .i64 8), .lit (.int .i64 1)], .agg [.lit (.string [114, 101, 99, 118]), .lit (.int .i64 6), .lit (.int .i64 8), .lit (.int .i64 1)], .agg [.lit (.string [116, 105, 109, 101, 114]), .lit (.int .i64 8), .lit (.int .i64 0), .lit (.int .i64 0)], .agg [.lit (.string [97, 114, 109]), .lit (.int .i64 6), .lit (.int .i64 8), .lit (.int .i64 1)], .agg [.lit (.string [111, 117, 116]), .lit (.int .i64 3), .lit (.int .i64 6), .lit (.int .i64 1)], .agg [.lit (.string [102, 97, 117, 108, 116]), .lit (.int .i64 6), .lit (.int .i64 13), .lit (.int .i64 0)], .agg [.lit (.string [104, 97, 108, 116]), .lit (.int .i64 4), .lit (.int .i64 0), .lit (.int .i64 0)], .agg [.lit (.string [114, 101, 102, 117, 115, 101]), .lit (.int .i64 7), .lit (.int .i64 13), .lit (.int .i64 14)], .agg [.lit (.string [99, 108, 111, 115, 101]), .lit (.int .i64 0), .lit (.int .i64 0), .lit (.int .i64 0)]]

/-- 'taffraillaw06.CoilPrints': WHATEVER THE INPUT: true; the input reads as it did. -/
def coilPrintsSpec : ChangeSpec := { name := "coilPrints", fn := fun _ => fun
  | [d] => { results := [.lit (.bool true)], args := [d] }
  | _ => none }
def coilPrintsRow : OpenClaim := { program := "ytobljhgiibpmkaadoor", sum := "3605fe841f850ff32bf37a67b4618b405f262abbe0b5467e00335aae26305557", func := "taffrail/taffraillaw06.CoilPrints", spec := "coilPrints", named := ["taffrail/event.rows"], apart := false, laid := [("taffrail/event.rows", laid_taffrail_event_rows)] }
def CoilPrintsSaid : Prop := coilPrintsRow.holds Tryd.pinned (OpenSpec.ofChange coilPrintsSpec)

/-- ITS FALSE NEIGHBOUR: 'it returns false'. Refute it at one input. -/
def coilPrintsWrong : ChangeSpec := { name := "coilPrints", fn := fun _ => fun
  | [d] => { results := [.lit (.bool false)], args := [d] }
  | _ => none }
def CoilPrintsWrongFalsely : Prop := coilPrintsRow.holds Tryd.pinned (OpenSpec.ofChange coilPrintsWrong)

/-- 'taffraillaw06.CoilReads': WHATEVER THE INPUT: true; the input reads as it did. -/
def coilReadsSpec : ChangeSpec := { name := "coilReads", fn := fun _ => fun
  | [d1, d2, d3] => { results := [.lit (.bool true)], args := [d1, d2, d3] }
  | _ => none }
def coilReadsRow : OpenClaim := { program := "ytobljhgiibpmkaadoor", sum := "3605fe841f850ff32bf37a67b4618b405f262abbe0b5467e00335aae26305557", func := "taffrail/taffraillaw06.CoilReads", spec := "coilReads", named := ["taffrail/event.rows"], apart := false, laid := [("taffrail/event.rows", laid_taffrail_event_rows)] }
def CoilReadsSaid : Prop := coilReadsRow.holds Tryd.pinned (OpenSpec.ofChange coilReadsSpec)

/-- ITS FALSE NEIGHBOUR: 'it returns false'. Refute it at one input. -/
def coilReadsWrong : ChangeSpec := { name := "coilReads", fn := fun _ => fun
  | [d1, d2, d3] => { results := [.lit (.bool false)], args := [d1, d2, d3] }
  | _ => none }
def CoilReadsWrongFalsely : Prop := coilReadsRow.holds Tryd.pinned (OpenSpec.ofChange coilReadsWrong)

/-- 'taffraillaw06.CoilBack': WHATEVER THE INPUT: true; the input reads as it did. -/
def coilBackSpec : ChangeSpec := { name := "coilBack", fn := fun _ => fun
  | [d] => { results := [.lit (.bool true)], args := [d] }
  | _ => none }
def coilBackRow : OpenClaim := { program := "ytobljhgiibpmkaadoor", sum := "3605fe841f850ff32bf37a67b4618b405f262abbe0b5467e00335aae26305557", func := "taffrail/taffraillaw06.CoilBack", spec := "coilBack", named := ["taffrail/event.rows"], apart := false, laid := [("taffrail/event.rows", laid_taffrail_event_rows)] }
def CoilBackSaid : Prop := coilBackRow.holds Tryd.pinned (OpenSpec.ofChange coilBackSpec)

/-- ITS FALSE NEIGHBOUR: 'it returns false'. Refute it at one input. -/
def coilBackWrong : ChangeSpec := { name := "coilBack", fn := fun _ => fun
  | [d] => { results := [.lit (.bool false)], args := [d] }
  | _ => none }
def CoilBackWrongFalsely : Prop := coilBackRow.holds Tryd.pinned (OpenSpec.ofChange coilBackWrong)

/-- 'taffraillaw06.CoilOne': WHATEVER THE INPUT: true; the input reads as it did. -/
def coilOneSpec : ChangeSpec := { name := "coilOne", fn := fun _ => fun
  | [d1, d2, d3] => { results := [.lit (.bool true)], args := [d1, d2, d3] }
  | _ => none }
def coilOneRow : OpenClaim := { program := "ytobljhgiibpmkaadoor", sum := "3605fe841f850ff32bf37a67b4618b405f262abbe0b5467e00335aae26305557", func := "taffrail/taffraillaw06.CoilOne", spec := "coilOne", named := ["taffrail/event.rows"], apart := false, laid := [("taffrail/event.rows", laid_taffrail_event_rows)] }
def CoilOneSaid : Prop := coilOneRow.holds Tryd.pinned (OpenSpec.ofChange coilOneSpec)

/-- ITS FALSE NEIGHBOUR: 'it returns false'. Refute it at one input. -/
def coilOneWrong : ChangeSpec := { name := "coilOne", fn := fun _ => fun
  | [d1, d2, d3] => { results := [.lit (.bool false)], args := [d1, d2, d3] }
  | _ => none }
def CoilOneWrongFalsely : Prop := coilOneRow.holds Tryd.pinned (OpenSpec.ofChange coilOneWrong)

/-- 'taffraillaw06.CoilSize': WHATEVER THE INPUT: true; the input reads as it did. -/
def coilSizeSpec : ChangeSpec := { name := "coilSize", fn := fun _ => fun
  | [d1, d2] => { results := [.lit (.bool true)], args := [d1, d2] }
  | _ => none }
def coilSizeRow : OpenClaim := { program := "ytobljhgiibpmkaadoor", sum := "3605fe841f850ff32bf37a67b4618b405f262abbe0b5467e00335aae26305557", func := "taffrail/taffraillaw06.CoilSize", spec := "coilSize", named := ["taffrail/event.rows"], apart := false, laid := [("taffrail/event.rows", laid_taffrail_event_rows)] }
def CoilSizeSaid : Prop := coilSizeRow.holds Tryd.pinned (OpenSpec.ofChange coilSizeSpec)

/-- ITS FALSE NEIGHBOUR: 'it returns false'. Refute it at one input. -/
def coilSizeWrong : ChangeSpec := { name := "coilSize", fn := fun _ => fun
  | [d1, d2] => { results := [.lit (.bool false)], args := [d1, d2] }
  | _ => none }
def CoilSizeWrongFalsely : Prop := coilSizeRow.holds Tryd.pinned (OpenSpec.ofChange coilSizeWrong)

/-- 'taffraillaw06.CoilRuns': WHATEVER THE INPUT: true; the input reads as it did. -/
def coilRunsSpec : ChangeSpec := { name := "coilRuns", fn := fun _ => fun
  | [d] => { results := [.lit (.bool true)], args := [d] }
  | _ => none }
def coilRunsRow : OpenClaim := { program := "ytobljhgiibpmkaadoor", sum := "3605fe841f850ff32bf37a67b4618b405f262abbe0b5467e00335aae26305557", func := "taffrail/taffraillaw06.CoilRuns", spec := "coilRuns", named := ["taffrail/event.rows"], apart := false, laid := [("taffrail/event.rows", laid_taffrail_event_rows)] }
def CoilRunsSaid : Prop := coilRunsRow.holds Tryd.pinned (OpenSpec.ofChange coilRunsSpec)

/-- ITS FALSE NEIGHBOUR: 'it returns false'. Refute it at one input. -/
def coilRunsWrong : ChangeSpec := { name := "coilRuns", fn := fun _ => fun
  | [d] => { results := [.lit (.bool false)], args := [d] }
  | _ => none }
def CoilRunsWrongFalsely : Prop := coilRunsRow.holds Tryd.pinned (OpenSpec.ofChange coilRunsWrong)

/- THE SECOND FORM. 'bulk': how many values and letters a reading holds, each counted each time it is reached (what is shared counts as often as it is met; a slice's spare places count too). A statement '..UptoSaid' is the law's where the arguments, and the package variables that the reading takes, are together of bulk at most 1048576: NARROWER than '..Said'. Prove '..Said' where nothing that the law and all that it calls make is longer than what came in: it says more and counts as full. Else prove '..UptoSaid'. A law counts once. -/
mutual
def uptoBulk {H : Type} : DataW H → Nat
  | .lit (.string bytes) => bytes.length + 1
  | .lit _ => 1
  | .nil => 1
  | .ptr d => uptoBulk d + 1
  | .slice elems spare => uptoBulkAll elems + uptoBulkAll spare + 1
  | .agg parts => uptoBulkAll parts + 1
  | .iface _ d => uptoBulk d + 1
  | .map entries => uptoBulkEntries entries + 1
  | .held _ => 1
def uptoBulkAll {H : Type} : List (DataW H) → Nat
  | [] => 0
  | d :: r => uptoBulk d + uptoBulkAll r
def uptoBulkEntries {H : Type} : List (Lit × DataW H) → Nat
  | [] => 0
  | x :: r => uptoBulkEntry x + uptoBulkEntries r
def uptoBulkEntry {H : Type} : Lit × DataW H → Nat
  | (.string bytes, d) => bytes.length + uptoBulk d + 1
  | (_, d) => uptoBulk d + 1
 end
def uptoSmall : (H : Type) → List (DataW H) → Bool := fun _ ds => decide (uptoBulkAll ds ≤ 1048576)
def OpenSpec.upto (s : _root_.Go.ChangeSpec) : _root_.Go.OpenSpec := { _root_.Go.OpenSpec.ofChange s with cond := some uptoSmall }

/-- 'taffraillaw06.CoilPrints', WHERE WHAT IT READS IS OF BULK AT MOST 1048576: true; the input reads as it did. -/
def coilPrintsUptoRow : OpenClaim := { program := "ytobljhgiibpmkaadoor", sum := "3605fe841f850ff32bf37a67b4618b405f262abbe0b5467e00335aae26305557", func := "taffrail/taffraillaw06.CoilPrints", spec := "coilPrints", named := ["taffrail/event.rows"], apart := false, laid := [("taffrail/event.rows", laid_taffrail_event_rows)], narrowed := true }
def CoilPrintsUptoSaid : Prop := coilPrintsUptoRow.holds Tryd.pinned (OpenSpec.upto coilPrintsSpec)

/-- 'taffraillaw06.CoilReads', WHERE WHAT IT READS IS OF BULK AT MOST 1048576: true; the input reads as it did. -/
def coilReadsUptoRow : OpenClaim := { program := "ytobljhgiibpmkaadoor", sum := "3605fe841f850ff32bf37a67b4618b405f262abbe0b5467e00335aae26305557", func := "taffrail/taffraillaw06.CoilReads", spec := "coilReads", named := ["taffrail/event.rows"], apart := false, laid := [("taffrail/event.rows", laid_taffrail_event_rows)], narrowed := true }
def CoilReadsUptoSaid : Prop := coilReadsUptoRow.holds Tryd.pinned (OpenSpec.upto coilReadsSpec)

/-- 'taffraillaw06.CoilBack', WHERE WHAT IT READS IS OF BULK AT MOST 1048576: true; the input reads as it did. -/
def coilBackUptoRow : OpenClaim := { program := "ytobljhgiibpmkaadoor", sum := "3605fe841f850ff32bf37a67b4618b405f262abbe0b5467e00335aae26305557", func := "taffrail/taffraillaw06.CoilBack", spec := "coilBack", named := ["taffrail/event.rows"], apart := false, laid := [("taffrail/event.rows", laid_taffrail_event_rows)], narrowed := true }
def CoilBackUptoSaid : Prop := coilBackUptoRow.holds Tryd.pinned (OpenSpec.upto coilBackSpec)

/-- 'taffraillaw06.CoilOne', WHERE WHAT IT READS IS OF BULK AT MOST 1048576: true; the input reads as it did. -/
def coilOneUptoRow : OpenClaim := { program := "ytobljhgiibpmkaadoor", sum := "3605fe841f850ff32bf37a67b4618b405f262abbe0b5467e00335aae26305557", func := "taffrail/taffraillaw06.CoilOne", spec := "coilOne", named := ["taffrail/event.rows"], apart := false, laid := [("taffrail/event.rows", laid_taffrail_event_rows)], narrowed := true }
def CoilOneUptoSaid : Prop := coilOneUptoRow.holds Tryd.pinned (OpenSpec.upto coilOneSpec)

/-- 'taffraillaw06.CoilSize', WHERE WHAT IT READS IS OF BULK AT MOST 1048576: true; the input reads as it did. -/
def coilSizeUptoRow : OpenClaim := { program := "ytobljhgiibpmkaadoor", sum := "3605fe841f850ff32bf37a67b4618b405f262abbe0b5467e00335aae26305557", func := "taffrail/taffraillaw06.CoilSize", spec := "coilSize", named := ["taffrail/event.rows"], apart := false, laid := [("taffrail/event.rows", laid_taffrail_event_rows)], narrowed := true }
def CoilSizeUptoSaid : Prop := coilSizeUptoRow.holds Tryd.pinned (OpenSpec.upto coilSizeSpec)

/-- 'taffraillaw06.CoilRuns', WHERE WHAT IT READS IS OF BULK AT MOST 1048576: true; the input reads as it did. -/
def coilRunsUptoRow : OpenClaim := { program := "ytobljhgiibpmkaadoor", sum := "3605fe841f850ff32bf37a67b4618b405f262abbe0b5467e00335aae26305557", func := "taffrail/taffraillaw06.CoilRuns", spec := "coilRuns", named := ["taffrail/event.rows"], apart := false, laid := [("taffrail/event.rows", laid_taffrail_event_rows)], narrowed := true }
def CoilRunsUptoSaid : Prop := coilRunsUptoRow.holds Tryd.pinned (OpenSpec.upto coilRunsSpec)

end Rows
end Go.Proofs.YtobljhgiibpmkaaDoor
