/-
  NARROWER THAN 'FOR EVERY INPUT', by the rows' own cells (each row's printed sentence says how): FramePrints: laid · FrameReads: laid · FrameBack: laid · FrameOne: laid · FrameCut: laid · FrameBurst: laid · FrameMarkers: laid · FrameNil: laid.
  DERIVED. THE GIVEN ROWS OF THIS SEAT. 8 by the template 'for every input the law returns true; each argument reads behind the call as it read before'; 0 by the template 'total and deterministic' (their statements: YtjfoepknlleonaaDoorTotals.lean).
  GIVEN WITH THE SEED: the statements are not yours to turn. If you find one false, say at which input.
  Laid BY PROGRAM, IN A SANDBOX (cutbox-rows.mjs): the forced cells as the released guide's own fill.sh prints them over the translation 77b5a09ffb1de173… (all of the seat's roots in one cut). By AI agents, Wed Nov 11 2026. No macro, syntax, notation, axiom, sorry.
-/
import Derived.Test.YtjfoepknlleonaaDoorChecked
import GoSem.Claim
import GoSem.ClaimJoined
import GoSem.ClaimMapViews
import Derived.JoinedTies
import Derived.KernelRfl
namespace Go.Proofs.YtjfoepknlleonaaDoor
/- THE CELL 'sum', in the pinned program and in every row, IS THE sha256 OF THE DUMP (.gsa) THAT YtjfoepknlleonaaDoorProg.lean LOADS. Nothing in Lean hashes anything: it is a label: what it is worth is what the hold of that sum in a sandbox is worth. -/
noncomputable def Tryd.pinned : Pinned := { name := "ytjfoepknlleonaadoor", sum := "77b5a09ffb1de173d515c37cb4053ce1589fc812c573cd0c920eaf6e49292402", checked := Tryd.checked }
namespace Rows
def none {H : Type} : Left H := { results := [], args := [] }

/- WHAT THE LISTED PACKAGE-LEVEL VARIABLES READ AS WHEN THE CALL BEGINS. Each datum BY PROGRAM (the guide's laid-datum.mjs) off the statement by which the dump's own 'gosem.cut.vars' lays the variable. In a bare row this is a premise. The card (YtjfoepknlleonaaDoorCards.lean) ties it to the program's text. -/
def laid_taffrail_event_rows {H : Type} : DataW H := .agg [.agg [.lit (.string []), .lit (.int .i64 0), .lit (.int .i64 0), .lit (.int .i64 0)], .agg [.lit (.string [105, 114, 113]), .lit (.int .i64 3), .lit (.int .i64 2), .lit (.int .i64 0)], .agg [.lit (.string [100, 101, 118]), .lit (.int .i64 3), .lit (.int .i64 6), .lit (.int .i64 1)], .agg [.lit (.string [101, 110, 116, 101, 114]), .lit (.int .i64 3), .lit (.int .i64 0), .lit (.int .i64 0)], .agg [.lit (.string [101, 120, 105, 116]), .lit (.int .i64 3), .lit (.int .i64 0), .lit (.int .i64 0)], .agg [.lit (.string [115, 119, 105, 116, 99, 104]), .lit (.int .i64 5), .lit (.int .i64 5), .lit (.int .i64 0)], .agg [.lit (.string [114, 101, 108, 101, 97, 115, 101]), .lit (.int .i64 4), .lit (.int .i64 0), .lit (.int .i64 1)], .agg [.lit (.string [108, 97, 116, 101]), .lit (.int .i64 4), .lit (.int .i64 0), .lit (.int .i64 11)], .agg [.lit (.string [101, 110, 100]), .lit (.int .i64 4), .lit (.int .i64 0), .lit (.int .i64 1)], .agg [.lit (.string [98, 108, 111, 99, 107]), .lit (.int .i64 4), .lit (.int .i64 10), .lit (.int .i64 0)], .agg [.lit (.string [119, 97, 107, 101]), .lit (.int .i64 4), .lit (.int .i64 2), .lit (.int .i64 0)], .agg [.lit (.string [108, 101, 118, 101, 108]), .lit (.int .i64 4), .lit (.int .i64 9), .lit (.int .i64 0)], .agg [.lit (.string [108, 111, 99, 107]), .lit (.int .i64 4), .lit (.int .i64 8), .lit (.int .i64 0)], .agg [.lit (.string [117, 110, 108, 111, 99, 107]), .lit (.int .i64 4), .lit (.int .i64 8), .lit (.int .i64 0)], .agg [.lit (.string [112, 111, 115, 116]), .lit (.int .i64 7), .lit (.int .i64 8), .lit (.int .i64 12)], .agg [.lit (.string [116, 97, 107, 101]), .lit (.int .i64 4), .lit (.int .i64 8), .lit (.int .i64 12)], .agg [.lit (.string [115, 101, 110, 100]), .lit (.int .i64 6), .lit (.int .i64 8), .lit (.int .i64 1)], .agg [.lit (.string [114, 101, 99, 118]), .lit (.int .i64 6), .lit (.int .i64 8), .lit (.int .i64 1)], .agg [.lit (.string [116, 105, 109, 101, 114]), .lit (.int .i64 8), .lit (.int .i64 0), .lit (.int .i64 0)], .agg [.lit (.string [97, 114, 109]), .lit (.int .i64 6), .lit (.int .i64 8), .lit (.int .i64 1)], .agg [.lit (.string [111, 117, 116]), .lit (.int .i64 3), .lit (.int .i64 6), .lit (.int .i64 1)], .agg [.lit (.string [102, 97, 117, 108, 116]), .lit (.int .i64 6), .lit (.int .i64 13), .lit (.int .i64 0)], .agg [.lit (.string [104, 97, 108, 116]), .lit (.int .i64 4), .lit (.int .i64 0), .lit (.int .i64 0)], .agg [.lit (.string [114, 101, 102, 117, 115, 101]), .lit (.int .i64 7), .lit (.int .i64 13), .lit (.int .i64 14)], .agg [.lit (.string [99, 108, 111, 115, 101]), .lit (.int .i64 0), .lit (.int .i64 0), .lit (.int .i64 0)]]

/-- 'taffraillaw07.FramePrints': WHATEVER THE INPUT: true; the input reads as it did. -/
def framePrintsSpec : ChangeSpec := { name := "framePrints", fn := fun _ => fun
  | [d] => { results := [.lit (.bool true)], args := [d] }
  | _ => none }
def framePrintsRow : OpenClaim := { program := "ytjfoepknlleonaadoor", sum := "77b5a09ffb1de173d515c37cb4053ce1589fc812c573cd0c920eaf6e49292402", func := "taffrail/taffraillaw07.FramePrints", spec := "framePrints", named := ["taffrail/event.rows"], apart := false, laid := [("taffrail/event.rows", laid_taffrail_event_rows)] }
def FramePrintsSaid : Prop := framePrintsRow.holds Tryd.pinned (OpenSpec.ofChange framePrintsSpec)

/-- ITS FALSE NEIGHBOUR: 'it returns false'. Refute it at one input. -/
def framePrintsWrong : ChangeSpec := { name := "framePrints", fn := fun _ => fun
  | [d] => { results := [.lit (.bool false)], args := [d] }
  | _ => none }
def FramePrintsWrongFalsely : Prop := framePrintsRow.holds Tryd.pinned (OpenSpec.ofChange framePrintsWrong)

/-- 'taffraillaw07.FrameReads': WHATEVER THE INPUT: true; the input reads as it did. -/
def frameReadsSpec : ChangeSpec := { name := "frameReads", fn := fun _ => fun
  | [d1, d2] => { results := [.lit (.bool true)], args := [d1, d2] }
  | _ => none }
def frameReadsRow : OpenClaim := { program := "ytjfoepknlleonaadoor", sum := "77b5a09ffb1de173d515c37cb4053ce1589fc812c573cd0c920eaf6e49292402", func := "taffrail/taffraillaw07.FrameReads", spec := "frameReads", named := ["taffrail/event.rows"], apart := false, laid := [("taffrail/event.rows", laid_taffrail_event_rows)] }
def FrameReadsSaid : Prop := frameReadsRow.holds Tryd.pinned (OpenSpec.ofChange frameReadsSpec)

/-- ITS FALSE NEIGHBOUR: 'it returns false'. Refute it at one input. -/
def frameReadsWrong : ChangeSpec := { name := "frameReads", fn := fun _ => fun
  | [d1, d2] => { results := [.lit (.bool false)], args := [d1, d2] }
  | _ => none }
def FrameReadsWrongFalsely : Prop := frameReadsRow.holds Tryd.pinned (OpenSpec.ofChange frameReadsWrong)

/-- 'taffraillaw07.FrameBack': WHATEVER THE INPUT: true; the input reads as it did. -/
def frameBackSpec : ChangeSpec := { name := "frameBack", fn := fun _ => fun
  | [d1, d2, d3] => { results := [.lit (.bool true)], args := [d1, d2, d3] }
  | _ => none }
def frameBackRow : OpenClaim := { program := "ytjfoepknlleonaadoor", sum := "77b5a09ffb1de173d515c37cb4053ce1589fc812c573cd0c920eaf6e49292402", func := "taffrail/taffraillaw07.FrameBack", spec := "frameBack", named := ["taffrail/event.rows"], apart := false, laid := [("taffrail/event.rows", laid_taffrail_event_rows)] }
def FrameBackSaid : Prop := frameBackRow.holds Tryd.pinned (OpenSpec.ofChange frameBackSpec)

/-- ITS FALSE NEIGHBOUR: 'it returns false'. Refute it at one input. -/
def frameBackWrong : ChangeSpec := { name := "frameBack", fn := fun _ => fun
  | [d1, d2, d3] => { results := [.lit (.bool false)], args := [d1, d2, d3] }
  | _ => none }
def FrameBackWrongFalsely : Prop := frameBackRow.holds Tryd.pinned (OpenSpec.ofChange frameBackWrong)

/-- 'taffraillaw07.FrameOne': WHATEVER THE INPUT: true; the input reads as it did. -/
def frameOneSpec : ChangeSpec := { name := "frameOne", fn := fun _ => fun
  | [d1, d2] => { results := [.lit (.bool true)], args := [d1, d2] }
  | _ => none }
def frameOneRow : OpenClaim := { program := "ytjfoepknlleonaadoor", sum := "77b5a09ffb1de173d515c37cb4053ce1589fc812c573cd0c920eaf6e49292402", func := "taffrail/taffraillaw07.FrameOne", spec := "frameOne", named := ["taffrail/event.rows"], apart := false, laid := [("taffrail/event.rows", laid_taffrail_event_rows)] }
def FrameOneSaid : Prop := frameOneRow.holds Tryd.pinned (OpenSpec.ofChange frameOneSpec)

/-- ITS FALSE NEIGHBOUR: 'it returns false'. Refute it at one input. -/
def frameOneWrong : ChangeSpec := { name := "frameOne", fn := fun _ => fun
  | [d1, d2] => { results := [.lit (.bool false)], args := [d1, d2] }
  | _ => none }
def FrameOneWrongFalsely : Prop := frameOneRow.holds Tryd.pinned (OpenSpec.ofChange frameOneWrong)

/-- 'taffraillaw07.FrameCut': WHATEVER THE INPUT: true; the input reads as it did. -/
def frameCutSpec : ChangeSpec := { name := "frameCut", fn := fun _ => fun
  | [d1, d2] => { results := [.lit (.bool true)], args := [d1, d2] }
  | _ => none }
def frameCutRow : OpenClaim := { program := "ytjfoepknlleonaadoor", sum := "77b5a09ffb1de173d515c37cb4053ce1589fc812c573cd0c920eaf6e49292402", func := "taffrail/taffraillaw07.FrameCut", spec := "frameCut", named := ["taffrail/event.rows"], apart := false, laid := [("taffrail/event.rows", laid_taffrail_event_rows)] }
def FrameCutSaid : Prop := frameCutRow.holds Tryd.pinned (OpenSpec.ofChange frameCutSpec)

/-- ITS FALSE NEIGHBOUR: 'it returns false'. Refute it at one input. -/
def frameCutWrong : ChangeSpec := { name := "frameCut", fn := fun _ => fun
  | [d1, d2] => { results := [.lit (.bool false)], args := [d1, d2] }
  | _ => none }
def FrameCutWrongFalsely : Prop := frameCutRow.holds Tryd.pinned (OpenSpec.ofChange frameCutWrong)

/-- 'taffraillaw07.FrameBurst': WHATEVER THE INPUT: true; the input reads as it did. -/
def frameBurstSpec : ChangeSpec := { name := "frameBurst", fn := fun _ => fun
  | [d1, d2, d3] => { results := [.lit (.bool true)], args := [d1, d2, d3] }
  | _ => none }
def frameBurstRow : OpenClaim := { program := "ytjfoepknlleonaadoor", sum := "77b5a09ffb1de173d515c37cb4053ce1589fc812c573cd0c920eaf6e49292402", func := "taffrail/taffraillaw07.FrameBurst", spec := "frameBurst", named := ["taffrail/event.rows"], apart := false, laid := [("taffrail/event.rows", laid_taffrail_event_rows)] }
def FrameBurstSaid : Prop := frameBurstRow.holds Tryd.pinned (OpenSpec.ofChange frameBurstSpec)

/-- ITS FALSE NEIGHBOUR: 'it returns false'. Refute it at one input. -/
def frameBurstWrong : ChangeSpec := { name := "frameBurst", fn := fun _ => fun
  | [d1, d2, d3] => { results := [.lit (.bool false)], args := [d1, d2, d3] }
  | _ => none }
def FrameBurstWrongFalsely : Prop := frameBurstRow.holds Tryd.pinned (OpenSpec.ofChange frameBurstWrong)

/-- 'taffraillaw07.FrameMarkers': WHATEVER THE INPUT: true; the input reads as it did. -/
def frameMarkersSpec : ChangeSpec := { name := "frameMarkers", fn := fun _ => fun
  | [d] => { results := [.lit (.bool true)], args := [d] }
  | _ => none }
def frameMarkersRow : OpenClaim := { program := "ytjfoepknlleonaadoor", sum := "77b5a09ffb1de173d515c37cb4053ce1589fc812c573cd0c920eaf6e49292402", func := "taffrail/taffraillaw07.FrameMarkers", spec := "frameMarkers", named := ["taffrail/event.rows"], apart := false, laid := [("taffrail/event.rows", laid_taffrail_event_rows)] }
def FrameMarkersSaid : Prop := frameMarkersRow.holds Tryd.pinned (OpenSpec.ofChange frameMarkersSpec)

/-- ITS FALSE NEIGHBOUR: 'it returns false'. Refute it at one input. -/
def frameMarkersWrong : ChangeSpec := { name := "frameMarkers", fn := fun _ => fun
  | [d] => { results := [.lit (.bool false)], args := [d] }
  | _ => none }
def FrameMarkersWrongFalsely : Prop := frameMarkersRow.holds Tryd.pinned (OpenSpec.ofChange frameMarkersWrong)

/-- 'taffraillaw07.FrameNil': WHATEVER THE INPUT: true; the input reads as it did. -/
def frameNilSpec : ChangeSpec := { name := "frameNil", fn := fun _ => fun
  | [d1, d2, d3] => { results := [.lit (.bool true)], args := [d1, d2, d3] }
  | _ => none }
def frameNilRow : OpenClaim := { program := "ytjfoepknlleonaadoor", sum := "77b5a09ffb1de173d515c37cb4053ce1589fc812c573cd0c920eaf6e49292402", func := "taffrail/taffraillaw07.FrameNil", spec := "frameNil", named := ["taffrail/event.rows"], apart := false, laid := [("taffrail/event.rows", laid_taffrail_event_rows)] }
def FrameNilSaid : Prop := frameNilRow.holds Tryd.pinned (OpenSpec.ofChange frameNilSpec)

/-- ITS FALSE NEIGHBOUR: 'it returns false'. Refute it at one input. -/
def frameNilWrong : ChangeSpec := { name := "frameNil", fn := fun _ => fun
  | [d1, d2, d3] => { results := [.lit (.bool false)], args := [d1, d2, d3] }
  | _ => none }
def FrameNilWrongFalsely : Prop := frameNilRow.holds Tryd.pinned (OpenSpec.ofChange frameNilWrong)

/- THE SECOND FORM. 'bulk': how many values and letters a reading holds, each counted each time it is reached (what is shared counts as often as it is met; a slice's spare places count too). A statement '..UptoSaid' is the law's where the arguments, and the package variables that the reading takes, are together of bulk at most 1048576: NARROWER than '..Said'. Prove '..Said' where nothing that the law and all that it calls make is longer than what came in: it says more and counts as full. Else prove '..UptoSaid'. A law counts once. -/
mutual
def uptoBulk {H : Type} : DataW H → Nat
  | .lit (.string bytes) => bytes.length + 1
  | .lit _ => 1
  | .nil => 1
  | .ptr d => uptoBulk d + 1
  | .slice elems spare => uptoBulkAll elems + uptoBulkAll spare + 1
  | .agg parts => uptoBulkAll parts + 1
  | .iface _ d => uptoBulk d + 1
  | .map entries => uptoBulkEntries entries + 1
  | .held _ => 1
def uptoBulkAll {H : Type} : List (DataW H) → Nat
  | [] => 0
  | d :: r => uptoBulk d + uptoBulkAll r
def uptoBulkEntries {H : Type} : List (Lit × DataW H) → Nat
  | [] => 0
  | x :: r => uptoBulkEntry x + uptoBulkEntries r
def uptoBulkEntry {H : Type} : Lit × DataW H → Nat
  | (.string bytes, d) => bytes.length + uptoBulk d + 1
  | (_, d) => uptoBulk d + 1
 end
def uptoSmall : (H : Type) → List (DataW H) → Bool := fun _ ds => decide (uptoBulkAll ds ≤ 1048576)
def OpenSpec.upto (s : _root_.Go.ChangeSpec) : _root_.Go.OpenSpec := { _root_.Go.OpenSpec.ofChange s with cond := some uptoSmall }

/-- 'taffraillaw07.FramePrints', WHERE WHAT IT READS IS OF BULK AT MOST 1048576: true; the input reads as it did. -/
def framePrintsUptoRow : OpenClaim := { program := "ytjfoepknlleonaadoor", sum := "77b5a09ffb1de173d515c37cb4053ce1589fc812c573cd0c920eaf6e49292402", func := "taffrail/taffraillaw07.FramePrints", spec := "framePrints", named := ["taffrail/event.rows"], apart := false, laid := [("taffrail/event.rows", laid_taffrail_event_rows)], narrowed := true }
def FramePrintsUptoSaid : Prop := framePrintsUptoRow.holds Tryd.pinned (OpenSpec.upto framePrintsSpec)

/-- 'taffraillaw07.FrameReads', WHERE WHAT IT READS IS OF BULK AT MOST 1048576: true; the input reads as it did. -/
def frameReadsUptoRow : OpenClaim := { program := "ytjfoepknlleonaadoor", sum := "77b5a09ffb1de173d515c37cb4053ce1589fc812c573cd0c920eaf6e49292402", func := "taffrail/taffraillaw07.FrameReads", spec := "frameReads", named := ["taffrail/event.rows"], apart := false, laid := [("taffrail/event.rows", laid_taffrail_event_rows)], narrowed := true }
def FrameReadsUptoSaid : Prop := frameReadsUptoRow.holds Tryd.pinned (OpenSpec.upto frameReadsSpec)

/-- 'taffraillaw07.FrameBack', WHERE WHAT IT READS IS OF BULK AT MOST 1048576: true; the input reads as it did. -/
def frameBackUptoRow : OpenClaim := { program := "ytjfoepknlleonaadoor", sum := "77b5a09ffb1de173d515c37cb4053ce1589fc812c573cd0c920eaf6e49292402", func := "taffrail/taffraillaw07.FrameBack", spec := "frameBack", named := ["taffrail/event.rows"], apart := false, laid := [("taffrail/event.rows", laid_taffrail_event_rows)], narrowed := true }
def FrameBackUptoSaid : Prop := frameBackUptoRow.holds Tryd.pinned (OpenSpec.upto frameBackSpec)

/-- 'taffraillaw07.FrameOne', WHERE WHAT IT READS IS OF BULK AT MOST 1048576: true; the input reads as it did. -/
def frameOneUptoRow : OpenClaim := { program := "ytjfoepknlleonaadoor", sum := "77b5a09ffb1de173d515c37cb4053ce1589fc812c573cd0c920eaf6e49292402", func := "taffrail/taffraillaw07.FrameOne", spec := "frameOne", named := ["taffrail/event.rows"], apart := false, laid := [("taffrail/event.rows", laid_taffrail_event_rows)], narrowed := true }
def FrameOneUptoSaid : Prop := frameOneUptoRow.holds Tryd.pinned (OpenSpec.upto frameOneSpec)

/-- 'taffraillaw07.FrameCut', WHERE WHAT IT READS IS OF BULK AT MOST 1048576: true; the input reads as it did. -/
def frameCutUptoRow : OpenClaim := { program := "ytjfoepknlleonaadoor", sum := "77b5a09ffb1de173d515c37cb4053ce1589fc812c573cd0c920eaf6e49292402", func := "taffrail/taffraillaw07.FrameCut", spec := "frameCut", named := ["taffrail/event.rows"], apart := false, laid := [("taffrail/event.rows", laid_taffrail_event_rows)], narrowed := true }
def FrameCutUptoSaid : Prop := frameCutUptoRow.holds Tryd.pinned (OpenSpec.upto frameCutSpec)

/-- 'taffraillaw07.FrameBurst', WHERE WHAT IT READS IS OF BULK AT MOST 1048576: true; the input reads as it did. -/
def frameBurstUptoRow : OpenClaim := { program := "ytjfoepknlleonaadoor", sum := "77b5a09ffb1de173d515c37cb4053ce1589fc812c573cd0c920eaf6e49292402", func := "taffrail/taffraillaw07.FrameBurst", spec := "frameBurst", named := ["taffrail/event.rows"], apart := false, laid := [("taffrail/event.rows", laid_taffrail_event_rows)], narrowed := true }
def FrameBurstUptoSaid : Prop := frameBurstUptoRow.holds Tryd.pinned (OpenSpec.upto frameBurstSpec)

/-- 'taffraillaw07.FrameMarkers', WHERE WHAT IT READS IS OF BULK AT MOST 1048576: true; the input reads as it did. -/
def frameMarkersUptoRow : OpenClaim := { program := "ytjfoepknlleonaadoor", sum := "77b5a09ffb1de173d515c37cb4053ce1589fc812c573cd0c920eaf6e49292402", func := "taffrail/taffraillaw07.FrameMarkers", spec := "frameMarkers", named := ["taffrail/event.rows"], apart := false, laid := [("taffrail/event.rows", laid_taffrail_event_rows)], narrowed := true }
def FrameMarkersUptoSaid : Prop := frameMarkersUptoRow.holds Tryd.pinned (OpenSpec.upto frameMarkersSpec)

/-- 'taffraillaw07.FrameNil', WHERE WHAT IT READS IS OF BULK AT MOST 1048576: true; the input reads as it did. -/
def frameNilUptoRow : OpenClaim := { program := "ytjfoepknlleonaadoor", sum := "77b5a09ffb1de173d515c37cb4053ce1589fc812c573cd0c920eaf6e49292402", func := "taffrail/taffraillaw07.FrameNil", spec := "frameNil", named := ["taffrail/event.rows"], apart := false, laid := [("taffrail/event.rows", laid_taffrail_event_rows)], narrowed := true }
def FrameNilUptoSaid : Prop := frameNilUptoRow.holds Tryd.pinned (OpenSpec.upto frameNilSpec)

end Rows
end Go.Proofs.YtjfoepknlleonaaDoor
