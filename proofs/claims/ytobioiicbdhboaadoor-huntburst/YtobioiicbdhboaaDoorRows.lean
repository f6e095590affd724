/-
  NARROWER THAN 'FOR EVERY INPUT', by the rows' own cells (each row's printed sentence says how): HuntPlays: laid · HuntChunks: laid · HuntCounts: laid · HuntBurst: laid · HuntJunk: laid · HuntNil: laid.
  DERIVED. THE GIVEN ROWS OF THIS SEAT. 6 by the template 'for every input the law returns true; each argument reads behind the call as it read before'; 0 by the template 'total and deterministic' (their statements: YtobioiicbdhboaaDoorTotals.lean).
  GIVEN WITH THE SEED: the statements are not yours to turn. If you find one false, say at which input.
  Laid BY PROGRAM, IN A SANDBOX (cutbox-rows.mjs): the forced cells as the released guide's own fill.sh prints them over the translation 76d3c60b57c48030… (all of the seat's roots in one cut). By AI agents, Wed Nov 11 2026. No macro, syntax, notation, axiom, sorry.
-/
import Derived.Test.YtobioiicbdhboaaDoorChecked
import GoSem.Claim
import GoSem.ClaimJoined
import GoSem.ClaimMapViews
import Derived.JoinedTies
import Derived.KernelRfl
namespace Go.Proofs.YtobioiicbdhboaaDoor
/- THE CELL 'sum', in the pinned program and in every row, IS THE sha256 OF THE DUMP (.gsa) THAT YtobioiicbdhboaaDoorProg.lean LOADS. Nothing in Lean hashes anything: it is a label: what it is worth is what the hold of that sum in a sandbox is worth. -/
noncomputable def Tryd.pinned : Pinned := { name := "ytobioiicbdhboaadoor", sum := "76d3c60b57c48030c59e0d6e290833ff06cceed434a6cddbaee2f8b6144bfbd7", checked := Tryd.checked }
namespace Rows
def none {H : Type} : Left H := { results := [], args := [] }

/- WHAT THE LISTED PACKAGE-LEVEL VARIABLES READ AS WHEN THE CALL BEGINS. Each datum BY PROGRAM (the guide's laid-datum.mjs) off the statement by which the dump's own 'gosem.cut.vars' lays the variable. In a bare row this is a premise. The card (YtobioiicbdhboaaDoorCards.lean) ties it to the program's text. -/
def laid_taffrail_event_rows {H : Type} : DataW H := .agg [.agg [.lit (.string []), .lit (.int .i64 0), .lit (.int .i64 0), .lit (.int .i64 0)], .agg [.lit (.string [105, 114, 113]), .lit (.int .i64 3), .lit (.int .i64 2), .lit (.int .i64 0)], .agg [.lit (.string [100, 101, 118]), .lit (.int .i64 3), .lit (.int .i64 6), .lit (.int .i64 1)], .agg [.lit (.string [101, 110, 116, 101, 114]), .lit (.int .i64 3), .lit (.int .i64 0), .lit (.int .i64 0)], .agg [.lit (.string [101, 120, 105, 116]), .lit (.int .i64 3), .lit (.int .i64 0), .lit (.int .i64 0)], .agg [.lit (.string [115, 119, 105, 116, 99, 104]), .lit (.int .i64 5), .lit (.int .i64 5), .lit (.int .i64 0)], .agg [.lit (.string [114, 101, 108, 101, 97, 115, 101]), .lit (.int .i64 4), .lit (.int .i64 0), .lit (.int .i64 1)], .agg [.lit (.string [108, 97, 116, 101]), .lit (.int .i64 4), .lit (.int .i64 0), .lit (.int .i64 11)], .agg [.lit (.string [101, 110, 100]), .lit (.int .i64 4), .lit (.int .i64 0), .lit (.int .i64 1)], .agg [.lit (.string [98, 108, 111, 99, 107]), .lit (.int .i64 4), .lit (.int .i64 10), .lit (.int .i64 0)], .agg [.lit (.string [119, 97, 107, 101]), .lit (.int .i64 4), .lit (.int .i64 2), .lit (.int .i64 0)], .agg [.lit (.string [108, 101, 118, 101, 108]), .lit (.int .i64 4), .lit (.int .i64 9), .lit (.int .i64 0)], .agg [.lit (.string [108, 111, 99, 107]), .lit (.int .i64 4), .lit (.int .i64 8), .lit (.int .i64 0)], .agg [.lit (.string [117, 110, 108, 111, 99, 107]), .lit (.int .i64 4), .lit (.int .i64 8), .lit (.int .i64 0)], .agg [.lit (.string [112, 111, 115, 116]), .lit (.int .i64 7), .lit (.int .i64 8), .lit (.int .i64 12)], .agg [.lit (.string [116, 97, 107, 101]), .lit (.int .i64 4), .lit (.int .i64 8), .lit (.int .i64 12)], .agg [.lit (.string [115, 101, 110, 100]), .lit (.int .i64 6), .lit (.int .i64 8), .lit (.int .i64 1)], .agg [.lit (.string [114, 101, 99, 118]), .lit (.int .i64 6), .lit (.int .i64 8), .lit (.int .i64 1)], .agg [.lit (.string [116, 105, 109, 101, 114]), .lit (.int .i64 8), .lit (.int .i64 0), .lit (.int .i64 0)], .agg [.lit (.string [97, 114, 109]), .lit (.int .i64 6), .lit (.int .i64 8), .lit (.int .i64 1)], .agg [.lit (.string [111, 117, 116]), .lit (.int .i64 3), .lit (.int .i64 6), .lit (.int .i64 1)], .agg [.lit (.string [102, 97, 117, 108, 116]), .lit (.int .i64 6), .lit (.int .i64 13), .lit (.int .i64 0)], .agg [.lit (.string [104, 97, 108, 116]), .lit (.int .i64 4), .lit (.int .i64 0), .lit (.int .i64 0)], .agg [.lit (.string [114, 101, 102, 117, 115, 101]), .lit (.int .i64 7), .lit (.int .i64 13), .lit (.int .i64 14)], .agg [.lit (.string [99, 108, 111, 115, 101]), .lit (.int .i64 0), .lit (.int .i64 0), .lit (.int .i64 0)]]

/-- 'taffraillaw09.HuntPlays': WHATEVER THE INPUT: true; the input reads as it did. -/
def huntPlaysSpec : ChangeSpec := { name := "huntPlays", fn := fun _ => fun
  | [d] => { results := [.lit (.bool true)], args := [d] }
  | _ => none }
def huntPlaysRow : OpenClaim := { program := "ytobioiicbdhboaadoor", sum := "76d3c60b57c48030c59e0d6e290833ff06cceed434a6cddbaee2f8b6144bfbd7", func := "taffrail/taffraillaw09.HuntPlays", spec := "huntPlays", named := ["taffrail/event.rows"], apart := false, laid := [("taffrail/event.rows", laid_taffrail_event_rows)] }
def HuntPlaysSaid : Prop := huntPlaysRow.holds Tryd.pinned (OpenSpec.ofChange huntPlaysSpec)

/-- ITS FALSE NEIGHBOUR: 'it returns false'. Refute it at one input. -/
def huntPlaysWrong : ChangeSpec := { name := "huntPlays", fn := fun _ => fun
  | [d] => { results := [.lit (.bool false)], args := [d] }
  | _ => none }
def HuntPlaysWrongFalsely : Prop := huntPlaysRow.holds Tryd.pinned (OpenSpec.ofChange huntPlaysWrong)

/-- 'taffraillaw09.HuntChunks': WHATEVER THE INPUT: true; the input reads as it did. -/
def huntChunksSpec : ChangeSpec := { name := "huntChunks", fn := fun _ => fun
  | [d] => { results := [.lit (.bool true)], args := [d] }
  | _ => none }
def huntChunksRow : OpenClaim := { program := "ytobioiicbdhboaadoor", sum := "76d3c60b57c48030c59e0d6e290833ff06cceed434a6cddbaee2f8b6144bfbd7", func := "taffrail/taffraillaw09.HuntChunks", spec := "huntChunks", named := ["taffrail/event.rows"], apart := false, laid := [("taffrail/event.rows", laid_taffrail_event_rows)] }
def HuntChunksSaid : Prop := huntChunksRow.holds Tryd.pinned (OpenSpec.ofChange huntChunksSpec)

/-- ITS FALSE NEIGHBOUR: 'it returns false'. Refute it at one input. -/
def huntChunksWrong : ChangeSpec := { name := "huntChunks", fn := fun _ => fun
  | [d] => { results := [.lit (.bool false)], args := [d] }
  | _ => none }
def HuntChunksWrongFalsely : Prop := huntChunksRow.holds Tryd.pinned (OpenSpec.ofChange huntChunksWrong)

/-- 'taffraillaw09.HuntCounts': WHATEVER THE INPUT: true; the input reads as it did. -/
def huntCountsSpec : ChangeSpec := { name := "huntCounts", fn := fun _ => fun
  | [d] => { results := [.lit (.bool true)], args := [d] }
  | _ => none }
def huntCountsRow : OpenClaim := { program := "ytobioiicbdhboaadoor", sum := "76d3c60b57c48030c59e0d6e290833ff06cceed434a6cddbaee2f8b6144bfbd7", func := "taffrail/taffraillaw09.HuntCounts", spec := "huntCounts", named := ["taffrail/event.rows"], apart := false, laid := [("taffrail/event.rows", laid_taffrail_event_rows)] }
def HuntCountsSaid : Prop := huntCountsRow.holds Tryd.pinned (OpenSpec.ofChange huntCountsSpec)

/-- ITS FALSE NEIGHBOUR: 'it returns false'. Refute it at one input. -/
def huntCountsWrong : ChangeSpec := { name := "huntCounts", fn := fun _ => fun
  | [d] => { results := [.lit (.bool false)], args := [d] }
  | _ => none }
def HuntCountsWrongFalsely : Prop := huntCountsRow.holds Tryd.pinned (OpenSpec.ofChange huntCountsWrong)

/-- 'taffraillaw09.HuntBurst': WHATEVER THE INPUT: true; the input reads as it did. -/
def huntBurstSpec : ChangeSpec := { name := "huntBurst", fn := fun _ => fun
  | [d1, d2, d3] => { results := [.lit (.bool true)], args := [d1, d2, d3] }
  | _ => none }
def huntBurstRow : OpenClaim := { program := "ytobioiicbdhboaadoor", sum := "76d3c60b57c48030c59e0d6e290833ff06cceed434a6cddbaee2f8b6144bfbd7", func := "taffrail/taffraillaw09.HuntBurst", spec := "huntBurst", named := ["taffrail/event.rows"], apart := false, laid := [("taffrail/event.rows", laid_taffrail_event_rows)] }
def HuntBurstSaid : Prop := huntBurstRow.holds Tryd.pinned (OpenSpec.ofChange huntBurstSpec)

/-- ITS FALSE NEIGHBOUR: 'it returns false'. Refute it at one input. -/
def huntBurstWrong : ChangeSpec := { name := "huntBurst", fn := fun _ => fun
  | [d1, d2, d3] => { results := [.lit (.bool false)], args := [d1, d2, d3] }
  | _ => none }
def HuntBurstWrongFalsely : Prop := huntBurstRow.holds Tryd.pinned (OpenSpec.ofChange huntBurstWrong)

/-- 'taffraillaw09.HuntJunk': WHATEVER THE INPUT: true; the input reads as it did. -/
def huntJunkSpec : ChangeSpec := { name := "huntJunk", fn := fun _ => fun
  | [d1, d2] => { results := [.lit (.bool true)], args := [d1, d2] }
  | _ => none }
def huntJunkRow : OpenClaim := { program := "ytobioiicbdhboaadoor", sum := "76d3c60b57c48030c59e0d6e290833ff06cceed434a6cddbaee2f8b6144bfbd7", func := "taffrail/taffraillaw09.HuntJunk", spec := "huntJunk", named := ["taffrail/event.rows"], apart := false, laid := [("taffrail/event.rows", laid_taffrail_event_rows)] }
def HuntJunkSaid : Prop := huntJunkRow.holds Tryd.pinned (OpenSpec.ofChange huntJunkSpec)

/-- ITS FALSE NEIGHBOUR: 'it returns false'. Refute it at one input. -/
def huntJunkWrong : ChangeSpec := { name := "huntJunk", fn := fun _ => fun
  | [d1, d2] => { results := [.lit (.bool false)], args := [d1, d2] }
  | _ => none }
def HuntJunkWrongFalsely : Prop := huntJunkRow.holds Tryd.pinned (OpenSpec.ofChange huntJunkWrong)

/-- 'taffraillaw09.HuntNil': WHATEVER THE INPUT: true; the input reads as it did. -/
def huntNilSpec : ChangeSpec := { name := "huntNil", fn := fun _ => fun
  | [d] => { results := [.lit (.bool true)], args := [d] }
  | _ => none }
def huntNilRow : OpenClaim := { program := "ytobioiicbdhboaadoor", sum := "76d3c60b57c48030c59e0d6e290833ff06cceed434a6cddbaee2f8b6144bfbd7", func := "taffrail/taffraillaw09.HuntNil", spec := "huntNil", named := ["taffrail/event.rows"], apart := false, laid := [("taffrail/event.rows", laid_taffrail_event_rows)] }
def HuntNilSaid : Prop := huntNilRow.holds Tryd.pinned (OpenSpec.ofChange huntNilSpec)

/-- ITS FALSE NEIGHBOUR: 'it returns false'. Refute it at one input. -/
def huntNilWrong : ChangeSpec := { name := "huntNil", fn := fun _ => fun
  | [d] => { results := [.lit (.bool false)], args := [d] }
  | _ => none }
def HuntNilWrongFalsely : Prop := huntNilRow.holds Tryd.pinned (OpenSpec.ofChange huntNilWrong)

/- THE SECOND FORM. 'bulk': how many values and letters a reading holds, each counted each time it is reached (what is shared counts as often as it is met; a slice's spare places count too). A statement '..UptoSaid' is the law's where the arguments, and the package variables that the reading takes, are together of bulk at most 1048576: NARROWER than '..Said'. Prove '..Said' where nothing that the law and all that it calls make is longer than what came in: it says more and counts as full. Else prove '..UptoSaid'. A law counts once. -/
mutual
def uptoBulk {H : Type} : DataW H → Nat
  | .lit (.string bytes) => bytes.length + 1
  | .lit _ => 1
  | .nil => 1
  | .ptr d => uptoBulk d + 1
  | .slice elems spare => uptoBulkAll elems + uptoBulkAll spare + 1
  | .agg parts => uptoBulkAll parts + 1
  | .iface _ d => uptoBulk d + 1
  | .map entries => uptoBulkEntries entries + 1
  | .held _ => 1
def uptoBulkAll {H : Type} : List (DataW H) → Nat
  | [] => 0
  | d :: r => uptoBulk d + uptoBulkAll r
def uptoBulkEntries {H : Type} : List (Lit × DataW H) → Nat
  | [] => 0
  | x :: r => uptoBulkEntry x + uptoBulkEntries r
def uptoBulkEntry {H : Type} : Lit × DataW H → Nat
  | (.string bytes, d) => bytes.length + uptoBulk d + 1
  | (_, d) => uptoBulk d + 1
 end
def uptoSmall : (H : Type) → List (DataW H) → Bool := fun _ ds => decide (uptoBulkAll ds ≤ 1048576)
def OpenSpec.upto (s : _root_.Go.ChangeSpec) : _root_.Go.OpenSpec := { _root_.Go.OpenSpec.ofChange s with cond := some uptoSmall }

/-- 'taffraillaw09.HuntPlays', WHERE WHAT IT READS IS OF BULK AT MOST 1048576: true; the input reads as it did. -/
def huntPlaysUptoRow : OpenClaim := { program := "ytobioiicbdhboaadoor", sum := "76d3c60b57c48030c59e0d6e290833ff06cceed434a6cddbaee2f8b6144bfbd7", func := "taffrail/taffraillaw09.HuntPlays", spec := "huntPlays", named := ["taffrail/event.rows"], apart := false, laid := [("taffrail/event.rows", laid_taffrail_event_rows)], narrowed := true }
def HuntPlaysUptoSaid : Prop := huntPlaysUptoRow.holds Tryd.pinned (OpenSpec.upto huntPlaysSpec)

/-- 'taffraillaw09.HuntChunks', WHERE WHAT IT READS IS OF BULK AT MOST 1048576: true; the input reads as it did. -/
def huntChunksUptoRow : OpenClaim := { program := "ytobioiicbdhboaadoor", sum := "76d3c60b57c48030c59e0d6e290833ff06cceed434a6cddbaee2f8b6144bfbd7", func := "taffrail/taffraillaw09.HuntChunks", spec := "huntChunks", named := ["taffrail/event.rows"], apart := false, laid := [("taffrail/event.rows", laid_taffrail_event_rows)], narrowed := true }
def HuntChunksUptoSaid : Prop := huntChunksUptoRow.holds Tryd.pinned (OpenSpec.upto huntChunksSpec)

/-- 'taffraillaw09.HuntCounts', WHERE WHAT IT READS IS OF BULK AT MOST 1048576: true; the input reads as it did. -/
def huntCountsUptoRow : OpenClaim := { program := "ytobioiicbdhboaadoor", sum := "76d3c60b57c48030c59e0d6e290833ff06cceed434a6cddbaee2f8b6144bfbd7", func := "taffrail/taffraillaw09.HuntCounts", spec := "huntCounts", named := ["taffrail/event.rows"], apart := false, laid := [("taffrail/event.rows", laid_taffrail_event_rows)], narrowed := true }
def HuntCountsUptoSaid : Prop := huntCountsUptoRow.holds Tryd.pinned (OpenSpec.upto huntCountsSpec)

/-- 'taffraillaw09.HuntBurst', WHERE WHAT IT READS IS OF BULK AT MOST 1048576: true; the input reads as it did. -/
def huntBurstUptoRow : OpenClaim := { program := "ytobioiicbdhboaadoor", sum := "76d3c60b57c48030c59e0d6e290833ff06cceed434a6cddbaee2f8b6144bfbd7", func := "taffrail/taffraillaw09.HuntBurst", spec := "huntBurst", named := ["taffrail/event.rows"], apart := false, laid := [("taffrail/event.rows", laid_taffrail_event_rows)], narrowed := true }
def HuntBurstUptoSaid : Prop := huntBurstUptoRow.holds Tryd.pinned (OpenSpec.upto huntBurstSpec)

/-- 'taffraillaw09.HuntJunk', WHERE WHAT IT READS IS OF BULK AT MOST 1048576: true; the input reads as it did. -/
def huntJunkUptoRow : OpenClaim := { program := "ytobioiicbdhboaadoor", sum := "76d3c60b57c48030c59e0d6e290833ff06cceed434a6cddbaee2f8b6144bfbd7", func := "taffrail/taffraillaw09.HuntJunk", spec := "huntJunk", named := ["taffrail/event.rows"], apart := false, laid := [("taffrail/event.rows", laid_taffrail_event_rows)], narrowed := true }
def HuntJunkUptoSaid : Prop := huntJunkUptoRow.holds Tryd.pinned (OpenSpec.upto huntJunkSpec)

/-- 'taffraillaw09.HuntNil', WHERE WHAT IT READS IS OF BULK AT MOST 1048576: true; the input reads as it did. -/
def huntNilUptoRow : OpenClaim := { program := "ytobioiicbdhboaadoor", sum := "76d3c60b57c48030c59e0d6e290833ff06cceed434a6cddbaee2f8b6144bfbd7", func := "taffrail/taffraillaw09.HuntNil", spec := "huntNil", named := ["taffrail/event.rows"], apart := false, laid := [("taffrail/event.rows", laid_taffrail_event_rows)], narrowed := true }
def HuntNilUptoSaid : Prop := huntNilUptoRow.holds Tryd.pinned (OpenSpec.upto huntNilSpec)

end Rows
end Go.Proofs.YtobioiicbdhboaaDoor
