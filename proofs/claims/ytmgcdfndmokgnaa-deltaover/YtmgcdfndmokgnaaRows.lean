/-
  No cell of these rows narrows 'for every input' (looked for: loops, veiled, ifaces, maps, wideKeys, modest, calm, conditions, laid).
  DERIVED. THE GIVEN ROWS OF THIS SEAT. 5 by the template 'for every input the law returns true; each argument reads behind the call as it read before'; 0 by the template 'total and deterministic' (their statements: YtmgcdfndmokgnaaTotals.lean).
  GIVEN WITH THE SEED: the statements are not yours to turn. If you find one false, say at which input.
  Laid BY PROGRAM, IN A SANDBOX (cutbox-rows.mjs): the forced cells as the released guide's own fill.sh prints them over the translation c824a7a543030550… (all of the seat's roots in one cut). By AI agents, Wed Nov 11 2026. No macro, syntax, notation, axiom, sorry.
-/
import Derived.Test.YtmgcdfndmokgnaaChecked
import GoSem.Claim
import GoSem.ClaimJoined
import GoSem.ClaimMapViews
import Derived.JoinedTies
import Derived.KernelRfl
namespace Go.Proofs.Ytmgcdfndmokgnaa
/- THE CELL 'sum', in the pinned program and in every row, IS THE sha256 OF THE DUMP (.gsa) THAT YtmgcdfndmokgnaaProg.lean LOADS. Nothing in Lean hashes anything: it is a label: what it is worth is what the hold of that sum in a sandbox is worth. -/
noncomputable def Try.pinned : Pinned := { name := "ytmgcdfndmokgnaa", sum := "c824a7a5430305506aa35def5ded3caf36d4c95bacd5d2db4bca78739d29e5e3", checked := Try.checked }
namespace Rows
def none {H : Type} : Left H := { results := [], args := [] }

/-- 'taffraillaw15.DeltaPlays': WHATEVER THE INPUT: true; the input reads as it did. -/
def deltaPlaysSpec : ChangeSpec := { name := "deltaPlays", fn := fun _ => fun
  | [d] => { results := [.lit (.bool true)], args := [d] }
  | _ => none }
def deltaPlaysRow : OpenClaim := { program := "ytmgcdfndmokgnaa", sum := "c824a7a5430305506aa35def5ded3caf36d4c95bacd5d2db4bca78739d29e5e3", func := "taffrail/taffraillaw15.DeltaPlays", spec := "deltaPlays", inPlace := ["slices.overlaps[taffrail/delta.clock]"], unfollowed := true, recurses := true, apart := false }
def DeltaPlaysSaid : Prop := deltaPlaysRow.holds Try.pinned (OpenSpec.ofChange deltaPlaysSpec)

/-- ITS FALSE NEIGHBOUR: 'it returns false'. Refute it at one input. -/
def deltaPlaysWrong : ChangeSpec := { name := "deltaPlays", fn := fun _ => fun
  | [d] => { results := [.lit (.bool false)], args := [d] }
  | _ => none }
def DeltaPlaysWrongFalsely : Prop := deltaPlaysRow.holds Try.pinned (OpenSpec.ofChange deltaPlaysWrong)

/-- 'taffraillaw15.DeltaOver': WHATEVER THE INPUT: true; the input reads as it did. -/
def deltaOverSpec : ChangeSpec := { name := "deltaOver", fn := fun _ => fun
  | [d] => { results := [.lit (.bool true)], args := [d] }
  | _ => none }
def deltaOverRow : OpenClaim := { program := "ytmgcdfndmokgnaa", sum := "c824a7a5430305506aa35def5ded3caf36d4c95bacd5d2db4bca78739d29e5e3", func := "taffrail/taffraillaw15.DeltaOver", spec := "deltaOver", inPlace := ["slices.overlaps[taffrail/delta.clock]"], unfollowed := true, recurses := true, apart := false }
def DeltaOverSaid : Prop := deltaOverRow.holds Try.pinned (OpenSpec.ofChange deltaOverSpec)

/-- ITS FALSE NEIGHBOUR: 'it returns false'. Refute it at one input. -/
def deltaOverWrong : ChangeSpec := { name := "deltaOver", fn := fun _ => fun
  | [d] => { results := [.lit (.bool false)], args := [d] }
  | _ => none }
def DeltaOverWrongFalsely : Prop := deltaOverRow.holds Try.pinned (OpenSpec.ofChange deltaOverWrong)

/-- 'taffraillaw15.DeltaApart': WHATEVER THE INPUT: true; the input reads as it did. -/
def deltaApartSpec : ChangeSpec := { name := "deltaApart", fn := fun _ => fun
  | [d1, d2] => { results := [.lit (.bool true)], args := [d1, d2] }
  | _ => none }
def deltaApartRow : OpenClaim := { program := "ytmgcdfndmokgnaa", sum := "c824a7a5430305506aa35def5ded3caf36d4c95bacd5d2db4bca78739d29e5e3", func := "taffrail/taffraillaw15.DeltaApart", spec := "deltaApart", inPlace := ["slices.overlaps[taffrail/delta.clock]"], unfollowed := true, recurses := true, apart := false }
def DeltaApartSaid : Prop := deltaApartRow.holds Try.pinned (OpenSpec.ofChange deltaApartSpec)

/-- ITS FALSE NEIGHBOUR: 'it returns false'. Refute it at one input. -/
def deltaApartWrong : ChangeSpec := { name := "deltaApart", fn := fun _ => fun
  | [d1, d2] => { results := [.lit (.bool false)], args := [d1, d2] }
  | _ => none }
def DeltaApartWrongFalsely : Prop := deltaApartRow.holds Try.pinned (OpenSpec.ofChange deltaApartWrong)

/-- 'taffraillaw15.DeltaRises': WHATEVER THE INPUT: true; the input reads as it did. -/
def deltaRisesSpec : ChangeSpec := { name := "deltaRises", fn := fun _ => fun
  | [d] => { results := [.lit (.bool true)], args := [d] }
  | _ => none }
def deltaRisesRow : OpenClaim := { program := "ytmgcdfndmokgnaa", sum := "c824a7a5430305506aa35def5ded3caf36d4c95bacd5d2db4bca78739d29e5e3", func := "taffrail/taffraillaw15.DeltaRises", spec := "deltaRises", inPlace := ["slices.overlaps[taffrail/delta.clock]"], unfollowed := true, recurses := true, apart := false }
def DeltaRisesSaid : Prop := deltaRisesRow.holds Try.pinned (OpenSpec.ofChange deltaRisesSpec)

/-- ITS FALSE NEIGHBOUR: 'it returns false'. Refute it at one input. -/
def deltaRisesWrong : ChangeSpec := { name := "deltaRises", fn := fun _ => fun
  | [d] => { results := [.lit (.bool false)], args := [d] }
  | _ => none }
def DeltaRisesWrongFalsely : Prop := deltaRisesRow.holds Try.pinned (OpenSpec.ofChange deltaRisesWrong)

/-- 'taffraillaw15.DeltaNil': WHATEVER THE INPUT: true; the input reads as it did. -/
def deltaNilSpec : ChangeSpec := { name := "deltaNil", fn := fun _ => fun
  | [d1, d2] => { results := [.lit (.bool true)], args := [d1, d2] }
  | _ => none }
def deltaNilRow : OpenClaim := { program := "ytmgcdfndmokgnaa", sum := "c824a7a5430305506aa35def5ded3caf36d4c95bacd5d2db4bca78739d29e5e3", func := "taffrail/taffraillaw15.DeltaNil", spec := "deltaNil", inPlace := ["slices.overlaps[taffrail/delta.clock]"], unfollowed := true, recurses := true, apart := false }
def DeltaNilSaid : Prop := deltaNilRow.holds Try.pinned (OpenSpec.ofChange deltaNilSpec)

/-- ITS FALSE NEIGHBOUR: 'it returns false'. Refute it at one input. -/
def deltaNilWrong : ChangeSpec := { name := "deltaNil", fn := fun _ => fun
  | [d1, d2] => { results := [.lit (.bool false)], args := [d1, d2] }
  | _ => none }
def DeltaNilWrongFalsely : Prop := deltaNilRow.holds Try.pinned (OpenSpec.ofChange deltaNilWrong)

/- THE SECOND FORM. 'bulk': how many values and letters a reading holds, each counted each time it is reached (what is shared counts as often as it is met; a slice's spare places count too). A statement '..UptoSaid' is the law's where the arguments, and the package variables that the reading takes, are together of bulk at most 1048576: NARROWER than '..Said'. Prove '..Said' where nothing that the law and all that it calls make is longer than what came in: it says more and counts as full. Else prove '..UptoSaid'. A law counts once. -/
mutual
def uptoBulk {H : Type} : DataW H → Nat
  | .lit (.string bytes) => bytes.length + 1
  | .lit _ => 1
  | .nil => 1
  | .ptr d => uptoBulk d + 1
  | .slice elems spare => uptoBulkAll elems + uptoBulkAll spare + 1
  | .agg parts => uptoBulkAll parts + 1
  | .iface _ d => uptoBulk d + 1
  | .map entries => uptoBulkEntries entries + 1
  | .held _ => 1
def uptoBulkAll {H : Type} : List (DataW H) → Nat
  | [] => 0
  | d :: r => uptoBulk d + uptoBulkAll r
def uptoBulkEntries {H : Type} : List (Lit × DataW H) → Nat
  | [] => 0
  | x :: r => uptoBulkEntry x + uptoBulkEntries r
def uptoBulkEntry {H : Type} : Lit × DataW H → Nat
  | (.string bytes, d) => bytes.length + uptoBulk d + 1
  | (_, d) => uptoBulk d + 1
 end
def uptoSmall : (H : Type) → List (DataW H) → Bool := fun _ ds => decide (uptoBulkAll ds ≤ 1048576)
def OpenSpec.upto (s : _root_.Go.ChangeSpec) : _root_.Go.OpenSpec := { _root_.Go.OpenSpec.ofChange s with cond := some uptoSmall }

/-- 'taffraillaw15.DeltaPlays', WHERE WHAT IT READS IS OF BULK AT MOST 1048576: true; the input reads as it did. -/
def deltaPlaysUptoRow : OpenClaim := { program := "ytmgcdfndmokgnaa", sum := "c824a7a5430305506aa35def5ded3caf36d4c95bacd5d2db4bca78739d29e5e3", func := "taffrail/taffraillaw15.DeltaPlays", spec := "deltaPlays", inPlace := ["slices.overlaps[taffrail/delta.clock]"], unfollowed := true, recurses := true, apart := false, narrowed := true }
def DeltaPlaysUptoSaid : Prop := deltaPlaysUptoRow.holds Try.pinned (OpenSpec.upto deltaPlaysSpec)

/-- 'taffraillaw15.DeltaOver', WHERE WHAT IT READS IS OF BULK AT MOST 1048576: true; the input reads as it did. -/
def deltaOverUptoRow : OpenClaim := { program := "ytmgcdfndmokgnaa", sum := "c824a7a5430305506aa35def5ded3caf36d4c95bacd5d2db4bca78739d29e5e3", func := "taffrail/taffraillaw15.DeltaOver", spec := "deltaOver", inPlace := ["slices.overlaps[taffrail/delta.clock]"], unfollowed := true, recurses := true, apart := false, narrowed := true }
def DeltaOverUptoSaid : Prop := deltaOverUptoRow.holds Try.pinned (OpenSpec.upto deltaOverSpec)

/-- 'taffraillaw15.DeltaApart', WHERE WHAT IT READS IS OF BULK AT MOST 1048576: true; the input reads as it did. -/
def deltaApartUptoRow : OpenClaim := { program := "ytmgcdfndmokgnaa", sum := "c824a7a5430305506aa35def5ded3caf36d4c95bacd5d2db4bca78739d29e5e3", func := "taffrail/taffraillaw15.DeltaApart", spec := "deltaApart", inPlace := ["slices.overlaps[taffrail/delta.clock]"], unfollowed := true, recurses := true, apart := false, narrowed := true }
def DeltaApartUptoSaid : Prop := deltaApartUptoRow.holds Try.pinned (OpenSpec.upto deltaApartSpec)

/-- 'taffraillaw15.DeltaRises', WHERE WHAT IT READS IS OF BULK AT MOST 1048576: true; the input reads as it did. -/
def deltaRisesUptoRow : OpenClaim := { program := "ytmgcdfndmokgnaa", sum := "c824a7a5430305506aa35def5ded3caf36d4c95bacd5d2db4bca78739d29e5e3", func := "taffrail/taffraillaw15.DeltaRises", spec := "deltaRises", inPlace := ["slices.overlaps[taffrail/delta.clock]"], unfollowed := true, recurses := true, apart := false, narrowed := true }
def DeltaRisesUptoSaid : Prop := deltaRisesUptoRow.holds Try.pinned (OpenSpec.upto deltaRisesSpec)

/-- 'taffraillaw15.DeltaNil', WHERE WHAT IT READS IS OF BULK AT MOST 1048576: true; the input reads as it did. -/
def deltaNilUptoRow : OpenClaim := { program := "ytmgcdfndmokgnaa", sum := "c824a7a5430305506aa35def5ded3caf36d4c95bacd5d2db4bca78739d29e5e3", func := "taffrail/taffraillaw15.DeltaNil", spec := "deltaNil", inPlace := ["slices.overlaps[taffrail/delta.clock]"], unfollowed := true, recurses := true, apart := false, narrowed := true }
def DeltaNilUptoSaid : Prop := deltaNilUptoRow.holds Try.pinned (OpenSpec.upto deltaNilSpec)

end Rows
end Go.Proofs.Ytmgcdfndmokgnaa
