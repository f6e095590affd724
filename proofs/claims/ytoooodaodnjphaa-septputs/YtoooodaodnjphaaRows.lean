/-
  No cell of these rows narrows 'for every input' (looked for: loops, veiled, ifaces, maps, wideKeys, modest, calm, conditions, laid).
  DERIVED. THE GIVEN ROWS OF THIS SEAT. 6 by the template 'for every input the law returns true; each argument reads behind the call as it read before'; 0 by the template 'total and deterministic' (their statements: YtoooodaodnjphaaTotals.lean).
  GIVEN WITH THE SEED: the statements are not yours to turn. If you find one false, say at which input.
  Laid BY PROGRAM, IN A SANDBOX (cutbox-rows.mjs): the forced cells as the released guide's own fill.sh prints them over the translation 14499b0b5483ecce… (all of the seat's roots in one cut). By AI agents, Wed Nov 11 2026. No macro, syntax, notation, axiom, sorry.
-/
import Derived.Test.YtoooodaodnjphaaChecked
import GoSem.Claim
import GoSem.ClaimJoined
import GoSem.ClaimMapViews
import Derived.JoinedTies
import Derived.KernelRfl
namespace Go.Proofs.Ytoooodaodnjphaa
/- THE CELL 'sum', in the pinned program and in every row, IS THE sha256 OF THE DUMP (.gsa) THAT YtoooodaodnjphaaProg.lean LOADS. Nothing in Lean hashes anything: it is a label: what it is worth is what the hold of that sum in a sandbox is worth. -/
noncomputable def Try.pinned : Pinned := { name := "ytoooodaodnjphaa", sum := "14499b0b5483ecce044497be3a0b2d78e4aa547e3cb19a3e8f3bbb306c643885", checked := Try.checked }
namespace Rows
def none {H : Type} : Left H := { results := [], args := [] }

/-- 'taffraillaw04.SeptPuts': WHATEVER THE INPUT: true; the input reads as it did. -/
def septPutsSpec : ChangeSpec := { name := "septPuts", fn := fun _ => fun
  | [d1, d2] => { results := [.lit (.bool true)], args := [d1, d2] }
  | _ => none }
def septPutsRow : OpenClaim := { program := "ytoooodaodnjphaa", sum := "14499b0b5483ecce044497be3a0b2d78e4aa547e3cb19a3e8f3bbb306c643885", func := "taffrail/taffraillaw04.SeptPuts", spec := "septPuts", apart := false }
def SeptPutsSaid : Prop := septPutsRow.holds Try.pinned (OpenSpec.ofChange septPutsSpec)

/-- ITS FALSE NEIGHBOUR: 'it returns false'. Refute it at one input. -/
def septPutsWrong : ChangeSpec := { name := "septPuts", fn := fun _ => fun
  | [d1, d2] => { results := [.lit (.bool false)], args := [d1, d2] }
  | _ => none }
def SeptPutsWrongFalsely : Prop := septPutsRow.holds Try.pinned (OpenSpec.ofChange septPutsWrong)

/-- 'taffraillaw04.SeptGets': WHATEVER THE INPUT: true; the input reads as it did. -/
def septGetsSpec : ChangeSpec := { name := "septGets", fn := fun _ => fun
  | [d1, d2, d3] => { results := [.lit (.bool true)], args := [d1, d2, d3] }
  | _ => none }
def septGetsRow : OpenClaim := { program := "ytoooodaodnjphaa", sum := "14499b0b5483ecce044497be3a0b2d78e4aa547e3cb19a3e8f3bbb306c643885", func := "taffrail/taffraillaw04.SeptGets", spec := "septGets", apart := false }
def SeptGetsSaid : Prop := septGetsRow.holds Try.pinned (OpenSpec.ofChange septGetsSpec)

/-- ITS FALSE NEIGHBOUR: 'it returns false'. Refute it at one input. -/
def septGetsWrong : ChangeSpec := { name := "septGets", fn := fun _ => fun
  | [d1, d2, d3] => { results := [.lit (.bool false)], args := [d1, d2, d3] }
  | _ => none }
def SeptGetsWrongFalsely : Prop := septGetsRow.holds Try.pinned (OpenSpec.ofChange septGetsWrong)

/-- 'taffraillaw04.SeptBack': WHATEVER THE INPUT: true; the input reads as it did. -/
def septBackSpec : ChangeSpec := { name := "septBack", fn := fun _ => fun
  | [d1, d2, d3] => { results := [.lit (.bool true)], args := [d1, d2, d3] }
  | _ => none }
def septBackRow : OpenClaim := { program := "ytoooodaodnjphaa", sum := "14499b0b5483ecce044497be3a0b2d78e4aa547e3cb19a3e8f3bbb306c643885", func := "taffrail/taffraillaw04.SeptBack", spec := "septBack", apart := false }
def SeptBackSaid : Prop := septBackRow.holds Try.pinned (OpenSpec.ofChange septBackSpec)

/-- ITS FALSE NEIGHBOUR: 'it returns false'. Refute it at one input. -/
def septBackWrong : ChangeSpec := { name := "septBack", fn := fun _ => fun
  | [d1, d2, d3] => { results := [.lit (.bool false)], args := [d1, d2, d3] }
  | _ => none }
def SeptBackWrongFalsely : Prop := septBackRow.holds Try.pinned (OpenSpec.ofChange septBackWrong)

/-- 'taffraillaw04.SeptOne': WHATEVER THE INPUT: true; the input reads as it did. -/
def septOneSpec : ChangeSpec := { name := "septOne", fn := fun _ => fun
  | [d1, d2, d3] => { results := [.lit (.bool true)], args := [d1, d2, d3] }
  | _ => none }
def septOneRow : OpenClaim := { program := "ytoooodaodnjphaa", sum := "14499b0b5483ecce044497be3a0b2d78e4aa547e3cb19a3e8f3bbb306c643885", func := "taffrail/taffraillaw04.SeptOne", spec := "septOne", apart := false }
def SeptOneSaid : Prop := septOneRow.holds Try.pinned (OpenSpec.ofChange septOneSpec)

/-- ITS FALSE NEIGHBOUR: 'it returns false'. Refute it at one input. -/
def septOneWrong : ChangeSpec := { name := "septOne", fn := fun _ => fun
  | [d1, d2, d3] => { results := [.lit (.bool false)], args := [d1, d2, d3] }
  | _ => none }
def SeptOneWrongFalsely : Prop := septOneRow.holds Try.pinned (OpenSpec.ofChange septOneWrong)

/-- 'taffraillaw04.SeptSums': WHATEVER THE INPUT: true; the input reads as it did. -/
def septSumsSpec : ChangeSpec := { name := "septSums", fn := fun _ => fun
  | [d] => { results := [.lit (.bool true)], args := [d] }
  | _ => none }
def septSumsRow : OpenClaim := { program := "ytoooodaodnjphaa", sum := "14499b0b5483ecce044497be3a0b2d78e4aa547e3cb19a3e8f3bbb306c643885", func := "taffrail/taffraillaw04.SeptSums", spec := "septSums", apart := false }
def SeptSumsSaid : Prop := septSumsRow.holds Try.pinned (OpenSpec.ofChange septSumsSpec)

/-- ITS FALSE NEIGHBOUR: 'it returns false'. Refute it at one input. -/
def septSumsWrong : ChangeSpec := { name := "septSums", fn := fun _ => fun
  | [d] => { results := [.lit (.bool false)], args := [d] }
  | _ => none }
def SeptSumsWrongFalsely : Prop := septSumsRow.holds Try.pinned (OpenSpec.ofChange septSumsWrong)

/-- 'taffraillaw04.SeptNil': WHATEVER THE INPUT: true; the input reads as it did. -/
def septNilSpec : ChangeSpec := { name := "septNil", fn := fun _ => fun
  | [d1, d2] => { results := [.lit (.bool true)], args := [d1, d2] }
  | _ => none }
def septNilRow : OpenClaim := { program := "ytoooodaodnjphaa", sum := "14499b0b5483ecce044497be3a0b2d78e4aa547e3cb19a3e8f3bbb306c643885", func := "taffrail/taffraillaw04.SeptNil", spec := "septNil", apart := false }
def SeptNilSaid : Prop := septNilRow.holds Try.pinned (OpenSpec.ofChange septNilSpec)

/-- ITS FALSE NEIGHBOUR: 'it returns false'. Refute it at one input. -/
def septNilWrong : ChangeSpec := { name := "septNil", fn := fun _ => fun
  | [d1, d2] => { results := [.lit (.bool false)], args := [d1, d2] }
  | _ => none }
def SeptNilWrongFalsely : Prop := septNilRow.holds Try.pinned (OpenSpec.ofChange septNilWrong)

/- THE SECOND FORM. 'bulk': how many values and letters a reading holds, each counted each time it is reached (what is shared counts as often as it is met; a slice's spare places count too). A statement '..UptoSaid' is the law's where the arguments, and the package variables that the reading takes, are together of bulk at most 1048576: NARROWER than '..Said'. Prove '..Said' where nothing that the law and all that it calls make is longer than what came in: it says more and counts as full. Else prove '..UptoSaid'. A law counts once. -/
mutual
def uptoBulk {H : Type} : DataW H → Nat
  | .lit (.string bytes) => bytes.length + 1
  | .lit _ => 1
  | .nil => 1
  | .ptr d => uptoBulk d + 1
  | .slice elems spare => uptoBulkAll elems + uptoBulkAll spare + 1
  | .agg parts => uptoBulkAll parts + 1
  | .iface _ d => uptoBulk d + 1
  | .map entries => uptoBulkEntries entries + 1
  | .held _ => 1
def uptoBulkAll {H : Type} : List (DataW H) → Nat
  | [] => 0
  | d :: r => uptoBulk d + uptoBulkAll r
def uptoBulkEntries {H : Type} : List (Lit × DataW H) → Nat
  | [] => 0
  | x :: r => uptoBulkEntry x + uptoBulkEntries r
def uptoBulkEntry {H : Type} : Lit × DataW H → Nat
  | (.string bytes, d) => bytes.length + uptoBulk d + 1
  | (_, d) => uptoBulk d + 1
 end
def uptoSmall : (H : Type) → List (DataW H) → Bool := fun _ ds => decide (uptoBulkAll ds ≤ 1048576)
def OpenSpec.upto (s : _root_.Go.ChangeSpec) : _root_.Go.OpenSpec := { _root_.Go.OpenSpec.ofChange s with cond := some uptoSmall }

/-- 'taffraillaw04.SeptPuts', WHERE WHAT IT READS IS OF BULK AT MOST 1048576: true; the input reads as it did. -/
def septPutsUptoRow : OpenClaim := { program := "ytoooodaodnjphaa", sum := "14499b0b5483ecce044497be3a0b2d78e4aa547e3cb19a3e8f3bbb306c643885", func := "taffrail/taffraillaw04.SeptPuts", spec := "septPuts", apart := false, narrowed := true }
def SeptPutsUptoSaid : Prop := septPutsUptoRow.holds Try.pinned (OpenSpec.upto septPutsSpec)

/-- 'taffraillaw04.SeptGets', WHERE WHAT IT READS IS OF BULK AT MOST 1048576: true; the input reads as it did. -/
def septGetsUptoRow : OpenClaim := { program := "ytoooodaodnjphaa", sum := "14499b0b5483ecce044497be3a0b2d78e4aa547e3cb19a3e8f3bbb306c643885", func := "taffrail/taffraillaw04.SeptGets", spec := "septGets", apart := false, narrowed := true }
def SeptGetsUptoSaid : Prop := septGetsUptoRow.holds Try.pinned (OpenSpec.upto septGetsSpec)

/-- 'taffraillaw04.SeptBack', WHERE WHAT IT READS IS OF BULK AT MOST 1048576: true; the input reads as it did. -/
def septBackUptoRow : OpenClaim := { program := "ytoooodaodnjphaa", sum := "14499b0b5483ecce044497be3a0b2d78e4aa547e3cb19a3e8f3bbb306c643885", func := "taffrail/taffraillaw04.SeptBack", spec := "septBack", apart := false, narrowed := true }
def SeptBackUptoSaid : Prop := septBackUptoRow.holds Try.pinned (OpenSpec.upto septBackSpec)

/-- 'taffraillaw04.SeptOne', WHERE WHAT IT READS IS OF BULK AT MOST 1048576: true; the input reads as it did. -/
def septOneUptoRow : OpenClaim := { program := "ytoooodaodnjphaa", sum := "14499b0b5483ecce044497be3a0b2d78e4aa547e3cb19a3e8f3bbb306c643885", func := "taffrail/taffraillaw04.SeptOne", spec := "septOne", apart := false, narrowed := true }
def SeptOneUptoSaid : Prop := septOneUptoRow.holds Try.pinned (OpenSpec.upto septOneSpec)

/-- 'taffraillaw04.SeptSums', WHERE WHAT IT READS IS OF BULK AT MOST 1048576: true; the input reads as it did. -/
def septSumsUptoRow : OpenClaim := { program := "ytoooodaodnjphaa", sum := "14499b0b5483ecce044497be3a0b2d78e4aa547e3cb19a3e8f3bbb306c643885", func := "taffrail/taffraillaw04.SeptSums", spec := "septSums", apart := false, narrowed := true }
def SeptSumsUptoSaid : Prop := septSumsUptoRow.holds Try.pinned (OpenSpec.upto septSumsSpec)

/-- 'taffraillaw04.SeptNil', WHERE WHAT IT READS IS OF BULK AT MOST 1048576: true; the input reads as it did. -/
def septNilUptoRow : OpenClaim := { program := "ytoooodaodnjphaa", sum := "14499b0b5483ecce044497be3a0b2d78e4aa547e3cb19a3e8f3bbb306c643885", func := "taffrail/taffraillaw04.SeptNil", spec := "septNil", apart := false, narrowed := true }
def SeptNilUptoSaid : Prop := septNilUptoRow.holds Try.pinned (OpenSpec.upto septNilSpec)

end Rows
end Go.Proofs.Ytoooodaodnjphaa
