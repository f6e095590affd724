/-
  No cell of these rows narrows 'for every input' (looked for: loops, veiled, ifaces, maps, wideKeys, modest, calm, conditions, laid).
  DERIVED. THE GIVEN ROWS OF THIS SEAT. 7 by the template 'for every input the law returns true; each argument reads behind the call as it read before'; 0 by the template 'total and deterministic' (their statements: YtedmpbcgocpddaaTotals.lean).
  GIVEN WITH THE SEED: the statements are not yours to turn. If you find one false, say at which input.
  Laid BY PROGRAM, IN A SANDBOX (cutbox-rows.mjs): the forced cells as the released guide's own fill.sh prints them over the translation c7be058ce2ea15a9… (all of the seat's roots in one cut). By AI agents, Wed Nov 11 2026. No macro, syntax, notation, axiom, sorry.
-/
import Derived.Test.YtedmpbcgocpddaaChecked
import GoSem.Claim
import GoSem.ClaimJoined
import GoSem.ClaimMapViews
import Derived.JoinedTies
import Derived.KernelRfl
namespace Go.Proofs.Ytedmpbcgocpddaa
/- THE CELL 'sum', in the pinned program and in every row, IS THE sha256 OF THE DUMP (.gsa) THAT YtedmpbcgocpddaaProg.lean LOADS. Nothing in Lean hashes anything: it is a label: what it is worth is what the hold of that sum in a sandbox is worth. -/
noncomputable def Try.pinned : Pinned := { name := "ytedmpbcgocpddaa", sum := "c7be058ce2ea15a906ce846c46158d00a4e315f4d6a17325689b630a7d319ac2", checked := Try.checked }
namespace Rows
def none {H : Type} : Left H := { results := [], args := [] }

/-- 'taffraillaw02.LebPuts': WHATEVER THE INPUT: true; the input reads as it did. -/
def lebPutsSpec : ChangeSpec := { name := "lebPuts", fn := fun _ => fun
  | [d] => { results := [.lit (.bool true)], args := [d] }
  | _ => none }
def lebPutsRow : OpenClaim := { program := "ytedmpbcgocpddaa", sum := "c7be058ce2ea15a906ce846c46158d00a4e315f4d6a17325689b630a7d319ac2", func := "taffrail/taffraillaw02.LebPuts", spec := "lebPuts", apart := false }
def LebPutsSaid : Prop := lebPutsRow.holds Try.pinned (OpenSpec.ofChange lebPutsSpec)

/-- ITS FALSE NEIGHBOUR: 'it returns false'. Refute it at one input. -/
def lebPutsWrong : ChangeSpec := { name := "lebPuts", fn := fun _ => fun
  | [d] => { results := [.lit (.bool false)], args := [d] }
  | _ => none }
def LebPutsWrongFalsely : Prop := lebPutsRow.holds Try.pinned (OpenSpec.ofChange lebPutsWrong)

/-- 'taffraillaw02.LebGets': WHATEVER THE INPUT: true; the input reads as it did. -/
def lebGetsSpec : ChangeSpec := { name := "lebGets", fn := fun _ => fun
  | [d1, d2, d3] => { results := [.lit (.bool true)], args := [d1, d2, d3] }
  | _ => none }
def lebGetsRow : OpenClaim := { program := "ytedmpbcgocpddaa", sum := "c7be058ce2ea15a906ce846c46158d00a4e315f4d6a17325689b630a7d319ac2", func := "taffrail/taffraillaw02.LebGets", spec := "lebGets", apart := false }
def LebGetsSaid : Prop := lebGetsRow.holds Try.pinned (OpenSpec.ofChange lebGetsSpec)

/-- ITS FALSE NEIGHBOUR: 'it returns false'. Refute it at one input. -/
def lebGetsWrong : ChangeSpec := { name := "lebGets", fn := fun _ => fun
  | [d1, d2, d3] => { results := [.lit (.bool false)], args := [d1, d2, d3] }
  | _ => none }
def LebGetsWrongFalsely : Prop := lebGetsRow.holds Try.pinned (OpenSpec.ofChange lebGetsWrong)

/-- 'taffraillaw02.LebBack': WHATEVER THE INPUT: true; the input reads as it did. -/
def lebBackSpec : ChangeSpec := { name := "lebBack", fn := fun _ => fun
  | [d1, d2, d3] => { results := [.lit (.bool true)], args := [d1, d2, d3] }
  | _ => none }
def lebBackRow : OpenClaim := { program := "ytedmpbcgocpddaa", sum := "c7be058ce2ea15a906ce846c46158d00a4e315f4d6a17325689b630a7d319ac2", func := "taffrail/taffraillaw02.LebBack", spec := "lebBack", apart := false }
def LebBackSaid : Prop := lebBackRow.holds Try.pinned (OpenSpec.ofChange lebBackSpec)

/-- ITS FALSE NEIGHBOUR: 'it returns false'. Refute it at one input. -/
def lebBackWrong : ChangeSpec := { name := "lebBack", fn := fun _ => fun
  | [d1, d2, d3] => { results := [.lit (.bool false)], args := [d1, d2, d3] }
  | _ => none }
def LebBackWrongFalsely : Prop := lebBackRow.holds Try.pinned (OpenSpec.ofChange lebBackWrong)

/-- 'taffraillaw02.LebOne': WHATEVER THE INPUT: true; the input reads as it did. -/
def lebOneSpec : ChangeSpec := { name := "lebOne", fn := fun _ => fun
  | [d1, d2] => { results := [.lit (.bool true)], args := [d1, d2] }
  | _ => none }
def lebOneRow : OpenClaim := { program := "ytedmpbcgocpddaa", sum := "c7be058ce2ea15a906ce846c46158d00a4e315f4d6a17325689b630a7d319ac2", func := "taffrail/taffraillaw02.LebOne", spec := "lebOne", apart := false }
def LebOneSaid : Prop := lebOneRow.holds Try.pinned (OpenSpec.ofChange lebOneSpec)

/-- ITS FALSE NEIGHBOUR: 'it returns false'. Refute it at one input. -/
def lebOneWrong : ChangeSpec := { name := "lebOne", fn := fun _ => fun
  | [d1, d2] => { results := [.lit (.bool false)], args := [d1, d2] }
  | _ => none }
def LebOneWrongFalsely : Prop := lebOneRow.holds Try.pinned (OpenSpec.ofChange lebOneWrong)

/-- 'taffraillaw02.LebFolds': WHATEVER THE INPUT: true; the input reads as it did. -/
def lebFoldsSpec : ChangeSpec := { name := "lebFolds", fn := fun _ => fun
  | [d1, d2] => { results := [.lit (.bool true)], args := [d1, d2] }
  | _ => none }
def lebFoldsRow : OpenClaim := { program := "ytedmpbcgocpddaa", sum := "c7be058ce2ea15a906ce846c46158d00a4e315f4d6a17325689b630a7d319ac2", func := "taffrail/taffraillaw02.LebFolds", spec := "lebFolds", apart := false }
def LebFoldsSaid : Prop := lebFoldsRow.holds Try.pinned (OpenSpec.ofChange lebFoldsSpec)

/-- ITS FALSE NEIGHBOUR: 'it returns false'. Refute it at one input. -/
def lebFoldsWrong : ChangeSpec := { name := "lebFolds", fn := fun _ => fun
  | [d1, d2] => { results := [.lit (.bool false)], args := [d1, d2] }
  | _ => none }
def LebFoldsWrongFalsely : Prop := lebFoldsRow.holds Try.pinned (OpenSpec.ofChange lebFoldsWrong)

/-- 'taffraillaw02.LebRuns': WHATEVER THE INPUT: true; the input reads as it did. -/
def lebRunsSpec : ChangeSpec := { name := "lebRuns", fn := fun _ => fun
  | [d] => { results := [.lit (.bool true)], args := [d] }
  | _ => none }
def lebRunsRow : OpenClaim := { program := "ytedmpbcgocpddaa", sum := "c7be058ce2ea15a906ce846c46158d00a4e315f4d6a17325689b630a7d319ac2", func := "taffrail/taffraillaw02.LebRuns", spec := "lebRuns", apart := false }
def LebRunsSaid : Prop := lebRunsRow.holds Try.pinned (OpenSpec.ofChange lebRunsSpec)

/-- ITS FALSE NEIGHBOUR: 'it returns false'. Refute it at one input. -/
def lebRunsWrong : ChangeSpec := { name := "lebRuns", fn := fun _ => fun
  | [d] => { results := [.lit (.bool false)], args := [d] }
  | _ => none }
def LebRunsWrongFalsely : Prop := lebRunsRow.holds Try.pinned (OpenSpec.ofChange lebRunsWrong)

/-- 'taffraillaw02.LebNil': WHATEVER THE INPUT: true; the input reads as it did. -/
def lebNilSpec : ChangeSpec := { name := "lebNil", fn := fun _ => fun
  | [d1, d2] => { results := [.lit (.bool true)], args := [d1, d2] }
  | _ => none }
def lebNilRow : OpenClaim := { program := "ytedmpbcgocpddaa", sum := "c7be058ce2ea15a906ce846c46158d00a4e315f4d6a17325689b630a7d319ac2", func := "taffrail/taffraillaw02.LebNil", spec := "lebNil", apart := false }
def LebNilSaid : Prop := lebNilRow.holds Try.pinned (OpenSpec.ofChange lebNilSpec)

/-- ITS FALSE NEIGHBOUR: 'it returns false'. Refute it at one input. -/
def lebNilWrong : ChangeSpec := { name := "lebNil", fn := fun _ => fun
  | [d1, d2] => { results := [.lit (.bool false)], args := [d1, d2] }
  | _ => none }
def LebNilWrongFalsely : Prop := lebNilRow.holds Try.pinned (OpenSpec.ofChange lebNilWrong)

/- THE SECOND FORM. 'bulk': how many values and letters a reading holds, each counted each time it is reached (what is shared counts as often as it is met; a slice's spare places count too). A statement '..UptoSaid' is the law's where the arguments, and the package variables that the reading takes, are together of bulk at most 1048576: NARROWER than '..Said'. Prove '..Said' where nothing that the law and all that it calls make is longer than what came in: it says more and counts as full. Else prove '..UptoSaid'. A law counts once. -/
mutual
def uptoBulk {H : Type} : DataW H → Nat
  | .lit (.string bytes) => bytes.length + 1
  | .lit _ => 1
  | .nil => 1
  | .ptr d => uptoBulk d + 1
  | .slice elems spare => uptoBulkAll elems + uptoBulkAll spare + 1
  | .agg parts => uptoBulkAll parts + 1
  | .iface _ d => uptoBulk d + 1
  | .map entries => uptoBulkEntries entries + 1
  | .held _ => 1
def uptoBulkAll {H : Type} : List (DataW H) → Nat
  | [] => 0
  | d :: r => uptoBulk d + uptoBulkAll r
def uptoBulkEntries {H : Type} : List (Lit × DataW H) → Nat
  | [] => 0
  | x :: r => uptoBulkEntry x + uptoBulkEntries r
def uptoBulkEntry {H : Type} : Lit × DataW H → Nat
  | (.string bytes, d) => bytes.length + uptoBulk d + 1
  | (_, d) => uptoBulk d + 1
 end
def uptoSmall : (H : Type) → List (DataW H) → Bool := fun _ ds => decide (uptoBulkAll ds ≤ 1048576)
def OpenSpec.upto (s : _root_.Go.ChangeSpec) : _root_.Go.OpenSpec := { _root_.Go.OpenSpec.ofChange s with cond := some uptoSmall }

/-- 'taffraillaw02.LebPuts', WHERE WHAT IT READS IS OF BULK AT MOST 1048576: true; the input reads as it did. -/
def lebPutsUptoRow : OpenClaim := { program := "ytedmpbcgocpddaa", sum := "c7be058ce2ea15a906ce846c46158d00a4e315f4d6a17325689b630a7d319ac2", func := "taffrail/taffraillaw02.LebPuts", spec := "lebPuts", apart := false, narrowed := true }
def LebPutsUptoSaid : Prop := lebPutsUptoRow.holds Try.pinned (OpenSpec.upto lebPutsSpec)

/-- 'taffraillaw02.LebGets', WHERE WHAT IT READS IS OF BULK AT MOST 1048576: true; the input reads as it did. -/
def lebGetsUptoRow : OpenClaim := { program := "ytedmpbcgocpddaa", sum := "c7be058ce2ea15a906ce846c46158d00a4e315f4d6a17325689b630a7d319ac2", func := "taffrail/taffraillaw02.LebGets", spec := "lebGets", apart := false, narrowed := true }
def LebGetsUptoSaid : Prop := lebGetsUptoRow.holds Try.pinned (OpenSpec.upto lebGetsSpec)

/-- 'taffraillaw02.LebBack', WHERE WHAT IT READS IS OF BULK AT MOST 1048576: true; the input reads as it did. -/
def lebBackUptoRow : OpenClaim := { program := "ytedmpbcgocpddaa", sum := "c7be058ce2ea15a906ce846c46158d00a4e315f4d6a17325689b630a7d319ac2", func := "taffrail/taffraillaw02.LebBack", spec := "lebBack", apart := false, narrowed := true }
def LebBackUptoSaid : Prop := lebBackUptoRow.holds Try.pinned (OpenSpec.upto lebBackSpec)

/-- 'taffraillaw02.LebOne', WHERE WHAT IT READS IS OF BULK AT MOST 1048576: true; the input reads as it did. -/
def lebOneUptoRow : OpenClaim := { program := "ytedmpbcgocpddaa", sum := "c7be058ce2ea15a906ce846c46158d00a4e315f4d6a17325689b630a7d319ac2", func := "taffrail/taffraillaw02.LebOne", spec := "lebOne", apart := false, narrowed := true }
def LebOneUptoSaid : Prop := lebOneUptoRow.holds Try.pinned (OpenSpec.upto lebOneSpec)

/-- 'taffraillaw02.LebFolds', WHERE WHAT IT READS IS OF BULK AT MOST 1048576: true; the input reads as it did. -/
def lebFoldsUptoRow : OpenClaim := { program := "ytedmpbcgocpddaa", sum := "c7be058ce2ea15a906ce846c46158d00a4e315f4d6a17325689b630a7d319ac2", func := "taffrail/taffraillaw02.LebFolds", spec := "lebFolds", apart := false, narrowed := true }
def LebFoldsUptoSaid : Prop := lebFoldsUptoRow.holds Try.pinned (OpenSpec.upto lebFoldsSpec)

/-- 'taffraillaw02.LebRuns', WHERE WHAT IT READS IS OF BULK AT MOST 1048576: true; the input reads as it did. -/
def lebRunsUptoRow : OpenClaim := { program := "ytedmpbcgocpddaa", sum := "c7be058ce2ea15a906ce846c46158d00a4e315f4d6a17325689b630a7d319ac2", func := "taffrail/taffraillaw02.LebRuns", spec := "lebRuns", apart := false, narrowed := true }
def LebRunsUptoSaid : Prop := lebRunsUptoRow.holds Try.pinned (OpenSpec.upto lebRunsSpec)

/-- 'taffraillaw02.LebNil', WHERE WHAT IT READS IS OF BULK AT MOST 1048576: true; the input reads as it did. -/
def lebNilUptoRow : OpenClaim := { program := "ytedmpbcgocpddaa", sum := "c7be058ce2ea15a906ce846c46158d00a4e315f4d6a17325689b630a7d319ac2", func := "taffrail/taffraillaw02.LebNil", spec := "lebNil", apart := false, narrowed := true }
def LebNilUptoSaid : Prop := lebNilUptoRow.holds Try.pinned (OpenSpec.upto lebNilSpec)

end Rows
end Go.Proofs.Ytedmpbcgocpddaa
