/-
  No cell of these rows narrows 'for every input' (looked for: loops, veiled, ifaces, maps, wideKeys, modest, calm, conditions, laid).
  DERIVED. THE GIVEN ROWS OF THIS SEAT. 5 by the template 'for every input the law returns true; each argument reads behind the call as it read before'; 0 by the template 'total and deterministic' (their statements: YteglnlhdgfpglaaTotals.lean).
  GIVEN WITH THE SEED: the statements are not yours to turn. If you find one false, say at which input.
  Laid BY PROGRAM, IN A SANDBOX (cutbox-rows.mjs): the forced cells as the released guide's own fill.sh prints them over the translation 191efcd639d11af7… (all of the seat's roots in one cut). By AI agents, Wed Nov 11 2026. No macro, syntax, notation, axiom, sorry.
-/
import Derived.Test.YteglnlhdgfpglaaChecked
import GoSem.Claim
import GoSem.ClaimJoined
import GoSem.ClaimMapViews
import Derived.JoinedTies
import Derived.KernelRfl
namespace Go.Proofs.Yteglnlhdgfpglaa
/- THE CELL 'sum', in the pinned program and in every row, IS THE sha256 OF THE DUMP (.gsa) THAT YteglnlhdgfpglaaProg.lean LOADS. Nothing in Lean hashes anything: it is a label: what it is worth is what the hold of that sum in a sandbox is worth. -/
noncomputable def Try.pinned : Pinned := { name := "yteglnlhdgfpglaa", sum := "191efcd639d11af7f7002a4556a217b41980976c43812fa80ba1966533c1e84e", checked := Try.checked }
namespace Rows
def none {H : Type} : Left H := { results := [], args := [] }

/-- 'taffraillaw16.WaitPlays': WHATEVER THE INPUT: true; the input reads as it did. -/
def waitPlaysSpec : ChangeSpec := { name := "waitPlays", fn := fun _ => fun
  | [d1, d2] => { results := [.lit (.bool true)], args := [d1, d2] }
  | _ => none }
def waitPlaysRow : OpenClaim := { program := "yteglnlhdgfpglaa", sum := "191efcd639d11af7f7002a4556a217b41980976c43812fa80ba1966533c1e84e", func := "taffrail/taffraillaw16.WaitPlays", spec := "waitPlays", apart := false }
def WaitPlaysSaid : Prop := waitPlaysRow.holds Try.pinned (OpenSpec.ofChange waitPlaysSpec)

/-- ITS FALSE NEIGHBOUR: 'it returns false'. Refute it at one input. -/
def waitPlaysWrong : ChangeSpec := { name := "waitPlays", fn := fun _ => fun
  | [d1, d2] => { results := [.lit (.bool false)], args := [d1, d2] }
  | _ => none }
def WaitPlaysWrongFalsely : Prop := waitPlaysRow.holds Try.pinned (OpenSpec.ofChange waitPlaysWrong)

/-- 'taffraillaw16.WaitDrains': WHATEVER THE INPUT: true; the input reads as it did. -/
def waitDrainsSpec : ChangeSpec := { name := "waitDrains", fn := fun _ => fun
  | [d1, d2] => { results := [.lit (.bool true)], args := [d1, d2] }
  | _ => none }
def waitDrainsRow : OpenClaim := { program := "yteglnlhdgfpglaa", sum := "191efcd639d11af7f7002a4556a217b41980976c43812fa80ba1966533c1e84e", func := "taffrail/taffraillaw16.WaitDrains", spec := "waitDrains", apart := false }
def WaitDrainsSaid : Prop := waitDrainsRow.holds Try.pinned (OpenSpec.ofChange waitDrainsSpec)

/-- ITS FALSE NEIGHBOUR: 'it returns false'. Refute it at one input. -/
def waitDrainsWrong : ChangeSpec := { name := "waitDrains", fn := fun _ => fun
  | [d1, d2] => { results := [.lit (.bool false)], args := [d1, d2] }
  | _ => none }
def WaitDrainsWrongFalsely : Prop := waitDrainsRow.holds Try.pinned (OpenSpec.ofChange waitDrainsWrong)

/-- 'taffraillaw16.WaitLower': WHATEVER THE INPUT: true; the input reads as it did. -/
def waitLowerSpec : ChangeSpec := { name := "waitLower", fn := fun _ => fun
  | [d1, d2, d3] => { results := [.lit (.bool true)], args := [d1, d2, d3] }
  | _ => none }
def waitLowerRow : OpenClaim := { program := "yteglnlhdgfpglaa", sum := "191efcd639d11af7f7002a4556a217b41980976c43812fa80ba1966533c1e84e", func := "taffrail/taffraillaw16.WaitLower", spec := "waitLower", apart := false }
def WaitLowerSaid : Prop := waitLowerRow.holds Try.pinned (OpenSpec.ofChange waitLowerSpec)

/-- ITS FALSE NEIGHBOUR: 'it returns false'. Refute it at one input. -/
def waitLowerWrong : ChangeSpec := { name := "waitLower", fn := fun _ => fun
  | [d1, d2, d3] => { results := [.lit (.bool false)], args := [d1, d2, d3] }
  | _ => none }
def WaitLowerWrongFalsely : Prop := waitLowerRow.holds Try.pinned (OpenSpec.ofChange waitLowerWrong)

/-- 'taffraillaw16.WaitOwn': WHATEVER THE INPUT: true; the input reads as it did. -/
def waitOwnSpec : ChangeSpec := { name := "waitOwn", fn := fun _ => fun
  | [d1, d2] => { results := [.lit (.bool true)], args := [d1, d2] }
  | _ => none }
def waitOwnRow : OpenClaim := { program := "yteglnlhdgfpglaa", sum := "191efcd639d11af7f7002a4556a217b41980976c43812fa80ba1966533c1e84e", func := "taffrail/taffraillaw16.WaitOwn", spec := "waitOwn", apart := false }
def WaitOwnSaid : Prop := waitOwnRow.holds Try.pinned (OpenSpec.ofChange waitOwnSpec)

/-- ITS FALSE NEIGHBOUR: 'it returns false'. Refute it at one input. -/
def waitOwnWrong : ChangeSpec := { name := "waitOwn", fn := fun _ => fun
  | [d1, d2] => { results := [.lit (.bool false)], args := [d1, d2] }
  | _ => none }
def WaitOwnWrongFalsely : Prop := waitOwnRow.holds Try.pinned (OpenSpec.ofChange waitOwnWrong)

/-- 'taffraillaw16.WaitNil': WHATEVER THE INPUT: true; the input reads as it did. -/
def waitNilSpec : ChangeSpec := { name := "waitNil", fn := fun _ => fun
  | [d1, d2] => { results := [.lit (.bool true)], args := [d1, d2] }
  | _ => none }
def waitNilRow : OpenClaim := { program := "yteglnlhdgfpglaa", sum := "191efcd639d11af7f7002a4556a217b41980976c43812fa80ba1966533c1e84e", func := "taffrail/taffraillaw16.WaitNil", spec := "waitNil", apart := false }
def WaitNilSaid : Prop := waitNilRow.holds Try.pinned (OpenSpec.ofChange waitNilSpec)

/-- ITS FALSE NEIGHBOUR: 'it returns false'. Refute it at one input. -/
def waitNilWrong : ChangeSpec := { name := "waitNil", fn := fun _ => fun
  | [d1, d2] => { results := [.lit (.bool false)], args := [d1, d2] }
  | _ => none }
def WaitNilWrongFalsely : Prop := waitNilRow.holds Try.pinned (OpenSpec.ofChange waitNilWrong)

/- THE SECOND FORM. 'bulk': how many values and letters a reading holds, each counted each time it is reached (what is shared counts as often as it is met; a slice's spare places count too). A statement '..UptoSaid' is the law's where the arguments, and the package variables that the reading takes, are together of bulk at most 1048576: NARROWER than '..Said'. Prove '..Said' where nothing that the law and all that it calls make is longer than what came in: it says more and counts as full. Else prove '..UptoSaid'. A law counts once. -/
mutual
def uptoBulk {H : Type} : DataW H → Nat
  | .lit (.string bytes) => bytes.length + 1
  | .lit _ => 1
  | .nil => 1
  | .ptr d => uptoBulk d + 1
  | .slice elems spare => uptoBulkAll elems + uptoBulkAll spare + 1
  | .agg parts => uptoBulkAll parts + 1
  | .iface _ d => uptoBulk d + 1
  | .map entries => uptoBulkEntries entries + 1
  | .held _ => 1
def uptoBulkAll {H : Type} : List (DataW H) → Nat
  | [] => 0
  | d :: r => uptoBulk d + uptoBulkAll r
def uptoBulkEntries {H : Type} : List (Lit × DataW H) → Nat
  | [] => 0
  | x :: r => uptoBulkEntry x + uptoBulkEntries r
def uptoBulkEntry {H : Type} : Lit × DataW H → Nat
  | (.string bytes, d) => bytes.length + uptoBulk d + 1
  | (_, d) => uptoBulk d + 1
 end
def uptoSmall : (H : Type) → List (DataW H) → Bool := fun _ ds => decide (uptoBulkAll ds ≤ 1048576)
def OpenSpec.upto (s : _root_.Go.ChangeSpec) : _root_.Go.OpenSpec := { _root_.Go.OpenSpec.ofChange s with cond := some uptoSmall }

/-- 'taffraillaw16.WaitPlays', WHERE WHAT IT READS IS OF BULK AT MOST 1048576: true; the input reads as it did. -/
def waitPlaysUptoRow : OpenClaim := { program := "yteglnlhdgfpglaa", sum := "191efcd639d11af7f7002a4556a217b41980976c43812fa80ba1966533c1e84e", func := "taffrail/taffraillaw16.WaitPlays", spec := "waitPlays", apart := false, narrowed := true }
def WaitPlaysUptoSaid : Prop := waitPlaysUptoRow.holds Try.pinned (OpenSpec.upto waitPlaysSpec)

/-- 'taffraillaw16.WaitDrains', WHERE WHAT IT READS IS OF BULK AT MOST 1048576: true; the input reads as it did. -/
def waitDrainsUptoRow : OpenClaim := { program := "yteglnlhdgfpglaa", sum := "191efcd639d11af7f7002a4556a217b41980976c43812fa80ba1966533c1e84e", func := "taffrail/taffraillaw16.WaitDrains", spec := "waitDrains", apart := false, narrowed := true }
def WaitDrainsUptoSaid : Prop := waitDrainsUptoRow.holds Try.pinned (OpenSpec.upto waitDrainsSpec)

/-- 'taffraillaw16.WaitLower', WHERE WHAT IT READS IS OF BULK AT MOST 1048576: true; the input reads as it did. -/
def waitLowerUptoRow : OpenClaim := { program := "yteglnlhdgfpglaa", sum := "191efcd639d11af7f7002a4556a217b41980976c43812fa80ba1966533c1e84e", func := "taffrail/taffraillaw16.WaitLower", spec := "waitLower", apart := false, narrowed := true }
def WaitLowerUptoSaid : Prop := waitLowerUptoRow.holds Try.pinned (OpenSpec.upto waitLowerSpec)

/-- 'taffraillaw16.WaitOwn', WHERE WHAT IT READS IS OF BULK AT MOST 1048576: true; the input reads as it did. -/
def waitOwnUptoRow : OpenClaim := { program := "yteglnlhdgfpglaa", sum := "191efcd639d11af7f7002a4556a217b41980976c43812fa80ba1966533c1e84e", func := "taffrail/taffraillaw16.WaitOwn", spec := "waitOwn", apart := false, narrowed := true }
def WaitOwnUptoSaid : Prop := waitOwnUptoRow.holds Try.pinned (OpenSpec.upto waitOwnSpec)

/-- 'taffraillaw16.WaitNil', WHERE WHAT IT READS IS OF BULK AT MOST 1048576: true; the input reads as it did. -/
def waitNilUptoRow : OpenClaim := { program := "yteglnlhdgfpglaa", sum := "191efcd639d11af7f7002a4556a217b41980976c43812fa80ba1966533c1e84e", func := "taffrail/taffraillaw16.WaitNil", spec := "waitNil", apart := false, narrowed := true }
def WaitNilUptoSaid : Prop := waitNilUptoRow.holds Try.pinned (OpenSpec.upto waitNilSpec)

end Rows
end Go.Proofs.Yteglnlhdgfpglaa
