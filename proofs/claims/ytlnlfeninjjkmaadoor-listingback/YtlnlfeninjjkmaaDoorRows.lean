/-
  NARROWER THAN 'FOR EVERY INPUT', by the rows' own cells (each row's printed sentence says how): ListingLines: laid · ListingReads: laid · ListingPrints: laid · ListingBack: laid · ListingParts: laid · ListingLong: laid.
  DERIVED. THE GIVEN ROWS OF THIS SEAT. 6 by the template 'for every input the law returns true; each argument reads behind the call as it read before'; 0 by the template 'total and deterministic' (their statements: YtlnlfeninjjkmaaDoorTotals.lean).
  GIVEN WITH THE SEED: the statements are not yours to turn. If you find one false, say at which input.
  Laid BY PROGRAM, IN A SANDBOX (cutbox-rows.mjs): the forced cells as the released guide's own fill.sh prints them over the translation a986770ae58a7876… (all of the seat's roots in one cut). By AI agents, Wed Nov 11 2026. No macro, syntax, notation, axiom, sorry.
-/
import Derived.Test.YtlnlfeninjjkmaaDoorChecked
import GoSem.Claim
import GoSem.ClaimJoined
import GoSem.ClaimMapViews
import Derived.JoinedTies
import Derived.KernelRfl
namespace Go.Proofs.YtlnlfeninjjkmaaDoor
/- THE CELL 'sum', in the pinned program and in every row, IS THE sha256 OF THE DUMP (.gsa) THAT YtlnlfeninjjkmaaDoorProg.lean LOADS. Nothing in Lean hashes anything: it is a label: what it is worth is what the hold of that sum in a sandbox is worth. -/
noncomputable def Tryd.pinned : Pinned := { name := "ytlnlfeninjjkmaadoor", sum := "a986770ae58a7876d131803d4f1c670538a9e65e9f693a4bb4c760db9f44d62c", checked := Tryd.checked }
namespace Rows
def none {H : Type} : Left H := { results := [], args := [] }

/- WHAT THE LISTED PACKAGE-LEVEL VARIABLES READ AS WHEN THE CALL BEGINS. Each datum BY PROGRAM (the guide's laid-datum.mjs) off the statement by which the dump's own 'gosem.cut.vars' lays the variable. In a bare row this is a premise. The card (YtlnlfeninjjkmaaDoorCards.lean) ties it to the program's text. -/
def laid_math_bits_deBruijn32tab {H : Type} : DataW H := .agg [.lit (.int .u8 0), .lit (.int .u8 1), .lit (.int .u8 28), .lit (.int .u8 2), .lit (.int .u8 29), .lit (.int .u8 14), .lit (.int .u8 24), .lit (.int .u8 3), .lit (.int .u8 30), .lit (.int .u8 22), .lit (.int .u8 20), .lit (.int .u8 15), .lit (.int .u8 25), .lit (.int .u8 17), .lit (.int .u8 4), .lit (.int .u8 8), .lit (.int .u8 31), .lit (.int .u8 27), .lit (.int .u8 13), .lit (.int .u8 23), .lit (.int .u8 21), .lit (.int .u8 19), .lit (.int .u8 16), .lit (.int .u8 7), .lit (.int .u8 26), .lit (.int .u8 12), .lit (.int .u8 18), .lit (.int .u8 6), .lit (.int .u8 11), .lit (.int .u8 5), .lit (.int .u8 10), .lit (.int .u8 9)]
def laid_math_bits_deBruijn64tab {H : Type} : DataW H := .agg [.lit (.int .u8 0), .lit (.int .u8 1), .lit (.int .u8 56), .lit (.int .u8 2), .lit (.int .u8 57), .lit (.int .u8 49), .lit (.int .u8 28), .lit (.int .u8 3), .lit (.int .u8 61), .lit (.int .u8 58), .lit (.int .u8 42), .lit (.int .u8 50), .lit (.int .u8 38), .lit (.int .u8 29), .lit (.int .u8 17), .lit (.int .u8 4), .lit (.int .u8 62), .lit (.int .u8 47), .lit (.int .u8 59), .lit (.int .u8 36), .lit (.int .u8 45), .lit (.int .u8 43), .lit (.int .u8 51), .lit (.int .u8 22), .lit (.int .u8 53), .lit (.int .u8 39), .lit (.int .u8 33), .lit (.int .u8 30), .lit (.int .u8 24), .lit (.int .u8 18), .lit (.int .u8 12), .lit (.int .u8 5), .lit (.int .u8 63), .lit (.int .u8 55), .lit (.int .u8 48), .lit (.int .u8 27), .lit (.int .u8 60), .lit (.int .u8 41), .lit (.int .u8 37), .lit (.int .u8 16), .lit (.int .u8 46), .lit (.int .u8 35), .lit (.int .u8 44), .lit (.int .u8 21), .lit (.int .u8 52), .lit (.int .u8 32), .lit (.int .u8 23), .lit (.int .u8 11), .lit (.int .u8 54), .lit (.int .u8 26), .lit (.int .u8 40), .lit (.int .u8 15), .lit (.int .u8 34), .lit (.int .u8 20), .lit (.int .u8 31), .lit (.int .u8 10), .lit (.int .u8 25), .lit (.int .u8 14), .lit (.int .u8 19), .lit (.int .u8 9), .lit (.int .u8 13), .lit (.int .u8 8), .lit (.int .u8 7), .lit (.int .u8 6)]
def laid_internal_strconv_uint64pow10 {H : Type} : DataW H := .agg [.lit (.int .u64 1), .lit (.int .u64 10), .lit (.int .u64 100), .lit (.int .u64 1000), .lit (.int .u64 10000), .lit (.int .u64 100000), .lit (.int .u64 1000000), .lit (.int .u64 10000000), .lit (.int .u64 100000000), .lit (.int .u64 1000000000), .lit (.int .u64 10000000000), .lit (.int .u64 100000000000), .lit (.int .u64 1000000000000), .lit (.int .u64 10000000000000), .lit (.int .u64 100000000000000), .lit (.int .u64 1000000000000000), .lit (.int .u64 10000000000000000), .lit (.int .u64 100000000000000000), .lit (.int .u64 1000000000000000000), .lit (.int .u64 10000000000000000000)]
def laid_taffrail_isa_rows {H : Type} : DataW H := .agg [.agg [.lit (.string []), .lit (.int .i64 0), .lit (.int .i64 0)], .agg [.lit (.string [115, 101, 116]), .lit (.int .i64 17), .lit (.int .i64 1)], .agg [.lit (.string [109, 111, 118]), .lit (.int .i64 3), .lit (.int .i64 1)], .agg [.lit (.string [97, 100, 100]), .lit (.int .i64 7), .lit (.int .i64 1)], .agg [.lit (.string [115, 117, 98]), .lit (.int .i64 7), .lit (.int .i64 1)], .agg [.lit (.string [109, 117, 108]), .lit (.int .i64 7), .lit (.int .i64 3)], .agg [.lit (.string [100, 105, 118]), .lit (.int .i64 7), .lit (.int .i64 8)], .agg [.lit (.string [109, 111, 100]), .lit (.int .i64 7), .lit (.int .i64 8)], .agg [.lit (.string [97, 110, 100]), .lit (.int .i64 7), .lit (.int .i64 1)], .agg [.lit (.string [111, 114]), .lit (.int .i64 7), .lit (.int .i64 1)], .agg [.lit (.string [120, 111, 114]), .lit (.int .i64 7), .lit (.int .i64 1)], .agg [.lit (.string [115, 104, 108]), .lit (.int .i64 7), .lit (.int .i64 1)], .agg [.lit (.string [115, 104, 114]), .lit (.int .i64 7), .lit (.int .i64 1)], .agg [.lit (.string [108, 116]), .lit (.int .i64 7), .lit (.int .i64 1)], .agg [.lit (.string [101, 113]), .lit (.int .i64 7), .lit (.int .i64 1)], .agg [.lit (.string [108, 111, 97, 100]), .lit (.int .i64 19), .lit (.int .i64 2)], .agg [.lit (.string [115, 116, 111, 114, 101]), .lit (.int .i64 19), .lit (.int .i64 2)], .agg [.lit (.string [106, 109, 112]), .lit (.int .i64 16), .lit (.int .i64 1)], .agg [.lit (.string [106, 122]), .lit (.int .i64 17), .lit (.int .i64 1)], .agg [.lit (.string [106, 110, 122]), .lit (.int .i64 17), .lit (.int .i64 1)], .agg [.lit (.string [119, 111, 114, 107]), .lit (.int .i64 16), .lit (.int .i64 (-1))], .agg [.lit (.string [105, 110]), .lit (.int .i64 17), .lit (.int .i64 6)], .agg [.lit (.string [111, 117, 116]), .lit (.int .i64 17), .lit (.int .i64 6)], .agg [.lit (.string [109, 97, 115, 107]), .lit (.int .i64 1), .lit (.int .i64 1)], .agg [.lit (.string [115, 101, 108, 102]), .lit (.int .i64 1), .lit (.int .i64 1)], .agg [.lit (.string [110, 111, 119]), .lit (.int .i64 1), .lit (.int .i64 1)], .agg [.lit (.string [112, 111, 115, 116]), .lit (.int .i64 17), .lit (.int .i64 12)], .agg [.lit (.string [115, 101, 110, 100]), .lit (.int .i64 31), .lit (.int .i64 12)], .agg [.lit (.string [114, 101, 99, 118]), .lit (.int .i64 31), .lit (.int .i64 12)], .agg [.lit (.string [97, 114, 109]), .lit (.int .i64 21), .lit (.int .i64 12)], .agg [.lit (.string [100, 105, 115, 97, 114, 109]), .lit (.int .i64 17), .lit (.int .i64 12)], .agg [.lit (.string [108, 111, 99, 107]), .lit (.int .i64 17), .lit (.int .i64 12)], .agg [.lit (.string [117, 110, 108, 111, 99, 107]), .lit (.int .i64 17), .lit (.int .i64 12)], .agg [.lit (.string [119, 97, 105, 116]), .lit (.int .i64 29), .lit (.int .i64 12)], .agg [.lit (.string [115, 108, 101, 101, 112]), .lit (.int .i64 5), .lit (.int .i64 12)], .agg [.lit (.string [121, 105, 101, 108, 100]), .lit (.int .i64 0), .lit (.int .i64 12)], .agg [.lit (.string [110, 101, 120, 116]), .lit (.int .i64 0), .lit (.int .i64 12)], .agg [.lit (.string [104, 97, 108, 116]), .lit (.int .i64 0), .lit (.int .i64 12)], .agg [.lit (.string [105, 114, 101, 116]), .lit (.int .i64 0), .lit (.int .i64 4)]]
def laid_strconv_ErrRange {H : Type} : DataW H := .iface "*errors.errorString" (.ptr (.agg [.lit (.string [118, 97, 108, 117, 101, 32, 111, 117, 116, 32, 111, 102, 32, 114, 97, 110, 103, 101])]))
def laid_strconv_ErrSyntax {H : Type} : DataW H := .iface "*errors.errorString" (.ptr (.agg [.lit (.string [105, 110, 118, 97, 108, 105, 100, 32, 115, 121, 110, 116, 97, 120])]))
def laid_taffrail_listing_modes {H : Type} : DataW H := .agg [.lit (.string [119, 97, 105, 116]), .lit (.string [116, 114, 121]), .lit (.string [116, 105, 109, 101, 100])]

/-- 'taffraillaw11.ListingLines': WHATEVER THE INPUT: true; the input reads as it did. -/
def listingLinesSpec : ChangeSpec := { name := "listingLines", fn := fun _ => fun
  | [d1, d2] => { results := [.lit (.bool true)], args := [d1, d2] }
  | _ => none }
def listingLinesRow : OpenClaim := { program := "ytlnlfeninjjkmaadoor", sum := "a986770ae58a7876d131803d4f1c670538a9e65e9f693a4bb4c760db9f44d62c", func := "taffrail/taffraillaw11.ListingLines", spec := "listingLines", inPlace := ["internal/abi.NoEscape", "internal/bytealg.MakeNoZero", "internal/bytealg.IndexByteString", "internal/bytealg.IndexString"], named := ["taffrail/listing.modes", "taffrail/isa.rows", "internal/strconv.uint64pow10", "math/bits.deBruijn32tab", "math/bits.deBruijn64tab", "internal/bytealg.MaxLen", "strconv.ErrSyntax", "strconv.ErrRange"], apart := false, laid := [("math/bits.deBruijn32tab", laid_math_bits_deBruijn32tab), ("math/bits.deBruijn64tab", laid_math_bits_deBruijn64tab), ("internal/strconv.uint64pow10", laid_internal_strconv_uint64pow10), ("taffrail/isa.rows", laid_taffrail_isa_rows), ("strconv.ErrRange", laid_strconv_ErrRange), ("strconv.ErrSyntax", laid_strconv_ErrSyntax), ("taffrail/listing.modes", laid_taffrail_listing_modes)] }
def ListingLinesSaid : Prop := listingLinesRow.holds Tryd.pinned (OpenSpec.ofChange listingLinesSpec)

/-- ITS FALSE NEIGHBOUR: 'it returns false'. Refute it at one input. -/
def listingLinesWrong : ChangeSpec := { name := "listingLines", fn := fun _ => fun
  | [d1, d2] => { results := [.lit (.bool false)], args := [d1, d2] }
  | _ => none }
def ListingLinesWrongFalsely : Prop := listingLinesRow.holds Tryd.pinned (OpenSpec.ofChange listingLinesWrong)

/-- 'taffraillaw11.ListingReads': WHATEVER THE INPUT: true; the input reads as it did. -/
def listingReadsSpec : ChangeSpec := { name := "listingReads", fn := fun _ => fun
  | [d] => { results := [.lit (.bool true)], args := [d] }
  | _ => none }
def listingReadsRow : OpenClaim := { program := "ytlnlfeninjjkmaadoor", sum := "a986770ae58a7876d131803d4f1c670538a9e65e9f693a4bb4c760db9f44d62c", func := "taffrail/taffraillaw11.ListingReads", spec := "listingReads", inPlace := ["internal/abi.NoEscape", "internal/bytealg.MakeNoZero", "internal/bytealg.IndexByteString", "internal/bytealg.IndexString"], named := ["taffrail/listing.modes", "taffrail/isa.rows", "internal/strconv.uint64pow10", "math/bits.deBruijn32tab", "math/bits.deBruijn64tab", "internal/bytealg.MaxLen", "strconv.ErrSyntax", "strconv.ErrRange"], apart := false, laid := [("math/bits.deBruijn32tab", laid_math_bits_deBruijn32tab), ("math/bits.deBruijn64tab", laid_math_bits_deBruijn64tab), ("internal/strconv.uint64pow10", laid_internal_strconv_uint64pow10), ("taffrail/isa.rows", laid_taffrail_isa_rows), ("strconv.ErrRange", laid_strconv_ErrRange), ("strconv.ErrSyntax", laid_strconv_ErrSyntax), ("taffrail/listing.modes", laid_taffrail_listing_modes)] }
def ListingReadsSaid : Prop := listingReadsRow.holds Tryd.pinned (OpenSpec.ofChange listingReadsSpec)

/-- ITS FALSE NEIGHBOUR: 'it returns false'. Refute it at one input. -/
def listingReadsWrong : ChangeSpec := { name := "listingReads", fn := fun _ => fun
  | [d] => { results := [.lit (.bool false)], args := [d] }
  | _ => none }
def ListingReadsWrongFalsely : Prop := listingReadsRow.holds Tryd.pinned (OpenSpec.ofChange listingReadsWrong)

/-- 'taffraillaw11.ListingPrints': WHATEVER THE INPUT: true; the input reads as it did. -/
def listingPrintsSpec : ChangeSpec := { name := "listingPrints", fn := fun _ => fun
  | [d] => { results := [.lit (.bool true)], args := [d] }
  | _ => none }
def listingPrintsRow : OpenClaim := { program := "ytlnlfeninjjkmaadoor", sum := "a986770ae58a7876d131803d4f1c670538a9e65e9f693a4bb4c760db9f44d62c", func := "taffrail/taffraillaw11.ListingPrints", spec := "listingPrints", inPlace := ["internal/abi.NoEscape", "internal/bytealg.MakeNoZero", "internal/bytealg.IndexByteString", "internal/bytealg.IndexString"], named := ["taffrail/listing.modes", "taffrail/isa.rows", "internal/strconv.uint64pow10", "math/bits.deBruijn32tab", "math/bits.deBruijn64tab", "internal/bytealg.MaxLen", "strconv.ErrSyntax", "strconv.ErrRange"], apart := false, laid := [("math/bits.deBruijn32tab", laid_math_bits_deBruijn32tab), ("math/bits.deBruijn64tab", laid_math_bits_deBruijn64tab), ("internal/strconv.uint64pow10", laid_internal_strconv_uint64pow10), ("taffrail/isa.rows", laid_taffrail_isa_rows), ("strconv.ErrRange", laid_strconv_ErrRange), ("strconv.ErrSyntax", laid_strconv_ErrSyntax), ("taffrail/listing.modes", laid_taffrail_listing_modes)] }
def ListingPrintsSaid : Prop := listingPrintsRow.holds Tryd.pinned (OpenSpec.ofChange listingPrintsSpec)

/-- ITS FALSE NEIGHBOUR: 'it returns false'. Refute it at one input. -/
def listingPrintsWrong : ChangeSpec := { name := "listingPrints", fn := fun _ => fun
  | [d] => { results := [.lit (.bool false)], args := [d] }
  | _ => none }
def ListingPrintsWrongFalsely : Prop := listingPrintsRow.holds Tryd.pinned (OpenSpec.ofChange listingPrintsWrong)

/-- 'taffraillaw11.ListingBack': WHATEVER THE INPUT: true; the input reads as it did. -/
def listingBackSpec : ChangeSpec := { name := "listingBack", fn := fun _ => fun
  | [d1, d2] => { results := [.lit (.bool true)], args := [d1, d2] }
  | _ => none }
def listingBackRow : OpenClaim := { program := "ytlnlfeninjjkmaadoor", sum := "a986770ae58a7876d131803d4f1c670538a9e65e9f693a4bb4c760db9f44d62c", func := "taffrail/taffraillaw11.ListingBack", spec := "listingBack", inPlace := ["internal/abi.NoEscape", "internal/bytealg.MakeNoZero", "internal/bytealg.IndexByteString", "internal/bytealg.IndexString"], named := ["taffrail/listing.modes", "taffrail/isa.rows", "internal/strconv.uint64pow10", "math/bits.deBruijn32tab", "math/bits.deBruijn64tab", "internal/bytealg.MaxLen", "strconv.ErrSyntax", "strconv.ErrRange"], apart := false, laid := [("math/bits.deBruijn32tab", laid_math_bits_deBruijn32tab), ("math/bits.deBruijn64tab", laid_math_bits_deBruijn64tab), ("internal/strconv.uint64pow10", laid_internal_strconv_uint64pow10), ("taffrail/isa.rows", laid_taffrail_isa_rows), ("strconv.ErrRange", laid_strconv_ErrRange), ("strconv.ErrSyntax", laid_strconv_ErrSyntax), ("taffrail/listing.modes", laid_taffrail_listing_modes)] }
def ListingBackSaid : Prop := listingBackRow.holds Tryd.pinned (OpenSpec.ofChange listingBackSpec)

/-- ITS FALSE NEIGHBOUR: 'it returns false'. Refute it at one input. -/
def listingBackWrong : ChangeSpec := { name := "listingBack", fn := fun _ => fun
  | [d1, d2] => { results := [.lit (.bool false)], args := [d1, d2] }
  | _ => none }
def ListingBackWrongFalsely : Prop := listingBackRow.holds Tryd.pinned (OpenSpec.ofChange listingBackWrong)

/-- 'taffraillaw11.ListingParts': WHATEVER THE INPUT: true; the input reads as it did. -/
def listingPartsSpec : ChangeSpec := { name := "listingParts", fn := fun _ => fun
  | [d1, d2] => { results := [.lit (.bool true)], args := [d1, d2] }
  | _ => none }
def listingPartsRow : OpenClaim := { program := "ytlnlfeninjjkmaadoor", sum := "a986770ae58a7876d131803d4f1c670538a9e65e9f693a4bb4c760db9f44d62c", func := "taffrail/taffraillaw11.ListingParts", spec := "listingParts", inPlace := ["internal/abi.NoEscape", "internal/bytealg.MakeNoZero", "internal/bytealg.IndexByteString", "internal/bytealg.IndexString"], named := ["taffrail/listing.modes", "taffrail/isa.rows", "internal/strconv.uint64pow10", "math/bits.deBruijn32tab", "math/bits.deBruijn64tab", "internal/bytealg.MaxLen", "strconv.ErrSyntax", "strconv.ErrRange"], apart := false, laid := [("math/bits.deBruijn32tab", laid_math_bits_deBruijn32tab), ("math/bits.deBruijn64tab", laid_math_bits_deBruijn64tab), ("internal/strconv.uint64pow10", laid_internal_strconv_uint64pow10), ("taffrail/isa.rows", laid_taffrail_isa_rows), ("strconv.ErrRange", laid_strconv_ErrRange), ("strconv.ErrSyntax", laid_strconv_ErrSyntax), ("taffrail/listing.modes", laid_taffrail_listing_modes)] }
def ListingPartsSaid : Prop := listingPartsRow.holds Tryd.pinned (OpenSpec.ofChange listingPartsSpec)

/-- ITS FALSE NEIGHBOUR: 'it returns false'. Refute it at one input. -/
def listingPartsWrong : ChangeSpec := { name := "listingParts", fn := fun _ => fun
  | [d1, d2] => { results := [.lit (.bool false)], args := [d1, d2] }
  | _ => none }
def ListingPartsWrongFalsely : Prop := listingPartsRow.holds Tryd.pinned (OpenSpec.ofChange listingPartsWrong)

/-- 'taffraillaw11.ListingLong': WHATEVER THE INPUT: true; the input reads as it did. -/
def listingLongSpec : ChangeSpec := { name := "listingLong", fn := fun _ => fun
  | [d1, d2] => { results := [.lit (.bool true)], args := [d1, d2] }
  | _ => none }
def listingLongRow : OpenClaim := { program := "ytlnlfeninjjkmaadoor", sum := "a986770ae58a7876d131803d4f1c670538a9e65e9f693a4bb4c760db9f44d62c", func := "taffrail/taffraillaw11.ListingLong", spec := "listingLong", inPlace := ["internal/abi.NoEscape", "internal/bytealg.MakeNoZero", "internal/bytealg.IndexByteString", "internal/bytealg.IndexString"], named := ["taffrail/listing.modes", "taffrail/isa.rows", "internal/strconv.uint64pow10", "math/bits.deBruijn32tab", "math/bits.deBruijn64tab", "internal/bytealg.MaxLen", "strconv.ErrSyntax", "strconv.ErrRange"], apart := false, laid := [("math/bits.deBruijn32tab", laid_math_bits_deBruijn32tab), ("math/bits.deBruijn64tab", laid_math_bits_deBruijn64tab), ("internal/strconv.uint64pow10", laid_internal_strconv_uint64pow10), ("taffrail/isa.rows", laid_taffrail_isa_rows), ("strconv.ErrRange", laid_strconv_ErrRange), ("strconv.ErrSyntax", laid_strconv_ErrSyntax), ("taffrail/listing.modes", laid_taffrail_listing_modes)] }
def ListingLongSaid : Prop := listingLongRow.holds Tryd.pinned (OpenSpec.ofChange listingLongSpec)

/-- ITS FALSE NEIGHBOUR: 'it returns false'. Refute it at one input. -/
def listingLongWrong : ChangeSpec := { name := "listingLong", fn := fun _ => fun
  | [d1, d2] => { results := [.lit (.bool false)], args := [d1, d2] }
  | _ => none }
def ListingLongWrongFalsely : Prop := listingLongRow.holds Tryd.pinned (OpenSpec.ofChange listingLongWrong)

/- THE SECOND FORM. 'bulk': how many values and letters a reading holds, each counted each time it is reached (what is shared counts as often as it is met; a slice's spare places count too). A statement '..UptoSaid' is the law's where the arguments, and the package variables that the reading takes, are together of bulk at most 1048576: NARROWER than '..Said'. Prove '..Said' where nothing that the law and all that it calls make is longer than what came in: it says more and counts as full. Else prove '..UptoSaid'. A law counts once. -/
mutual
def uptoBulk {H : Type} : DataW H → Nat
  | .lit (.string bytes) => bytes.length + 1
  | .lit _ => 1
  | .nil => 1
  | .ptr d => uptoBulk d + 1
  | .slice elems spare => uptoBulkAll elems + uptoBulkAll spare + 1
  | .agg parts => uptoBulkAll parts + 1
  | .iface _ d => uptoBulk d + 1
  | .map entries => uptoBulkEntries entries + 1
  | .held _ => 1
def uptoBulkAll {H : Type} : List (DataW H) → Nat
  | [] => 0
  | d :: r => uptoBulk d + uptoBulkAll r
def uptoBulkEntries {H : Type} : List (Lit × DataW H) → Nat
  | [] => 0
  | x :: r => uptoBulkEntry x + uptoBulkEntries r
def uptoBulkEntry {H : Type} : Lit × DataW H → Nat
  | (.string bytes, d) => bytes.length + uptoBulk d + 1
  | (_, d) => uptoBulk d + 1
 end
def uptoSmall : (H : Type) → List (DataW H) → Bool := fun _ ds => decide (uptoBulkAll ds ≤ 1048576)
def OpenSpec.upto (s : _root_.Go.ChangeSpec) : _root_.Go.OpenSpec := { _root_.Go.OpenSpec.ofChange s with cond := some uptoSmall }

/-- 'taffraillaw11.ListingLines', WHERE WHAT IT READS IS OF BULK AT MOST 1048576: true; the input reads as it did. -/
def listingLinesUptoRow : OpenClaim := { program := "ytlnlfeninjjkmaadoor", sum := "a986770ae58a7876d131803d4f1c670538a9e65e9f693a4bb4c760db9f44d62c", func := "taffrail/taffraillaw11.ListingLines", spec := "listingLines", inPlace := ["internal/abi.NoEscape", "internal/bytealg.MakeNoZero", "internal/bytealg.IndexByteString", "internal/bytealg.IndexString"], named := ["taffrail/listing.modes", "taffrail/isa.rows", "internal/strconv.uint64pow10", "math/bits.deBruijn32tab", "math/bits.deBruijn64tab", "internal/bytealg.MaxLen", "strconv.ErrSyntax", "strconv.ErrRange"], apart := false, laid := [("math/bits.deBruijn32tab", laid_math_bits_deBruijn32tab), ("math/bits.deBruijn64tab", laid_math_bits_deBruijn64tab), ("internal/strconv.uint64pow10", laid_internal_strconv_uint64pow10), ("taffrail/isa.rows", laid_taffrail_isa_rows), ("strconv.ErrRange", laid_strconv_ErrRange), ("strconv.ErrSyntax", laid_strconv_ErrSyntax), ("taffrail/listing.modes", laid_taffrail_listing_modes)], narrowed := true }
def ListingLinesUptoSaid : Prop := listingLinesUptoRow.holds Tryd.pinned (OpenSpec.upto listingLinesSpec)

/-- 'taffraillaw11.ListingReads', WHERE WHAT IT READS IS OF BULK AT MOST 1048576: true; the input reads as it did. -/
def listingReadsUptoRow : OpenClaim := { program := "ytlnlfeninjjkmaadoor", sum := "a986770ae58a7876d131803d4f1c670538a9e65e9f693a4bb4c760db9f44d62c", func := "taffrail/taffraillaw11.ListingReads", spec := "listingReads", inPlace := ["internal/abi.NoEscape", "internal/bytealg.MakeNoZero", "internal/bytealg.IndexByteString", "internal/bytealg.IndexString"], named := ["taffrail/listing.modes", "taffrail/isa.rows", "internal/strconv.uint64pow10", "math/bits.deBruijn32tab", "math/bits.deBruijn64tab", "internal/bytealg.MaxLen", "strconv.ErrSyntax", "strconv.ErrRange"], apart := false, laid := [("math/bits.deBruijn32tab", laid_math_bits_deBruijn32tab), ("math/bits.deBruijn64tab", laid_math_bits_deBruijn64tab), ("internal/strconv.uint64pow10", laid_internal_strconv_uint64pow10), ("taffrail/isa.rows", laid_taffrail_isa_rows), ("strconv.ErrRange", laid_strconv_ErrRange), ("strconv.ErrSyntax", laid_strconv_ErrSyntax), ("taffrail/listing.modes", laid_taffrail_listing_modes)], narrowed := true }
def ListingReadsUptoSaid : Prop := listingReadsUptoRow.holds Tryd.pinned (OpenSpec.upto listingReadsSpec)

/-- 'taffraillaw11.ListingPrints', WHERE WHAT IT READS IS OF BULK AT MOST 1048576: true; the input reads as it did. -/
def listingPrintsUptoRow : OpenClaim := { program := "ytlnlfeninjjkmaadoor", sum := "a986770ae58a7876d131803d4f1c670538a9e65e9f693a4bb4c760db9f44d62c", func := "taffrail/taffraillaw11.ListingPrints", spec := "listingPrints", inPlace := ["internal/abi.NoEscape", "internal/bytealg.MakeNoZero", "internal/bytealg.IndexByteString", "internal/bytealg.IndexString"], named := ["taffrail/listing.modes", "taffrail/isa.rows", "internal/strconv.uint64pow10", "math/bits.deBruijn32tab", "math/bits.deBruijn64tab", "internal/bytealg.MaxLen", "strconv.ErrSyntax", "strconv.ErrRange"], apart := false, laid := [("math/bits.deBruijn32tab", laid_math_bits_deBruijn32tab), ("math/bits.deBruijn64tab", laid_math_bits_deBruijn64tab), ("internal/strconv.uint64pow10", laid_internal_strconv_uint64pow10), ("taffrail/isa.rows", laid_taffrail_isa_rows), ("strconv.ErrRange", laid_strconv_ErrRange), ("strconv.ErrSyntax", laid_strconv_ErrSyntax), ("taffrail/listing.modes", laid_taffrail_listing_modes)], narrowed := true }
def ListingPrintsUptoSaid : Prop := listingPrintsUptoRow.holds Tryd.pinned (OpenSpec.upto listingPrintsSpec)

/-- 'taffraillaw11.ListingBack', WHERE WHAT IT READS IS OF BULK AT MOST 1048576: true; the input reads as it did. -/
def listingBackUptoRow : OpenClaim := { program := "ytlnlfeninjjkmaadoor", sum := "a986770ae58a7876d131803d4f1c670538a9e65e9f693a4bb4c760db9f44d62c", func := "taffrail/taffraillaw11.ListingBack", spec := "listingBack", inPlace := ["internal/abi.NoEscape", "internal/bytealg.MakeNoZero", "internal/bytealg.IndexByteString", "internal/bytealg.IndexString"], named := ["taffrail/listing.modes", "taffrail/isa.rows", "internal/strconv.uint64pow10", "math/bits.deBruijn32tab", "math/bits.deBruijn64tab", "internal/bytealg.MaxLen", "strconv.ErrSyntax", "strconv.ErrRange"], apart := false, laid := [("math/bits.deBruijn32tab", laid_math_bits_deBruijn32tab), ("math/bits.deBruijn64tab", laid_math_bits_deBruijn64tab), ("internal/strconv.uint64pow10", laid_internal_strconv_uint64pow10), ("taffrail/isa.rows", laid_taffrail_isa_rows), ("strconv.ErrRange", laid_strconv_ErrRange), ("strconv.ErrSyntax", laid_strconv_ErrSyntax), ("taffrail/listing.modes", laid_taffrail_listing_modes)], narrowed := true }
def ListingBackUptoSaid : Prop := listingBackUptoRow.holds Tryd.pinned (OpenSpec.upto listingBackSpec)

/-- 'taffraillaw11.ListingParts', WHERE WHAT IT READS IS OF BULK AT MOST 1048576: true; the input reads as it did. -/
def listingPartsUptoRow : OpenClaim := { program := "ytlnlfeninjjkmaadoor", sum := "a986770ae58a7876d131803d4f1c670538a9e65e9f693a4bb4c760db9f44d62c", func := "taffrail/taffraillaw11.ListingParts", spec := "listingParts", inPlace := ["internal/abi.NoEscape", "internal/bytealg.MakeNoZero", "internal/bytealg.IndexByteString", "internal/bytealg.IndexString"], named := ["taffrail/listing.modes", "taffrail/isa.rows", "internal/strconv.uint64pow10", "math/bits.deBruijn32tab", "math/bits.deBruijn64tab", "internal/bytealg.MaxLen", "strconv.ErrSyntax", "strconv.ErrRange"], apart := false, laid := [("math/bits.deBruijn32tab", laid_math_bits_deBruijn32tab), ("math/bits.deBruijn64tab", laid_math_bits_deBruijn64tab), ("internal/strconv.uint64pow10", laid_internal_strconv_uint64pow10), ("taffrail/isa.rows", laid_taffrail_isa_rows), ("strconv.ErrRange", laid_strconv_ErrRange), ("strconv.ErrSyntax", laid_strconv_ErrSyntax), ("taffrail/listing.modes", laid_taffrail_listing_modes)], narrowed := true }
def ListingPartsUptoSaid : Prop := listingPartsUptoRow.holds Tryd.pinned (OpenSpec.upto listingPartsSpec)

/-- 'taffraillaw11.ListingLong', WHERE WHAT IT READS IS OF BULK AT MOST 1048576: true; the input reads as it did. -/
def listingLongUptoRow : OpenClaim := { program := "ytlnlfeninjjkmaadoor", sum := "a986770ae58a7876d131803d4f1c670538a9e65e9f693a4bb4c760db9f44d62c", func := "taffrail/taffraillaw11.ListingLong", spec := "listingLong", inPlace := ["internal/abi.NoEscape", "internal/bytealg.MakeNoZero", "internal/bytealg.IndexByteString", "internal/bytealg.IndexString"], named := ["taffrail/listing.modes", "taffrail/isa.rows", "internal/strconv.uint64pow10", "math/bits.deBruijn32tab", "math/bits.deBruijn64tab", "internal/bytealg.MaxLen", "strconv.ErrSyntax", "strconv.ErrRange"], apart := false, laid := [("math/bits.deBruijn32tab", laid_math_bits_deBruijn32tab), ("math/bits.deBruijn64tab", laid_math_bits_deBruijn64tab), ("internal/strconv.uint64pow10", laid_internal_strconv_uint64pow10), ("taffrail/isa.rows", laid_taffrail_isa_rows), ("strconv.ErrRange", laid_strconv_ErrRange), ("strconv.ErrSyntax", laid_strconv_ErrSyntax), ("taffrail/listing.modes", laid_taffrail_listing_modes)], narrowed := true }
def ListingLongUptoSaid : Prop := listingLongUptoRow.holds Tryd.pinned (OpenSpec.upto listingLongSpec)

end Rows
end Go.Proofs.YtlnlfeninjjkmaaDoor
