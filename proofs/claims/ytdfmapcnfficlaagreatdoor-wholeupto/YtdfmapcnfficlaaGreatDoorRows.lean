/-
  NARROWER THAN 'FOR EVERY INPUT', by the rows' own cells (each row's printed sentence says how): Whole: laid · Written: laid · Shaped: laid · Begun: laid · Pieces: laid · Pages: laid · Limits: laid · Escaped: laid · Side: laid · Every: laid.
  DERIVED. THE GIVEN ROWS OF THIS SEAT. 10 by the template 'for every input the law returns true; each argument reads behind the call as it read before'; 0 by the template 'total and deterministic' (their statements: YtdfmapcnfficlaaGreatDoorTotals.lean).
  GIVEN WITH THE SEED: the statements are not yours to turn. If you find one false, say at which input.
  Laid BY PROGRAM, IN A SANDBOX (cutbox-rows.mjs): the forced cells as the released guide's own fill.sh prints them over the translation 52cf61c08a69fdd8… (all of the seat's roots in one cut). By AI agents, Wed Nov 11 2026. No macro, syntax, notation, axiom, sorry.
-/
import Derived.Test.YtdfmapcnfficlaaGreatDoorChecked
import GoSem.PinnedTables
import GoSem.Claim
import GoSem.ClaimJoined
import GoSem.ClaimMapViews
import Derived.JoinedTies
import Derived.KernelRfl
namespace Go.Proofs.YtdfmapcnfficlaaGreatDoor
/- THE CELL 'sum', in the pinned program and in every row, IS THE sha256 OF THE DUMP (.gsa) THAT YtdfmapcnfficlaaGreatDoorProg.lean LOADS. Nothing in Lean hashes anything: it is a label: what it is worth is what the hold of that sum in a sandbox is worth. -/
noncomputable def Tryz.pinned : Pinned := { name := "ytdfmapcnfficlaagreatdoor", sum := "52cf61c08a69fdd8fedf70308c3cda182859a39947343d7e5705f339aacef346", checked := Tryz.checked }
namespace Rows
def none {H : Type} : Left H := { results := [], args := [] }

/- WHAT THE LISTED PACKAGE-LEVEL VARIABLES READ AS WHEN THE CALL BEGINS. Each datum BY PROGRAM (the guide's laid-datum.mjs) off the statement by which the dump's own 'gosem.cut.vars' lays the variable. In a bare row this is a premise. The card (YtdfmapcnfficlaaGreatDoorCards.lean) ties it to the program's text. -/
def laid_math_bits_deBruijn32tab {H : Type} : DataW H := .agg [.lit (.int .u8 0), .lit (.int .u8 1), .lit (.int .u8 28), .lit (.int .u8 2), .lit (.int .u8 29), .lit (.int .u8 14), .lit (.int .u8 24), .lit (.int .u8 3), .lit (.int .u8 30), .lit (.int .u8 22), .lit (.int .u8 20), .lit (.int .u8 15), .lit (.int .u8 25), .lit (.int .u8 17), .lit (.int .u8 4), .lit (.int .u8 8), .lit (.int .u8 31), .lit (.int .u8 27), .lit (.int .u8 13), .lit (.int .u8 23), .lit (.int .u8 21), .lit (.int .u8 19), .lit (.int .u8 16), .lit (.int .u8 7), .lit (.int .u8 26), .lit (.int .u8 12), .lit (.int .u8 18), .lit (.int .u8 6), .lit (.int .u8 11), .lit (.int .u8 5), .lit (.int .u8 10), .lit (.int .u8 9)]
def laid_math_bits_deBruijn64tab {H : Type} : DataW H := .agg [.lit (.int .u8 0), .lit (.int .u8 1), .lit (.int .u8 56), .lit (.int .u8 2), .lit (.int .u8 57), .lit (.int .u8 49), .lit (.int .u8 28), .lit (.int .u8 3), .lit (.int .u8 61), .lit (.int .u8 58), .lit (.int .u8 42), .lit (.int .u8 50), .lit (.int .u8 38), .lit (.int .u8 29), .lit (.int .u8 17), .lit (.int .u8 4), .lit (.int .u8 62), .lit (.int .u8 47), .lit (.int .u8 59), .lit (.int .u8 36), .lit (.int .u8 45), .lit (.int .u8 43), .lit (.int .u8 51), .lit (.int .u8 22), .lit (.int .u8 53), .lit (.int .u8 39), .lit (.int .u8 33), .lit (.int .u8 30), .lit (.int .u8 24), .lit (.int .u8 18), .lit (.int .u8 12), .lit (.int .u8 5), .lit (.int .u8 63), .lit (.int .u8 55), .lit (.int .u8 48), .lit (.int .u8 27), .lit (.int .u8 60), .lit (.int .u8 41), .lit (.int .u8 37), .lit (.int .u8 16), .lit (.int .u8 46), .lit (.int .u8 35), .lit (.int .u8 44), .lit (.int .u8 21), .lit (.int .u8 52), .lit (.int .u8 32), .lit (.int .u8 23), .lit (.int .u8 11), .lit (.int .u8 54), .lit (.int .u8 26), .lit (.int .u8 40), .lit (.int .u8 15), .lit (.int .u8 34), .lit (.int .u8 20), .lit (.int .u8 31), .lit (.int .u8 10), .lit (.int .u8 25), .lit (.int .u8 14), .lit (.int .u8 19), .lit (.int .u8 9), .lit (.int .u8 13), .lit (.int .u8 8), .lit (.int .u8 7), .lit (.int .u8 6)]
def laid_internal_strconv_uint64pow10 {H : Type} : DataW H := .agg [.lit (.int .u64 1), .lit (.int .u64 10), .lit (.int .u64 100), .lit (.int .u64 1000), .lit (.int .u64 10000), .lit (.int .u64 100000), .lit (.int .u64 1000000), .lit (.int .u64 10000000), .lit (.int .u64 100000000), .lit (.int .u64 1000000000), .lit (.int .u64 10000000000), .lit (.int .u64 100000000000), .lit (.int .u64 1000000000000), .lit (.int .u64 10000000000000), .lit (.int .u64 100000000000000), .lit (.int .u64 1000000000000000), .lit (.int .u64 10000000000000000), .lit (.int .u64 100000000000000000), .lit (.int .u64 1000000000000000000), .lit (.int .u64 10000000000000000000)]
def laid_unicode_utf8_acceptRanges {H : Type} : DataW H := .agg [.agg [.lit (.int .u8 128), .lit (.int .u8 191)], .agg [.lit (.int .u8 160), .lit (.int .u8 191)], .agg [.lit (.int .u8 128), .lit (.int .u8 159)], .agg [.lit (.int .u8 144), .lit (.int .u8 191)], .agg [.lit (.int .u8 128), .lit (.int .u8 143)], .agg [.lit (.int .u8 0), .lit (.int .u8 0)], .agg [.lit (.int .u8 0), .lit (.int .u8 0)], .agg [.lit (.int .u8 0), .lit (.int .u8 0)], .agg [.lit (.int .u8 0), .lit (.int .u8 0)], .agg [.lit (.int .u8 0), .lit (.int .u8 0)], .agg [.lit (.int .u8 0), .lit (.int .u8 0)], .agg [.lit (.int .u8 0), .lit (.int .u8 0)], .agg [.lit (.int .u8 0), .lit (.int .u8 0)], .agg [.lit (.int .u8 0), .lit (.int .u8 0)], .agg [.lit (.int .u8 0), .lit (.int .u8 0)], .agg [.lit (.int .u8 0), .lit (.int .u8 0)]]
def laid_unmark_unmark_fromWindows {H : Type} : DataW H := .agg [.lit (.int .i32 8364), .lit (.int .i32 0), .lit (.int .i32 8218), .lit (.int .i32 402), .lit (.int .i32 8222), .lit (.int .i32 8230), .lit (.int .i32 8224), .lit (.int .i32 8225), .lit (.int .i32 710), .lit (.int .i32 8240), .lit (.int .i32 352), .lit (.int .i32 8249), .lit (.int .i32 338), .lit (.int .i32 0), .lit (.int .i32 381), .lit (.int .i32 0), .lit (.int .i32 0), .lit (.int .i32 8216), .lit (.int .i32 8217), .lit (.int .i32 8220), .lit (.int .i32 8221), .lit (.int .i32 8226), .lit (.int .i32 8211), .lit (.int .i32 8212), .lit (.int .i32 732), .lit (.int .i32 8482), .lit (.int .i32 353), .lit (.int .i32 8250), .lit (.int .i32 339), .lit (.int .i32 0), .lit (.int .i32 382), .lit (.int .i32 376)]
def laid_unmark_unmark_names {H : Type} : DataW H := .agg [.agg [.lit (.string [97, 109, 112, 59]), .lit (.string [38])], .agg [.lit (.string [97, 109, 112]), .lit (.string [38])], .agg [.lit (.string [65, 77, 80, 59]), .lit (.string [38])], .agg [.lit (.string [65, 77, 80]), .lit (.string [38])], .agg [.lit (.string [108, 116, 59]), .lit (.string [60])], .agg [.lit (.string [108, 116]), .lit (.string [60])], .agg [.lit (.string [76, 84, 59]), .lit (.string [60])], .agg [.lit (.string [76, 84]), .lit (.string [60])], .agg [.lit (.string [103, 116, 59]), .lit (.string [62])], .agg [.lit (.string [103, 116]), .lit (.string [62])], .agg [.lit (.string [113, 117, 111, 116, 59]), .lit (.string [34])], .agg [.lit (.string [113, 117, 111, 116]), .lit (.string [34])], .agg [.lit (.string [97, 112, 111, 115, 59]), .lit (.string [39])], .agg [.lit (.string [110, 98, 115, 112, 59]), .lit (.string [194, 160])], .agg [.lit (.string [110, 98, 115, 112]), .lit (.string [194, 160])], .agg [.lit (.string [99, 111, 112, 121, 59]), .lit (.string [194, 169])], .agg [.lit (.string [99, 111, 112, 121]), .lit (.string [194, 169])], .agg [.lit (.string [110, 111, 116, 59]), .lit (.string [194, 172])], .agg [.lit (.string [110, 111, 116]), .lit (.string [194, 172])], .agg [.lit (.string [110, 111, 116, 105, 110, 59]), .lit (.string [226, 136, 137])], .agg [.lit (.string [104, 101, 108, 108, 105, 112, 59]), .lit (.string [226, 128, 166])]]
def laid_unmark_unmark_ErrClosed {H : Type} : DataW H := .iface "*errors.errorString" (.ptr (.agg [.lit (.string [117, 110, 109, 97, 114, 107, 58, 32, 99, 108, 111, 115, 101, 100])]))
def laid_unmark_unmark_ErrLimit {H : Type} : DataW H := .iface "*errors.errorString" (.ptr (.agg [.lit (.string [117, 110, 109, 97, 114, 107, 58, 32, 116, 111, 111, 32, 108, 111, 110, 103])]))
/-- One of Go's own tables, pinned by name: the form's constant. -/
def laid_unicode_utf8_first : DataW Unit := Go.Pinned.utf8First

/-- 'unmarklaw.Whole': WHATEVER THE INPUT: true; the input reads as it did. -/
def wholeSpec : ChangeSpec := { name := "whole", fn := fun _ => fun
  | [d] => { results := [.lit (.bool true)], args := [d] }
  | _ => none }
def wholeRow : OpenClaim := { program := "ytdfmapcnfficlaagreatdoor", sum := "52cf61c08a69fdd8fedf70308c3cda182859a39947343d7e5705f339aacef346", func := "unmark/unmarklaw.Whole", spec := "whole", inPlace := ["internal/abi.NoEscape", "internal/bytealg.MakeNoZero", "(*sync.WaitGroup).Go", "(*sync.WaitGroup).Add", "internal/race.ReleaseMerge", "internal/race.Disable", "internal/race.Enable", "internal/synctest.IsInBubble", "internal/synctest.Associate[sync.WaitGroup]", "sync.fatal", "sync/atomic.OrUint64", "sync/atomic.AddUint64", "internal/race.Read", "sync/atomic.LoadUint64", "sync/atomic.StoreUint64", "internal/synctest.Disassociate[sync.WaitGroup]", "sync.runtime_Semrelease", "(*sync.WaitGroup).Go$1", "(*sync.WaitGroup).Go$1$1", "(*sync.WaitGroup).Done", "(*sync.WaitGroup).Wait", "internal/race.Acquire", "internal/synctest.IsAssociated[sync.WaitGroup]", "sync/atomic.CompareAndSwapUint64", "internal/race.Write", "sync.runtime_SemacquireWaitGroup"], unfollowed := true, recurses := true, named := ["unmark/unmark.ErrLimit", "unmark/unmark.ErrClosed", "unicode/utf8.first", "unicode/utf8.acceptRanges", "unmark/unmark.names", "unmark/unmark.fromWindows", "internal/strconv.uint64pow10", "math/bits.deBruijn32tab", "math/bits.deBruijn64tab"], apart := false, laid := [("math/bits.deBruijn32tab", laid_math_bits_deBruijn32tab), ("math/bits.deBruijn64tab", laid_math_bits_deBruijn64tab), ("internal/strconv.uint64pow10", laid_internal_strconv_uint64pow10), ("unicode/utf8.acceptRanges", laid_unicode_utf8_acceptRanges), ("unmark/unmark.fromWindows", laid_unmark_unmark_fromWindows), ("unmark/unmark.names", laid_unmark_unmark_names), ("unmark/unmark.ErrClosed", laid_unmark_unmark_ErrClosed), ("unmark/unmark.ErrLimit", laid_unmark_unmark_ErrLimit), ("unicode/utf8.first", laid_unicode_utf8_first)] }
def WholeSaid : Prop := wholeRow.holds Tryz.pinned (OpenSpec.ofChange wholeSpec)

/-- ITS FALSE NEIGHBOUR: 'it returns false'. Refute it at one input. -/
def wholeWrong : ChangeSpec := { name := "whole", fn := fun _ => fun
  | [d] => { results := [.lit (.bool false)], args := [d] }
  | _ => none }
def WholeWrongFalsely : Prop := wholeRow.holds Tryz.pinned (OpenSpec.ofChange wholeWrong)

/-- 'unmarklaw.Written': WHATEVER THE INPUT: true; the input reads as it did. -/
def writtenSpec : ChangeSpec := { name := "written", fn := fun _ => fun
  | [d] => { results := [.lit (.bool true)], args := [d] }
  | _ => none }
def writtenRow : OpenClaim := { program := "ytdfmapcnfficlaagreatdoor", sum := "52cf61c08a69fdd8fedf70308c3cda182859a39947343d7e5705f339aacef346", func := "unmark/unmarklaw.Written", spec := "written", inPlace := ["internal/abi.NoEscape", "internal/bytealg.MakeNoZero", "(*sync.WaitGroup).Go", "(*sync.WaitGroup).Add", "internal/race.ReleaseMerge", "internal/race.Disable", "internal/race.Enable", "internal/synctest.IsInBubble", "internal/synctest.Associate[sync.WaitGroup]", "sync.fatal", "sync/atomic.OrUint64", "sync/atomic.AddUint64", "internal/race.Read", "sync/atomic.LoadUint64", "sync/atomic.StoreUint64", "internal/synctest.Disassociate[sync.WaitGroup]", "sync.runtime_Semrelease", "(*sync.WaitGroup).Go$1", "(*sync.WaitGroup).Go$1$1", "(*sync.WaitGroup).Done", "(*sync.WaitGroup).Wait", "internal/race.Acquire", "internal/synctest.IsAssociated[sync.WaitGroup]", "sync/atomic.CompareAndSwapUint64", "internal/race.Write", "sync.runtime_SemacquireWaitGroup"], unfollowed := true, recurses := true, named := ["unmark/unmark.ErrLimit", "unmark/unmark.ErrClosed", "unicode/utf8.first", "unicode/utf8.acceptRanges", "unmark/unmark.names", "unmark/unmark.fromWindows", "internal/strconv.uint64pow10", "math/bits.deBruijn32tab", "math/bits.deBruijn64tab"], apart := false, laid := [("math/bits.deBruijn32tab", laid_math_bits_deBruijn32tab), ("math/bits.deBruijn64tab", laid_math_bits_deBruijn64tab), ("internal/strconv.uint64pow10", laid_internal_strconv_uint64pow10), ("unicode/utf8.acceptRanges", laid_unicode_utf8_acceptRanges), ("unmark/unmark.fromWindows", laid_unmark_unmark_fromWindows), ("unmark/unmark.names", laid_unmark_unmark_names), ("unmark/unmark.ErrClosed", laid_unmark_unmark_ErrClosed), ("unmark/unmark.ErrLimit", laid_unmark_unmark_ErrLimit), ("unicode/utf8.first", laid_unicode_utf8_first)] }
def WrittenSaid : Prop := writtenRow.holds Tryz.pinned (OpenSpec.ofChange writtenSpec)

/-- ITS FALSE NEIGHBOUR: 'it returns false'. Refute it at one input. -/
def writtenWrong : ChangeSpec := { name := "written", fn := fun _ => fun
  | [d] => { results := [.lit (.bool false)], args := [d] }
  | _ => none }
def WrittenWrongFalsely : Prop := writtenRow.holds Tryz.pinned (OpenSpec.ofChange writtenWrong)

/-- 'unmarkkeep.Shaped': WHATEVER THE INPUT: true; the input reads as it did. -/
def shapedSpec : ChangeSpec := { name := "shaped", fn := fun _ => fun
  | [d] => { results := [.lit (.bool true)], args := [d] }
  | _ => none }
def shapedRow : OpenClaim := { program := "ytdfmapcnfficlaagreatdoor", sum := "52cf61c08a69fdd8fedf70308c3cda182859a39947343d7e5705f339aacef346", func := "unmark/unmarkkeep.Shaped", spec := "shaped", inPlace := ["internal/abi.NoEscape", "internal/bytealg.MakeNoZero"], unfollowed := true, recurses := true, named := ["unmark/unmark.ErrLimit", "unmark/unmark.ErrClosed", "unicode/utf8.first", "unicode/utf8.acceptRanges", "unmark/unmark.names", "unmark/unmark.fromWindows"], apart := false, laid := [("unicode/utf8.acceptRanges", laid_unicode_utf8_acceptRanges), ("unmark/unmark.fromWindows", laid_unmark_unmark_fromWindows), ("unmark/unmark.names", laid_unmark_unmark_names), ("unmark/unmark.ErrClosed", laid_unmark_unmark_ErrClosed), ("unmark/unmark.ErrLimit", laid_unmark_unmark_ErrLimit), ("unicode/utf8.first", laid_unicode_utf8_first)] }
def ShapedSaid : Prop := shapedRow.holds Tryz.pinned (OpenSpec.ofChange shapedSpec)

/-- ITS FALSE NEIGHBOUR: 'it returns false'. Refute it at one input. -/
def shapedWrong : ChangeSpec := { name := "shaped", fn := fun _ => fun
  | [d] => { results := [.lit (.bool false)], args := [d] }
  | _ => none }
def ShapedWrongFalsely : Prop := shapedRow.holds Tryz.pinned (OpenSpec.ofChange shapedWrong)

/-- 'unmarkkeep.Begun': WHATEVER THE INPUT: true; the input reads as it did. -/
def begunSpec : ChangeSpec := { name := "begun", fn := fun _ => fun
  | [d1, d2] => { results := [.lit (.bool true)], args := [d1, d2] }
  | _ => none }
def begunRow : OpenClaim := { program := "ytdfmapcnfficlaagreatdoor", sum := "52cf61c08a69fdd8fedf70308c3cda182859a39947343d7e5705f339aacef346", func := "unmark/unmarkkeep.Begun", spec := "begun", inPlace := ["internal/abi.NoEscape", "internal/bytealg.MakeNoZero"], unfollowed := true, recurses := true, named := ["unmark/unmark.ErrLimit", "unmark/unmark.ErrClosed", "unicode/utf8.first", "unicode/utf8.acceptRanges", "unmark/unmark.names", "unmark/unmark.fromWindows"], apart := false, laid := [("unicode/utf8.acceptRanges", laid_unicode_utf8_acceptRanges), ("unmark/unmark.fromWindows", laid_unmark_unmark_fromWindows), ("unmark/unmark.names", laid_unmark_unmark_names), ("unmark/unmark.ErrClosed", laid_unmark_unmark_ErrClosed), ("unmark/unmark.ErrLimit", laid_unmark_unmark_ErrLimit), ("unicode/utf8.first", laid_unicode_utf8_first)] }
def BegunSaid : Prop := begunRow.holds Tryz.pinned (OpenSpec.ofChange begunSpec)

/-- ITS FALSE NEIGHBOUR: 'it returns false'. Refute it at one input. -/
def begunWrong : ChangeSpec := { name := "begun", fn := fun _ => fun
  | [d1, d2] => { results := [.lit (.bool false)], args := [d1, d2] }
  | _ => none }
def BegunWrongFalsely : Prop := begunRow.holds Tryz.pinned (OpenSpec.ofChange begunWrong)

/-- 'unmarkkeep.Pieces': WHATEVER THE INPUT: true; the input reads as it did. -/
def piecesSpec : ChangeSpec := { name := "pieces", fn := fun _ => fun
  | [d1, d2, d3] => { results := [.lit (.bool true)], args := [d1, d2, d3] }
  | _ => none }
def piecesRow : OpenClaim := { program := "ytdfmapcnfficlaagreatdoor", sum := "52cf61c08a69fdd8fedf70308c3cda182859a39947343d7e5705f339aacef346", func := "unmark/unmarkkeep.Pieces", spec := "pieces", inPlace := ["internal/abi.NoEscape", "internal/bytealg.MakeNoZero"], unfollowed := true, recurses := true, named := ["unmark/unmark.ErrLimit", "unmark/unmark.ErrClosed", "unicode/utf8.first", "unicode/utf8.acceptRanges", "unmark/unmark.names", "unmark/unmark.fromWindows"], apart := false, laid := [("unicode/utf8.acceptRanges", laid_unicode_utf8_acceptRanges), ("unmark/unmark.fromWindows", laid_unmark_unmark_fromWindows), ("unmark/unmark.names", laid_unmark_unmark_names), ("unmark/unmark.ErrClosed", laid_unmark_unmark_ErrClosed), ("unmark/unmark.ErrLimit", laid_unmark_unmark_ErrLimit), ("unicode/utf8.first", laid_unicode_utf8_first)] }
def PiecesSaid : Prop := piecesRow.holds Tryz.pinned (OpenSpec.ofChange piecesSpec)

/-- ITS FALSE NEIGHBOUR: 'it returns false'. Refute it at one input. -/
def piecesWrong : ChangeSpec := { name := "pieces", fn := fun _ => fun
  | [d1, d2, d3] => { results := [.lit (.bool false)], args := [d1, d2, d3] }
  | _ => none }
def PiecesWrongFalsely : Prop := piecesRow.holds Tryz.pinned (OpenSpec.ofChange piecesWrong)

/-- 'unmarkkeep.Pages': WHATEVER THE INPUT: true; the input reads as it did. -/
def pagesSpec : ChangeSpec := { name := "pages", fn := fun _ => fun
  | [d] => { results := [.lit (.bool true)], args := [d] }
  | _ => none }
def pagesRow : OpenClaim := { program := "ytdfmapcnfficlaagreatdoor", sum := "52cf61c08a69fdd8fedf70308c3cda182859a39947343d7e5705f339aacef346", func := "unmark/unmarkkeep.Pages", spec := "pages", inPlace := ["internal/abi.NoEscape", "internal/bytealg.MakeNoZero"], unfollowed := true, recurses := true, named := ["unmark/unmark.ErrLimit", "unmark/unmark.ErrClosed", "unicode/utf8.first", "unicode/utf8.acceptRanges", "unmark/unmark.names", "unmark/unmark.fromWindows"], apart := false, laid := [("unicode/utf8.acceptRanges", laid_unicode_utf8_acceptRanges), ("unmark/unmark.fromWindows", laid_unmark_unmark_fromWindows), ("unmark/unmark.names", laid_unmark_unmark_names), ("unmark/unmark.ErrClosed", laid_unmark_unmark_ErrClosed), ("unmark/unmark.ErrLimit", laid_unmark_unmark_ErrLimit), ("unicode/utf8.first", laid_unicode_utf8_first)] }
def PagesSaid : Prop := pagesRow.holds Tryz.pinned (OpenSpec.ofChange pagesSpec)

/-- ITS FALSE NEIGHBOUR: 'it returns false'. Refute it at one input. -/
def pagesWrong : ChangeSpec := { name := "pages", fn := fun _ => fun
  | [d] => { results := [.lit (.bool false)], args := [d] }
  | _ => none }
def PagesWrongFalsely : Prop := pagesRow.holds Tryz.pinned (OpenSpec.ofChange pagesWrong)

/-- 'unmarkkeep.Limits': WHATEVER THE INPUT: true; the input reads as it did. -/
def limitsSpec : ChangeSpec := { name := "limits", fn := fun _ => fun
  | [d1, d2, d3] => { results := [.lit (.bool true)], args := [d1, d2, d3] }
  | _ => none }
def limitsRow : OpenClaim := { program := "ytdfmapcnfficlaagreatdoor", sum := "52cf61c08a69fdd8fedf70308c3cda182859a39947343d7e5705f339aacef346", func := "unmark/unmarkkeep.Limits", spec := "limits", inPlace := ["internal/abi.NoEscape", "internal/bytealg.MakeNoZero"], unfollowed := true, recurses := true, named := ["unmark/unmark.ErrLimit", "unmark/unmark.ErrClosed", "unicode/utf8.first", "unicode/utf8.acceptRanges", "unmark/unmark.names", "unmark/unmark.fromWindows", "internal/strconv.uint64pow10", "math/bits.deBruijn32tab", "math/bits.deBruijn64tab"], apart := false, laid := [("math/bits.deBruijn32tab", laid_math_bits_deBruijn32tab), ("math/bits.deBruijn64tab", laid_math_bits_deBruijn64tab), ("internal/strconv.uint64pow10", laid_internal_strconv_uint64pow10), ("unicode/utf8.acceptRanges", laid_unicode_utf8_acceptRanges), ("unmark/unmark.fromWindows", laid_unmark_unmark_fromWindows), ("unmark/unmark.names", laid_unmark_unmark_names), ("unmark/unmark.ErrClosed", laid_unmark_unmark_ErrClosed), ("unmark/unmark.ErrLimit", laid_unmark_unmark_ErrLimit), ("unicode/utf8.first", laid_unicode_utf8_first)] }
def LimitsSaid : Prop := limitsRow.holds Tryz.pinned (OpenSpec.ofChange limitsSpec)

/-- ITS FALSE NEIGHBOUR: 'it returns false'. Refute it at one input. -/
def limitsWrong : ChangeSpec := { name := "limits", fn := fun _ => fun
  | [d1, d2, d3] => { results := [.lit (.bool false)], args := [d1, d2, d3] }
  | _ => none }
def LimitsWrongFalsely : Prop := limitsRow.holds Tryz.pinned (OpenSpec.ofChange limitsWrong)

/-- 'unmarkkeep.Escaped': WHATEVER THE INPUT: true; the input reads as it did. -/
def escapedSpec : ChangeSpec := { name := "escaped", fn := fun _ => fun
  | [d] => { results := [.lit (.bool true)], args := [d] }
  | _ => none }
def escapedRow : OpenClaim := { program := "ytdfmapcnfficlaagreatdoor", sum := "52cf61c08a69fdd8fedf70308c3cda182859a39947343d7e5705f339aacef346", func := "unmark/unmarkkeep.Escaped", spec := "escaped", inPlace := ["internal/abi.NoEscape", "internal/bytealg.MakeNoZero"], unfollowed := true, recurses := true, named := ["unmark/unmark.ErrLimit", "unmark/unmark.ErrClosed", "unicode/utf8.first", "unicode/utf8.acceptRanges", "unmark/unmark.names", "unmark/unmark.fromWindows"], apart := false, laid := [("unicode/utf8.acceptRanges", laid_unicode_utf8_acceptRanges), ("unmark/unmark.fromWindows", laid_unmark_unmark_fromWindows), ("unmark/unmark.names", laid_unmark_unmark_names), ("unmark/unmark.ErrClosed", laid_unmark_unmark_ErrClosed), ("unmark/unmark.ErrLimit", laid_unmark_unmark_ErrLimit), ("unicode/utf8.first", laid_unicode_utf8_first)] }
def EscapedSaid : Prop := escapedRow.holds Tryz.pinned (OpenSpec.ofChange escapedSpec)

/-- ITS FALSE NEIGHBOUR: 'it returns false'. Refute it at one input. -/
def escapedWrong : ChangeSpec := { name := "escaped", fn := fun _ => fun
  | [d] => { results := [.lit (.bool false)], args := [d] }
  | _ => none }
def EscapedWrongFalsely : Prop := escapedRow.holds Tryz.pinned (OpenSpec.ofChange escapedWrong)

/-- 'unmarkkeep.Side': WHATEVER THE INPUT: true; the input reads as it did. -/
def sideSpec : ChangeSpec := { name := "side", fn := fun _ => fun
  | [d1, d2] => { results := [.lit (.bool true)], args := [d1, d2] }
  | _ => none }
def sideRow : OpenClaim := { program := "ytdfmapcnfficlaagreatdoor", sum := "52cf61c08a69fdd8fedf70308c3cda182859a39947343d7e5705f339aacef346", func := "unmark/unmarkkeep.Side", spec := "side", inPlace := ["internal/abi.NoEscape", "internal/bytealg.MakeNoZero", "(*sync.WaitGroup).Go", "(*sync.WaitGroup).Add", "internal/race.ReleaseMerge", "internal/race.Disable", "internal/race.Enable", "internal/synctest.IsInBubble", "internal/synctest.Associate[sync.WaitGroup]", "sync.fatal", "sync/atomic.OrUint64", "sync/atomic.AddUint64", "internal/race.Read", "sync/atomic.LoadUint64", "sync/atomic.StoreUint64", "internal/synctest.Disassociate[sync.WaitGroup]", "sync.runtime_Semrelease", "(*sync.WaitGroup).Go$1", "(*sync.WaitGroup).Go$1$1", "(*sync.WaitGroup).Done", "(*sync.WaitGroup).Wait", "internal/race.Acquire", "internal/synctest.IsAssociated[sync.WaitGroup]", "sync/atomic.CompareAndSwapUint64", "internal/race.Write", "sync.runtime_SemacquireWaitGroup"], unfollowed := true, recurses := true, named := ["unmark/unmark.ErrLimit", "unmark/unmark.ErrClosed", "unicode/utf8.first", "unicode/utf8.acceptRanges", "unmark/unmark.names", "unmark/unmark.fromWindows", "internal/strconv.uint64pow10", "math/bits.deBruijn32tab", "math/bits.deBruijn64tab"], apart := false, laid := [("math/bits.deBruijn32tab", laid_math_bits_deBruijn32tab), ("math/bits.deBruijn64tab", laid_math_bits_deBruijn64tab), ("internal/strconv.uint64pow10", laid_internal_strconv_uint64pow10), ("unicode/utf8.acceptRanges", laid_unicode_utf8_acceptRanges), ("unmark/unmark.fromWindows", laid_unmark_unmark_fromWindows), ("unmark/unmark.names", laid_unmark_unmark_names), ("unmark/unmark.ErrClosed", laid_unmark_unmark_ErrClosed), ("unmark/unmark.ErrLimit", laid_unmark_unmark_ErrLimit), ("unicode/utf8.first", laid_unicode_utf8_first)] }
def SideSaid : Prop := sideRow.holds Tryz.pinned (OpenSpec.ofChange sideSpec)

/-- ITS FALSE NEIGHBOUR: 'it returns false'. Refute it at one input. -/
def sideWrong : ChangeSpec := { name := "side", fn := fun _ => fun
  | [d1, d2] => { results := [.lit (.bool false)], args := [d1, d2] }
  | _ => none }
def SideWrongFalsely : Prop := sideRow.holds Tryz.pinned (OpenSpec.ofChange sideWrong)

/-- 'unmarklaw.Every': WHATEVER THE INPUT: true; the input reads as it did. -/
def everySpec : ChangeSpec := { name := "every", fn := fun _ => fun
  | [d] => { results := [.lit (.bool true)], args := [d] }
  | _ => none }
def everyRow : OpenClaim := { program := "ytdfmapcnfficlaagreatdoor", sum := "52cf61c08a69fdd8fedf70308c3cda182859a39947343d7e5705f339aacef346", func := "unmark/unmarklaw.Every", spec := "every", inPlace := ["internal/abi.NoEscape", "internal/bytealg.MakeNoZero", "(*sync.WaitGroup).Go", "(*sync.WaitGroup).Add", "internal/race.ReleaseMerge", "internal/race.Disable", "internal/race.Enable", "internal/synctest.IsInBubble", "internal/synctest.Associate[sync.WaitGroup]", "sync.fatal", "sync/atomic.OrUint64", "sync/atomic.AddUint64", "internal/race.Read", "sync/atomic.LoadUint64", "sync/atomic.StoreUint64", "internal/synctest.Disassociate[sync.WaitGroup]", "sync.runtime_Semrelease", "(*sync.WaitGroup).Go$1", "(*sync.WaitGroup).Go$1$1", "(*sync.WaitGroup).Done", "(*sync.WaitGroup).Wait", "internal/race.Acquire", "internal/synctest.IsAssociated[sync.WaitGroup]", "sync/atomic.CompareAndSwapUint64", "internal/race.Write", "sync.runtime_SemacquireWaitGroup"], unfollowed := true, recurses := true, named := ["unmark/unmark.ErrLimit", "unmark/unmark.ErrClosed", "unicode/utf8.first", "unicode/utf8.acceptRanges", "unmark/unmark.names", "unmark/unmark.fromWindows", "internal/strconv.uint64pow10", "math/bits.deBruijn32tab", "math/bits.deBruijn64tab"], apart := false, laid := [("math/bits.deBruijn32tab", laid_math_bits_deBruijn32tab), ("math/bits.deBruijn64tab", laid_math_bits_deBruijn64tab), ("internal/strconv.uint64pow10", laid_internal_strconv_uint64pow10), ("unicode/utf8.acceptRanges", laid_unicode_utf8_acceptRanges), ("unmark/unmark.fromWindows", laid_unmark_unmark_fromWindows), ("unmark/unmark.names", laid_unmark_unmark_names), ("unmark/unmark.ErrClosed", laid_unmark_unmark_ErrClosed), ("unmark/unmark.ErrLimit", laid_unmark_unmark_ErrLimit), ("unicode/utf8.first", laid_unicode_utf8_first)] }
def EverySaid : Prop := everyRow.holds Tryz.pinned (OpenSpec.ofChange everySpec)

/-- ITS FALSE NEIGHBOUR: 'it returns false'. Refute it at one input. -/
def everyWrong : ChangeSpec := { name := "every", fn := fun _ => fun
  | [d] => { results := [.lit (.bool false)], args := [d] }
  | _ => none }
def EveryWrongFalsely : Prop := everyRow.holds Tryz.pinned (OpenSpec.ofChange everyWrong)

/- THE SECOND FORM. 'bulk': how many values and letters a reading holds, each counted each time it is reached (what is shared counts as often as it is met; a slice's spare places count too). A statement '..UptoSaid' is the law's where the arguments, and the package variables that the reading takes, are together of bulk at most 1048576: NARROWER than '..Said'. Prove '..Said' where nothing that the law and all that it calls make is longer than what came in: it says more and counts as full. Else prove '..UptoSaid'. A law counts once. -/
mutual
def uptoBulk {H : Type} : DataW H → Nat
  | .lit (.string bytes) => bytes.length + 1
  | .lit _ => 1
  | .nil => 1
  | .ptr d => uptoBulk d + 1
  | .slice elems spare => uptoBulkAll elems + uptoBulkAll spare + 1
  | .agg parts => uptoBulkAll parts + 1
  | .iface _ d => uptoBulk d + 1
  | .map entries => uptoBulkEntries entries + 1
  | .held _ => 1
def uptoBulkAll {H : Type} : List (DataW H) → Nat
  | [] => 0
  | d :: r => uptoBulk d + uptoBulkAll r
def uptoBulkEntries {H : Type} : List (Lit × DataW H) → Nat
  | [] => 0
  | x :: r => uptoBulkEntry x + uptoBulkEntries r
def uptoBulkEntry {H : Type} : Lit × DataW H → Nat
  | (.string bytes, d) => bytes.length + uptoBulk d + 1
  | (_, d) => uptoBulk d + 1
 end
def uptoSmall : (H : Type) → List (DataW H) → Bool := fun _ ds => decide (uptoBulkAll ds ≤ 1048576)
def OpenSpec.upto (s : _root_.Go.ChangeSpec) : _root_.Go.OpenSpec := { _root_.Go.OpenSpec.ofChange s with cond := some uptoSmall }

/-- 'unmarklaw.Whole', WHERE WHAT IT READS IS OF BULK AT MOST 1048576: true; the input reads as it did. -/
def wholeUptoRow : OpenClaim := { program := "ytdfmapcnfficlaagreatdoor", sum := "52cf61c08a69fdd8fedf70308c3cda182859a39947343d7e5705f339aacef346", func := "unmark/unmarklaw.Whole", spec := "whole", inPlace := ["internal/abi.NoEscape", "internal/bytealg.MakeNoZero", "(*sync.WaitGroup).Go", "(*sync.WaitGroup).Add", "internal/race.ReleaseMerge", "internal/race.Disable", "internal/race.Enable", "internal/synctest.IsInBubble", "internal/synctest.Associate[sync.WaitGroup]", "sync.fatal", "sync/atomic.OrUint64", "sync/atomic.AddUint64", "internal/race.Read", "sync/atomic.LoadUint64", "sync/atomic.StoreUint64", "internal/synctest.Disassociate[sync.WaitGroup]", "sync.runtime_Semrelease", "(*sync.WaitGroup).Go$1", "(*sync.WaitGroup).Go$1$1", "(*sync.WaitGroup).Done", "(*sync.WaitGroup).Wait", "internal/race.Acquire", "internal/synctest.IsAssociated[sync.WaitGroup]", "sync/atomic.CompareAndSwapUint64", "internal/race.Write", "sync.runtime_SemacquireWaitGroup"], unfollowed := true, recurses := true, named := ["unmark/unmark.ErrLimit", "unmark/unmark.ErrClosed", "unicode/utf8.first", "unicode/utf8.acceptRanges", "unmark/unmark.names", "unmark/unmark.fromWindows", "internal/strconv.uint64pow10", "math/bits.deBruijn32tab", "math/bits.deBruijn64tab"], apart := false, laid := [("math/bits.deBruijn32tab", laid_math_bits_deBruijn32tab), ("math/bits.deBruijn64tab", laid_math_bits_deBruijn64tab), ("internal/strconv.uint64pow10", laid_internal_strconv_uint64pow10), ("unicode/utf8.acceptRanges", laid_unicode_utf8_acceptRanges), ("unmark/unmark.fromWindows", laid_unmark_unmark_fromWindows), ("unmark/unmark.names", laid_unmark_unmark_names), ("unmark/unmark.ErrClosed", laid_unmark_unmark_ErrClosed), ("unmark/unmark.ErrLimit", laid_unmark_unmark_ErrLimit), ("unicode/utf8.first", laid_unicode_utf8_first)], narrowed := true }
def WholeUptoSaid : Prop := wholeUptoRow.holds Tryz.pinned (OpenSpec.upto wholeSpec)

/-- 'unmarklaw.Written', WHERE WHAT IT READS IS OF BULK AT MOST 1048576: true; the input reads as it did. -/
def writtenUptoRow : OpenClaim := { program := "ytdfmapcnfficlaagreatdoor", sum := "52cf61c08a69fdd8fedf70308c3cda182859a39947343d7e5705f339aacef346", func := "unmark/unmarklaw.Written", spec := "written", inPlace := ["internal/abi.NoEscape", "internal/bytealg.MakeNoZero", "(*sync.WaitGroup).Go", "(*sync.WaitGroup).Add", "internal/race.ReleaseMerge", "internal/race.Disable", "internal/race.Enable", "internal/synctest.IsInBubble", "internal/synctest.Associate[sync.WaitGroup]", "sync.fatal", "sync/atomic.OrUint64", "sync/atomic.AddUint64", "internal/race.Read", "sync/atomic.LoadUint64", "sync/atomic.StoreUint64", "internal/synctest.Disassociate[sync.WaitGroup]", "sync.runtime_Semrelease", "(*sync.WaitGroup).Go$1", "(*sync.WaitGroup).Go$1$1", "(*sync.WaitGroup).Done", "(*sync.WaitGroup).Wait", "internal/race.Acquire", "internal/synctest.IsAssociated[sync.WaitGroup]", "sync/atomic.CompareAndSwapUint64", "internal/race.Write", "sync.runtime_SemacquireWaitGroup"], unfollowed := true, recurses := true, named := ["unmark/unmark.ErrLimit", "unmark/unmark.ErrClosed", "unicode/utf8.first", "unicode/utf8.acceptRanges", "unmark/unmark.names", "unmark/unmark.fromWindows", "internal/strconv.uint64pow10", "math/bits.deBruijn32tab", "math/bits.deBruijn64tab"], apart := false, laid := [("math/bits.deBruijn32tab", laid_math_bits_deBruijn32tab), ("math/bits.deBruijn64tab", laid_math_bits_deBruijn64tab), ("internal/strconv.uint64pow10", laid_internal_strconv_uint64pow10), ("unicode/utf8.acceptRanges", laid_unicode_utf8_acceptRanges), ("unmark/unmark.fromWindows", laid_unmark_unmark_fromWindows), ("unmark/unmark.names", laid_unmark_unmark_names), ("unmark/unmark.ErrClosed", laid_unmark_unmark_ErrClosed), ("unmark/unmark.ErrLimit", laid_unmark_unmark_ErrLimit), ("unicode/utf8.first", laid_unicode_utf8_first)], narrowed := true }
def WrittenUptoSaid : Prop := writtenUptoRow.holds Tryz.pinned (OpenSpec.upto writtenSpec)

/-- 'unmarkkeep.Shaped', WHERE WHAT IT READS IS OF BULK AT MOST 1048576: true; the input reads as it did. -/
def shapedUptoRow : OpenClaim := { program := "ytdfmapcnfficlaagreatdoor", sum := "52cf61c08a69fdd8fedf70308c3cda182859a39947343d7e5705f339aacef346", func := "unmark/unmarkkeep.Shaped", spec := "shaped", inPlace := ["internal/abi.NoEscape", "internal/bytealg.MakeNoZero"], unfollowed := true, recurses := true, named := ["unmark/unmark.ErrLimit", "unmark/unmark.ErrClosed", "unicode/utf8.first", "unicode/utf8.acceptRanges", "unmark/unmark.names", "unmark/unmark.fromWindows"], apart := false, laid := [("unicode/utf8.acceptRanges", laid_unicode_utf8_acceptRanges), ("unmark/unmark.fromWindows", laid_unmark_unmark_fromWindows), ("unmark/unmark.names", laid_unmark_unmark_names), ("unmark/unmark.ErrClosed", laid_unmark_unmark_ErrClosed), ("unmark/unmark.ErrLimit", laid_unmark_unmark_ErrLimit), ("unicode/utf8.first", laid_unicode_utf8_first)], narrowed := true }
def ShapedUptoSaid : Prop := shapedUptoRow.holds Tryz.pinned (OpenSpec.upto shapedSpec)

/-- 'unmarkkeep.Begun', WHERE WHAT IT READS IS OF BULK AT MOST 1048576: true; the input reads as it did. -/
def begunUptoRow : OpenClaim := { program := "ytdfmapcnfficlaagreatdoor", sum := "52cf61c08a69fdd8fedf70308c3cda182859a39947343d7e5705f339aacef346", func := "unmark/unmarkkeep.Begun", spec := "begun", inPlace := ["internal/abi.NoEscape", "internal/bytealg.MakeNoZero"], unfollowed := true, recurses := true, named := ["unmark/unmark.ErrLimit", "unmark/unmark.ErrClosed", "unicode/utf8.first", "unicode/utf8.acceptRanges", "unmark/unmark.names", "unmark/unmark.fromWindows"], apart := false, laid := [("unicode/utf8.acceptRanges", laid_unicode_utf8_acceptRanges), ("unmark/unmark.fromWindows", laid_unmark_unmark_fromWindows), ("unmark/unmark.names", laid_unmark_unmark_names), ("unmark/unmark.ErrClosed", laid_unmark_unmark_ErrClosed), ("unmark/unmark.ErrLimit", laid_unmark_unmark_ErrLimit), ("unicode/utf8.first", laid_unicode_utf8_first)], narrowed := true }
def BegunUptoSaid : Prop := begunUptoRow.holds Tryz.pinned (OpenSpec.upto begunSpec)

/-- 'unmarkkeep.Pieces', WHERE WHAT IT READS IS OF BULK AT MOST 1048576: true; the input reads as it did. -/
def piecesUptoRow : OpenClaim := { program := "ytdfmapcnfficlaagreatdoor", sum := "52cf61c08a69fdd8fedf70308c3cda182859a39947343d7e5705f339aacef346", func := "unmark/unmarkkeep.Pieces", spec := "pieces", inPlace := ["internal/abi.NoEscape", "internal/bytealg.MakeNoZero"], unfollowed := true, recurses := true, named := ["unmark/unmark.ErrLimit", "unmark/unmark.ErrClosed", "unicode/utf8.first", "unicode/utf8.acceptRanges", "unmark/unmark.names", "unmark/unmark.fromWindows"], apart := false, laid := [("unicode/utf8.acceptRanges", laid_unicode_utf8_acceptRanges), ("unmark/unmark.fromWindows", laid_unmark_unmark_fromWindows), ("unmark/unmark.names", laid_unmark_unmark_names), ("unmark/unmark.ErrClosed", laid_unmark_unmark_ErrClosed), ("unmark/unmark.ErrLimit", laid_unmark_unmark_ErrLimit), ("unicode/utf8.first", laid_unicode_utf8_first)], narrowed := true }
def PiecesUptoSaid : Prop := piecesUptoRow.holds Tryz.pinned (OpenSpec.upto piecesSpec)

/-- 'unmarkkeep.Pages', WHERE WHAT IT READS IS OF BULK AT MOST 1048576: true; the input reads as it did. -/
def pagesUptoRow : OpenClaim := { program := "ytdfmapcnfficlaagreatdoor", sum := "52cf61c08a69fdd8fedf70308c3cda182859a39947343d7e5705f339aacef346", func := "unmark/unmarkkeep.Pages", spec := "pages", inPlace := ["internal/abi.NoEscape", "internal/bytealg.MakeNoZero"], unfollowed := true, recurses := true, named := ["unmark/unmark.ErrLimit", "unmark/unmark.ErrClosed", "unicode/utf8.first", "unicode/utf8.acceptRanges", "unmark/unmark.names", "unmark/unmark.fromWindows"], apart := false, laid := [("unicode/utf8.acceptRanges", laid_unicode_utf8_acceptRanges), ("unmark/unmark.fromWindows", laid_unmark_unmark_fromWindows), ("unmark/unmark.names", laid_unmark_unmark_names), ("unmark/unmark.ErrClosed", laid_unmark_unmark_ErrClosed), ("unmark/unmark.ErrLimit", laid_unmark_unmark_ErrLimit), ("unicode/utf8.first", laid_unicode_utf8_first)], narrowed := true }
def PagesUptoSaid : Prop := pagesUptoRow.holds Tryz.pinned (OpenSpec.upto pagesSpec)

/-- 'unmarkkeep.Limits', WHERE WHAT IT READS IS OF BULK AT MOST 1048576: true; the input reads as it did. -/
def limitsUptoRow : OpenClaim := { program := "ytdfmapcnfficlaagreatdoor", sum := "52cf61c08a69fdd8fedf70308c3cda182859a39947343d7e5705f339aacef346", func := "unmark/unmarkkeep.Limits", spec := "limits", inPlace := ["internal/abi.NoEscape", "internal/bytealg.MakeNoZero"], unfollowed := true, recurses := true, named := ["unmark/unmark.ErrLimit", "unmark/unmark.ErrClosed", "unicode/utf8.first", "unicode/utf8.acceptRanges", "unmark/unmark.names", "unmark/unmark.fromWindows", "internal/strconv.uint64pow10", "math/bits.deBruijn32tab", "math/bits.deBruijn64tab"], apart := false, laid := [("math/bits.deBruijn32tab", laid_math_bits_deBruijn32tab), ("math/bits.deBruijn64tab", laid_math_bits_deBruijn64tab), ("internal/strconv.uint64pow10", laid_internal_strconv_uint64pow10), ("unicode/utf8.acceptRanges", laid_unicode_utf8_acceptRanges), ("unmark/unmark.fromWindows", laid_unmark_unmark_fromWindows), ("unmark/unmark.names", laid_unmark_unmark_names), ("unmark/unmark.ErrClosed", laid_unmark_unmark_ErrClosed), ("unmark/unmark.ErrLimit", laid_unmark_unmark_ErrLimit), ("unicode/utf8.first", laid_unicode_utf8_first)], narrowed := true }
def LimitsUptoSaid : Prop := limitsUptoRow.holds Tryz.pinned (OpenSpec.upto limitsSpec)

/-- 'unmarkkeep.Escaped', WHERE WHAT IT READS IS OF BULK AT MOST 1048576: true; the input reads as it did. -/
def escapedUptoRow : OpenClaim := { program := "ytdfmapcnfficlaagreatdoor", sum := "52cf61c08a69fdd8fedf70308c3cda182859a39947343d7e5705f339aacef346", func := "unmark/unmarkkeep.Escaped", spec := "escaped", inPlace := ["internal/abi.NoEscape", "internal/bytealg.MakeNoZero"], unfollowed := true, recurses := true, named := ["unmark/unmark.ErrLimit", "unmark/unmark.ErrClosed", "unicode/utf8.first", "unicode/utf8.acceptRanges", "unmark/unmark.names", "unmark/unmark.fromWindows"], apart := false, laid := [("unicode/utf8.acceptRanges", laid_unicode_utf8_acceptRanges), ("unmark/unmark.fromWindows", laid_unmark_unmark_fromWindows), ("unmark/unmark.names", laid_unmark_unmark_names), ("unmark/unmark.ErrClosed", laid_unmark_unmark_ErrClosed), ("unmark/unmark.ErrLimit", laid_unmark_unmark_ErrLimit), ("unicode/utf8.first", laid_unicode_utf8_first)], narrowed := true }
def EscapedUptoSaid : Prop := escapedUptoRow.holds Tryz.pinned (OpenSpec.upto escapedSpec)

/-- 'unmarkkeep.Side', WHERE WHAT IT READS IS OF BULK AT MOST 1048576: true; the input reads as it did. -/
def sideUptoRow : OpenClaim := { program := "ytdfmapcnfficlaagreatdoor", sum := "52cf61c08a69fdd8fedf70308c3cda182859a39947343d7e5705f339aacef346", func := "unmark/unmarkkeep.Side", spec := "side", inPlace := ["internal/abi.NoEscape", "internal/bytealg.MakeNoZero", "(*sync.WaitGroup).Go", "(*sync.WaitGroup).Add", "internal/race.ReleaseMerge", "internal/race.Disable", "internal/race.Enable", "internal/synctest.IsInBubble", "internal/synctest.Associate[sync.WaitGroup]", "sync.fatal", "sync/atomic.OrUint64", "sync/atomic.AddUint64", "internal/race.Read", "sync/atomic.LoadUint64", "sync/atomic.StoreUint64", "internal/synctest.Disassociate[sync.WaitGroup]", "sync.runtime_Semrelease", "(*sync.WaitGroup).Go$1", "(*sync.WaitGroup).Go$1$1", "(*sync.WaitGroup).Done", "(*sync.WaitGroup).Wait", "internal/race.Acquire", "internal/synctest.IsAssociated[sync.WaitGroup]", "sync/atomic.CompareAndSwapUint64", "internal/race.Write", "sync.runtime_SemacquireWaitGroup"], unfollowed := true, recurses := true, named := ["unmark/unmark.ErrLimit", "unmark/unmark.ErrClosed", "unicode/utf8.first", "unicode/utf8.acceptRanges", "unmark/unmark.names", "unmark/unmark.fromWindows", "internal/strconv.uint64pow10", "math/bits.deBruijn32tab", "math/bits.deBruijn64tab"], apart := false, laid := [("math/bits.deBruijn32tab", laid_math_bits_deBruijn32tab), ("math/bits.deBruijn64tab", laid_math_bits_deBruijn64tab), ("internal/strconv.uint64pow10", laid_internal_strconv_uint64pow10), ("unicode/utf8.acceptRanges", laid_unicode_utf8_acceptRanges), ("unmark/unmark.fromWindows", laid_unmark_unmark_fromWindows), ("unmark/unmark.names", laid_unmark_unmark_names), ("unmark/unmark.ErrClosed", laid_unmark_unmark_ErrClosed), ("unmark/unmark.ErrLimit", laid_unmark_unmark_ErrLimit), ("unicode/utf8.first", laid_unicode_utf8_first)], narrowed := true }
def SideUptoSaid : Prop := sideUptoRow.holds Tryz.pinned (OpenSpec.upto sideSpec)

/-- 'unmarklaw.Every', WHERE WHAT IT READS IS OF BULK AT MOST 1048576: true; the input reads as it did. -/
def everyUptoRow : OpenClaim := { program := "ytdfmapcnfficlaagreatdoor", sum := "52cf61c08a69fdd8fedf70308c3cda182859a39947343d7e5705f339aacef346", func := "unmark/unmarklaw.Every", spec := "every", inPlace := ["internal/abi.NoEscape", "internal/bytealg.MakeNoZero", "(*sync.WaitGroup).Go", "(*sync.WaitGroup).Add", "internal/race.ReleaseMerge", "internal/race.Disable", "internal/race.Enable", "internal/synctest.IsInBubble", "internal/synctest.Associate[sync.WaitGroup]", "sync.fatal", "sync/atomic.OrUint64", "sync/atomic.AddUint64", "internal/race.Read", "sync/atomic.LoadUint64", "sync/atomic.StoreUint64", "internal/synctest.Disassociate[sync.WaitGroup]", "sync.runtime_Semrelease", "(*sync.WaitGroup).Go$1", "(*sync.WaitGroup).Go$1$1", "(*sync.WaitGroup).Done", "(*sync.WaitGroup).Wait", "internal/race.Acquire", "internal/synctest.IsAssociated[sync.WaitGroup]", "sync/atomic.CompareAndSwapUint64", "internal/race.Write", "sync.runtime_SemacquireWaitGroup"], unfollowed := true, recurses := true, named := ["unmark/unmark.ErrLimit", "unmark/unmark.ErrClosed", "unicode/utf8.first", "unicode/utf8.acceptRanges", "unmark/unmark.names", "unmark/unmark.fromWindows", "internal/strconv.uint64pow10", "math/bits.deBruijn32tab", "math/bits.deBruijn64tab"], apart := false, laid := [("math/bits.deBruijn32tab", laid_math_bits_deBruijn32tab), ("math/bits.deBruijn64tab", laid_math_bits_deBruijn64tab), ("internal/strconv.uint64pow10", laid_internal_strconv_uint64pow10), ("unicode/utf8.acceptRanges", laid_unicode_utf8_acceptRanges), ("unmark/unmark.fromWindows", laid_unmark_unmark_fromWindows), ("unmark/unmark.names", laid_unmark_unmark_names), ("unmark/unmark.ErrClosed", laid_unmark_unmark_ErrClosed), ("unmark/unmark.ErrLimit", laid_unmark_unmark_ErrLimit), ("unicode/utf8.first", laid_unicode_utf8_first)], narrowed := true }
def EveryUptoSaid : Prop := everyUptoRow.holds Tryz.pinned (OpenSpec.upto everySpec)

end Rows
end Go.Proofs.YtdfmapcnfficlaaGreatDoor
