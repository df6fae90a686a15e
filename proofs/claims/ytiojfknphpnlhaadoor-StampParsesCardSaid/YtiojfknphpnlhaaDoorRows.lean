/-
  NARROWER THAN 'FOR EVERY INPUT', by the rows' own cells (each row's printed sentence says how): StampParses: laid · StampWrites: laid · StampDays: laid · StampBack: laid · StampNext: laid · StampZones: laid · StampWeek: laid.
  DERIVED. THE GIVEN ROWS OF THIS SEAT. 7 by the template 'for every input the law returns true; each argument reads behind the call as it read before'; 0 by the template 'total and deterministic' (their statements: YtiojfknphpnlhaaDoorTotals.lean).
  GIVEN WITH THE SEED: the statements are not yours to turn. If you find one false, say at which input.
  Laid BY PROGRAM, IN A SANDBOX (cutbox-rows.mjs): the forced cells as the released guide's own fill.sh prints them over the translation 2165a8e16bedf228… (all of the seat's roots in one cut). By AI agents, Wed Nov 11 2026. No macro, syntax, notation, axiom, sorry.
-/
import Derived.Test.YtiojfknphpnlhaaDoorChecked
import GoSem.PinnedTables
import GoSem.Claim
import GoSem.ClaimJoined
import GoSem.ClaimMapViews
import Derived.JoinedTies
import Derived.KernelRfl
namespace Go.Proofs.YtiojfknphpnlhaaDoor
/- THE CELL 'sum', in the pinned program and in every row, IS THE sha256 OF THE DUMP (.gsa) THAT YtiojfknphpnlhaaDoorProg.lean LOADS. Nothing in Lean hashes anything: it is a label: what it is worth is what the hold of that sum in a sandbox is worth. -/
noncomputable def Tryd.pinned : Pinned := { name := "ytiojfknphpnlhaadoor", sum := "2165a8e16bedf2286ed770a99d23a423d508e4d6d9ae1a97493ac2693c7f825a", checked := Tryd.checked }
namespace Rows
def none {H : Type} : Left H := { results := [], args := [] }

/- WHAT THE LISTED PACKAGE-LEVEL VARIABLES READ AS WHEN THE CALL BEGINS. Each datum BY PROGRAM (the guide's laid-datum.mjs) off the statement by which the dump's own 'gosem.cut.vars' lays the variable. In a bare row this is a premise. The card (YtiojfknphpnlhaaDoorCards.lean) ties it to the program's text. -/
def laid_math_bits_deBruijn32tab {H : Type} : DataW H := .agg [.lit (.int .u8 0), .lit (.int .u8 1), .lit (.int .u8 28), .lit (.int .u8 2), .lit (.int .u8 29), .lit (.int .u8 14), .lit (.int .u8 24), .lit (.int .u8 3), .lit (.int .u8 30), .lit (.int .u8 22), .lit (.int .u8 20), .lit (.int .u8 15), .lit (.int .u8 25), .lit (.int .u8 17), .lit (.int .u8 4), .lit (.int .u8 8), .lit (.int .u8 31), .lit (.int .u8 27), .lit (.int .u8 13), .lit (.int .u8 23), .lit (.int .u8 21), .lit (.int .u8 19), .lit (.int .u8 16), .lit (.int .u8 7), .lit (.int .u8 26), .lit (.int .u8 12), .lit (.int .u8 18), .lit (.int .u8 6), .lit (.int .u8 11), .lit (.int .u8 5), .lit (.int .u8 10), .lit (.int .u8 9)]
def laid_math_bits_deBruijn64tab {H : Type} : DataW H := .agg [.lit (.int .u8 0), .lit (.int .u8 1), .lit (.int .u8 56), .lit (.int .u8 2), .lit (.int .u8 57), .lit (.int .u8 49), .lit (.int .u8 28), .lit (.int .u8 3), .lit (.int .u8 61), .lit (.int .u8 58), .lit (.int .u8 42), .lit (.int .u8 50), .lit (.int .u8 38), .lit (.int .u8 29), .lit (.int .u8 17), .lit (.int .u8 4), .lit (.int .u8 62), .lit (.int .u8 47), .lit (.int .u8 59), .lit (.int .u8 36), .lit (.int .u8 45), .lit (.int .u8 43), .lit (.int .u8 51), .lit (.int .u8 22), .lit (.int .u8 53), .lit (.int .u8 39), .lit (.int .u8 33), .lit (.int .u8 30), .lit (.int .u8 24), .lit (.int .u8 18), .lit (.int .u8 12), .lit (.int .u8 5), .lit (.int .u8 63), .lit (.int .u8 55), .lit (.int .u8 48), .lit (.int .u8 27), .lit (.int .u8 60), .lit (.int .u8 41), .lit (.int .u8 37), .lit (.int .u8 16), .lit (.int .u8 46), .lit (.int .u8 35), .lit (.int .u8 44), .lit (.int .u8 21), .lit (.int .u8 52), .lit (.int .u8 32), .lit (.int .u8 23), .lit (.int .u8 11), .lit (.int .u8 54), .lit (.int .u8 26), .lit (.int .u8 40), .lit (.int .u8 15), .lit (.int .u8 34), .lit (.int .u8 20), .lit (.int .u8 31), .lit (.int .u8 10), .lit (.int .u8 25), .lit (.int .u8 14), .lit (.int .u8 19), .lit (.int .u8 9), .lit (.int .u8 13), .lit (.int .u8 8), .lit (.int .u8 7), .lit (.int .u8 6)]
def laid_internal_strconv_uint64pow10 {H : Type} : DataW H := .agg [.lit (.int .u64 1), .lit (.int .u64 10), .lit (.int .u64 100), .lit (.int .u64 1000), .lit (.int .u64 10000), .lit (.int .u64 100000), .lit (.int .u64 1000000), .lit (.int .u64 10000000), .lit (.int .u64 100000000), .lit (.int .u64 1000000000), .lit (.int .u64 10000000000), .lit (.int .u64 100000000000), .lit (.int .u64 1000000000000), .lit (.int .u64 10000000000000), .lit (.int .u64 100000000000000), .lit (.int .u64 1000000000000000), .lit (.int .u64 10000000000000000), .lit (.int .u64 100000000000000000), .lit (.int .u64 1000000000000000000), .lit (.int .u64 10000000000000000000)]
def laid_unicode_utf8_acceptRanges {H : Type} : DataW H := .agg [.agg [.lit (.int .u8 128), .lit (.int .u8 191)], .agg [.lit (.int .u8 160), .lit (.int .u8 191)], .agg [.lit (.int .u8 128), .lit (.int .u8 159)], .agg [.lit (.int .u8 144), .lit (.int .u8 191)], .agg [.lit (.int .u8 128), .lit (.int .u8 143)], .agg [.lit (.int .u8 0), .lit (.int .u8 0)], .agg [.lit (.int .u8 0), .lit (.int .u8 0)], .agg [.lit (.int .u8 0), .lit (.int .u8 0)], .agg [.lit (.int .u8 0), .lit (.int .u8 0)], .agg [.lit (.int .u8 0), .lit (.int .u8 0)], .agg [.lit (.int .u8 0), .lit (.int .u8 0)], .agg [.lit (.int .u8 0), .lit (.int .u8 0)], .agg [.lit (.int .u8 0), .lit (.int .u8 0)], .agg [.lit (.int .u8 0), .lit (.int .u8 0)], .agg [.lit (.int .u8 0), .lit (.int .u8 0)], .agg [.lit (.int .u8 0), .lit (.int .u8 0)]]
def laid_muslin_stamp_zones {H : Type} : DataW H := .agg [.agg [.lit (.string [117, 116]), .lit (.int .i64 0)], .agg [.lit (.string [117, 116, 99]), .lit (.int .i64 0)], .agg [.lit (.string [103, 109, 116]), .lit (.int .i64 0)], .agg [.lit (.string [122]), .lit (.int .i64 0)], .agg [.lit (.string [101, 115, 116]), .lit (.int .i64 (-5))], .agg [.lit (.string [101, 100, 116]), .lit (.int .i64 (-4))], .agg [.lit (.string [99, 115, 116]), .lit (.int .i64 (-6))], .agg [.lit (.string [99, 100, 116]), .lit (.int .i64 (-5))], .agg [.lit (.string [109, 115, 116]), .lit (.int .i64 (-7))], .agg [.lit (.string [109, 100, 116]), .lit (.int .i64 (-6))], .agg [.lit (.string [112, 115, 116]), .lit (.int .i64 (-8))], .agg [.lit (.string [112, 100, 116]), .lit (.int .i64 (-7))]]
def laid_muslin_stamp_monthLengths {H : Type} : DataW H := .agg [.lit (.int .i64 31), .lit (.int .i64 28), .lit (.int .i64 31), .lit (.int .i64 30), .lit (.int .i64 31), .lit (.int .i64 30), .lit (.int .i64 31), .lit (.int .i64 31), .lit (.int .i64 30), .lit (.int .i64 31), .lit (.int .i64 30), .lit (.int .i64 31)]
def laid_muslin_stamp_monthNames {H : Type} : DataW H := .agg [.lit (.string [74, 97, 110]), .lit (.string [70, 101, 98]), .lit (.string [77, 97, 114]), .lit (.string [65, 112, 114]), .lit (.string [77, 97, 121]), .lit (.string [74, 117, 110]), .lit (.string [74, 117, 108]), .lit (.string [65, 117, 103]), .lit (.string [83, 101, 112]), .lit (.string [79, 99, 116]), .lit (.string [78, 111, 118]), .lit (.string [68, 101, 99])]
def laid_muslin_stamp_dayNames {H : Type} : DataW H := .agg [.lit (.string [84, 104, 117]), .lit (.string [70, 114, 105]), .lit (.string [83, 97, 116]), .lit (.string [83, 117, 110]), .lit (.string [77, 111, 110]), .lit (.string [84, 117, 101]), .lit (.string [87, 101, 100])]
/-- One of Go's own tables, pinned by name: the form's constant. -/
def laid_unicode_utf8_first : DataW Unit := Go.Pinned.utf8First

/-- 'muslinlaw09.StampParses': WHATEVER THE INPUT: true; the input reads as it did. -/
def stampParsesSpec : ChangeSpec := { name := "stampParses", fn := fun _ => fun
  | [d] => { results := [.lit (.bool true)], args := [d] }
  | _ => none }
def stampParsesRow : OpenClaim := { program := "ytiojfknphpnlhaadoor", sum := "2165a8e16bedf2286ed770a99d23a423d508e4d6d9ae1a97493ac2693c7f825a", func := "muslin/muslinlaw09.StampParses", spec := "stampParses", inPlace := ["internal/bytealg.IndexByteString", "internal/bytealg.IndexString", "internal/bytealg.CountString"], unfollowed := true, recurses := true, named := ["muslin/stamp.dayNames", "muslin/stamp.monthNames", "muslin/stamp.monthLengths", "unicode/utf8.first", "unicode/utf8.acceptRanges", "internal/bytealg.MaxLen", "muslin/stamp.zones", "internal/strconv.uint64pow10", "math/bits.deBruijn32tab", "math/bits.deBruijn64tab"], apart := false, laid := [("math/bits.deBruijn32tab", laid_math_bits_deBruijn32tab), ("math/bits.deBruijn64tab", laid_math_bits_deBruijn64tab), ("internal/strconv.uint64pow10", laid_internal_strconv_uint64pow10), ("unicode/utf8.acceptRanges", laid_unicode_utf8_acceptRanges), ("muslin/stamp.zones", laid_muslin_stamp_zones), ("muslin/stamp.monthLengths", laid_muslin_stamp_monthLengths), ("muslin/stamp.monthNames", laid_muslin_stamp_monthNames), ("muslin/stamp.dayNames", laid_muslin_stamp_dayNames), ("unicode/utf8.first", laid_unicode_utf8_first)] }
def StampParsesSaid : Prop := stampParsesRow.holds Tryd.pinned (OpenSpec.ofChange stampParsesSpec)

/-- ITS FALSE NEIGHBOUR: 'it returns false'. Refute it at one input. -/
def stampParsesWrong : ChangeSpec := { name := "stampParses", fn := fun _ => fun
  | [d] => { results := [.lit (.bool false)], args := [d] }
  | _ => none }
def StampParsesWrongFalsely : Prop := stampParsesRow.holds Tryd.pinned (OpenSpec.ofChange stampParsesWrong)

/-- 'muslinlaw09.StampWrites': WHATEVER THE INPUT: true; the input reads as it did. -/
def stampWritesSpec : ChangeSpec := { name := "stampWrites", fn := fun _ => fun
  | [d] => { results := [.lit (.bool true)], args := [d] }
  | _ => none }
def stampWritesRow : OpenClaim := { program := "ytiojfknphpnlhaadoor", sum := "2165a8e16bedf2286ed770a99d23a423d508e4d6d9ae1a97493ac2693c7f825a", func := "muslin/muslinlaw09.StampWrites", spec := "stampWrites", inPlace := ["internal/bytealg.IndexByteString", "internal/bytealg.IndexString", "internal/bytealg.CountString"], unfollowed := true, recurses := true, named := ["muslin/stamp.dayNames", "muslin/stamp.monthNames", "muslin/stamp.monthLengths", "internal/strconv.uint64pow10", "math/bits.deBruijn32tab", "math/bits.deBruijn64tab", "unicode/utf8.first", "unicode/utf8.acceptRanges", "internal/bytealg.MaxLen", "muslin/stamp.zones"], apart := false, laid := [("math/bits.deBruijn32tab", laid_math_bits_deBruijn32tab), ("math/bits.deBruijn64tab", laid_math_bits_deBruijn64tab), ("internal/strconv.uint64pow10", laid_internal_strconv_uint64pow10), ("unicode/utf8.acceptRanges", laid_unicode_utf8_acceptRanges), ("muslin/stamp.zones", laid_muslin_stamp_zones), ("muslin/stamp.monthLengths", laid_muslin_stamp_monthLengths), ("muslin/stamp.monthNames", laid_muslin_stamp_monthNames), ("muslin/stamp.dayNames", laid_muslin_stamp_dayNames), ("unicode/utf8.first", laid_unicode_utf8_first)] }
def StampWritesSaid : Prop := stampWritesRow.holds Tryd.pinned (OpenSpec.ofChange stampWritesSpec)

/-- ITS FALSE NEIGHBOUR: 'it returns false'. Refute it at one input. -/
def stampWritesWrong : ChangeSpec := { name := "stampWrites", fn := fun _ => fun
  | [d] => { results := [.lit (.bool false)], args := [d] }
  | _ => none }
def StampWritesWrongFalsely : Prop := stampWritesRow.holds Tryd.pinned (OpenSpec.ofChange stampWritesWrong)

/-- 'muslinlaw09.StampDays': WHATEVER THE INPUT: true; the input reads as it did. -/
def stampDaysSpec : ChangeSpec := { name := "stampDays", fn := fun _ => fun
  | [d1, d2, d3] => { results := [.lit (.bool true)], args := [d1, d2, d3] }
  | _ => none }
def stampDaysRow : OpenClaim := { program := "ytiojfknphpnlhaadoor", sum := "2165a8e16bedf2286ed770a99d23a423d508e4d6d9ae1a97493ac2693c7f825a", func := "muslin/muslinlaw09.StampDays", spec := "stampDays", inPlace := ["internal/bytealg.IndexByteString", "internal/bytealg.IndexString", "internal/bytealg.CountString"], unfollowed := true, recurses := true, named := ["muslin/stamp.monthLengths", "muslin/stamp.dayNames", "muslin/stamp.monthNames", "unicode/utf8.first", "unicode/utf8.acceptRanges", "internal/bytealg.MaxLen", "muslin/stamp.zones", "internal/strconv.uint64pow10", "math/bits.deBruijn32tab", "math/bits.deBruijn64tab"], apart := false, laid := [("math/bits.deBruijn32tab", laid_math_bits_deBruijn32tab), ("math/bits.deBruijn64tab", laid_math_bits_deBruijn64tab), ("internal/strconv.uint64pow10", laid_internal_strconv_uint64pow10), ("unicode/utf8.acceptRanges", laid_unicode_utf8_acceptRanges), ("muslin/stamp.zones", laid_muslin_stamp_zones), ("muslin/stamp.monthLengths", laid_muslin_stamp_monthLengths), ("muslin/stamp.monthNames", laid_muslin_stamp_monthNames), ("muslin/stamp.dayNames", laid_muslin_stamp_dayNames), ("unicode/utf8.first", laid_unicode_utf8_first)] }
def StampDaysSaid : Prop := stampDaysRow.holds Tryd.pinned (OpenSpec.ofChange stampDaysSpec)

/-- ITS FALSE NEIGHBOUR: 'it returns false'. Refute it at one input. -/
def stampDaysWrong : ChangeSpec := { name := "stampDays", fn := fun _ => fun
  | [d1, d2, d3] => { results := [.lit (.bool false)], args := [d1, d2, d3] }
  | _ => none }
def StampDaysWrongFalsely : Prop := stampDaysRow.holds Tryd.pinned (OpenSpec.ofChange stampDaysWrong)

/-- 'muslinlaw09.StampBack': WHATEVER THE INPUT: true; the input reads as it did. -/
def stampBackSpec : ChangeSpec := { name := "stampBack", fn := fun _ => fun
  | [d] => { results := [.lit (.bool true)], args := [d] }
  | _ => none }
def stampBackRow : OpenClaim := { program := "ytiojfknphpnlhaadoor", sum := "2165a8e16bedf2286ed770a99d23a423d508e4d6d9ae1a97493ac2693c7f825a", func := "muslin/muslinlaw09.StampBack", spec := "stampBack", inPlace := ["internal/bytealg.IndexByteString", "internal/bytealg.IndexString", "internal/bytealg.CountString"], unfollowed := true, recurses := true, named := ["muslin/stamp.dayNames", "muslin/stamp.monthNames", "muslin/stamp.monthLengths", "internal/strconv.uint64pow10", "math/bits.deBruijn32tab", "math/bits.deBruijn64tab", "unicode/utf8.first", "unicode/utf8.acceptRanges", "internal/bytealg.MaxLen", "muslin/stamp.zones"], apart := false, laid := [("math/bits.deBruijn32tab", laid_math_bits_deBruijn32tab), ("math/bits.deBruijn64tab", laid_math_bits_deBruijn64tab), ("internal/strconv.uint64pow10", laid_internal_strconv_uint64pow10), ("unicode/utf8.acceptRanges", laid_unicode_utf8_acceptRanges), ("muslin/stamp.zones", laid_muslin_stamp_zones), ("muslin/stamp.monthLengths", laid_muslin_stamp_monthLengths), ("muslin/stamp.monthNames", laid_muslin_stamp_monthNames), ("muslin/stamp.dayNames", laid_muslin_stamp_dayNames), ("unicode/utf8.first", laid_unicode_utf8_first)] }
def StampBackSaid : Prop := stampBackRow.holds Tryd.pinned (OpenSpec.ofChange stampBackSpec)

/-- ITS FALSE NEIGHBOUR: 'it returns false'. Refute it at one input. -/
def stampBackWrong : ChangeSpec := { name := "stampBack", fn := fun _ => fun
  | [d] => { results := [.lit (.bool false)], args := [d] }
  | _ => none }
def StampBackWrongFalsely : Prop := stampBackRow.holds Tryd.pinned (OpenSpec.ofChange stampBackWrong)

/-- 'muslinlaw09.StampNext': WHATEVER THE INPUT: true; the input reads as it did. -/
def stampNextSpec : ChangeSpec := { name := "stampNext", fn := fun _ => fun
  | [d1, d2, d3] => { results := [.lit (.bool true)], args := [d1, d2, d3] }
  | _ => none }
def stampNextRow : OpenClaim := { program := "ytiojfknphpnlhaadoor", sum := "2165a8e16bedf2286ed770a99d23a423d508e4d6d9ae1a97493ac2693c7f825a", func := "muslin/muslinlaw09.StampNext", spec := "stampNext", inPlace := ["internal/bytealg.IndexByteString", "internal/bytealg.IndexString", "internal/bytealg.CountString"], unfollowed := true, recurses := true, named := ["muslin/stamp.monthLengths", "muslin/stamp.dayNames", "muslin/stamp.monthNames", "unicode/utf8.first", "unicode/utf8.acceptRanges", "internal/bytealg.MaxLen", "muslin/stamp.zones", "internal/strconv.uint64pow10", "math/bits.deBruijn32tab", "math/bits.deBruijn64tab"], apart := false, laid := [("math/bits.deBruijn32tab", laid_math_bits_deBruijn32tab), ("math/bits.deBruijn64tab", laid_math_bits_deBruijn64tab), ("internal/strconv.uint64pow10", laid_internal_strconv_uint64pow10), ("unicode/utf8.acceptRanges", laid_unicode_utf8_acceptRanges), ("muslin/stamp.zones", laid_muslin_stamp_zones), ("muslin/stamp.monthLengths", laid_muslin_stamp_monthLengths), ("muslin/stamp.monthNames", laid_muslin_stamp_monthNames), ("muslin/stamp.dayNames", laid_muslin_stamp_dayNames), ("unicode/utf8.first", laid_unicode_utf8_first)] }
def StampNextSaid : Prop := stampNextRow.holds Tryd.pinned (OpenSpec.ofChange stampNextSpec)

/-- ITS FALSE NEIGHBOUR: 'it returns false'. Refute it at one input. -/
def stampNextWrong : ChangeSpec := { name := "stampNext", fn := fun _ => fun
  | [d1, d2, d3] => { results := [.lit (.bool false)], args := [d1, d2, d3] }
  | _ => none }
def StampNextWrongFalsely : Prop := stampNextRow.holds Tryd.pinned (OpenSpec.ofChange stampNextWrong)

/-- 'muslinlaw09.StampZones': WHATEVER THE INPUT: true; the input reads as it did. -/
def stampZonesSpec : ChangeSpec := { name := "stampZones", fn := fun _ => fun
  | [d] => { results := [.lit (.bool true)], args := [d] }
  | _ => none }
def stampZonesRow : OpenClaim := { program := "ytiojfknphpnlhaadoor", sum := "2165a8e16bedf2286ed770a99d23a423d508e4d6d9ae1a97493ac2693c7f825a", func := "muslin/muslinlaw09.StampZones", spec := "stampZones", inPlace := ["internal/bytealg.IndexByteString", "internal/bytealg.IndexString", "internal/bytealg.CountString"], unfollowed := true, recurses := true, named := ["muslin/stamp.dayNames", "muslin/stamp.monthNames", "muslin/stamp.monthLengths", "internal/strconv.uint64pow10", "math/bits.deBruijn32tab", "math/bits.deBruijn64tab", "unicode/utf8.first", "unicode/utf8.acceptRanges", "internal/bytealg.MaxLen", "muslin/stamp.zones"], apart := false, laid := [("math/bits.deBruijn32tab", laid_math_bits_deBruijn32tab), ("math/bits.deBruijn64tab", laid_math_bits_deBruijn64tab), ("internal/strconv.uint64pow10", laid_internal_strconv_uint64pow10), ("unicode/utf8.acceptRanges", laid_unicode_utf8_acceptRanges), ("muslin/stamp.zones", laid_muslin_stamp_zones), ("muslin/stamp.monthLengths", laid_muslin_stamp_monthLengths), ("muslin/stamp.monthNames", laid_muslin_stamp_monthNames), ("muslin/stamp.dayNames", laid_muslin_stamp_dayNames), ("unicode/utf8.first", laid_unicode_utf8_first)] }
def StampZonesSaid : Prop := stampZonesRow.holds Tryd.pinned (OpenSpec.ofChange stampZonesSpec)

/-- ITS FALSE NEIGHBOUR: 'it returns false'. Refute it at one input. -/
def stampZonesWrong : ChangeSpec := { name := "stampZones", fn := fun _ => fun
  | [d] => { results := [.lit (.bool false)], args := [d] }
  | _ => none }
def StampZonesWrongFalsely : Prop := stampZonesRow.holds Tryd.pinned (OpenSpec.ofChange stampZonesWrong)

/-- 'muslinlaw09.StampWeek': WHATEVER THE INPUT: true; the input reads as it did. -/
def stampWeekSpec : ChangeSpec := { name := "stampWeek", fn := fun _ => fun
  | [d] => { results := [.lit (.bool true)], args := [d] }
  | _ => none }
def stampWeekRow : OpenClaim := { program := "ytiojfknphpnlhaadoor", sum := "2165a8e16bedf2286ed770a99d23a423d508e4d6d9ae1a97493ac2693c7f825a", func := "muslin/muslinlaw09.StampWeek", spec := "stampWeek", inPlace := ["internal/bytealg.IndexByteString", "internal/bytealg.IndexString", "internal/bytealg.CountString"], unfollowed := true, recurses := true, named := ["muslin/stamp.dayNames", "muslin/stamp.monthNames", "muslin/stamp.monthLengths", "internal/strconv.uint64pow10", "math/bits.deBruijn32tab", "math/bits.deBruijn64tab", "unicode/utf8.first", "unicode/utf8.acceptRanges", "internal/bytealg.MaxLen", "muslin/stamp.zones"], apart := false, laid := [("math/bits.deBruijn32tab", laid_math_bits_deBruijn32tab), ("math/bits.deBruijn64tab", laid_math_bits_deBruijn64tab), ("internal/strconv.uint64pow10", laid_internal_strconv_uint64pow10), ("unicode/utf8.acceptRanges", laid_unicode_utf8_acceptRanges), ("muslin/stamp.zones", laid_muslin_stamp_zones), ("muslin/stamp.monthLengths", laid_muslin_stamp_monthLengths), ("muslin/stamp.monthNames", laid_muslin_stamp_monthNames), ("muslin/stamp.dayNames", laid_muslin_stamp_dayNames), ("unicode/utf8.first", laid_unicode_utf8_first)] }
def StampWeekSaid : Prop := stampWeekRow.holds Tryd.pinned (OpenSpec.ofChange stampWeekSpec)

/-- ITS FALSE NEIGHBOUR: 'it returns false'. Refute it at one input. -/
def stampWeekWrong : ChangeSpec := { name := "stampWeek", fn := fun _ => fun
  | [d] => { results := [.lit (.bool false)], args := [d] }
  | _ => none }
def StampWeekWrongFalsely : Prop := stampWeekRow.holds Tryd.pinned (OpenSpec.ofChange stampWeekWrong)

/- THE SECOND FORM. 'bulk': how many values and letters a reading holds, each counted each time it is reached (what is shared counts as often as it is met; a slice's spare places count too). A statement '..UptoSaid' is the law's where the arguments, and the package variables that the reading takes, are together of bulk at most 1048576: NARROWER than '..Said'. Prove '..Said' where nothing that the law and all that it calls make is longer than what came in: it says more and counts as full. Else prove '..UptoSaid'. A law counts once. -/
mutual
def uptoBulk {H : Type} : DataW H → Nat
  | .lit (.string bytes) => bytes.length + 1
  | .lit _ => 1
  | .nil => 1
  | .ptr d => uptoBulk d + 1
  | .slice elems spare => uptoBulkAll elems + uptoBulkAll spare + 1
  | .agg parts => uptoBulkAll parts + 1
  | .iface _ d => uptoBulk d + 1
  | .map entries => uptoBulkEntries entries + 1
  | .held _ => 1
def uptoBulkAll {H : Type} : List (DataW H) → Nat
  | [] => 0
  | d :: r => uptoBulk d + uptoBulkAll r
def uptoBulkEntries {H : Type} : List (Lit × DataW H) → Nat
  | [] => 0
  | x :: r => uptoBulkEntry x + uptoBulkEntries r
def uptoBulkEntry {H : Type} : Lit × DataW H → Nat
  | (.string bytes, d) => bytes.length + uptoBulk d + 1
  | (_, d) => uptoBulk d + 1
 end
def uptoSmall : (H : Type) → List (DataW H) → Bool := fun _ ds => decide (uptoBulkAll ds ≤ 1048576)
def OpenSpec.upto (s : _root_.Go.ChangeSpec) : _root_.Go.OpenSpec := { _root_.Go.OpenSpec.ofChange s with cond := some uptoSmall }

/-- 'muslinlaw09.StampParses', WHERE WHAT IT READS IS OF BULK AT MOST 1048576: true; the input reads as it did. -/
def stampParsesUptoRow : OpenClaim := { program := "ytiojfknphpnlhaadoor", sum := "2165a8e16bedf2286ed770a99d23a423d508e4d6d9ae1a97493ac2693c7f825a", func := "muslin/muslinlaw09.StampParses", spec := "stampParses", inPlace := ["internal/bytealg.IndexByteString", "internal/bytealg.IndexString", "internal/bytealg.CountString"], unfollowed := true, recurses := true, named := ["muslin/stamp.dayNames", "muslin/stamp.monthNames", "muslin/stamp.monthLengths", "unicode/utf8.first", "unicode/utf8.acceptRanges", "internal/bytealg.MaxLen", "muslin/stamp.zones", "internal/strconv.uint64pow10", "math/bits.deBruijn32tab", "math/bits.deBruijn64tab"], apart := false, laid := [("math/bits.deBruijn32tab", laid_math_bits_deBruijn32tab), ("math/bits.deBruijn64tab", laid_math_bits_deBruijn64tab), ("internal/strconv.uint64pow10", laid_internal_strconv_uint64pow10), ("unicode/utf8.acceptRanges", laid_unicode_utf8_acceptRanges), ("muslin/stamp.zones", laid_muslin_stamp_zones), ("muslin/stamp.monthLengths", laid_muslin_stamp_monthLengths), ("muslin/stamp.monthNames", laid_muslin_stamp_monthNames), ("muslin/stamp.dayNames", laid_muslin_stamp_dayNames), ("unicode/utf8.first", laid_unicode_utf8_first)], narrowed := true }
def StampParsesUptoSaid : Prop := stampParsesUptoRow.holds Tryd.pinned (OpenSpec.upto stampParsesSpec)

/-- 'muslinlaw09.StampWrites', WHERE WHAT IT READS IS OF BULK AT MOST 1048576: true; the input reads as it did. -/
def stampWritesUptoRow : OpenClaim := { program := "ytiojfknphpnlhaadoor", sum := "2165a8e16bedf2286ed770a99d23a423d508e4d6d9ae1a97493ac2693c7f825a", func := "muslin/muslinlaw09.StampWrites", spec := "stampWrites", inPlace := ["internal/bytealg.IndexByteString", "internal/bytealg.IndexString", "internal/bytealg.CountString"], unfollowed := true, recurses := true, named := ["muslin/stamp.dayNames", "muslin/stamp.monthNames", "muslin/stamp.monthLengths", "internal/strconv.uint64pow10", "math/bits.deBruijn32tab", "math/bits.deBruijn64tab", "unicode/utf8.first", "unicode/utf8.acceptRanges", "internal/bytealg.MaxLen", "muslin/stamp.zones"], apart := false, laid := [("math/bits.deBruijn32tab", laid_math_bits_deBruijn32tab), ("math/bits.deBruijn64tab", laid_math_bits_deBruijn64tab), ("internal/strconv.uint64pow10", laid_internal_strconv_uint64pow10), ("unicode/utf8.acceptRanges", laid_unicode_utf8_acceptRanges), ("muslin/stamp.zones", laid_muslin_stamp_zones), ("muslin/stamp.monthLengths", laid_muslin_stamp_monthLengths), ("muslin/stamp.monthNames", laid_muslin_stamp_monthNames), ("muslin/stamp.dayNames", laid_muslin_stamp_dayNames), ("unicode/utf8.first", laid_unicode_utf8_first)], narrowed := true }
def StampWritesUptoSaid : Prop := stampWritesUptoRow.holds Tryd.pinned (OpenSpec.upto stampWritesSpec)

/-- 'muslinlaw09.StampDays', WHERE WHAT IT READS IS OF BULK AT MOST 1048576: true; the input reads as it did. -/
def stampDaysUptoRow : OpenClaim := { program := "ytiojfknphpnlhaadoor", sum := "2165a8e16bedf2286ed770a99d23a423d508e4d6d9ae1a97493ac2693c7f825a", func := "muslin/muslinlaw09.StampDays", spec := "stampDays", inPlace := ["internal/bytealg.IndexByteString", "internal/bytealg.IndexString", "internal/bytealg.CountString"], unfollowed := true, recurses := true, named := ["muslin/stamp.monthLengths", "muslin/stamp.dayNames", "muslin/stamp.monthNames", "unicode/utf8.first", "unicode/utf8.acceptRanges", "internal/bytealg.MaxLen", "muslin/stamp.zones", "internal/strconv.uint64pow10", "math/bits.deBruijn32tab", "math/bits.deBruijn64tab"], apart := false, laid := [("math/bits.deBruijn32tab", laid_math_bits_deBruijn32tab), ("math/bits.deBruijn64tab", laid_math_bits_deBruijn64tab), ("internal/strconv.uint64pow10", laid_internal_strconv_uint64pow10), ("unicode/utf8.acceptRanges", laid_unicode_utf8_acceptRanges), ("muslin/stamp.zones", laid_muslin_stamp_zones), ("muslin/stamp.monthLengths", laid_muslin_stamp_monthLengths), ("muslin/stamp.monthNames", laid_muslin_stamp_monthNames), ("muslin/stamp.dayNames", laid_muslin_stamp_dayNames), ("unicode/utf8.first", laid_unicode_utf8_first)], narrowed := true }
def StampDaysUptoSaid : Prop := stampDaysUptoRow.holds Tryd.pinned (OpenSpec.upto stampDaysSpec)

/-- 'muslinlaw09.StampBack', WHERE WHAT IT READS IS OF BULK AT MOST 1048576: true; the input reads as it did. -/
def stampBackUptoRow : OpenClaim := { program := "ytiojfknphpnlhaadoor", sum := "2165a8e16bedf2286ed770a99d23a423d508e4d6d9ae1a97493ac2693c7f825a", func := "muslin/muslinlaw09.StampBack", spec := "stampBack", inPlace := ["internal/bytealg.IndexByteString", "internal/bytealg.IndexString", "internal/bytealg.CountString"], unfollowed := true, recurses := true, named := ["muslin/stamp.dayNames", "muslin/stamp.monthNames", "muslin/stamp.monthLengths", "internal/strconv.uint64pow10", "math/bits.deBruijn32tab", "math/bits.deBruijn64tab", "unicode/utf8.first", "unicode/utf8.acceptRanges", "internal/bytealg.MaxLen", "muslin/stamp.zones"], apart := false, laid := [("math/bits.deBruijn32tab", laid_math_bits_deBruijn32tab), ("math/bits.deBruijn64tab", laid_math_bits_deBruijn64tab), ("internal/strconv.uint64pow10", laid_internal_strconv_uint64pow10), ("unicode/utf8.acceptRanges", laid_unicode_utf8_acceptRanges), ("muslin/stamp.zones", laid_muslin_stamp_zones), ("muslin/stamp.monthLengths", laid_muslin_stamp_monthLengths), ("muslin/stamp.monthNames", laid_muslin_stamp_monthNames), ("muslin/stamp.dayNames", laid_muslin_stamp_dayNames), ("unicode/utf8.first", laid_unicode_utf8_first)], narrowed := true }
def StampBackUptoSaid : Prop := stampBackUptoRow.holds Tryd.pinned (OpenSpec.upto stampBackSpec)

/-- 'muslinlaw09.StampNext', WHERE WHAT IT READS IS OF BULK AT MOST 1048576: true; the input reads as it did. -/
def stampNextUptoRow : OpenClaim := { program := "ytiojfknphpnlhaadoor", sum := "2165a8e16bedf2286ed770a99d23a423d508e4d6d9ae1a97493ac2693c7f825a", func := "muslin/muslinlaw09.StampNext", spec := "stampNext", inPlace := ["internal/bytealg.IndexByteString", "internal/bytealg.IndexString", "internal/bytealg.CountString"], unfollowed := true, recurses := true, named := ["muslin/stamp.monthLengths", "muslin/stamp.dayNames", "muslin/stamp.monthNames", "unicode/utf8.first", "unicode/utf8.acceptRanges", "internal/bytealg.MaxLen", "muslin/stamp.zones", "internal/strconv.uint64pow10", "math/bits.deBruijn32tab", "math/bits.deBruijn64tab"], apart := false, laid := [("math/bits.deBruijn32tab", laid_math_bits_deBruijn32tab), ("math/bits.deBruijn64tab", laid_math_bits_deBruijn64tab), ("internal/strconv.uint64pow10", laid_internal_strconv_uint64pow10), ("unicode/utf8.acceptRanges", laid_unicode_utf8_acceptRanges), ("muslin/stamp.zones", laid_muslin_stamp_zones), ("muslin/stamp.monthLengths", laid_muslin_stamp_monthLengths), ("muslin/stamp.monthNames", laid_muslin_stamp_monthNames), ("muslin/stamp.dayNames", laid_muslin_stamp_dayNames), ("unicode/utf8.first", laid_unicode_utf8_first)], narrowed := true }
def StampNextUptoSaid : Prop := stampNextUptoRow.holds Tryd.pinned (OpenSpec.upto stampNextSpec)

/-- 'muslinlaw09.StampZones', WHERE WHAT IT READS IS OF BULK AT MOST 1048576: true; the input reads as it did. -/
def stampZonesUptoRow : OpenClaim := { program := "ytiojfknphpnlhaadoor", sum := "2165a8e16bedf2286ed770a99d23a423d508e4d6d9ae1a97493ac2693c7f825a", func := "muslin/muslinlaw09.StampZones", spec := "stampZones", inPlace := ["internal/bytealg.IndexByteString", "internal/bytealg.IndexString", "internal/bytealg.CountString"], unfollowed := true, recurses := true, named := ["muslin/stamp.dayNames", "muslin/stamp.monthNames", "muslin/stamp.monthLengths", "internal/strconv.uint64pow10", "math/bits.deBruijn32tab", "math/bits.deBruijn64tab", "unicode/utf8.first", "unicode/utf8.acceptRanges", "internal/bytealg.MaxLen", "muslin/stamp.zones"], apart := false, laid := [("math/bits.deBruijn32tab", laid_math_bits_deBruijn32tab), ("math/bits.deBruijn64tab", laid_math_bits_deBruijn64tab), ("internal/strconv.uint64pow10", laid_internal_strconv_uint64pow10), ("unicode/utf8.acceptRanges", laid_unicode_utf8_acceptRanges), ("muslin/stamp.zones", laid_muslin_stamp_zones), ("muslin/stamp.monthLengths", laid_muslin_stamp_monthLengths), ("muslin/stamp.monthNames", laid_muslin_stamp_monthNames), ("muslin/stamp.dayNames", laid_muslin_stamp_dayNames), ("unicode/utf8.first", laid_unicode_utf8_first)], narrowed := true }
def StampZonesUptoSaid : Prop := stampZonesUptoRow.holds Tryd.pinned (OpenSpec.upto stampZonesSpec)

/-- 'muslinlaw09.StampWeek', WHERE WHAT IT READS IS OF BULK AT MOST 1048576: true; the input reads as it did. -/
def stampWeekUptoRow : OpenClaim := { program := "ytiojfknphpnlhaadoor", sum := "2165a8e16bedf2286ed770a99d23a423d508e4d6d9ae1a97493ac2693c7f825a", func := "muslin/muslinlaw09.StampWeek", spec := "stampWeek", inPlace := ["internal/bytealg.IndexByteString", "internal/bytealg.IndexString", "internal/bytealg.CountString"], unfollowed := true, recurses := true, named := ["muslin/stamp.dayNames", "muslin/stamp.monthNames", "muslin/stamp.monthLengths", "internal/strconv.uint64pow10", "math/bits.deBruijn32tab", "math/bits.deBruijn64tab", "unicode/utf8.first", "unicode/utf8.acceptRanges", "internal/bytealg.MaxLen", "muslin/stamp.zones"], apart := false, laid := [("math/bits.deBruijn32tab", laid_math_bits_deBruijn32tab), ("math/bits.deBruijn64tab", laid_math_bits_deBruijn64tab), ("internal/strconv.uint64pow10", laid_internal_strconv_uint64pow10), ("unicode/utf8.acceptRanges", laid_unicode_utf8_acceptRanges), ("muslin/stamp.zones", laid_muslin_stamp_zones), ("muslin/stamp.monthLengths", laid_muslin_stamp_monthLengths), ("muslin/stamp.monthNames", laid_muslin_stamp_monthNames), ("muslin/stamp.dayNames", laid_muslin_stamp_dayNames), ("unicode/utf8.first", laid_unicode_utf8_first)], narrowed := true }
def StampWeekUptoSaid : Prop := stampWeekUptoRow.holds Tryd.pinned (OpenSpec.upto stampWeekSpec)

end Rows
end Go.Proofs.YtiojfknphpnlhaaDoor
