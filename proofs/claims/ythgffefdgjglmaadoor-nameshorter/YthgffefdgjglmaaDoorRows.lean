/-
  NARROWER THAN 'FOR EVERY INPUT', by the rows' own cells (each row's printed sentence says how): NameStands: laid · NameIs: laid · NameJoins: laid · NameTrims: laid · NameShorter: laid.
  DERIVED. THE GIVEN ROWS OF THIS SEAT. 5 by the template 'for every input the law returns true; each argument reads behind the call as it read before'; 0 by the template 'total and deterministic' (their statements: YthgffefdgjglmaaDoorTotals.lean).
  GIVEN WITH THE SEED: the statements are not yours to turn. If you find one false, say at which input.
  Laid BY PROGRAM, IN A SANDBOX (cutbox-rows.mjs): the forced cells as the released guide's own fill.sh prints them over the translation e2fb3b5231cf3259… (all of the seat's roots in one cut). By AI agents, Wed Nov 11 2026. No macro, syntax, notation, axiom, sorry.
-/
import Derived.Test.YthgffefdgjglmaaDoorChecked
import GoSem.PinnedTables
import GoSem.Claim
import GoSem.ClaimJoined
import GoSem.ClaimMapViews
import Derived.JoinedTies
import Derived.KernelRfl
namespace Go.Proofs.YthgffefdgjglmaaDoor
/- THE CELL 'sum', in the pinned program and in every row, IS THE sha256 OF THE DUMP (.gsa) THAT YthgffefdgjglmaaDoorProg.lean LOADS. Nothing in Lean hashes anything: it is a label: what it is worth is what the hold of that sum in a sandbox is worth. -/
noncomputable def Tryd.pinned : Pinned := { name := "ythgffefdgjglmaadoor", sum := "e2fb3b5231cf32599703b0916c93d278a1f57e931e1da1307e62408d4937cbe7", checked := Tryd.checked }
namespace Rows
def none {H : Type} : Left H := { results := [], args := [] }

/- WHAT THE LISTED PACKAGE-LEVEL VARIABLES READ AS WHEN THE CALL BEGINS. Each datum BY PROGRAM (the guide's laid-datum.mjs) off the statement by which the dump's own 'gosem.cut.vars' lays the variable. In a bare row this is a premise. The card (YthgffefdgjglmaaDoorCards.lean) ties it to the program's text. -/
def laid_unicode_utf8_acceptRanges {H : Type} : DataW H := .agg [.agg [.lit (.int .u8 128), .lit (.int .u8 191)], .agg [.lit (.int .u8 160), .lit (.int .u8 191)], .agg [.lit (.int .u8 128), .lit (.int .u8 159)], .agg [.lit (.int .u8 144), .lit (.int .u8 191)], .agg [.lit (.int .u8 128), .lit (.int .u8 143)], .agg [.lit (.int .u8 0), .lit (.int .u8 0)], .agg [.lit (.int .u8 0), .lit (.int .u8 0)], .agg [.lit (.int .u8 0), .lit (.int .u8 0)], .agg [.lit (.int .u8 0), .lit (.int .u8 0)], .agg [.lit (.int .u8 0), .lit (.int .u8 0)], .agg [.lit (.int .u8 0), .lit (.int .u8 0)], .agg [.lit (.int .u8 0), .lit (.int .u8 0)], .agg [.lit (.int .u8 0), .lit (.int .u8 0)], .agg [.lit (.int .u8 0), .lit (.int .u8 0)], .agg [.lit (.int .u8 0), .lit (.int .u8 0)], .agg [.lit (.int .u8 0), .lit (.int .u8 0)]]
def laid_apostille_name_beginnings {H : Type} : DataW H := .agg [.agg [.lit (.int .i32 65), .lit (.int .i32 90)], .agg [.lit (.int .i32 95), .lit (.int .i32 95)], .agg [.lit (.int .i32 97), .lit (.int .i32 122)], .agg [.lit (.int .i32 192), .lit (.int .i32 214)], .agg [.lit (.int .i32 216), .lit (.int .i32 246)], .agg [.lit (.int .i32 248), .lit (.int .i32 767)], .agg [.lit (.int .i32 880), .lit (.int .i32 893)], .agg [.lit (.int .i32 895), .lit (.int .i32 8191)], .agg [.lit (.int .i32 8204), .lit (.int .i32 8205)], .agg [.lit (.int .i32 8304), .lit (.int .i32 8591)], .agg [.lit (.int .i32 11264), .lit (.int .i32 12271)], .agg [.lit (.int .i32 12289), .lit (.int .i32 55295)], .agg [.lit (.int .i32 63744), .lit (.int .i32 64975)], .agg [.lit (.int .i32 65008), .lit (.int .i32 65533)], .agg [.lit (.int .i32 65536), .lit (.int .i32 983039)]]
def laid_apostille_name_followers {H : Type} : DataW H := .agg [.agg [.lit (.int .i32 45), .lit (.int .i32 46)], .agg [.lit (.int .i32 48), .lit (.int .i32 57)], .agg [.lit (.int .i32 183), .lit (.int .i32 183)], .agg [.lit (.int .i32 768), .lit (.int .i32 879)], .agg [.lit (.int .i32 8255), .lit (.int .i32 8256)]]
/-- One of Go's own tables, pinned by name: the form's constant. -/
def laid_unicode_utf8_first : DataW Unit := Go.Pinned.utf8First

/-- 'apostillelaw05.NameStands': WHATEVER THE INPUT: true; the input reads as it did. -/
def nameStandsSpec : ChangeSpec := { name := "nameStands", fn := fun _ => fun
  | [d] => { results := [.lit (.bool true)], args := [d] }
  | _ => none }
def nameStandsRow : OpenClaim := { program := "ythgffefdgjglmaadoor", sum := "e2fb3b5231cf32599703b0916c93d278a1f57e931e1da1307e62408d4937cbe7", func := "apostille/apostillelaw05.NameStands", spec := "nameStands", inPlace := ["internal/bytealg.IndexByteString", "internal/bytealg.IndexString"], named := ["internal/bytealg.MaxLen", "unicode/utf8.first", "unicode/utf8.acceptRanges", "apostille/name.beginnings", "apostille/name.followers"], apart := false, laid := [("unicode/utf8.acceptRanges", laid_unicode_utf8_acceptRanges), ("apostille/name.beginnings", laid_apostille_name_beginnings), ("apostille/name.followers", laid_apostille_name_followers), ("unicode/utf8.first", laid_unicode_utf8_first)] }
def NameStandsSaid : Prop := nameStandsRow.holds Tryd.pinned (OpenSpec.ofChange nameStandsSpec)

/-- ITS FALSE NEIGHBOUR: 'it returns false'. Refute it at one input. -/
def nameStandsWrong : ChangeSpec := { name := "nameStands", fn := fun _ => fun
  | [d] => { results := [.lit (.bool false)], args := [d] }
  | _ => none }
def NameStandsWrongFalsely : Prop := nameStandsRow.holds Tryd.pinned (OpenSpec.ofChange nameStandsWrong)

/-- 'apostillelaw05.NameIs': WHATEVER THE INPUT: true; the input reads as it did. -/
def nameIsSpec : ChangeSpec := { name := "nameIs", fn := fun _ => fun
  | [d] => { results := [.lit (.bool true)], args := [d] }
  | _ => none }
def nameIsRow : OpenClaim := { program := "ythgffefdgjglmaadoor", sum := "e2fb3b5231cf32599703b0916c93d278a1f57e931e1da1307e62408d4937cbe7", func := "apostille/apostillelaw05.NameIs", spec := "nameIs", inPlace := ["internal/bytealg.IndexByteString", "internal/bytealg.IndexString"], named := ["internal/bytealg.MaxLen", "unicode/utf8.first", "unicode/utf8.acceptRanges", "apostille/name.beginnings", "apostille/name.followers"], apart := false, laid := [("unicode/utf8.acceptRanges", laid_unicode_utf8_acceptRanges), ("apostille/name.beginnings", laid_apostille_name_beginnings), ("apostille/name.followers", laid_apostille_name_followers), ("unicode/utf8.first", laid_unicode_utf8_first)] }
def NameIsSaid : Prop := nameIsRow.holds Tryd.pinned (OpenSpec.ofChange nameIsSpec)

/-- ITS FALSE NEIGHBOUR: 'it returns false'. Refute it at one input. -/
def nameIsWrong : ChangeSpec := { name := "nameIs", fn := fun _ => fun
  | [d] => { results := [.lit (.bool false)], args := [d] }
  | _ => none }
def NameIsWrongFalsely : Prop := nameIsRow.holds Tryd.pinned (OpenSpec.ofChange nameIsWrong)

/-- 'apostillelaw05.NameJoins': WHATEVER THE INPUT: true; the input reads as it did. -/
def nameJoinsSpec : ChangeSpec := { name := "nameJoins", fn := fun _ => fun
  | [d1, d2, d3] => { results := [.lit (.bool true)], args := [d1, d2, d3] }
  | _ => none }
def nameJoinsRow : OpenClaim := { program := "ythgffefdgjglmaadoor", sum := "e2fb3b5231cf32599703b0916c93d278a1f57e931e1da1307e62408d4937cbe7", func := "apostille/apostillelaw05.NameJoins", spec := "nameJoins", inPlace := ["internal/bytealg.IndexByteString", "internal/bytealg.IndexString"], named := ["internal/bytealg.MaxLen", "unicode/utf8.first", "unicode/utf8.acceptRanges", "apostille/name.beginnings", "apostille/name.followers"], apart := false, laid := [("unicode/utf8.acceptRanges", laid_unicode_utf8_acceptRanges), ("apostille/name.beginnings", laid_apostille_name_beginnings), ("apostille/name.followers", laid_apostille_name_followers), ("unicode/utf8.first", laid_unicode_utf8_first)] }
def NameJoinsSaid : Prop := nameJoinsRow.holds Tryd.pinned (OpenSpec.ofChange nameJoinsSpec)

/-- ITS FALSE NEIGHBOUR: 'it returns false'. Refute it at one input. -/
def nameJoinsWrong : ChangeSpec := { name := "nameJoins", fn := fun _ => fun
  | [d1, d2, d3] => { results := [.lit (.bool false)], args := [d1, d2, d3] }
  | _ => none }
def NameJoinsWrongFalsely : Prop := nameJoinsRow.holds Tryd.pinned (OpenSpec.ofChange nameJoinsWrong)

/-- 'apostillelaw05.NameTrims': WHATEVER THE INPUT: true; the input reads as it did. -/
def nameTrimsSpec : ChangeSpec := { name := "nameTrims", fn := fun _ => fun
  | [d1, d2] => { results := [.lit (.bool true)], args := [d1, d2] }
  | _ => none }
def nameTrimsRow : OpenClaim := { program := "ythgffefdgjglmaadoor", sum := "e2fb3b5231cf32599703b0916c93d278a1f57e931e1da1307e62408d4937cbe7", func := "apostille/apostillelaw05.NameTrims", spec := "nameTrims", inPlace := ["internal/bytealg.IndexByteString", "internal/bytealg.IndexString"], named := ["internal/bytealg.MaxLen", "unicode/utf8.first", "unicode/utf8.acceptRanges", "apostille/name.beginnings", "apostille/name.followers"], apart := false, laid := [("unicode/utf8.acceptRanges", laid_unicode_utf8_acceptRanges), ("apostille/name.beginnings", laid_apostille_name_beginnings), ("apostille/name.followers", laid_apostille_name_followers), ("unicode/utf8.first", laid_unicode_utf8_first)] }
def NameTrimsSaid : Prop := nameTrimsRow.holds Tryd.pinned (OpenSpec.ofChange nameTrimsSpec)

/-- ITS FALSE NEIGHBOUR: 'it returns false'. Refute it at one input. -/
def nameTrimsWrong : ChangeSpec := { name := "nameTrims", fn := fun _ => fun
  | [d1, d2] => { results := [.lit (.bool false)], args := [d1, d2] }
  | _ => none }
def NameTrimsWrongFalsely : Prop := nameTrimsRow.holds Tryd.pinned (OpenSpec.ofChange nameTrimsWrong)

/-- 'apostillelaw05.NameShorter': WHATEVER THE INPUT: true; the input reads as it did. -/
def nameShorterSpec : ChangeSpec := { name := "nameShorter", fn := fun _ => fun
  | [d1, d2, d3] => { results := [.lit (.bool true)], args := [d1, d2, d3] }
  | _ => none }
def nameShorterRow : OpenClaim := { program := "ythgffefdgjglmaadoor", sum := "e2fb3b5231cf32599703b0916c93d278a1f57e931e1da1307e62408d4937cbe7", func := "apostille/apostillelaw05.NameShorter", spec := "nameShorter", inPlace := ["internal/bytealg.IndexByteString", "internal/bytealg.IndexString"], named := ["internal/bytealg.MaxLen", "unicode/utf8.first", "unicode/utf8.acceptRanges", "apostille/name.beginnings", "apostille/name.followers"], apart := false, laid := [("unicode/utf8.acceptRanges", laid_unicode_utf8_acceptRanges), ("apostille/name.beginnings", laid_apostille_name_beginnings), ("apostille/name.followers", laid_apostille_name_followers), ("unicode/utf8.first", laid_unicode_utf8_first)] }
def NameShorterSaid : Prop := nameShorterRow.holds Tryd.pinned (OpenSpec.ofChange nameShorterSpec)

/-- ITS FALSE NEIGHBOUR: 'it returns false'. Refute it at one input. -/
def nameShorterWrong : ChangeSpec := { name := "nameShorter", fn := fun _ => fun
  | [d1, d2, d3] => { results := [.lit (.bool false)], args := [d1, d2, d3] }
  | _ => none }
def NameShorterWrongFalsely : Prop := nameShorterRow.holds Tryd.pinned (OpenSpec.ofChange nameShorterWrong)

/- THE SECOND FORM. 'bulk': how many values and letters a reading holds, each counted each time it is reached (what is shared counts as often as it is met; a slice's spare places count too). A statement '..UptoSaid' is the law's where the arguments, and the package variables that the reading takes, are together of bulk at most 1048576: NARROWER than '..Said'. Prove '..Said' where nothing that the law and all that it calls make is longer than what came in: it says more and counts as full. Else prove '..UptoSaid'. A law counts once. -/
mutual
def uptoBulk {H : Type} : DataW H → Nat
  | .lit (.string bytes) => bytes.length + 1
  | .lit _ => 1
  | .nil => 1
  | .ptr d => uptoBulk d + 1
  | .slice elems spare => uptoBulkAll elems + uptoBulkAll spare + 1
  | .agg parts => uptoBulkAll parts + 1
  | .iface _ d => uptoBulk d + 1
  | .map entries => uptoBulkEntries entries + 1
  | .held _ => 1
def uptoBulkAll {H : Type} : List (DataW H) → Nat
  | [] => 0
  | d :: r => uptoBulk d + uptoBulkAll r
def uptoBulkEntries {H : Type} : List (Lit × DataW H) → Nat
  | [] => 0
  | x :: r => uptoBulkEntry x + uptoBulkEntries r
def uptoBulkEntry {H : Type} : Lit × DataW H → Nat
  | (.string bytes, d) => bytes.length + uptoBulk d + 1
  | (_, d) => uptoBulk d + 1
 end
def uptoSmall : (H : Type) → List (DataW H) → Bool := fun _ ds => decide (uptoBulkAll ds ≤ 1048576)
def OpenSpec.upto (s : _root_.Go.ChangeSpec) : _root_.Go.OpenSpec := { _root_.Go.OpenSpec.ofChange s with cond := some uptoSmall }

/-- 'apostillelaw05.NameStands', WHERE WHAT IT READS IS OF BULK AT MOST 1048576: true; the input reads as it did. -/
def nameStandsUptoRow : OpenClaim := { program := "ythgffefdgjglmaadoor", sum := "e2fb3b5231cf32599703b0916c93d278a1f57e931e1da1307e62408d4937cbe7", func := "apostille/apostillelaw05.NameStands", spec := "nameStands", inPlace := ["internal/bytealg.IndexByteString", "internal/bytealg.IndexString"], named := ["internal/bytealg.MaxLen", "unicode/utf8.first", "unicode/utf8.acceptRanges", "apostille/name.beginnings", "apostille/name.followers"], apart := false, laid := [("unicode/utf8.acceptRanges", laid_unicode_utf8_acceptRanges), ("apostille/name.beginnings", laid_apostille_name_beginnings), ("apostille/name.followers", laid_apostille_name_followers), ("unicode/utf8.first", laid_unicode_utf8_first)], narrowed := true }
def NameStandsUptoSaid : Prop := nameStandsUptoRow.holds Tryd.pinned (OpenSpec.upto nameStandsSpec)

/-- 'apostillelaw05.NameIs', WHERE WHAT IT READS IS OF BULK AT MOST 1048576: true; the input reads as it did. -/
def nameIsUptoRow : OpenClaim := { program := "ythgffefdgjglmaadoor", sum := "e2fb3b5231cf32599703b0916c93d278a1f57e931e1da1307e62408d4937cbe7", func := "apostille/apostillelaw05.NameIs", spec := "nameIs", inPlace := ["internal/bytealg.IndexByteString", "internal/bytealg.IndexString"], named := ["internal/bytealg.MaxLen", "unicode/utf8.first", "unicode/utf8.acceptRanges", "apostille/name.beginnings", "apostille/name.followers"], apart := false, laid := [("unicode/utf8.acceptRanges", laid_unicode_utf8_acceptRanges), ("apostille/name.beginnings", laid_apostille_name_beginnings), ("apostille/name.followers", laid_apostille_name_followers), ("unicode/utf8.first", laid_unicode_utf8_first)], narrowed := true }
def NameIsUptoSaid : Prop := nameIsUptoRow.holds Tryd.pinned (OpenSpec.upto nameIsSpec)

/-- 'apostillelaw05.NameJoins', WHERE WHAT IT READS IS OF BULK AT MOST 1048576: true; the input reads as it did. -/
def nameJoinsUptoRow : OpenClaim := { program := "ythgffefdgjglmaadoor", sum := "e2fb3b5231cf32599703b0916c93d278a1f57e931e1da1307e62408d4937cbe7", func := "apostille/apostillelaw05.NameJoins", spec := "nameJoins", inPlace := ["internal/bytealg.IndexByteString", "internal/bytealg.IndexString"], named := ["internal/bytealg.MaxLen", "unicode/utf8.first", "unicode/utf8.acceptRanges", "apostille/name.beginnings", "apostille/name.followers"], apart := false, laid := [("unicode/utf8.acceptRanges", laid_unicode_utf8_acceptRanges), ("apostille/name.beginnings", laid_apostille_name_beginnings), ("apostille/name.followers", laid_apostille_name_followers), ("unicode/utf8.first", laid_unicode_utf8_first)], narrowed := true }
def NameJoinsUptoSaid : Prop := nameJoinsUptoRow.holds Tryd.pinned (OpenSpec.upto nameJoinsSpec)

/-- 'apostillelaw05.NameTrims', WHERE WHAT IT READS IS OF BULK AT MOST 1048576: true; the input reads as it did. -/
def nameTrimsUptoRow : OpenClaim := { program := "ythgffefdgjglmaadoor", sum := "e2fb3b5231cf32599703b0916c93d278a1f57e931e1da1307e62408d4937cbe7", func := "apostille/apostillelaw05.NameTrims", spec := "nameTrims", inPlace := ["internal/bytealg.IndexByteString", "internal/bytealg.IndexString"], named := ["internal/bytealg.MaxLen", "unicode/utf8.first", "unicode/utf8.acceptRanges", "apostille/name.beginnings", "apostille/name.followers"], apart := false, laid := [("unicode/utf8.acceptRanges", laid_unicode_utf8_acceptRanges), ("apostille/name.beginnings", laid_apostille_name_beginnings), ("apostille/name.followers", laid_apostille_name_followers), ("unicode/utf8.first", laid_unicode_utf8_first)], narrowed := true }
def NameTrimsUptoSaid : Prop := nameTrimsUptoRow.holds Tryd.pinned (OpenSpec.upto nameTrimsSpec)

/-- 'apostillelaw05.NameShorter', WHERE WHAT IT READS IS OF BULK AT MOST 1048576: true; the input reads as it did. -/
def nameShorterUptoRow : OpenClaim := { program := "ythgffefdgjglmaadoor", sum := "e2fb3b5231cf32599703b0916c93d278a1f57e931e1da1307e62408d4937cbe7", func := "apostille/apostillelaw05.NameShorter", spec := "nameShorter", inPlace := ["internal/bytealg.IndexByteString", "internal/bytealg.IndexString"], named := ["internal/bytealg.MaxLen", "unicode/utf8.first", "unicode/utf8.acceptRanges", "apostille/name.beginnings", "apostille/name.followers"], apart := false, laid := [("unicode/utf8.acceptRanges", laid_unicode_utf8_acceptRanges), ("apostille/name.beginnings", laid_apostille_name_beginnings), ("apostille/name.followers", laid_apostille_name_followers), ("unicode/utf8.first", laid_unicode_utf8_first)], narrowed := true }
def NameShorterUptoSaid : Prop := nameShorterUptoRow.holds Tryd.pinned (OpenSpec.upto nameShorterSpec)

end Rows
end Go.Proofs.YthgffefdgjglmaaDoor
