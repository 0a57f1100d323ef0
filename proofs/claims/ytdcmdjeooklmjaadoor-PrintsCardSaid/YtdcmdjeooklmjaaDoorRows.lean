/-
  NARROWER THAN 'FOR EVERY INPUT', by the rows' own cells (each row's printed sentence says how): Codes: laid · Round: laid · Shorts: laid · Pressed: laid · Prints: laid · Alike: laid · Lively: laid · Products: laid.
  DERIVED. THE GIVEN ROWS OF THIS SEAT. 8 by the template 'for every input the law returns true; each argument reads behind the call as it read before'; 0 by the template 'total and deterministic' (their statements: YtdcmdjeooklmjaaDoorTotals.lean).
  GIVEN WITH THE SEED: the statements are not yours to turn. If you find one false, say at which input.
  Laid BY PROGRAM, IN A SANDBOX (cutbox-rows.mjs): the forced cells as the released guide's own fill.sh prints them over the translation 4c07156e0f0d43c3… (all of the seat's roots in one cut). By AI agents, Wed Nov 11 2026. No macro, syntax, notation, axiom, sorry.
-/
import Derived.Test.YtdcmdjeooklmjaaDoorChecked
import GoSem.Claim
import GoSem.ClaimJoined
import GoSem.ClaimMapViews
import Derived.JoinedTies
import Derived.KernelRfl
namespace Go.Proofs.YtdcmdjeooklmjaaDoor
/- THE CELL 'sum', in the pinned program and in every row, IS THE sha256 OF THE DUMP (.gsa) THAT YtdcmdjeooklmjaaDoorProg.lean LOADS. Nothing in Lean hashes anything: it is a label: what it is worth is what the hold of that sum in a sandbox is worth. -/
noncomputable def Tryd.pinned : Pinned := { name := "ytdcmdjeooklmjaadoor", sum := "4c07156e0f0d43c39fd34fc6f8fe610b538a4d9c533eb26c004cda64c607ed8d", checked := Tryd.checked }
namespace Rows
def none {H : Type} : Left H := { results := [], args := [] }

/- WHAT THE LISTED PACKAGE-LEVEL VARIABLES READ AS WHEN THE CALL BEGINS. Each datum BY PROGRAM (the guide's laid-datum.mjs) off the statement by which the dump's own 'gosem.cut.vars' lays the variable. In a bare row this is a premise. The card (YtdcmdjeooklmjaaDoorCards.lean) ties it to the program's text. -/
def laid_hart_code_rows {H : Type} : DataW H := .agg [.agg [.lit (.int .u8 0), .lit (.int .u32 0)], .agg [.lit (.int .u8 6), .lit (.int .u32 55)], .agg [.lit (.int .u8 6), .lit (.int .u32 23)], .agg [.lit (.int .u8 7), .lit (.int .u32 111)], .agg [.lit (.int .u8 2), .lit (.int .u32 103)], .agg [.lit (.int .u8 5), .lit (.int .u32 99)], .agg [.lit (.int .u8 5), .lit (.int .u32 4195)], .agg [.lit (.int .u8 5), .lit (.int .u32 16483)], .agg [.lit (.int .u8 5), .lit (.int .u32 20579)], .agg [.lit (.int .u8 5), .lit (.int .u32 24675)], .agg [.lit (.int .u8 5), .lit (.int .u32 28771)], .agg [.lit (.int .u8 2), .lit (.int .u32 3)], .agg [.lit (.int .u8 2), .lit (.int .u32 4099)], .agg [.lit (.int .u8 2), .lit (.int .u32 8195)], .agg [.lit (.int .u8 2), .lit (.int .u32 16387)], .agg [.lit (.int .u8 2), .lit (.int .u32 20483)], .agg [.lit (.int .u8 4), .lit (.int .u32 35)], .agg [.lit (.int .u8 4), .lit (.int .u32 4131)], .agg [.lit (.int .u8 4), .lit (.int .u32 8227)], .agg [.lit (.int .u8 2), .lit (.int .u32 19)], .agg [.lit (.int .u8 2), .lit (.int .u32 8211)], .agg [.lit (.int .u8 2), .lit (.int .u32 12307)], .agg [.lit (.int .u8 2), .lit (.int .u32 16403)], .agg [.lit (.int .u8 2), .lit (.int .u32 24595)], .agg [.lit (.int .u8 2), .lit (.int .u32 28691)], .agg [.lit (.int .u8 3), .lit (.int .u32 4115)], .agg [.lit (.int .u8 3), .lit (.int .u32 20499)], .agg [.lit (.int .u8 3), .lit (.int .u32 1073762323)], .agg [.lit (.int .u8 1), .lit (.int .u32 51)], .agg [.lit (.int .u8 1), .lit (.int .u32 1073741875)], .agg [.lit (.int .u8 1), .lit (.int .u32 4147)], .agg [.lit (.int .u8 1), .lit (.int .u32 8243)], .agg [.lit (.int .u8 1), .lit (.int .u32 12339)], .agg [.lit (.int .u8 1), .lit (.int .u32 16435)], .agg [.lit (.int .u8 1), .lit (.int .u32 20531)], .agg [.lit (.int .u8 1), .lit (.int .u32 1073762355)], .agg [.lit (.int .u8 1), .lit (.int .u32 24627)], .agg [.lit (.int .u8 1), .lit (.int .u32 28723)], .agg [.lit (.int .u8 1), .lit (.int .u32 33554483)], .agg [.lit (.int .u8 1), .lit (.int .u32 33558579)], .agg [.lit (.int .u8 1), .lit (.int .u32 33562675)], .agg [.lit (.int .u8 1), .lit (.int .u32 33566771)], .agg [.lit (.int .u8 1), .lit (.int .u32 33570867)], .agg [.lit (.int .u8 1), .lit (.int .u32 33574963)], .agg [.lit (.int .u8 1), .lit (.int .u32 33579059)], .agg [.lit (.int .u8 1), .lit (.int .u32 33583155)], .agg [.lit (.int .u8 9), .lit (.int .u32 15)], .agg [.lit (.int .u8 8), .lit (.int .u32 115)], .agg [.lit (.int .u8 8), .lit (.int .u32 1048691)]]
def laid_hart_code_shortRows {H : Type} : DataW H := .agg [.agg [.lit (.int .u16 57347), .lit (.int .u16 0), .lit (.int .u8 19), .lit (.int .u8 6), .lit (.int .u8 2), .lit (.int .u8 0), .lit (.int .u8 3), .lit (.int .u8 1)], .agg [.lit (.int .u16 57347), .lit (.int .u16 16384), .lit (.int .u8 13), .lit (.int .u8 6), .lit (.int .u8 5), .lit (.int .u8 0), .lit (.int .u8 4), .lit (.int .u8 0)], .agg [.lit (.int .u16 57347), .lit (.int .u16 49152), .lit (.int .u8 18), .lit (.int .u8 0), .lit (.int .u8 5), .lit (.int .u8 6), .lit (.int .u8 4), .lit (.int .u8 0)], .agg [.lit (.int .u16 57347), .lit (.int .u16 1), .lit (.int .u8 19), .lit (.int .u8 3), .lit (.int .u8 3), .lit (.int .u8 0), .lit (.int .u8 2), .lit (.int .u8 0)], .agg [.lit (.int .u16 57347), .lit (.int .u16 8193), .lit (.int .u8 3), .lit (.int .u8 1), .lit (.int .u8 0), .lit (.int .u8 0), .lit (.int .u8 9), .lit (.int .u8 0)], .agg [.lit (.int .u16 57347), .lit (.int .u16 16385), .lit (.int .u8 19), .lit (.int .u8 3), .lit (.int .u8 0), .lit (.int .u8 0), .lit (.int .u8 2), .lit (.int .u8 0)], .agg [.lit (.int .u16 61315), .lit (.int .u16 24833), .lit (.int .u8 19), .lit (.int .u8 2), .lit (.int .u8 2), .lit (.int .u8 0), .lit (.int .u8 7), .lit (.int .u8 1)], .agg [.lit (.int .u16 57347), .lit (.int .u16 24577), .lit (.int .u8 1), .lit (.int .u8 3), .lit (.int .u8 0), .lit (.int .u8 0), .lit (.int .u8 2), .lit (.int .u8 5)], .agg [.lit (.int .u16 64515), .lit (.int .u16 32769), .lit (.int .u8 26), .lit (.int .u8 5), .lit (.int .u8 5), .lit (.int .u8 0), .lit (.int .u8 1), .lit (.int .u8 0)], .agg [.lit (.int .u16 64515), .lit (.int .u16 33793), .lit (.int .u8 27), .lit (.int .u8 5), .lit (.int .u8 5), .lit (.int .u8 0), .lit (.int .u8 1), .lit (.int .u8 0)], .agg [.lit (.int .u16 60419), .lit (.int .u16 34817), .lit (.int .u8 24), .lit (.int .u8 5), .lit (.int .u8 5), .lit (.int .u8 0), .lit (.int .u8 2), .lit (.int .u8 0)], .agg [.lit (.int .u16 64611), .lit (.int .u16 35841), .lit (.int .u8 29), .lit (.int .u8 5), .lit (.int .u8 5), .lit (.int .u8 6), .lit (.int .u8 0), .lit (.int .u8 0)], .agg [.lit (.int .u16 64611), .lit (.int .u16 35873), .lit (.int .u8 33), .lit (.int .u8 5), .lit (.int .u8 5), .lit (.int .u8 6), .lit (.int .u8 0), .lit (.int .u8 0)], .agg [.lit (.int .u16 64611), .lit (.int .u16 35905), .lit (.int .u8 36), .lit (.int .u8 5), .lit (.int .u8 5), .lit (.int .u8 6), .lit (.int .u8 0), .lit (.int .u8 0)], .agg [.lit (.int .u16 64611), .lit (.int .u16 35937), .lit (.int .u8 37), .lit (.int .u8 5), .lit (.int .u8 5), .lit (.int .u8 6), .lit (.int .u8 0), .lit (.int .u8 0)], .agg [.lit (.int .u16 57347), .lit (.int .u16 40961), .lit (.int .u8 3), .lit (.int .u8 0), .lit (.int .u8 0), .lit (.int .u8 0), .lit (.int .u8 9), .lit (.int .u8 0)], .agg [.lit (.int .u16 57347), .lit (.int .u16 49153), .lit (.int .u8 5), .lit (.int .u8 0), .lit (.int .u8 5), .lit (.int .u8 0), .lit (.int .u8 8), .lit (.int .u8 0)], .agg [.lit (.int .u16 57347), .lit (.int .u16 57345), .lit (.int .u8 6), .lit (.int .u8 0), .lit (.int .u8 5), .lit (.int .u8 0), .lit (.int .u8 8), .lit (.int .u8 0)], .agg [.lit (.int .u16 61443), .lit (.int .u16 2), .lit (.int .u8 25), .lit (.int .u8 3), .lit (.int .u8 3), .lit (.int .u8 0), .lit (.int .u8 1), .lit (.int .u8 0)], .agg [.lit (.int .u16 57347), .lit (.int .u16 16386), .lit (.int .u8 13), .lit (.int .u8 3), .lit (.int .u8 2), .lit (.int .u8 0), .lit (.int .u8 5), .lit (.int .u8 2)], .agg [.lit (.int .u16 61567), .lit (.int .u16 32770), .lit (.int .u8 4), .lit (.int .u8 0), .lit (.int .u8 3), .lit (.int .u8 0), .lit (.int .u8 0), .lit (.int .u8 8)], .agg [.lit (.int .u16 61443), .lit (.int .u16 32770), .lit (.int .u8 28), .lit (.int .u8 3), .lit (.int .u8 0), .lit (.int .u8 4), .lit (.int .u8 0), .lit (.int .u8 16)], .agg [.lit (.int .u16 65535), .lit (.int .u16 36866), .lit (.int .u8 48), .lit (.int .u8 0), .lit (.int .u8 0), .lit (.int .u8 0), .lit (.int .u8 0), .lit (.int .u8 0)], .agg [.lit (.int .u16 61567), .lit (.int .u16 36866), .lit (.int .u8 4), .lit (.int .u8 1), .lit (.int .u8 3), .lit (.int .u8 0), .lit (.int .u8 0), .lit (.int .u8 8)], .agg [.lit (.int .u16 61443), .lit (.int .u16 36866), .lit (.int .u8 28), .lit (.int .u8 3), .lit (.int .u8 3), .lit (.int .u8 4), .lit (.int .u8 0), .lit (.int .u8 16)], .agg [.lit (.int .u16 57347), .lit (.int .u16 49154), .lit (.int .u8 18), .lit (.int .u8 0), .lit (.int .u8 2), .lit (.int .u8 4), .lit (.int .u8 6), .lit (.int .u8 0)]]
def laid_math_bits_deBruijn32tab {H : Type} : DataW H := .agg [.lit (.int .u8 0), .lit (.int .u8 1), .lit (.int .u8 28), .lit (.int .u8 2), .lit (.int .u8 29), .lit (.int .u8 14), .lit (.int .u8 24), .lit (.int .u8 3), .lit (.int .u8 30), .lit (.int .u8 22), .lit (.int .u8 20), .lit (.int .u8 15), .lit (.int .u8 25), .lit (.int .u8 17), .lit (.int .u8 4), .lit (.int .u8 8), .lit (.int .u8 31), .lit (.int .u8 27), .lit (.int .u8 13), .lit (.int .u8 23), .lit (.int .u8 21), .lit (.int .u8 19), .lit (.int .u8 16), .lit (.int .u8 7), .lit (.int .u8 26), .lit (.int .u8 12), .lit (.int .u8 18), .lit (.int .u8 6), .lit (.int .u8 11), .lit (.int .u8 5), .lit (.int .u8 10), .lit (.int .u8 9)]
def laid_math_bits_deBruijn64tab {H : Type} : DataW H := .agg [.lit (.int .u8 0), .lit (.int .u8 1), .lit (.int .u8 56), .lit (.int .u8 2), .lit (.int .u8 57), .lit (.int .u8 49), .lit (.int .u8 28), .lit (.int .u8 3), .lit (.int .u8 61), .lit (.int .u8 58), .lit (.int .u8 42), .lit (.int .u8 50), .lit (.int .u8 38), .lit (.int .u8 29), .lit (.int .u8 17), .lit (.int .u8 4), .lit (.int .u8 62), .lit (.int .u8 47), .lit (.int .u8 59), .lit (.int .u8 36), .lit (.int .u8 45), .lit (.int .u8 43), .lit (.int .u8 51), .lit (.int .u8 22), .lit (.int .u8 53), .lit (.int .u8 39), .lit (.int .u8 33), .lit (.int .u8 30), .lit (.int .u8 24), .lit (.int .u8 18), .lit (.int .u8 12), .lit (.int .u8 5), .lit (.int .u8 63), .lit (.int .u8 55), .lit (.int .u8 48), .lit (.int .u8 27), .lit (.int .u8 60), .lit (.int .u8 41), .lit (.int .u8 37), .lit (.int .u8 16), .lit (.int .u8 46), .lit (.int .u8 35), .lit (.int .u8 44), .lit (.int .u8 21), .lit (.int .u8 52), .lit (.int .u8 32), .lit (.int .u8 23), .lit (.int .u8 11), .lit (.int .u8 54), .lit (.int .u8 26), .lit (.int .u8 40), .lit (.int .u8 15), .lit (.int .u8 34), .lit (.int .u8 20), .lit (.int .u8 31), .lit (.int .u8 10), .lit (.int .u8 25), .lit (.int .u8 14), .lit (.int .u8 19), .lit (.int .u8 9), .lit (.int .u8 13), .lit (.int .u8 8), .lit (.int .u8 7), .lit (.int .u8 6)]
def laid_internal_strconv_uint64pow10 {H : Type} : DataW H := .agg [.lit (.int .u64 1), .lit (.int .u64 10), .lit (.int .u64 100), .lit (.int .u64 1000), .lit (.int .u64 10000), .lit (.int .u64 100000), .lit (.int .u64 1000000), .lit (.int .u64 10000000), .lit (.int .u64 100000000), .lit (.int .u64 1000000000), .lit (.int .u64 10000000000), .lit (.int .u64 100000000000), .lit (.int .u64 1000000000000), .lit (.int .u64 10000000000000), .lit (.int .u64 100000000000000), .lit (.int .u64 1000000000000000), .lit (.int .u64 10000000000000000), .lit (.int .u64 100000000000000000), .lit (.int .u64 1000000000000000000), .lit (.int .u64 10000000000000000000)]
def laid_unicode_White_Space {H : Type} : DataW H := .ptr (.agg [.slice [.agg [.lit (.int .u16 9), .lit (.int .u16 13), .lit (.int .u16 1)], .agg [.lit (.int .u16 32), .lit (.int .u16 133), .lit (.int .u16 101)], .agg [.lit (.int .u16 160), .lit (.int .u16 5760), .lit (.int .u16 5600)], .agg [.lit (.int .u16 8192), .lit (.int .u16 8202), .lit (.int .u16 1)], .agg [.lit (.int .u16 8232), .lit (.int .u16 8233), .lit (.int .u16 1)], .agg [.lit (.int .u16 8239), .lit (.int .u16 8287), .lit (.int .u16 48)], .agg [.lit (.int .u16 12288), .lit (.int .u16 12288), .lit (.int .u16 1)]] [], .nil, .lit (.int .i64 2)])
def laid_strings_asciiSpace {H : Type} : DataW H := .agg [.lit (.int .u8 0), .lit (.int .u8 0), .lit (.int .u8 0), .lit (.int .u8 0), .lit (.int .u8 0), .lit (.int .u8 0), .lit (.int .u8 0), .lit (.int .u8 0), .lit (.int .u8 0), .lit (.int .u8 1), .lit (.int .u8 1), .lit (.int .u8 1), .lit (.int .u8 1), .lit (.int .u8 1), .lit (.int .u8 0), .lit (.int .u8 0), .lit (.int .u8 0), .lit (.int .u8 0), .lit (.int .u8 0), .lit (.int .u8 0), .lit (.int .u8 0), .lit (.int .u8 0), .lit (.int .u8 0), .lit (.int .u8 0), .lit (.int .u8 0), .lit (.int .u8 0), .lit (.int .u8 0), .lit (.int .u8 0), .lit (.int .u8 0), .lit (.int .u8 0), .lit (.int .u8 0), .lit (.int .u8 0), .lit (.int .u8 1), .lit (.int .u8 0), .lit (.int .u8 0), .lit (.int .u8 0), .lit (.int .u8 0), .lit (.int .u8 0), .lit (.int .u8 0), .lit (.int .u8 0), .lit (.int .u8 0), .lit (.int .u8 0), .lit (.int .u8 0), .lit (.int .u8 0), .lit (.int .u8 0), .lit (.int .u8 0), .lit (.int .u8 0), .lit (.int .u8 0), .lit (.int .u8 0), .lit (.int .u8 0), .lit (.int .u8 0), .lit (.int .u8 0), .lit (.int .u8 0), .lit (.int .u8 0), .lit (.int .u8 0), .lit (.int .u8 0), .lit (.int .u8 0), .lit (.int .u8 0), .lit (.int .u8 0), .lit (.int .u8 0), .lit (.int .u8 0), .lit (.int .u8 0), .lit (.int .u8 0), .lit (.int .u8 0), .lit (.int .u8 0), .lit (.int .u8 0), .lit (.int .u8 0), .lit (.int .u8 0), .lit (.int .u8 0), .lit (.int .u8 0), .lit (.int .u8 0), .lit (.int .u8 0), .lit (.int .u8 0), .lit (.int .u8 0), .lit (.int .u8 0), .lit (.int .u8 0), .lit (.int .u8 0), .lit (.int .u8 0), .lit (.int .u8 0), .lit (.int .u8 0), .lit (.int .u8 0), .lit (.int .u8 0), .lit (.int .u8 0), .lit (.int .u8 0), .lit (.int .u8 0), .lit (.int .u8 0), .lit (.int .u8 0), .lit (.int .u8 0), .lit (.int .u8 0), .lit (.int .u8 0), .lit (.int .u8 0), .lit (.int .u8 0), .lit (.int .u8 0), .lit (.int .u8 0), .lit (.int .u8 0), .lit (.int .u8 0), .lit (.int .u8 0), .lit (.int .u8 0), .lit (.int .u8 0), .lit (.int .u8 0), .lit (.int .u8 0), .lit (.int .u8 0), .lit (.int .u8 0), .lit (.int .u8 0), .lit (.int .u8 0), .lit (.int .u8 0), .lit (.int .u8 0), .lit (.int .u8 0), .lit (.int .u8 0), .lit (.int .u8 0), .lit (.int .u8 0), .lit (.int .u8 0), .lit (.int .u8 0), .lit (.int .u8 0), .lit (.int .u8 0), .lit (.int .u8 0), .lit (.int .u8 0), .lit (.int .u8 0), .lit (.int .u8 0), .lit (.int .u8 0), .lit (.int .u8 0), .lit (.int .u8 0), .lit (.int .u8 0), .lit (.int .u8 0), .lit (.int .u8 0), .lit (.int .u8 0), .lit (.int .u8 0), .lit (.int .u8 0), .lit (.int .u8 0), .lit (.int .u8 0), .lit (.int .u8 0), .lit (.int .u8 0), .lit (.int .u8 0), .lit (.int .u8 0), .lit (.int .u8 0), .lit (.int .u8 0), .lit (.int .u8 0), .lit (.int .u8 0), .lit (.int .u8 0), .lit (.int .u8 0), .lit (.int .u8 0), .lit (.int .u8 0), .lit (.int .u8 0), .lit (.int .u8 0), .lit (.int .u8 0), .lit (.int .u8 0), .lit (.int .u8 0), .lit (.int .u8 0), .lit (.int .u8 0), .lit (.int .u8 0), .lit (.int .u8 0), .lit (.int .u8 0), .lit (.int .u8 0), .lit (.int .u8 0), .lit (.int .u8 0), .lit (.int .u8 0), .lit (.int .u8 0), .lit (.int .u8 0), .lit (.int .u8 0), .lit (.int .u8 0), .lit (.int .u8 0), .lit (.int .u8 0), .lit (.int .u8 0), .lit (.int .u8 0), .lit (.int .u8 0), .lit (.int .u8 0), .lit (.int .u8 0), .lit (.int .u8 0), .lit (.int .u8 0), .lit (.int .u8 0), .lit (.int .u8 0), .lit (.int .u8 0), .lit (.int .u8 0), .lit (.int .u8 0), .lit (.int .u8 0), .lit (.int .u8 0), .lit (.int .u8 0), .lit (.int .u8 0), .lit (.int .u8 0), .lit (.int .u8 0), .lit (.int .u8 0), .lit (.int .u8 0), .lit (.int .u8 0), .lit (.int .u8 0), .lit (.int .u8 0), .lit (.int .u8 0), .lit (.int .u8 0), .lit (.int .u8 0), .lit (.int .u8 0), .lit (.int .u8 0), .lit (.int .u8 0), .lit (.int .u8 0), .lit (.int .u8 0), .lit (.int .u8 0), .lit (.int .u8 0), .lit (.int .u8 0), .lit (.int .u8 0), .lit (.int .u8 0), .lit (.int .u8 0), .lit (.int .u8 0), .lit (.int .u8 0), .lit (.int .u8 0), .lit (.int .u8 0), .lit (.int .u8 0), .lit (.int .u8 0), .lit (.int .u8 0), .lit (.int .u8 0), .lit (.int .u8 0), .lit (.int .u8 0), .lit (.int .u8 0), .lit (.int .u8 0), .lit (.int .u8 0), .lit (.int .u8 0), .lit (.int .u8 0), .lit (.int .u8 0), .lit (.int .u8 0), .lit (.int .u8 0), .lit (.int .u8 0), .lit (.int .u8 0), .lit (.int .u8 0), .lit (.int .u8 0), .lit (.int .u8 0), .lit (.int .u8 0), .lit (.int .u8 0), .lit (.int .u8 0), .lit (.int .u8 0), .lit (.int .u8 0), .lit (.int .u8 0), .lit (.int .u8 0), .lit (.int .u8 0), .lit (.int .u8 0), .lit (.int .u8 0), .lit (.int .u8 0), .lit (.int .u8 0), .lit (.int .u8 0), .lit (.int .u8 0), .lit (.int .u8 0), .lit (.int .u8 0), .lit (.int .u8 0), .lit (.int .u8 0), .lit (.int .u8 0), .lit (.int .u8 0), .lit (.int .u8 0), .lit (.int .u8 0), .lit (.int .u8 0), .lit (.int .u8 0), .lit (.int .u8 0), .lit (.int .u8 0), .lit (.int .u8 0), .lit (.int .u8 0), .lit (.int .u8 0), .lit (.int .u8 0), .lit (.int .u8 0), .lit (.int .u8 0), .lit (.int .u8 0), .lit (.int .u8 0)]

/-- 'hartlaw.Codes': WHATEVER THE INPUT: true; the input reads as it did. -/
def codesSpec : ChangeSpec := { name := "codes", fn := fun _ => fun
  | [d1, d2] => { results := [.lit (.bool true)], args := [d1, d2] }
  | _ => none }
def codesRow : OpenClaim := { program := "ytdcmdjeooklmjaadoor", sum := "4c07156e0f0d43c39fd34fc6f8fe610b538a4d9c533eb26c004cda64c607ed8d", func := "hart/hartlaw.Codes", spec := "codes", named := ["hart/code.rows"], apart := false, laid := [("hart/code.rows", laid_hart_code_rows)] }
def CodesSaid : Prop := codesRow.holds Tryd.pinned (OpenSpec.ofChange codesSpec)

/-- ITS FALSE NEIGHBOUR: 'it returns false'. Refute it at one input. -/
def codesWrong : ChangeSpec := { name := "codes", fn := fun _ => fun
  | [d1, d2] => { results := [.lit (.bool false)], args := [d1, d2] }
  | _ => none }
def CodesWrongFalsely : Prop := codesRow.holds Tryd.pinned (OpenSpec.ofChange codesWrong)

/-- 'hartkeep.Round': WHATEVER THE INPUT: true; the input reads as it did. -/
def roundSpec : ChangeSpec := { name := "round", fn := fun _ => fun
  | [d1, d2] => { results := [.lit (.bool true)], args := [d1, d2] }
  | _ => none }
def roundRow : OpenClaim := { program := "ytdcmdjeooklmjaadoor", sum := "4c07156e0f0d43c39fd34fc6f8fe610b538a4d9c533eb26c004cda64c607ed8d", func := "hart/hartkeep.Round", spec := "round", named := ["hart/code.rows"], apart := false, laid := [("hart/code.rows", laid_hart_code_rows)] }
def RoundSaid : Prop := roundRow.holds Tryd.pinned (OpenSpec.ofChange roundSpec)

/-- ITS FALSE NEIGHBOUR: 'it returns false'. Refute it at one input. -/
def roundWrong : ChangeSpec := { name := "round", fn := fun _ => fun
  | [d1, d2] => { results := [.lit (.bool false)], args := [d1, d2] }
  | _ => none }
def RoundWrongFalsely : Prop := roundRow.holds Tryd.pinned (OpenSpec.ofChange roundWrong)

/-- 'hartlaw.Shorts': WHATEVER THE INPUT: true; the input reads as it did. -/
def shortsSpec : ChangeSpec := { name := "shorts", fn := fun _ => fun
  | [d1, d2] => { results := [.lit (.bool true)], args := [d1, d2] }
  | _ => none }
def shortsRow : OpenClaim := { program := "ytdcmdjeooklmjaadoor", sum := "4c07156e0f0d43c39fd34fc6f8fe610b538a4d9c533eb26c004cda64c607ed8d", func := "hart/hartlaw.Shorts", spec := "shorts", named := ["hart/code.shortRows", "hart/code.rows"], apart := false, laid := [("hart/code.shortRows", laid_hart_code_shortRows), ("hart/code.rows", laid_hart_code_rows)] }
def ShortsSaid : Prop := shortsRow.holds Tryd.pinned (OpenSpec.ofChange shortsSpec)

/-- ITS FALSE NEIGHBOUR: 'it returns false'. Refute it at one input. -/
def shortsWrong : ChangeSpec := { name := "shorts", fn := fun _ => fun
  | [d1, d2] => { results := [.lit (.bool false)], args := [d1, d2] }
  | _ => none }
def ShortsWrongFalsely : Prop := shortsRow.holds Tryd.pinned (OpenSpec.ofChange shortsWrong)

/-- 'hartkeep.Pressed': WHATEVER THE INPUT: true; the input reads as it did. -/
def pressedSpec : ChangeSpec := { name := "pressed", fn := fun _ => fun
  | [d1, d2] => { results := [.lit (.bool true)], args := [d1, d2] }
  | _ => none }
def pressedRow : OpenClaim := { program := "ytdcmdjeooklmjaadoor", sum := "4c07156e0f0d43c39fd34fc6f8fe610b538a4d9c533eb26c004cda64c607ed8d", func := "hart/hartkeep.Pressed", spec := "pressed", named := ["hart/code.shortRows", "hart/code.rows"], apart := false, laid := [("hart/code.shortRows", laid_hart_code_shortRows), ("hart/code.rows", laid_hart_code_rows)] }
def PressedSaid : Prop := pressedRow.holds Tryd.pinned (OpenSpec.ofChange pressedSpec)

/-- ITS FALSE NEIGHBOUR: 'it returns false'. Refute it at one input. -/
def pressedWrong : ChangeSpec := { name := "pressed", fn := fun _ => fun
  | [d1, d2] => { results := [.lit (.bool false)], args := [d1, d2] }
  | _ => none }
def PressedWrongFalsely : Prop := pressedRow.holds Tryd.pinned (OpenSpec.ofChange pressedWrong)

/-- 'hartlaw.Prints': WHATEVER THE INPUT: true; the input reads as it did. -/
def printsSpec : ChangeSpec := { name := "prints", fn := fun _ => fun
  | [d] => { results := [.lit (.bool true)], args := [d] }
  | _ => none }
def printsRow : OpenClaim := { program := "ytdcmdjeooklmjaadoor", sum := "4c07156e0f0d43c39fd34fc6f8fe610b538a4d9c533eb26c004cda64c607ed8d", func := "hart/hartlaw.Prints", spec := "prints", inPlace := ["internal/abi.NoEscape", "internal/bytealg.MakeNoZero"], unfollowed := true, recurses := true, named := ["hart/code.rows", "internal/strconv.uint64pow10", "math/bits.deBruijn32tab", "math/bits.deBruijn64tab", "strings.asciiSpace", "unicode.White_Space"], apart := false, laid := [("math/bits.deBruijn32tab", laid_math_bits_deBruijn32tab), ("math/bits.deBruijn64tab", laid_math_bits_deBruijn64tab), ("hart/code.rows", laid_hart_code_rows), ("internal/strconv.uint64pow10", laid_internal_strconv_uint64pow10), ("unicode.White_Space", laid_unicode_White_Space), ("strings.asciiSpace", laid_strings_asciiSpace)] }
def PrintsSaid : Prop := printsRow.holds Tryd.pinned (OpenSpec.ofChange printsSpec)

/-- ITS FALSE NEIGHBOUR: 'it returns false'. Refute it at one input. -/
def printsWrong : ChangeSpec := { name := "prints", fn := fun _ => fun
  | [d] => { results := [.lit (.bool false)], args := [d] }
  | _ => none }
def PrintsWrongFalsely : Prop := printsRow.holds Tryd.pinned (OpenSpec.ofChange printsWrong)

/-- 'hartkeep.Alike': WHATEVER THE INPUT: true; the input reads as it did. -/
def alikeSpec : ChangeSpec := { name := "alike", fn := fun _ => fun
  | [d1, d2, d3] => { results := [.lit (.bool true)], args := [d1, d2, d3] }
  | _ => none }
def alikeRow : OpenClaim := { program := "ytdcmdjeooklmjaadoor", sum := "4c07156e0f0d43c39fd34fc6f8fe610b538a4d9c533eb26c004cda64c607ed8d", func := "hart/hartkeep.Alike", spec := "alike", unfollowed := true, recurses := true, named := ["hart/code.shortRows", "hart/code.rows"], apart := false, laid := [("hart/code.shortRows", laid_hart_code_shortRows), ("hart/code.rows", laid_hart_code_rows)] }
def AlikeSaid : Prop := alikeRow.holds Tryd.pinned (OpenSpec.ofChange alikeSpec)

/-- ITS FALSE NEIGHBOUR: 'it returns false'. Refute it at one input. -/
def alikeWrong : ChangeSpec := { name := "alike", fn := fun _ => fun
  | [d1, d2, d3] => { results := [.lit (.bool false)], args := [d1, d2, d3] }
  | _ => none }
def AlikeWrongFalsely : Prop := alikeRow.holds Tryd.pinned (OpenSpec.ofChange alikeWrong)

/-- 'hartkeep.Lively': WHATEVER THE INPUT: true; the input reads as it did. -/
def livelySpec : ChangeSpec := { name := "lively", fn := fun _ => fun
  | [d1, d2] => { results := [.lit (.bool true)], args := [d1, d2] }
  | _ => none }
def livelyRow : OpenClaim := { program := "ytdcmdjeooklmjaadoor", sum := "4c07156e0f0d43c39fd34fc6f8fe610b538a4d9c533eb26c004cda64c607ed8d", func := "hart/hartkeep.Lively", spec := "lively", unfollowed := true, recurses := true, named := ["hart/code.shortRows", "hart/code.rows"], apart := false, laid := [("hart/code.shortRows", laid_hart_code_shortRows), ("hart/code.rows", laid_hart_code_rows)] }
def LivelySaid : Prop := livelyRow.holds Tryd.pinned (OpenSpec.ofChange livelySpec)

/-- ITS FALSE NEIGHBOUR: 'it returns false'. Refute it at one input. -/
def livelyWrong : ChangeSpec := { name := "lively", fn := fun _ => fun
  | [d1, d2] => { results := [.lit (.bool false)], args := [d1, d2] }
  | _ => none }
def LivelyWrongFalsely : Prop := livelyRow.holds Tryd.pinned (OpenSpec.ofChange livelyWrong)

/-- 'hartkeep.Products': WHATEVER THE INPUT: true; the input reads as it did. -/
def productsSpec : ChangeSpec := { name := "products", fn := fun _ => fun
  | [d1, d2] => { results := [.lit (.bool true)], args := [d1, d2] }
  | _ => none }
def productsRow : OpenClaim := { program := "ytdcmdjeooklmjaadoor", sum := "4c07156e0f0d43c39fd34fc6f8fe610b538a4d9c533eb26c004cda64c607ed8d", func := "hart/hartkeep.Products", spec := "products", unfollowed := true, recurses := true, named := ["hart/code.rows", "hart/code.shortRows"], apart := false, laid := [("hart/code.shortRows", laid_hart_code_shortRows), ("hart/code.rows", laid_hart_code_rows)] }
def ProductsSaid : Prop := productsRow.holds Tryd.pinned (OpenSpec.ofChange productsSpec)

/-- ITS FALSE NEIGHBOUR: 'it returns false'. Refute it at one input. -/
def productsWrong : ChangeSpec := { name := "products", fn := fun _ => fun
  | [d1, d2] => { results := [.lit (.bool false)], args := [d1, d2] }
  | _ => none }
def ProductsWrongFalsely : Prop := productsRow.holds Tryd.pinned (OpenSpec.ofChange productsWrong)

/- THE SECOND FORM. 'bulk': how many values and letters a reading holds, each counted each time it is reached (what is shared counts as often as it is met; a slice's spare places count too). A statement '..UptoSaid' is the law's where the arguments, and the package variables that the reading takes, are together of bulk at most 1048576: NARROWER than '..Said'. Prove '..Said' where nothing that the law and all that it calls make is longer than what came in: it says more and counts as full. Else prove '..UptoSaid'. A law counts once. -/
mutual
def uptoBulk {H : Type} : DataW H → Nat
  | .lit (.string bytes) => bytes.length + 1
  | .lit _ => 1
  | .nil => 1
  | .ptr d => uptoBulk d + 1
  | .slice elems spare => uptoBulkAll elems + uptoBulkAll spare + 1
  | .agg parts => uptoBulkAll parts + 1
  | .iface _ d => uptoBulk d + 1
  | .map entries => uptoBulkEntries entries + 1
  | .held _ => 1
def uptoBulkAll {H : Type} : List (DataW H) → Nat
  | [] => 0
  | d :: r => uptoBulk d + uptoBulkAll r
def uptoBulkEntries {H : Type} : List (Lit × DataW H) → Nat
  | [] => 0
  | x :: r => uptoBulkEntry x + uptoBulkEntries r
def uptoBulkEntry {H : Type} : Lit × DataW H → Nat
  | (.string bytes, d) => bytes.length + uptoBulk d + 1
  | (_, d) => uptoBulk d + 1
 end
def uptoSmall : (H : Type) → List (DataW H) → Bool := fun _ ds => decide (uptoBulkAll ds ≤ 1048576)
def OpenSpec.upto (s : _root_.Go.ChangeSpec) : _root_.Go.OpenSpec := { _root_.Go.OpenSpec.ofChange s with cond := some uptoSmall }

/-- 'hartlaw.Codes', WHERE WHAT IT READS IS OF BULK AT MOST 1048576: true; the input reads as it did. -/
def codesUptoRow : OpenClaim := { program := "ytdcmdjeooklmjaadoor", sum := "4c07156e0f0d43c39fd34fc6f8fe610b538a4d9c533eb26c004cda64c607ed8d", func := "hart/hartlaw.Codes", spec := "codes", named := ["hart/code.rows"], apart := false, laid := [("hart/code.rows", laid_hart_code_rows)], narrowed := true }
def CodesUptoSaid : Prop := codesUptoRow.holds Tryd.pinned (OpenSpec.upto codesSpec)

/-- 'hartkeep.Round', WHERE WHAT IT READS IS OF BULK AT MOST 1048576: true; the input reads as it did. -/
def roundUptoRow : OpenClaim := { program := "ytdcmdjeooklmjaadoor", sum := "4c07156e0f0d43c39fd34fc6f8fe610b538a4d9c533eb26c004cda64c607ed8d", func := "hart/hartkeep.Round", spec := "round", named := ["hart/code.rows"], apart := false, laid := [("hart/code.rows", laid_hart_code_rows)], narrowed := true }
def RoundUptoSaid : Prop := roundUptoRow.holds Tryd.pinned (OpenSpec.upto roundSpec)

/-- 'hartlaw.Shorts', WHERE WHAT IT READS IS OF BULK AT MOST 1048576: true; the input reads as it did. -/
def shortsUptoRow : OpenClaim := { program := "ytdcmdjeooklmjaadoor", sum := "4c07156e0f0d43c39fd34fc6f8fe610b538a4d9c533eb26c004cda64c607ed8d", func := "hart/hartlaw.Shorts", spec := "shorts", named := ["hart/code.shortRows", "hart/code.rows"], apart := false, laid := [("hart/code.shortRows", laid_hart_code_shortRows), ("hart/code.rows", laid_hart_code_rows)], narrowed := true }
def ShortsUptoSaid : Prop := shortsUptoRow.holds Tryd.pinned (OpenSpec.upto shortsSpec)

/-- 'hartkeep.Pressed', WHERE WHAT IT READS IS OF BULK AT MOST 1048576: true; the input reads as it did. -/
def pressedUptoRow : OpenClaim := { program := "ytdcmdjeooklmjaadoor", sum := "4c07156e0f0d43c39fd34fc6f8fe610b538a4d9c533eb26c004cda64c607ed8d", func := "hart/hartkeep.Pressed", spec := "pressed", named := ["hart/code.shortRows", "hart/code.rows"], apart := false, laid := [("hart/code.shortRows", laid_hart_code_shortRows), ("hart/code.rows", laid_hart_code_rows)], narrowed := true }
def PressedUptoSaid : Prop := pressedUptoRow.holds Tryd.pinned (OpenSpec.upto pressedSpec)

/-- 'hartlaw.Prints', WHERE WHAT IT READS IS OF BULK AT MOST 1048576: true; the input reads as it did. -/
def printsUptoRow : OpenClaim := { program := "ytdcmdjeooklmjaadoor", sum := "4c07156e0f0d43c39fd34fc6f8fe610b538a4d9c533eb26c004cda64c607ed8d", func := "hart/hartlaw.Prints", spec := "prints", inPlace := ["internal/abi.NoEscape", "internal/bytealg.MakeNoZero"], unfollowed := true, recurses := true, named := ["hart/code.rows", "internal/strconv.uint64pow10", "math/bits.deBruijn32tab", "math/bits.deBruijn64tab", "strings.asciiSpace", "unicode.White_Space"], apart := false, laid := [("math/bits.deBruijn32tab", laid_math_bits_deBruijn32tab), ("math/bits.deBruijn64tab", laid_math_bits_deBruijn64tab), ("hart/code.rows", laid_hart_code_rows), ("internal/strconv.uint64pow10", laid_internal_strconv_uint64pow10), ("unicode.White_Space", laid_unicode_White_Space), ("strings.asciiSpace", laid_strings_asciiSpace)], narrowed := true }
def PrintsUptoSaid : Prop := printsUptoRow.holds Tryd.pinned (OpenSpec.upto printsSpec)

/-- 'hartkeep.Alike', WHERE WHAT IT READS IS OF BULK AT MOST 1048576: true; the input reads as it did. -/
def alikeUptoRow : OpenClaim := { program := "ytdcmdjeooklmjaadoor", sum := "4c07156e0f0d43c39fd34fc6f8fe610b538a4d9c533eb26c004cda64c607ed8d", func := "hart/hartkeep.Alike", spec := "alike", unfollowed := true, recurses := true, named := ["hart/code.shortRows", "hart/code.rows"], apart := false, laid := [("hart/code.shortRows", laid_hart_code_shortRows), ("hart/code.rows", laid_hart_code_rows)], narrowed := true }
def AlikeUptoSaid : Prop := alikeUptoRow.holds Tryd.pinned (OpenSpec.upto alikeSpec)

/-- 'hartkeep.Lively', WHERE WHAT IT READS IS OF BULK AT MOST 1048576: true; the input reads as it did. -/
def livelyUptoRow : OpenClaim := { program := "ytdcmdjeooklmjaadoor", sum := "4c07156e0f0d43c39fd34fc6f8fe610b538a4d9c533eb26c004cda64c607ed8d", func := "hart/hartkeep.Lively", spec := "lively", unfollowed := true, recurses := true, named := ["hart/code.shortRows", "hart/code.rows"], apart := false, laid := [("hart/code.shortRows", laid_hart_code_shortRows), ("hart/code.rows", laid_hart_code_rows)], narrowed := true }
def LivelyUptoSaid : Prop := livelyUptoRow.holds Tryd.pinned (OpenSpec.upto livelySpec)

/-- 'hartkeep.Products', WHERE WHAT IT READS IS OF BULK AT MOST 1048576: true; the input reads as it did. -/
def productsUptoRow : OpenClaim := { program := "ytdcmdjeooklmjaadoor", sum := "4c07156e0f0d43c39fd34fc6f8fe610b538a4d9c533eb26c004cda64c607ed8d", func := "hart/hartkeep.Products", spec := "products", unfollowed := true, recurses := true, named := ["hart/code.rows", "hart/code.shortRows"], apart := false, laid := [("hart/code.shortRows", laid_hart_code_shortRows), ("hart/code.rows", laid_hart_code_rows)], narrowed := true }
def ProductsUptoSaid : Prop := productsUptoRow.holds Tryd.pinned (OpenSpec.upto productsSpec)

end Rows
end Go.Proofs.YtdcmdjeooklmjaaDoor
