/-
  Several texts put together (part 2): what the law and the program call, walked; their contracts.
-/
import Derived.Shelf.Strings.Builder1
import Derived.Shelf.Small.Utf8
import Derived.Shelf.Small.Strs
import Derived.Shelf.Strings.BuilderF
import Derived.Shelf.Strings.BuilderK
import Derived.Shelf.Strings.Search1
import Derived.Shelf.Strings.Search2
import Derived.Shelf.Strings.Search3
import Derived.Shelf.LaysM
import Derived.Shelf.Strings.Shaped
import Derived.Shelf.Strings.Runes
import Derived.Shelf.Strings.IndexAny
import Derived.Shelf.Strings.AsciiSet
import Derived.Shelf.Strings.IndexAnyAll
import Derived.Shelf.Unicode.DecodeSlow
import Derived.Shelf.Unicode.DecodeAny
import Derived.Shelf.Unicode.ValidAny
import Derived.Shelf.Strings.BuilderCap
import Derived.Test.YtmceblemiboedaaDoorProg
import Derived.Lib.Bytealg
import Derived.Lib.Strings
import Derived.Lib.FrozenHead2
import Derived.Lib.OthersKept
import Derived.Laws.RangeAny
import Derived.Laws.RangeString
import Derived.Lib.TrimU
import Derived.Test.YtmceblemiboedaaDoorM1
/-
  DERIVED: THE SHELF's CONTRACTS AT THIS DUMP, IN PLAIN WORDS (tools/lay-plain.mjs out of 'TrydShelf.lean', which tools/lay-shelf.mjs wrote): THE SAME DECLARATIONS UNDER THE SAME NAMES: 'import', 'namespace', 'open', 'def', 'theorem' AND NOTHING ELSE: no command of the shelf's: FOR A HAND-IN. Each laying: the table of numbers ('.._ren') and one theorem, a field a fact of the dump's own or the kernel's comparison; each contract: ONE APPLICATION.
-/
namespace Go.Proofs
open Go.Shelf
def Tryd.lays169_ren : Go.Shelf.Ren := ⟨fun | 169 => 47 | n => n, fun | 70 => 68 | 9 => 9 | 0 => 0 | 72 => 70 | 37 => 58 | 127 => 91 | 3 => 3 | 5 => 5 | n => n, fun | n => n⟩
theorem Tryd.lays169 : Go.Proofs.Lays.n169 Tryd.prog Tryd.lays169_ren := {
  mixed := by kernel_rfl
  f169 := Tryd.func47.trans (congrArg some (by kernel_rfl))
  t0 := Tryd.underlying0
  a0 := Tryd.isAgg0
  z0 := Tryd.sizeOf0
  v0 := Tryd.zeroValue0
  t3 := Tryd.underlying3
  a3 := Tryd.isAgg3
  z3 := Tryd.sizeOf3
  v3 := Tryd.zeroValue3
  t9 := Tryd.underlying9
  a9 := Tryd.isAgg9
  z9 := Tryd.sizeOf9
  v9 := Tryd.zeroValue9
  t37 := Tryd.underlying58
  a37 := Tryd.isAgg58
  z37 := Tryd.sizeOf58
  v37 := Tryd.zeroValue58
  t70 := Tryd.underlying68
  a70 := Tryd.isAgg68
  z70 := Tryd.sizeOf68
  v70 := Tryd.zeroValue68
  t72 := Tryd.underlying70
  a72 := Tryd.isAgg70
  z72 := Tryd.sizeOf70
  v72 := Tryd.zeroValue70
  t127 := Tryd.underlying91
  a127 := Tryd.isAgg91
  z127 := Tryd.sizeOf91
  v127 := Tryd.zeroValue91 }
theorem Tryd.Builder_Extra_169 : Builder.Extra Tryd.prog Tryd.lays169_ren := {
  sizeBuilder := by kernel_rfl
  liesBuilder := by kernel_rfl
  t5 := Tryd.underlying5
  a5 := Tryd.isAgg5
  z5 := Tryd.sizeOf5
  v5 := Tryd.zeroValue5
  infoByte := by kernel_rfl
  cellsByte := by kernel_rfl
  sizeByte := by kernel_rfl
  neB5 := by decide }
open Go.RowKit in
/-- (*strings.Builder).String: "String returns the accumulated string.": OF A BUILDER THAT HOLDS AT LEAST ONE BYTE. ✋ THE MODEL FREEZES THOSE BYTES IN THE BUFFER (unsafe.String): a later write INTO them ends the model's run without an answer; a later append BEHIND them goes on. The statement's order of evaluation is drawn: one draw. (LAID: no walk: one application.) -/
theorem Tryd.Builder_String (B b : Nat) (l : List UInt8) (w : World) (h : Lib.IsBuilder 70 5 B b (Lib.byteCells l) w) (h0 : l ≠ []) :
    Calls Tryd.prog 47 #[.pointer (some ⟨b, 0, none⟩)] w fun e w' => e = .returned (.string ⟨l.toArray⟩) ∧ Below B w w' := Any.Builder_String Tryd.lays169 Tryd.Builder_Extra_169 B b l w h h0
open Go.RowKit in
/-- (*strings.Builder).String OF A BUILDER THAT HOLDS NO BYTE: the empty string. (Its buffer is nil, or a row of which it has taken nothing yet; where that row has NO capacity the model lays one new block for unsafe.SliceData's 'some address'.) One draw. (LAID: no walk: one application.) -/
theorem Tryd.Builder_String_empty (B b : Nat) (w : World) (h : Lib.IsBuilder 70 5 B b [] w) (hBw : B ≤ w.heap.size) :
    Calls Tryd.prog 47 #[.pointer (some ⟨b, 0, none⟩)] w fun e w' => e = .returned (.string ⟨#[]⟩) ∧ Below B w w' := Any.Builder_String_empty Tryd.lays169 Tryd.Builder_Extra_169 B b w h hBw
open Go.RowKit in
/-- (*strings.Builder).String: "String returns the accumulated string.": WHATEVER THE BUILDER HOLDS. (LAID: no walk: one application.) -/
theorem Tryd.Builder_String_any (B b : Nat) (l : List UInt8) (w : World) (h : Lib.IsBuilder 70 5 B b (Lib.byteCells l) w) (hBw : B ≤ w.heap.size) :
    Calls Tryd.prog 47 #[.pointer (some ⟨b, 0, none⟩)] w fun e w' => e = .returned (.string ⟨l.toArray⟩) ∧ Below B w w' := Any.Builder_String_any Tryd.lays169 Tryd.Builder_Extra_169 B b l w h hBw
def Tryd.lays119_ren : Go.Shelf.Ren := ⟨fun | 119 => 96 | n => n, fun | 21 => 21 | 4 => 4 | n => n, fun | n => n⟩
theorem Tryd.lays119 : Go.Proofs.Lays.n119 Tryd.prog Tryd.lays119_ren := {
  mixed := by kernel_rfl
  f119 := Tryd.func96.trans (congrArg some (by kernel_rfl))
  t4 := Tryd.underlying4
  a4 := Tryd.isAgg4
  z4 := Tryd.sizeOf4
  v4 := Tryd.zeroValue4
  t21 := Tryd.underlying21
  a21 := Tryd.isAgg21
  z21 := Tryd.sizeOf21
  v21 := Tryd.zeroValue21 }
/-- utf8.ValidRune: "ValidRune reports whether r can be legally encoded as UTF-8. Code points that are out of range or a surrogate half are illegal.": IT RETURNS 'Lib.validRune r'; the world is as it was. (LAID: no walk: one application.) -/
theorem Tryd.utf8_ValidRune (r : Int) (w : World) :
    Calls Tryd.prog 96 #[.int .i32 r] w fun e w' => e = .returned (.bool (Lib.validRune r)) ∧ w' = w := Any.utf8_ValidRune Tryd.lays119 r w
def Tryd.lays137_ren : Go.Shelf.Ren := ⟨fun | 137 => 87 | 217 => 92 | 266 => 100 | n => n, fun | 9 => 9 | 5 => 5 | 3 => 3 | n => n, fun | n => n⟩
theorem Tryd.lays137 : Go.Proofs.Lays.n137 Tryd.prog Tryd.lays137_ren := {
  mixed := by kernel_rfl
  f137 := Tryd.func87.trans (congrArg some (by kernel_rfl))
  f217 := Tryd.func92.trans (congrArg some (by kernel_rfl))
  f266 := Tryd.func100.trans (congrArg some (by kernel_rfl))
  t3 := Tryd.underlying3
  a3 := Tryd.isAgg3
  z3 := Tryd.sizeOf3
  v3 := Tryd.zeroValue3
  t5 := Tryd.underlying5
  a5 := Tryd.isAgg5
  z5 := Tryd.sizeOf5
  v5 := Tryd.zeroValue5
  t9 := Tryd.underlying9
  a9 := Tryd.isAgg9
  z9 := Tryd.sizeOf9
  v9 := Tryd.zeroValue9 }
open Go.RowKit in
/-- strings.IndexByte: "IndexByte returns the index of the first instance of c in s, or -1 if c is not present in s.": IT RETURNS 'Lib.indexByte s c'; the world is as it was. (LAID: no walk: one application.) -/
theorem Tryd.strings_IndexByte (s : ByteArray) (c : Int) (w : World) :
    Calls Tryd.prog 87 #[.string s, .int .u8 c] w fun e w' => e = .returned (.int .i64 (Lib.indexByte s.data.toList c.toNat.toUInt8)) ∧ w' = w := Any.strings_IndexByte Tryd.lays137 s c w
open Go.RowKit in
/-- (*strings.Builder).String: "String returns the accumulated string.": OF A BUILDER THAT HOLDS AT LEAST ONE BYTE. ✋ THE MODEL FREEZES THOSE BYTES IN THE BUFFER (unsafe.String): a later write INTO them ends the model's run without an answer; a later append BEHIND them goes on. The statement's order of evaluation is drawn: one draw. THE FORM '_f': IT SAYS BESIDES THAT THE BUILDER IS A BUILDER STILL ('Lib.IsBuilderF', the same bytes): SO IT CAN BE WRITTEN ON: 'b.WriteString(b.String()[:k])'. (LAID: no walk: one application.) -/
theorem Tryd.Builder_String_f (B b : Nat) (l : List UInt8) (w : World) (h : Lib.IsBuilderF 70 5 B b (Lib.byteCells l) w) (h0 : l ≠ []) :
    Calls Tryd.prog 47 #[.pointer (some ⟨b, 0, none⟩)] w fun e w' => e = .returned (.string ⟨l.toArray⟩) ∧ (Lib.IsBuilderF 70 5 B b (Lib.byteCells l) w' ∧ Below B w w') := Any.Builder_String_f Tryd.lays169 Tryd.Builder_Extra_169 B b l w h h0
open Go.RowKit in
/-- (*strings.Builder).String OF A BUILDER THAT HOLDS NO BYTE: the empty string; THE FORM '_f': a builder still. (LAID: no walk: one application.) -/
theorem Tryd.Builder_String_empty_f (B b : Nat) (w : World) (h : Lib.IsBuilderF 70 5 B b [] w) (hBw : B ≤ w.heap.size) :
    Calls Tryd.prog 47 #[.pointer (some ⟨b, 0, none⟩)] w fun e w' => e = .returned (.string ⟨#[]⟩) ∧ (Lib.IsBuilderF 70 5 B b [] w' ∧ Below B w w') := Any.Builder_String_empty_f Tryd.lays169 Tryd.Builder_Extra_169 B b w h hBw
open Go.RowKit in
/-- (*strings.Builder).String: "String returns the accumulated string.": WHATEVER THE BUILDER HOLDS; THE FORM '_f': OF A BUILDER THAT MAY HAVE BEEN READ BEFORE; AND IT IS A BUILDER STILL, holding the same bytes: it can be written on. (LAID: no walk: one application.) -/
theorem Tryd.Builder_String_any_f (B b : Nat) (l : List UInt8) (w : World) (h : Lib.IsBuilderF 70 5 B b (Lib.byteCells l) w) (hBw : B ≤ w.heap.size) :
    Calls Tryd.prog 47 #[.pointer (some ⟨b, 0, none⟩)] w fun e w' => e = .returned (.string ⟨l.toArray⟩) ∧ (Lib.IsBuilderF 70 5 B b (Lib.byteCells l) w' ∧ Below B w w') := Any.Builder_String_any_f Tryd.lays169 Tryd.Builder_Extra_169 B b l w h hBw
open Go.RowKit in
/-- (*strings.Builder).String: "String returns the accumulated string.": OF A BUILDER THAT HOLDS AT LEAST ONE BYTE. ✋ THE MODEL FREEZES THOSE BYTES IN THE BUFFER (unsafe.String): a later write INTO them ends the model's run without an answer; a later append BEHIND them goes on. The statement's order of evaluation is drawn: one draw. THE FORM '_k': OVER 'Lib.IsBuilderF' (a builder that 'String()' may have read), AND WITH THE FRAME THAT REACHES ABOVE THE BUILDER: 'Lib.OthersKept': every block that is not b and is no row of uint8's stands as it stood: the iterator of a range among them. (LAID: no walk: one application.) -/
theorem Tryd.Builder_String_k (B b : Nat) (l : List UInt8) (w : World) (h : Lib.IsBuilderF 70 5 B b (Lib.byteCells l) w) (h0 : l ≠ []) :
    Calls Tryd.prog 47 #[.pointer (some ⟨b, 0, none⟩)] w fun e w' => e = .returned (.string ⟨l.toArray⟩) ∧ (Lib.IsBuilderF 70 5 B b (Lib.byteCells l) w' ∧ Below B w w' ∧ Lib.OthersKept 5 (some b) w w') := Any.Builder_String_k Tryd.lays169 Tryd.Builder_Extra_169 B b l w h h0
open Go.RowKit in
/-- (*strings.Builder).String OF A BUILDER THAT HOLDS NO BYTE: the empty string; THE FORM '_k': OVER 'Lib.IsBuilderF' (a builder that 'String()' may have read), AND WITH THE FRAME THAT REACHES ABOVE THE BUILDER: 'Lib.OthersKept': every block that is not b and is no row of uint8's stands as it stood: the iterator of a range among them. (LAID: no walk: one application.) -/
theorem Tryd.Builder_String_empty_k (B b : Nat) (w : World) (h : Lib.IsBuilderF 70 5 B b [] w) (hBw : B ≤ w.heap.size) :
    Calls Tryd.prog 47 #[.pointer (some ⟨b, 0, none⟩)] w fun e w' => e = .returned (.string ⟨#[]⟩) ∧ (Lib.IsBuilderF 70 5 B b [] w' ∧ Below B w w' ∧ Lib.OthersKept 5 (some b) w w') := Any.Builder_String_empty_k Tryd.lays169 Tryd.Builder_Extra_169 B b w h hBw
open Go.RowKit in
/-- (*strings.Builder).String: "String returns the accumulated string.": WHATEVER THE BUILDER HOLDS; THE FORM '_k': OVER 'Lib.IsBuilderF' (a builder that 'String()' may have read), AND WITH THE FRAME THAT REACHES ABOVE THE BUILDER: 'Lib.OthersKept': every block that is not b and is no row of uint8's stands as it stood: the iterator of a range among them. (LAID: no walk: one application.) -/
theorem Tryd.Builder_String_any_k (B b : Nat) (l : List UInt8) (w : World) (h : Lib.IsBuilderF 70 5 B b (Lib.byteCells l) w) (hBw : B ≤ w.heap.size) :
    Calls Tryd.prog 47 #[.pointer (some ⟨b, 0, none⟩)] w fun e w' => e = .returned (.string ⟨l.toArray⟩) ∧ (Lib.IsBuilderF 70 5 B b (Lib.byteCells l) w' ∧ Below B w w' ∧ Lib.OthersKept 5 (some b) w w') := Any.Builder_String_any_k Tryd.lays169 Tryd.Builder_Extra_169 B b l w h hBw
def Tryd.lays217_ren : Go.Shelf.Ren := ⟨fun | 217 => 92 | 266 => 100 | n => n, fun | 9 => 9 | 5 => 5 | 3 => 3 | n => n, fun | n => n⟩
theorem Tryd.lays217 : Go.Proofs.Lays.n217 Tryd.prog Tryd.lays217_ren := {
  mixed := by kernel_rfl
  f217 := Tryd.func92.trans (congrArg some (by kernel_rfl))
  f266 := Tryd.func100.trans (congrArg some (by kernel_rfl))
  t3 := Tryd.underlying3
  a3 := Tryd.isAgg3
  z3 := Tryd.sizeOf3
  v3 := Tryd.zeroValue3
  t5 := Tryd.underlying5
  a5 := Tryd.isAgg5
  z5 := Tryd.sizeOf5
  v5 := Tryd.zeroValue5
  t9 := Tryd.underlying9
  a9 := Tryd.isAgg9
  z9 := Tryd.sizeOf9
  v9 := Tryd.zeroValue9 }
open Go.RowKit Go.Lib in
/-- internal/stringslite.IndexByte (what strings.IndexByte calls): IT RETURNS 'Lib.indexByte s c'; the world is as it was. (LAID: no walk: one application.) -/
theorem Tryd.stringslite_IndexByte (s : ByteArray) (c : Int) (w : World) :
    Calls Tryd.prog 92 #[.string s, .int .u8 c] w fun e w' => e = .returned (.int .i64 (Lib.indexByte s.data.toList c.toNat.toUInt8)) ∧ w' = w := Any.stringslite_IndexByte Tryd.lays217 s c w
def Tryd.lays224_ren : Go.Shelf.Ren := ⟨fun | 224 => 94 | n => n, fun | 3 => 3 | n => n, fun | n => n⟩
theorem Tryd.lays224 : Go.Proofs.Lays.n224 Tryd.prog Tryd.lays224_ren := {
  mixed := by kernel_rfl
  f224 := Tryd.func94.trans (congrArg some (by kernel_rfl))
  t3 := Tryd.underlying3
  a3 := Tryd.isAgg3
  z3 := Tryd.sizeOf3
  v3 := Tryd.zeroValue3 }
open Go.RowKit Go.Lib in
/-- internal/bytealg.Cutover: "Cutover reports the number of failures of IndexByte we should tolerate before switching over to Index. n is the number of bytes processed so far.": on amd64: (n + 16) / 8. (LAID: no walk: one application.) -/
theorem Tryd.bytealg_Cutover (n : Int) (h0 : 0 ≤ n) (h1 : n < 4611686018427387904) (w : World) :
    Calls Tryd.prog 94 #[.int .i64 n] w fun e w' => e = .returned (.int .i64 ((n + 16) / 8)) ∧ w' = w := Any.bytealg_Cutover Tryd.lays224 n h0 h1 w
def Tryd.lays314_ren : Go.Shelf.Ren := ⟨fun | 314 => 101 | n => n, fun | 9 => 9 | 51 => 112 | 3 => 3 | 4 => 4 | 5 => 5 | 46 => 87 | n => n, fun | n => n⟩
theorem Tryd.lays314 : Go.Proofs.Lays.n314 Tryd.prog Tryd.lays314_ren := {
  mixed := by kernel_rfl
  f314 := Tryd.func101.trans (congrArg some (by kernel_rfl))
  t3 := Tryd.underlying3
  a3 := Tryd.isAgg3
  z3 := Tryd.sizeOf3
  v3 := Tryd.zeroValue3
  t4 := Tryd.underlying4
  a4 := Tryd.isAgg4
  z4 := Tryd.sizeOf4
  v4 := Tryd.zeroValue4
  t5 := Tryd.underlying5
  a5 := Tryd.isAgg5
  z5 := Tryd.sizeOf5
  v5 := Tryd.zeroValue5
  t9 := Tryd.underlying9
  a9 := Tryd.isAgg9
  z9 := Tryd.sizeOf9
  v9 := Tryd.zeroValue9
  t46 := Tryd.underlying87
  a46 := Tryd.isAgg87
  z46 := Tryd.sizeOf87
  v46 := Tryd.zeroValue87
  t51 := Tryd.underlying112
  a51 := Tryd.isAgg112
  z51 := Tryd.sizeOf112
  v51 := Tryd.zeroValue112 }
open Go.RowKit Go.Lib in
/-- hashStr: "returns the hash and the appropriate multiplicative factor for use in Rabin-Karp algorithm": THE HASH OF ALL OF sep, AND 16777619 ^ len(sep), both in uint32. (LAID: no walk: one application.) -/
theorem Tryd.bytealg_hashStr (sep : ByteArray) (hs : sep.size < 4294967281) (w : World) :
    Calls Tryd.prog 101 #[.string sep] w fun e w' => e = .returned (.tuple #[.int .u32 (RK.H sep.data.toList % 4294967296), .int .u32 (16777619 ^ sep.size % 4294967296)]) ∧ w' = w := Any.bytealg_hashStr Tryd.lays314 sep hs w
def Tryd.lays267_ren : Go.Shelf.Ren := ⟨fun | 267 => 95 | 314 => 101 | n => n, fun | 9 => 9 | 3 => 3 | 146 => 113 | 51 => 112 | 4 => 4 | 5 => 5 | 46 => 87 | n => n, fun | n => n⟩
theorem Tryd.lays267 : Go.Proofs.Lays.n267 Tryd.prog Tryd.lays267_ren := {
  mixed := by kernel_rfl
  f267 := Tryd.func95.trans (congrArg some (by kernel_rfl))
  f314 := Tryd.func101.trans (congrArg some (by kernel_rfl))
  t3 := Tryd.underlying3
  a3 := Tryd.isAgg3
  z3 := Tryd.sizeOf3
  v3 := Tryd.zeroValue3
  t4 := Tryd.underlying4
  a4 := Tryd.isAgg4
  z4 := Tryd.sizeOf4
  v4 := Tryd.zeroValue4
  t5 := Tryd.underlying5
  a5 := Tryd.isAgg5
  z5 := Tryd.sizeOf5
  v5 := Tryd.zeroValue5
  t9 := Tryd.underlying9
  a9 := Tryd.isAgg9
  z9 := Tryd.sizeOf9
  v9 := Tryd.zeroValue9
  t46 := Tryd.underlying87
  a46 := Tryd.isAgg87
  z46 := Tryd.sizeOf87
  v46 := Tryd.zeroValue87
  t51 := Tryd.underlying112
  a51 := Tryd.isAgg112
  z51 := Tryd.sizeOf112
  v51 := Tryd.zeroValue112
  t146 := Tryd.underlying113
  a146 := Tryd.isAgg113
  z146 := Tryd.sizeOf113
  v146 := Tryd.zeroValue113 }
open Go.RowKit Go.Lib in
theorem Tryd.bytealg_IndexRabinKarp (s sep : ByteArray) (h1 : 1 ≤ sep.size) (h2 : sep.size ≤ s.size) (hs : s.size < 4294967281) (w : World) :
    Calls Tryd.prog 95 #[.string s, .string sep] w fun e w' => e = .returned (.int .i64 (Lib.index s.data.toList sep.data.toList)) ∧ w' = w := Any.bytealg_IndexRabinKarp Tryd.lays267 s sep h1 h2 hs w
def Tryd.lays219_ren : Go.Shelf.Ren := ⟨fun | 219 => 73 | 217 => 92 | 225 => 93 | 224 => 94 | 267 => 95 | 266 => 100 | 314 => 101 | n => n, fun | 9 => 9 | 3 => 3 | 4 => 4 | 5 => 5 | 46 => 87 | 146 => 113 | 51 => 112 | n => n, fun | 1 => 2 | n => n⟩
theorem Tryd.lays219 : Go.Proofs.Lays.n219 Tryd.prog Tryd.lays219_ren := {
  mixed := by kernel_rfl
  f217 := Tryd.func92.trans (congrArg some (by kernel_rfl))
  f219 := Tryd.func73.trans (congrArg some (by kernel_rfl))
  f224 := Tryd.func94.trans (congrArg some (by kernel_rfl))
  f225 := Tryd.func93.trans (congrArg some (by kernel_rfl))
  f266 := Tryd.func100.trans (congrArg some (by kernel_rfl))
  f267 := Tryd.func95.trans (congrArg some (by kernel_rfl))
  f314 := Tryd.func101.trans (congrArg some (by kernel_rfl))
  t3 := Tryd.underlying3
  a3 := Tryd.isAgg3
  z3 := Tryd.sizeOf3
  v3 := Tryd.zeroValue3
  t4 := Tryd.underlying4
  a4 := Tryd.isAgg4
  z4 := Tryd.sizeOf4
  v4 := Tryd.zeroValue4
  t5 := Tryd.underlying5
  a5 := Tryd.isAgg5
  z5 := Tryd.sizeOf5
  v5 := Tryd.zeroValue5
  t9 := Tryd.underlying9
  a9 := Tryd.isAgg9
  z9 := Tryd.sizeOf9
  v9 := Tryd.zeroValue9
  t46 := Tryd.underlying87
  a46 := Tryd.isAgg87
  z46 := Tryd.sizeOf87
  v46 := Tryd.zeroValue87
  t51 := Tryd.underlying112
  a51 := Tryd.isAgg112
  z51 := Tryd.sizeOf112
  v51 := Tryd.zeroValue112
  t146 := Tryd.underlying113
  a146 := Tryd.isAgg113
  z146 := Tryd.sizeOf113
  v146 := Tryd.zeroValue113
  g1 := by kernel_rfl }
open Go.RowKit Go.Lib in
/-- internal/stringslite.Index (what strings.Index calls) AT A substr OF ONE BYTE c: IT RETURNS 'Lib.indexByte s c'; the world is as it was. (LAID: no walk: one application.) -/
theorem Tryd.stringslite_Index_one (s : ByteArray) (c : UInt8) (w : World) :
    Calls Tryd.prog 73 #[.string s, .string ⟨#[c]⟩] w fun e w' => e = .returned (.int .i64 (Lib.indexByte s.data.toList c)) ∧ w' = w := Any.stringslite_Index_one Tryd.lays219 s c w
open Go.RowKit Go.Lib in
/-- internal/stringslite.Index (what strings.Index calls) AT A substr OF WHATEVER LENGTH: IT RETURNS 'Lib.index s substr'; the world is as it was. 'm': what internal/bytealg.MaxLen holds: whatever. (LAID: no walk: one application.) -/
theorem Tryd.stringslite_Index (s sub : ByteArray) (m : Int) (w : World) (hs : s.size < 4294967281) (hm : w.cell? ⟨2, 0, none⟩ = some (.int .i64 m)) :
    Calls Tryd.prog 73 #[.string s, .string sub] w fun e w' => e = .returned (.int .i64 (Lib.index s.data.toList sub.data.toList)) ∧ w' = w := Any.stringslite_Index Tryd.lays219 s sub m w hs hm
def Tryd.lays143_ren : Go.Shelf.Ren := ⟨fun | 143 => 55 | 219 => 73 | 217 => 92 | 225 => 93 | 224 => 94 | 267 => 95 | 266 => 100 | 314 => 101 | n => n, fun | 9 => 9 | 3 => 3 | 4 => 4 | 5 => 5 | 46 => 87 | 146 => 113 | 51 => 112 | n => n, fun | 1 => 2 | n => n⟩
theorem Tryd.lays143 : Go.Proofs.Lays.n143 Tryd.prog Tryd.lays143_ren := {
  mixed := by kernel_rfl
  f143 := Tryd.func55.trans (congrArg some (by kernel_rfl))
  f217 := Tryd.func92.trans (congrArg some (by kernel_rfl))
  f219 := Tryd.func73.trans (congrArg some (by kernel_rfl))
  f224 := Tryd.func94.trans (congrArg some (by kernel_rfl))
  f225 := Tryd.func93.trans (congrArg some (by kernel_rfl))
  f266 := Tryd.func100.trans (congrArg some (by kernel_rfl))
  f267 := Tryd.func95.trans (congrArg some (by kernel_rfl))
  f314 := Tryd.func101.trans (congrArg some (by kernel_rfl))
  t3 := Tryd.underlying3
  a3 := Tryd.isAgg3
  z3 := Tryd.sizeOf3
  v3 := Tryd.zeroValue3
  t4 := Tryd.underlying4
  a4 := Tryd.isAgg4
  z4 := Tryd.sizeOf4
  v4 := Tryd.zeroValue4
  t5 := Tryd.underlying5
  a5 := Tryd.isAgg5
  z5 := Tryd.sizeOf5
  v5 := Tryd.zeroValue5
  t9 := Tryd.underlying9
  a9 := Tryd.isAgg9
  z9 := Tryd.sizeOf9
  v9 := Tryd.zeroValue9
  t46 := Tryd.underlying87
  a46 := Tryd.isAgg87
  z46 := Tryd.sizeOf87
  v46 := Tryd.zeroValue87
  t51 := Tryd.underlying112
  a51 := Tryd.isAgg112
  z51 := Tryd.sizeOf112
  v51 := Tryd.zeroValue112
  t146 := Tryd.underlying113
  a146 := Tryd.isAgg113
  z146 := Tryd.sizeOf113
  v146 := Tryd.zeroValue113
  g1 := by kernel_rfl }
open Go.RowKit Go.Lib in
/-- strings.Index: "Index returns the index of the first instance of substr in s, or -1 if substr is not present in s.": AT A substr OF ONE BYTE c: IT RETURNS 'Lib.indexByte s c'; the world is as it was. (LAID: no walk: one application.) -/
theorem Tryd.strings_Index_one (s : ByteArray) (c : UInt8) (w : World) :
    Calls Tryd.prog 55 #[.string s, .string ⟨#[c]⟩] w fun e w' => e = .returned (.int .i64 (Lib.indexByte s.data.toList c)) ∧ w' = w := Any.strings_Index_one Tryd.lays143 s c w
open Go.RowKit Go.Lib in
/-- strings.Index: "Index returns the index of the first instance of substr in s, or -1 if substr is not present in s.": IT RETURNS 'Lib.index s substr'; the world is as it was. (LAID: no walk: one application.) -/
theorem Tryd.strings_Index (s sub : ByteArray) (m : Int) (w : World) (hs : s.size < 4294967281) (hm : w.cell? ⟨2, 0, none⟩ = some (.int .i64 m)) :
    Calls Tryd.prog 55 #[.string s, .string sub] w fun e w' => e = .returned (.int .i64 (Lib.index s.data.toList sub.data.toList)) ∧ w' = w := Any.strings_Index Tryd.lays143 s sub m w hs hm
def Tryd.lays144_ren : Go.Shelf.Ren := ⟨fun | 144 => 38 | 143 => 55 | 219 => 73 | 217 => 92 | 225 => 93 | 224 => 94 | 267 => 95 | 266 => 100 | 314 => 101 | n => n, fun | 9 => 9 | 4 => 4 | 3 => 3 | 5 => 5 | 46 => 87 | 146 => 113 | 51 => 112 | n => n, fun | 1 => 2 | n => n⟩
theorem Tryd.lays144 : Go.Proofs.Lays.n144 Tryd.prog Tryd.lays144_ren := {
  mixed := by kernel_rfl
  f143 := Tryd.func55.trans (congrArg some (by kernel_rfl))
  f144 := Tryd.func38.trans (congrArg some (by kernel_rfl))
  f217 := Tryd.func92.trans (congrArg some (by kernel_rfl))
  f219 := Tryd.func73.trans (congrArg some (by kernel_rfl))
  f224 := Tryd.func94.trans (congrArg some (by kernel_rfl))
  f225 := Tryd.func93.trans (congrArg some (by kernel_rfl))
  f266 := Tryd.func100.trans (congrArg some (by kernel_rfl))
  f267 := Tryd.func95.trans (congrArg some (by kernel_rfl))
  f314 := Tryd.func101.trans (congrArg some (by kernel_rfl))
  t3 := Tryd.underlying3
  a3 := Tryd.isAgg3
  z3 := Tryd.sizeOf3
  v3 := Tryd.zeroValue3
  t4 := Tryd.underlying4
  a4 := Tryd.isAgg4
  z4 := Tryd.sizeOf4
  v4 := Tryd.zeroValue4
  t5 := Tryd.underlying5
  a5 := Tryd.isAgg5
  z5 := Tryd.sizeOf5
  v5 := Tryd.zeroValue5
  t9 := Tryd.underlying9
  a9 := Tryd.isAgg9
  z9 := Tryd.sizeOf9
  v9 := Tryd.zeroValue9
  t46 := Tryd.underlying87
  a46 := Tryd.isAgg87
  z46 := Tryd.sizeOf87
  v46 := Tryd.zeroValue87
  t51 := Tryd.underlying112
  a51 := Tryd.isAgg112
  z51 := Tryd.sizeOf112
  v51 := Tryd.zeroValue112
  t146 := Tryd.underlying113
  a146 := Tryd.isAgg113
  z146 := Tryd.sizeOf113
  v146 := Tryd.zeroValue113
  g1 := by kernel_rfl }
open Go.RowKit Go.Lib in
/-- strings.Contains: "Contains reports whether substr is within s.": AT A substr OF ONE BYTE c: IT RETURNS 'decide (0 ≤ Lib.indexByte s c)'; the world is as it was. (LAID: no walk: one application.) -/
theorem Tryd.strings_Contains_one (s : ByteArray) (c : UInt8) (w : World) :
    Calls Tryd.prog 38 #[.string s, .string ⟨#[c]⟩] w fun e w' => e = .returned (.bool (decide (0 ≤ Lib.indexByte s.data.toList c))) ∧ w' = w := Any.strings_Contains_one Tryd.lays144 s c w
open Go.RowKit Go.Lib in
/-- strings.Contains: "Contains reports whether substr is within s.": IT RETURNS 'Lib.contains s substr'; the world is as it was. (LAID: no walk: one application.) -/
theorem Tryd.strings_Contains (s sub : ByteArray) (m : Int) (w : World) (hs : s.size < 4294967281) (hm : w.cell? ⟨2, 0, none⟩ = some (.int .i64 m)) :
    Calls Tryd.prog 38 #[.string s, .string sub] w fun e w' => e = .returned (.bool (Lib.contains s.data.toList sub.data.toList)) ∧ w' = w := Any.strings_Contains Tryd.lays144 s sub m w hs hm
def Tryd.laysM219_ren : Go.Shelf.Ren := ⟨fun | 219 => 73 | 217 => 92 | 225 => 93 | 224 => 94 | 267 => 95 | 266 => 100 | 314 => 101 | n => n, fun | 9 => 9 | 3 => 3 | 4 => 4 | 5 => 5 | 46 => 87 | 146 => 113 | 51 => 112 | n => n, fun | 1 => 2 | n => n⟩
theorem Tryd.laysM219 : Go.Proofs.LaysM.n219 Tryd.prog Tryd.laysM219_ren := {
  mixed := by kernel_rfl
  f217 := Tryd.func92.trans (congrArg some (by kernel_rfl))
  f219 := Tryd.func73.trans (congrArg some (by kernel_rfl))
  f224 := Tryd.func94.trans (congrArg some (by kernel_rfl))
  f225 := Tryd.func93.trans (congrArg some (by kernel_rfl))
  f266 := Tryd.func100.trans (congrArg some (by kernel_rfl))
  f267 := Tryd.func95.trans (congrArg some (by kernel_rfl))
  f314 := Tryd.func101.trans (congrArg some (by kernel_rfl))
  t3 := Tryd.underlying3
  a3 := Tryd.isAgg3
  z3 := Tryd.sizeOf3
  v3 := Tryd.zeroValue3
  t4 := Tryd.underlying4
  a4 := Tryd.isAgg4
  z4 := Tryd.sizeOf4
  v4 := Tryd.zeroValue4
  t5 := Tryd.underlying5
  a5 := Tryd.isAgg5
  z5 := Tryd.sizeOf5
  v5 := Tryd.zeroValue5
  t9 := Tryd.underlying9
  a9 := Tryd.isAgg9
  z9 := Tryd.sizeOf9
  v9 := Tryd.zeroValue9
  t46 := Tryd.underlying87
  a46 := Tryd.isAgg87
  z46 := Tryd.sizeOf87
  v46 := Tryd.zeroValue87
  t51 := Tryd.underlying112
  a51 := Tryd.isAgg112
  z51 := Tryd.sizeOf112
  v51 := Tryd.zeroValue112
  t146 := Tryd.underlying113
  a146 := Tryd.isAgg113
  z146 := Tryd.sizeOf113
  v146 := Tryd.zeroValue113
  g1 := by kernel_rfl
  i3 := by kernel_rfl
  i4 := by kernel_rfl
  i5 := by kernel_rfl
  i9 := by kernel_rfl
  i46 := by kernel_rfl
  i51 := by kernel_rfl
  i146 := by kernel_rfl
  m1 := by kernel_rfl
  s1_3 := fun w h => Go.Proofs.cell_of_shapedOpen_int (zero := #[.int .i64 0]) (t := 3) h (of_decide_eq_true (by kernel_rfl)) (by kernel_rfl) rfl (by kernel_rfl) (by kernel_rfl) Tryd.underlying3 }
open Go.RowKit Go.Lib in
theorem Tryd.stringslite_Index_shaped (s sub : ByteArray) (w : World) (h : w.ShapedOpen Tryd.prog) (hs : s.size < 4294967281) :
    Calls Tryd.prog 73 #[.string s, .string sub] w fun e w' => e = .returned (.int .i64 (Lib.index s.data.toList sub.data.toList)) ∧ w' = w := Any.stringslite_Index_shaped Tryd.laysM219 s sub w h hs
def Tryd.laysM143_ren : Go.Shelf.Ren := ⟨fun | 143 => 55 | 219 => 73 | 217 => 92 | 225 => 93 | 224 => 94 | 267 => 95 | 266 => 100 | 314 => 101 | n => n, fun | 9 => 9 | 3 => 3 | 4 => 4 | 5 => 5 | 46 => 87 | 146 => 113 | 51 => 112 | n => n, fun | 1 => 2 | n => n⟩
theorem Tryd.laysM143 : Go.Proofs.LaysM.n143 Tryd.prog Tryd.laysM143_ren := {
  mixed := by kernel_rfl
  f143 := Tryd.func55.trans (congrArg some (by kernel_rfl))
  f217 := Tryd.func92.trans (congrArg some (by kernel_rfl))
  f219 := Tryd.func73.trans (congrArg some (by kernel_rfl))
  f224 := Tryd.func94.trans (congrArg some (by kernel_rfl))
  f225 := Tryd.func93.trans (congrArg some (by kernel_rfl))
  f266 := Tryd.func100.trans (congrArg some (by kernel_rfl))
  f267 := Tryd.func95.trans (congrArg some (by kernel_rfl))
  f314 := Tryd.func101.trans (congrArg some (by kernel_rfl))
  t3 := Tryd.underlying3
  a3 := Tryd.isAgg3
  z3 := Tryd.sizeOf3
  v3 := Tryd.zeroValue3
  t4 := Tryd.underlying4
  a4 := Tryd.isAgg4
  z4 := Tryd.sizeOf4
  v4 := Tryd.zeroValue4
  t5 := Tryd.underlying5
  a5 := Tryd.isAgg5
  z5 := Tryd.sizeOf5
  v5 := Tryd.zeroValue5
  t9 := Tryd.underlying9
  a9 := Tryd.isAgg9
  z9 := Tryd.sizeOf9
  v9 := Tryd.zeroValue9
  t46 := Tryd.underlying87
  a46 := Tryd.isAgg87
  z46 := Tryd.sizeOf87
  v46 := Tryd.zeroValue87
  t51 := Tryd.underlying112
  a51 := Tryd.isAgg112
  z51 := Tryd.sizeOf112
  v51 := Tryd.zeroValue112
  t146 := Tryd.underlying113
  a146 := Tryd.isAgg113
  z146 := Tryd.sizeOf113
  v146 := Tryd.zeroValue113
  g1 := by kernel_rfl
  i3 := by kernel_rfl
  i4 := by kernel_rfl
  i5 := by kernel_rfl
  i9 := by kernel_rfl
  i46 := by kernel_rfl
  i51 := by kernel_rfl
  i146 := by kernel_rfl
  m1 := by kernel_rfl
  s1_3 := fun w h => Go.Proofs.cell_of_shapedOpen_int (zero := #[.int .i64 0]) (t := 3) h (of_decide_eq_true (by kernel_rfl)) (by kernel_rfl) rfl (by kernel_rfl) (by kernel_rfl) Tryd.underlying3 }
open Go.RowKit Go.Lib in
theorem Tryd.strings_Index_shaped (s sub : ByteArray) (w : World) (h : w.ShapedOpen Tryd.prog) (hs : s.size < 4294967281) :
    Calls Tryd.prog 55 #[.string s, .string sub] w fun e w' => e = .returned (.int .i64 (Lib.index s.data.toList sub.data.toList)) ∧ w' = w := Any.strings_Index_shaped Tryd.laysM143 s sub w h hs
def Tryd.laysM144_ren : Go.Shelf.Ren := ⟨fun | 144 => 38 | 143 => 55 | 219 => 73 | 217 => 92 | 225 => 93 | 224 => 94 | 267 => 95 | 266 => 100 | 314 => 101 | n => n, fun | 9 => 9 | 4 => 4 | 3 => 3 | 5 => 5 | 46 => 87 | 146 => 113 | 51 => 112 | n => n, fun | 1 => 2 | n => n⟩
theorem Tryd.laysM144 : Go.Proofs.LaysM.n144 Tryd.prog Tryd.laysM144_ren := {
  mixed := by kernel_rfl
  f143 := Tryd.func55.trans (congrArg some (by kernel_rfl))
  f144 := Tryd.func38.trans (congrArg some (by kernel_rfl))
  f217 := Tryd.func92.trans (congrArg some (by kernel_rfl))
  f219 := Tryd.func73.trans (congrArg some (by kernel_rfl))
  f224 := Tryd.func94.trans (congrArg some (by kernel_rfl))
  f225 := Tryd.func93.trans (congrArg some (by kernel_rfl))
  f266 := Tryd.func100.trans (congrArg some (by kernel_rfl))
  f267 := Tryd.func95.trans (congrArg some (by kernel_rfl))
  f314 := Tryd.func101.trans (congrArg some (by kernel_rfl))
  t3 := Tryd.underlying3
  a3 := Tryd.isAgg3
  z3 := Tryd.sizeOf3
  v3 := Tryd.zeroValue3
  t4 := Tryd.underlying4
  a4 := Tryd.isAgg4
  z4 := Tryd.sizeOf4
  v4 := Tryd.zeroValue4
  t5 := Tryd.underlying5
  a5 := Tryd.isAgg5
  z5 := Tryd.sizeOf5
  v5 := Tryd.zeroValue5
  t9 := Tryd.underlying9
  a9 := Tryd.isAgg9
  z9 := Tryd.sizeOf9
  v9 := Tryd.zeroValue9
  t46 := Tryd.underlying87
  a46 := Tryd.isAgg87
  z46 := Tryd.sizeOf87
  v46 := Tryd.zeroValue87
  t51 := Tryd.underlying112
  a51 := Tryd.isAgg112
  z51 := Tryd.sizeOf112
  v51 := Tryd.zeroValue112
  t146 := Tryd.underlying113
  a146 := Tryd.isAgg113
  z146 := Tryd.sizeOf113
  v146 := Tryd.zeroValue113
  g1 := by kernel_rfl
  i3 := by kernel_rfl
  i4 := by kernel_rfl
  i5 := by kernel_rfl
  i9 := by kernel_rfl
  i46 := by kernel_rfl
  i51 := by kernel_rfl
  i146 := by kernel_rfl
  m1 := by kernel_rfl
  s1_3 := fun w h => Go.Proofs.cell_of_shapedOpen_int (zero := #[.int .i64 0]) (t := 3) h (of_decide_eq_true (by kernel_rfl)) (by kernel_rfl) rfl (by kernel_rfl) (by kernel_rfl) Tryd.underlying3 }
open Go.RowKit Go.Lib in
theorem Tryd.strings_Contains_shaped (s sub : ByteArray) (w : World) (h : w.ShapedOpen Tryd.prog) (hs : s.size < 4294967281) :
    Calls Tryd.prog 38 #[.string s, .string sub] w fun e w' => e = .returned (.bool (Lib.contains s.data.toList sub.data.toList)) ∧ w' = w := Any.strings_Contains_shaped Tryd.laysM144 s sub w h hs
def Tryd.lays152_ren : Go.Shelf.Ren := ⟨fun | 152 => 75 | 137 => 87 | 119 => 96 | 224 => 94 | 225 => 93 | 217 => 92 | 266 => 100 | n => n, fun | 9 => 9 | 21 => 21 | 3 => 3 | 4 => 4 | 5 => 5 | 0 => 0 | 46 => 87 | n => n, fun | n => n⟩
theorem Tryd.lays152 : Go.Proofs.Lays.n152 Tryd.prog Tryd.lays152_ren := {
  mixed := by kernel_rfl
  f119 := Tryd.func96.trans (congrArg some (by kernel_rfl))
  f137 := Tryd.func87.trans (congrArg some (by kernel_rfl))
  f152 := Tryd.func75.trans (congrArg some (by kernel_rfl))
  f217 := Tryd.func92.trans (congrArg some (by kernel_rfl))
  f224 := Tryd.func94.trans (congrArg some (by kernel_rfl))
  f225 := Tryd.func93.trans (congrArg some (by kernel_rfl))
  f266 := Tryd.func100.trans (congrArg some (by kernel_rfl))
  t0 := Tryd.underlying0
  a0 := Tryd.isAgg0
  z0 := Tryd.sizeOf0
  v0 := Tryd.zeroValue0
  t3 := Tryd.underlying3
  a3 := Tryd.isAgg3
  z3 := Tryd.sizeOf3
  v3 := Tryd.zeroValue3
  t4 := Tryd.underlying4
  a4 := Tryd.isAgg4
  z4 := Tryd.sizeOf4
  v4 := Tryd.zeroValue4
  t5 := Tryd.underlying5
  a5 := Tryd.isAgg5
  z5 := Tryd.sizeOf5
  v5 := Tryd.zeroValue5
  t9 := Tryd.underlying9
  a9 := Tryd.isAgg9
  z9 := Tryd.sizeOf9
  v9 := Tryd.zeroValue9
  t21 := Tryd.underlying21
  a21 := Tryd.isAgg21
  z21 := Tryd.sizeOf21
  v21 := Tryd.zeroValue21
  t46 := Tryd.underlying87
  a46 := Tryd.isAgg87
  z46 := Tryd.sizeOf87
  v46 := Tryd.zeroValue87 }
open Go.RowKit Go.Lib in
theorem Tryd.strings_IndexRune_ascii (s : ByteArray) (r : Int) (w : World) (h0 : 0 ≤ r) (h1 : r < 128) :
    Calls Tryd.prog 75 #[.string s, .int .i32 r] w fun e w' => e = .returned (.int .i64 (Lib.indexByte s.data.toList r.toNat.toUInt8)) ∧ w' = w := Any.strings_IndexRune_ascii Tryd.lays152 s r w h0 h1
def Tryd.lays226_ren : Go.Shelf.Ren := ⟨fun | 226 => 76 | n => n, fun | 3 => 3 | 4 => 4 | n => n, fun | n => n⟩
theorem Tryd.lays226 : Go.Proofs.Lays.n226 Tryd.prog Tryd.lays226_ren := {
  mixed := by kernel_rfl
  f226 := Tryd.func76.trans (congrArg some (by kernel_rfl))
  t3 := Tryd.underlying3
  a3 := Tryd.isAgg3
  z3 := Tryd.sizeOf3
  v3 := Tryd.zeroValue3
  t4 := Tryd.underlying4
  a4 := Tryd.isAgg4
  z4 := Tryd.sizeOf4
  v4 := Tryd.zeroValue4 }
open Go.RowKit Go.Lib in
theorem Tryd.strings_shouldUseASCIISet (n : Int) (w : World) :
    Calls Tryd.prog 76 #[.int .i64 n] w fun e w' => e = .returned (.bool (decide (8 < n))) ∧ w' = w := Any.strings_shouldUseASCIISet Tryd.lays226 n w
def Tryd.lays153_ren : Go.Shelf.Ren := ⟨fun | 153 => 62 | 152 => 75 | 226 => 76 | 227 => 77 | 228 => 78 | 137 => 87 | 119 => 96 | 224 => 94 | 225 => 93 | 217 => 92 | 266 => 100 | n => n, fun | 9 => 9 | 3 => 3 | 4 => 4 | 5 => 5 | 21 => 21 | 117 => 98 | 116 => 97 | 0 => 0 | 46 => 87 | 124 => 108 | n => n, fun | n => n⟩
theorem Tryd.lays153 : Go.Proofs.Lays.n153 Tryd.prog Tryd.lays153_ren := {
  mixed := by kernel_rfl
  f119 := Tryd.func96.trans (congrArg some (by kernel_rfl))
  f137 := Tryd.func87.trans (congrArg some (by kernel_rfl))
  f152 := Tryd.func75.trans (congrArg some (by kernel_rfl))
  f153 := Tryd.func62.trans (congrArg some (by kernel_rfl))
  f217 := Tryd.func92.trans (congrArg some (by kernel_rfl))
  f224 := Tryd.func94.trans (congrArg some (by kernel_rfl))
  f225 := Tryd.func93.trans (congrArg some (by kernel_rfl))
  f226 := Tryd.func76.trans (congrArg some (by kernel_rfl))
  f227 := Tryd.func77.trans (congrArg some (by kernel_rfl))
  f228 := Tryd.func78.trans (congrArg some (by kernel_rfl))
  f266 := Tryd.func100.trans (congrArg some (by kernel_rfl))
  t0 := Tryd.underlying0
  a0 := Tryd.isAgg0
  z0 := Tryd.sizeOf0
  v0 := Tryd.zeroValue0
  t3 := Tryd.underlying3
  a3 := Tryd.isAgg3
  z3 := Tryd.sizeOf3
  v3 := Tryd.zeroValue3
  t4 := Tryd.underlying4
  a4 := Tryd.isAgg4
  z4 := Tryd.sizeOf4
  v4 := Tryd.zeroValue4
  t5 := Tryd.underlying5
  a5 := Tryd.isAgg5
  z5 := Tryd.sizeOf5
  v5 := Tryd.zeroValue5
  t9 := Tryd.underlying9
  a9 := Tryd.isAgg9
  z9 := Tryd.sizeOf9
  v9 := Tryd.zeroValue9
  t21 := Tryd.underlying21
  a21 := Tryd.isAgg21
  z21 := Tryd.sizeOf21
  v21 := Tryd.zeroValue21
  t46 := Tryd.underlying87
  a46 := Tryd.isAgg87
  z46 := Tryd.sizeOf87
  v46 := Tryd.zeroValue87
  t116 := Tryd.underlying97
  a116 := Tryd.isAgg97
  z116 := Tryd.sizeOf97
  t117 := Tryd.underlying98
  a117 := Tryd.isAgg98
  z117 := Tryd.sizeOf98
  v117 := Tryd.zeroValue98
  t124 := Tryd.underlying108
  a124 := Tryd.isAgg108
  z124 := Tryd.sizeOf108
  v124 := Tryd.zeroValue108 }
open Go.RowKit Go.Lib in
/-- chars is empty. (LAID: no walk: one application.) -/
theorem Tryd.strings_IndexAny_none (s chars : ByteArray) (w : World) (h0 : chars.size = 0) :
    Calls Tryd.prog 62 #[.string s, .string chars] w fun e w' => e = .returned (.int .i64 (Lib.indexAny s.data.toList chars.data.toList)) ∧ w' = w := Any.strings_IndexAny_none Tryd.lays153 s chars w h0
open Go.RowKit Go.Lib in
/-- chars is one ASCII byte. (LAID: no walk: one application.) -/
theorem Tryd.strings_IndexAny_one (s chars : ByteArray) (w : World) (h1 : chars.size = 1) (hascii : ∀ (j : Nat) b, chars.data.toList[j]? = some b → b.toNat < 128) :
    Calls Tryd.prog 62 #[.string s, .string chars] w fun e w' => e = .returned (.int .i64 (Lib.indexAny s.data.toList chars.data.toList)) ∧ w' = w := Any.strings_IndexAny_one Tryd.lays153 s chars w h1 hascii
open Go.RowKit Go.Lib in
/-- s of at most 8 bytes; chars of two or more: 'for i, c := range s { if IndexRune(chars, c) >= 0 { return i } }'. One block more: the model's iterator over s. (LAID: no walk: one application.) -/
theorem Tryd.strings_IndexAny_short (s chars : ByteArray) (w : World) (h2 : 2 ≤ chars.size) (h8 : s.size ≤ 8) (hascii : ∀ (j : Nat) b, s.data.toList[j]? = some b → b.toNat < 128) :
    Calls Tryd.prog 62 #[.string s, .string chars] w fun e w' => e = .returned (.int .i64 (Lib.indexAny s.data.toList chars.data.toList)) ∧ ∃ pos, w' = w.iter s pos := Any.strings_IndexAny_short Tryd.lays153 s chars w h2 h8 hascii
def Tryd.lays227_ren : Go.Shelf.Ren := ⟨fun | 227 => 77 | n => n, fun | 9 => 9 | 116 => 97 | 4 => 4 | 0 => 0 | 3 => 3 | 5 => 5 | n => n, fun | n => n⟩
theorem Tryd.lays227 : Go.Proofs.Lays.n227 Tryd.prog Tryd.lays227_ren := {
  mixed := by kernel_rfl
  f227 := Tryd.func77.trans (congrArg some (by kernel_rfl))
  t0 := Tryd.underlying0
  a0 := Tryd.isAgg0
  z0 := Tryd.sizeOf0
  v0 := Tryd.zeroValue0
  t3 := Tryd.underlying3
  a3 := Tryd.isAgg3
  z3 := Tryd.sizeOf3
  v3 := Tryd.zeroValue3
  t4 := Tryd.underlying4
  a4 := Tryd.isAgg4
  z4 := Tryd.sizeOf4
  v4 := Tryd.zeroValue4
  t5 := Tryd.underlying5
  a5 := Tryd.isAgg5
  z5 := Tryd.sizeOf5
  v5 := Tryd.zeroValue5
  t9 := Tryd.underlying9
  a9 := Tryd.isAgg9
  z9 := Tryd.sizeOf9
  v9 := Tryd.zeroValue9
  t116 := Tryd.underlying97
  a116 := Tryd.isAgg97
  z116 := Tryd.sizeOf97 }
open Go.RowKit Go.Lib in
theorem Tryd.strings_makeASCIISet (hv116 : ∀ w, (zeroValue 97).run Tryd.prog w = .ok (.agg (Array.replicate 256 (.bool false))) w) (chars : ByteArray) (w : World) (hs : chars.size < 4294967281) (hascii : ∀ (j : Nat) b, chars.data.toList[j]? = some b → b.toNat < 128) :
    Calls Tryd.prog 77 #[.string chars] w fun e w' => e = .returned (.tuple #[.agg (Lib.setCells chars.data.toList), .bool true]) ∧ w' = w.alloc (.cells (Lib.setCells chars.data.toList) 97) := Any.strings_makeASCIISet Tryd.lays227 hv116 (by kernel_rfl) chars w hs hascii
def Tryd.lays228_ren : Go.Shelf.Ren := ⟨fun | 228 => 78 | n => n, fun | 124 => 108 | 5 => 5 | 4 => 4 | 0 => 0 | 116 => 97 | n => n, fun | n => n⟩
theorem Tryd.lays228 : Go.Proofs.Lays.n228 Tryd.prog Tryd.lays228_ren := {
  mixed := by kernel_rfl
  f228 := Tryd.func78.trans (congrArg some (by kernel_rfl))
  t0 := Tryd.underlying0
  a0 := Tryd.isAgg0
  z0 := Tryd.sizeOf0
  v0 := Tryd.zeroValue0
  t4 := Tryd.underlying4
  a4 := Tryd.isAgg4
  z4 := Tryd.sizeOf4
  v4 := Tryd.zeroValue4
  t5 := Tryd.underlying5
  a5 := Tryd.isAgg5
  z5 := Tryd.sizeOf5
  v5 := Tryd.zeroValue5
  t116 := Tryd.underlying97
  a116 := Tryd.isAgg97
  z116 := Tryd.sizeOf97
  t124 := Tryd.underlying108
  a124 := Tryd.isAgg108
  z124 := Tryd.sizeOf108
  v124 := Tryd.zeroValue108 }
open Go.RowKit Go.Lib in
/-- '(as *asciiSet) contains(c)': 'as[c]': the set lies at block b, whole. (LAID: no walk: one application.) -/
theorem Tryd.asciiSet_contains (b : Nat) (x : UInt8) (v : Bool) (w : World) (hc : w.cell? ⟨b, x.toNat, none⟩ = some (.bool v)) :
    Calls Tryd.prog 78 #[.pointer (some ⟨b, 0, none⟩), .int .u8 x.toNat] w fun e w' => e = .returned (.bool v) ∧ w' = w := Any.asciiSet_contains Tryd.lays228 b x v w hc
open Go.RowKit Go.Lib in
theorem Tryd.strings_IndexAny_long (hv116 : ∀ w, (zeroValue 97).run Tryd.prog w = .ok (.agg (Array.replicate 256 (.bool false))) w) (s chars : ByteArray) (w : World) (h2 : 2 ≤ chars.size) (h8 : 8 < s.size) (hs : s.size < 4294967281) (hcs : chars.size < 4294967281) (hascii : ∀ (j : Nat) b, chars.data.toList[j]? = some b → b.toNat < 128) :
    Calls Tryd.prog 62 #[.string s, .string chars] w fun e w' => e = .returned (.int .i64 (Lib.indexAny s.data.toList chars.data.toList)) ∧ w' = ((w.alloc (.cells (Lib.setCells chars.data.toList) 97)).alloc (.cells (Lib.setCells chars.data.toList) 97)) := Any.strings_IndexAny_long Tryd.lays153 hv116 (by kernel_rfl) s chars w h2 h8 hs hcs hascii
open Go.RowKit Go.Lib in
/-- strings.IndexAny ON ASCII BYTES: the four roads under one statement. (LAID: no walk: one application.) -/
theorem Tryd.strings_IndexAny (hv116 : ∀ w, (zeroValue 97).run Tryd.prog w = .ok (.agg (Array.replicate 256 (.bool false))) w) (s chars : ByteArray) (w : World) (hs : s.size < 4294967281) (hcs : chars.size < 4294967281) (has : ∀ (j : Nat) b, s.data.toList[j]? = some b → b.toNat < 128) (hac : ∀ (j : Nat) b, chars.data.toList[j]? = some b → b.toNat < 128) :
    Calls Tryd.prog 62 #[.string s, .string chars] w fun e w' => e = .returned (.int .i64 (Lib.indexAny s.data.toList chars.data.toList)) ∧ Below w.heap.size w w' := Any.strings_IndexAny Tryd.lays153 hv116 (by kernel_rfl) s chars w hs hcs has hac
def Tryd.lays150_ren : Go.Shelf.Ren := ⟨fun | 150 => 40 | 153 => 62 | 152 => 75 | 226 => 76 | 227 => 77 | 228 => 78 | 137 => 87 | 119 => 96 | 224 => 94 | 225 => 93 | 217 => 92 | 266 => 100 | n => n, fun | 9 => 9 | 4 => 4 | 3 => 3 | 5 => 5 | 21 => 21 | 117 => 98 | 116 => 97 | 0 => 0 | 46 => 87 | 124 => 108 | n => n, fun | n => n⟩
theorem Tryd.lays150 : Go.Proofs.Lays.n150 Tryd.prog Tryd.lays150_ren := {
  mixed := by kernel_rfl
  f119 := Tryd.func96.trans (congrArg some (by kernel_rfl))
  f137 := Tryd.func87.trans (congrArg some (by kernel_rfl))
  f150 := Tryd.func40.trans (congrArg some (by kernel_rfl))
  f152 := Tryd.func75.trans (congrArg some (by kernel_rfl))
  f153 := Tryd.func62.trans (congrArg some (by kernel_rfl))
  f217 := Tryd.func92.trans (congrArg some (by kernel_rfl))
  f224 := Tryd.func94.trans (congrArg some (by kernel_rfl))
  f225 := Tryd.func93.trans (congrArg some (by kernel_rfl))
  f226 := Tryd.func76.trans (congrArg some (by kernel_rfl))
  f227 := Tryd.func77.trans (congrArg some (by kernel_rfl))
  f228 := Tryd.func78.trans (congrArg some (by kernel_rfl))
  f266 := Tryd.func100.trans (congrArg some (by kernel_rfl))
  t0 := Tryd.underlying0
  a0 := Tryd.isAgg0
  z0 := Tryd.sizeOf0
  v0 := Tryd.zeroValue0
  t3 := Tryd.underlying3
  a3 := Tryd.isAgg3
  z3 := Tryd.sizeOf3
  v3 := Tryd.zeroValue3
  t4 := Tryd.underlying4
  a4 := Tryd.isAgg4
  z4 := Tryd.sizeOf4
  v4 := Tryd.zeroValue4
  t5 := Tryd.underlying5
  a5 := Tryd.isAgg5
  z5 := Tryd.sizeOf5
  v5 := Tryd.zeroValue5
  t9 := Tryd.underlying9
  a9 := Tryd.isAgg9
  z9 := Tryd.sizeOf9
  v9 := Tryd.zeroValue9
  t21 := Tryd.underlying21
  a21 := Tryd.isAgg21
  z21 := Tryd.sizeOf21
  v21 := Tryd.zeroValue21
  t46 := Tryd.underlying87
  a46 := Tryd.isAgg87
  z46 := Tryd.sizeOf87
  v46 := Tryd.zeroValue87
  t116 := Tryd.underlying97
  a116 := Tryd.isAgg97
  z116 := Tryd.sizeOf97
  t117 := Tryd.underlying98
  a117 := Tryd.isAgg98
  z117 := Tryd.sizeOf98
  v117 := Tryd.zeroValue98
  t124 := Tryd.underlying108
  a124 := Tryd.isAgg108
  z124 := Tryd.sizeOf108
  v124 := Tryd.zeroValue108 }
open Go.RowKit Go.Lib in
/-- strings.ContainsAny ON ASCII BYTES. (LAID: no walk: one application.) -/
theorem Tryd.strings_ContainsAny (hv116 : ∀ w, (zeroValue 97).run Tryd.prog w = .ok (.agg (Array.replicate 256 (.bool false))) w) (s chars : ByteArray) (w : World) (hs : s.size < 4294967281) (hcs : chars.size < 4294967281) (has : ∀ (j : Nat) b, s.data.toList[j]? = some b → b.toNat < 128) (hac : ∀ (j : Nat) b, chars.data.toList[j]? = some b → b.toNat < 128) :
    Calls Tryd.prog 40 #[.string s, .string chars] w fun e w' => e = .returned (.bool (Lib.containsAny s.data.toList chars.data.toList)) ∧ Below w.heap.size w w' := Any.strings_ContainsAny Tryd.lays150 hv116 (by kernel_rfl) s chars w hs hcs has hac
open Go.RowKit Go.Lib in
theorem Tryd.strings_IndexAny_laid (s chars : ByteArray) (w : World) (hs : s.size < 4294967281) (hcs : chars.size < 4294967281) (has : ∀ (j : Nat) b, s.data.toList[j]? = some b → b.toNat < 128) (hac : ∀ (j : Nat) b, chars.data.toList[j]? = some b → b.toNat < 128) :
    Calls Tryd.prog 62 #[.string s, .string chars] w fun e w' => e = .returned (.int .i64 (Lib.indexAny s.data.toList chars.data.toList)) ∧ Below w.heap.size w w' := Any.strings_IndexAny_laid Tryd.lays153 (by kernel_rfl) s chars w hs hcs has hac
open Go.RowKit Go.Lib in
theorem Tryd.strings_ContainsAny_laid (s chars : ByteArray) (w : World) (hs : s.size < 4294967281) (hcs : chars.size < 4294967281) (has : ∀ (j : Nat) b, s.data.toList[j]? = some b → b.toNat < 128) (hac : ∀ (j : Nat) b, chars.data.toList[j]? = some b → b.toNat < 128) :
    Calls Tryd.prog 40 #[.string s, .string chars] w fun e w' => e = .returned (.bool (Lib.containsAny s.data.toList chars.data.toList)) ∧ Below w.heap.size w w' := Any.strings_ContainsAny_laid Tryd.lays150 (by kernel_rfl) s chars w hs hcs has hac
def Tryd.lays260_ren : Go.Shelf.Ren := ⟨fun | 260 => 70 | n => n, fun | 9 => 9 | 21 => 21 | 3 => 3 | 4 => 4 | 5 => 5 | 119 => 83 | 0 => 0 | 46 => 87 | 139 => 86 | 138 => 85 | n => n, fun | 3 => 0 | 4 => 1 | n => n⟩
theorem Tryd.lays260 : Go.Proofs.Lays.n260 Tryd.prog Tryd.lays260_ren := {
  mixed := by kernel_rfl
  f260 := Tryd.func70.trans (congrArg some (by kernel_rfl))
  t0 := Tryd.underlying0
  a0 := Tryd.isAgg0
  z0 := Tryd.sizeOf0
  v0 := Tryd.zeroValue0
  t3 := Tryd.underlying3
  a3 := Tryd.isAgg3
  z3 := Tryd.sizeOf3
  v3 := Tryd.zeroValue3
  t4 := Tryd.underlying4
  a4 := Tryd.isAgg4
  z4 := Tryd.sizeOf4
  v4 := Tryd.zeroValue4
  t5 := Tryd.underlying5
  a5 := Tryd.isAgg5
  z5 := Tryd.sizeOf5
  v5 := Tryd.zeroValue5
  t9 := Tryd.underlying9
  a9 := Tryd.isAgg9
  z9 := Tryd.sizeOf9
  v9 := Tryd.zeroValue9
  t21 := Tryd.underlying21
  a21 := Tryd.isAgg21
  z21 := Tryd.sizeOf21
  v21 := Tryd.zeroValue21
  t46 := Tryd.underlying87
  a46 := Tryd.isAgg87
  z46 := Tryd.sizeOf87
  v46 := Tryd.zeroValue87
  t119 := Tryd.underlying83
  a119 := Tryd.isAgg83
  z119 := Tryd.sizeOf83
  t138 := Tryd.underlying85
  a138 := Tryd.isAgg85
  z138 := Tryd.sizeOf85
  v138 := Tryd.zeroValue85
  t139 := Tryd.underlying86
  a139 := Tryd.isAgg86
  z139 := Tryd.sizeOf86
  v139 := Tryd.zeroValue86
  g3 := by kernel_rfl
  g4 := by kernel_rfl }
open Go.RowKit Go.Lib in
theorem Tryd.utf8_decodeRuneInStringSlow (s : ByteArray) (w : World) (hT : Lib.Utf8Tabs 0 1 w) :
    Calls Tryd.prog 70 #[.string s] w fun e w' => e = .returned (.tuple #[.int .i32 (Lib.decodeGo s).1, .int .i64 (Lib.decodeGo s).2]) ∧ Below w.heap.size w w' := Any.utf8_decodeRuneInStringSlow Tryd.lays260 s w hT
def Tryd.lays197_ren : Go.Shelf.Ren := ⟨fun | 197 => 48 | 260 => 70 | n => n, fun | 9 => 9 | 21 => 21 | 3 => 3 | 4 => 4 | 5 => 5 | 105 => 79 | 119 => 83 | 0 => 0 | 46 => 87 | 139 => 86 | 138 => 85 | n => n, fun | 3 => 0 | 4 => 1 | n => n⟩
theorem Tryd.lays197 : Go.Proofs.Lays.n197 Tryd.prog Tryd.lays197_ren := {
  mixed := by kernel_rfl
  f197 := Tryd.func48.trans (congrArg some (by kernel_rfl))
  f260 := Tryd.func70.trans (congrArg some (by kernel_rfl))
  t0 := Tryd.underlying0
  a0 := Tryd.isAgg0
  z0 := Tryd.sizeOf0
  v0 := Tryd.zeroValue0
  t3 := Tryd.underlying3
  a3 := Tryd.isAgg3
  z3 := Tryd.sizeOf3
  v3 := Tryd.zeroValue3
  t4 := Tryd.underlying4
  a4 := Tryd.isAgg4
  z4 := Tryd.sizeOf4
  v4 := Tryd.zeroValue4
  t5 := Tryd.underlying5
  a5 := Tryd.isAgg5
  z5 := Tryd.sizeOf5
  v5 := Tryd.zeroValue5
  t9 := Tryd.underlying9
  a9 := Tryd.isAgg9
  z9 := Tryd.sizeOf9
  v9 := Tryd.zeroValue9
  t21 := Tryd.underlying21
  a21 := Tryd.isAgg21
  z21 := Tryd.sizeOf21
  v21 := Tryd.zeroValue21
  t46 := Tryd.underlying87
  a46 := Tryd.isAgg87
  z46 := Tryd.sizeOf87
  v46 := Tryd.zeroValue87
  t105 := Tryd.underlying79
  a105 := Tryd.isAgg79
  z105 := Tryd.sizeOf79
  v105 := Tryd.zeroValue79
  t119 := Tryd.underlying83
  a119 := Tryd.isAgg83
  z119 := Tryd.sizeOf83
  t138 := Tryd.underlying85
  a138 := Tryd.isAgg85
  z138 := Tryd.sizeOf85
  v138 := Tryd.zeroValue85
  t139 := Tryd.underlying86
  a139 := Tryd.isAgg86
  z139 := Tryd.sizeOf86
  v139 := Tryd.zeroValue86
  g3 := by kernel_rfl
  g4 := by kernel_rfl }
open Go.RowKit Go.Lib in
/-- **unicode/utf8.DecodeRuneInString AT EVERY STRING.** (LAID: no walk: one application.) -/
theorem Tryd.utf8_DecodeRuneInString (s : ByteArray) (w : World) (hT : Lib.Utf8Tabs 0 1 w) :
    Calls Tryd.prog 48 #[.string s] w fun e w' => e = .returned (.tuple #[.int .i32 (Lib.decodeGo s).1, .int .i64 (Lib.decodeGo s).2]) ∧ Below w.heap.size w w' := Any.utf8_DecodeRuneInString Tryd.lays197 s w hT
def Tryd.lays196_ren : Go.Shelf.Ren := ⟨fun | 196 => 37 | 259 => 54 | n => n, fun | 9 => 9 | 4 => 4 | 3 => 3 | 5 => 5 | 12 => 12 | 119 => 83 | 0 => 0 | 46 => 87 | 139 => 86 | 138 => 85 | 53 => 94 | n => n, fun | 3 => 0 | 4 => 1 | n => n⟩
theorem Tryd.lays196 : Go.Proofs.Lays.n196 Tryd.prog Tryd.lays196_ren := {
  mixed := by kernel_rfl
  f196 := Tryd.func37.trans (congrArg some (by kernel_rfl))
  f259 := Tryd.func54.trans (congrArg some (by kernel_rfl))
  t0 := Tryd.underlying0
  a0 := Tryd.isAgg0
  z0 := Tryd.sizeOf0
  v0 := Tryd.zeroValue0
  t3 := Tryd.underlying3
  a3 := Tryd.isAgg3
  z3 := Tryd.sizeOf3
  v3 := Tryd.zeroValue3
  t4 := Tryd.underlying4
  a4 := Tryd.isAgg4
  z4 := Tryd.sizeOf4
  v4 := Tryd.zeroValue4
  t5 := Tryd.underlying5
  a5 := Tryd.isAgg5
  z5 := Tryd.sizeOf5
  v5 := Tryd.zeroValue5
  t9 := Tryd.underlying9
  a9 := Tryd.isAgg9
  z9 := Tryd.sizeOf9
  v9 := Tryd.zeroValue9
  t12 := Tryd.underlying12
  a12 := Tryd.isAgg12
  z12 := Tryd.sizeOf12
  v12 := Tryd.zeroValue12
  t46 := Tryd.underlying87
  a46 := Tryd.isAgg87
  z46 := Tryd.sizeOf87
  v46 := Tryd.zeroValue87
  t53 := Tryd.underlying94
  a53 := Tryd.isAgg94
  z53 := Tryd.sizeOf94
  v53 := Tryd.zeroValue94
  t119 := Tryd.underlying83
  a119 := Tryd.isAgg83
  z119 := Tryd.sizeOf83
  t138 := Tryd.underlying85
  a138 := Tryd.isAgg85
  z138 := Tryd.sizeOf85
  v138 := Tryd.zeroValue85
  t139 := Tryd.underlying86
  a139 := Tryd.isAgg86
  z139 := Tryd.sizeOf86
  v139 := Tryd.zeroValue86
  g3 := by kernel_rfl
  g4 := by kernel_rfl }
open Go.RowKit in
/-- **unicode/utf8.ValidString AT EVERY STRING.** -/
theorem Tryd.utf8_ValidString (s : ByteArray) (w : World) (hs : s.size ≤ 9223372036854775807) (hT : Lib.Utf8Tabs 0 1 w) :
    Calls Tryd.prog 37 #[.string s] w fun e w' => e = .returned (.bool (Lib.validD s.data.toList)) ∧ Below w.heap.size w w' := Any.utf8_ValidString Tryd.lays196 s w hs hT
end Go.Proofs

/-
  Contract of package scan: Line; the law's head; ScanLines.
-/
namespace Go.Proofs.YtmceblemiboedaaDoor
open Go.RowKit

def nlB (c : UInt8) : Bool := !(c == 10)
/-- Where a line ends. -/
def lineI (l : List UInt8) (i : Int) : Int := if 0 ≤ i ∧ i < l.length then (behN nlB l i.toNat : Int) else i
theorem index_line : ∀ l : List UInt8, (Lib.indexByte l 10 = -1 ∧ (l.takeWhile nlB).length = l.length) ∨ (0 ≤ Lib.indexByte l 10 ∧ Lib.indexByte l 10 = ((l.takeWhile nlB).length : Int))
  | [] => .inl ⟨rfl, rfl⟩
  | c :: l => by
    rw [List.takeWhile_cons, Lib.indexByte]
    by_cases h : c = 10
    · subst h
      right
      exact ⟨by simp, by simp [nlB]⟩
    · have h1 : (c == 10) = false := by simpa using h
      have h2 : nlB c = true := by simp [nlB, h1]
      rw [h1, h2]
      simp only [Bool.false_eq_true, if_false, if_true]
      rcases index_line l with ⟨a, b⟩ | ⟨a, b⟩
      · left
        rw [a]
        exact ⟨by simp, by simp [b]⟩
      · right
        have : (Lib.indexByte l 10 == -1) = false := by simp; omega
        rw [this]
        simp only [Bool.false_eq_true, if_false, List.length_cons]
        omega
set_option maxHeartbeats 1000000 in
theorem line_any (s : ByteArray) (i : Int) (w : World) (hs : s.size ≤ 9223372036854775807) :
    Calls Tryd.prog 67 #[.string s, .int .i64 i] w fun e w' => e = .returned (.int .i64 (lineI s.data.toList i)) ∧ w = w' := by
  by_cases hin : 0 ≤ i ∧ i < s.size
  · obtain ⟨h0, h1⟩ := hin
    obtain ⟨j, rfl⟩ : ∃ j : Nat, i = (j : Int) := ⟨i.toNat, by omega⟩
    have hj : j < s.size := by omega
    have e : lineI s.data.toList (j : Int) = (behN nlB s.data.toList j : Int) := by
      unfold lineI
      rw [if_pos ⟨h0, by rw [size_data]; exact h1⟩, Int.toNat_natCast]
    have hx := index_line (s.data.toList.drop j)
    have hI := fun W => Tryd.strings_IndexByte (s.extract j s.size) 10 W
    rw [extract_drop] at hI
    rw [show (10 : Int).toNat.toUInt8 = 10 from rfl] at hI
    unfold behN at e
    have hlen : (s.data.toList.drop j).length = s.size - j := by rw [List.length_drop, size_data]
    have htl : ((s.data.toList.drop j).takeWhile nlB).length ≤ s.size - j := by rw [← hlen]; exact takeWhile_le _ _
    rw [hlen] at hx
    generalize Lib.indexByte (s.data.toList.drop j) 10 = n at *
    generalize ((s.data.toList.drop j).takeWhile nlB).length = m at *
    have E := Lib.hid e
    have HI := Lib.hid hI
    clear e hI hlen
    rcases hx with ⟨rfl, hm⟩ | ⟨hn, rfl⟩
    · have Hm := Lib.hid hm
      clear hm
      go_enter Tryd.func67, Tryd.ntmps67
      go_wp2_with (first | (go_at_call 56; refine (within_yes _ _ _ h0 h1).mono ?_; rintro e w' ⟨rfl, rfl⟩) | (go_at_call 87; refine (HI.out _).mono ?_; rintro e w' ⟨rfl, rfl⟩))
      go_ret
      exact ⟨ret_int (by rw [E.out, Hm.out]; omega), rfl⟩
    · go_enter Tryd.func67, Tryd.ntmps67
      go_wp2_with (first | (go_at_call 56; refine (within_yes _ _ _ h0 h1).mono ?_; rintro e w' ⟨rfl, rfl⟩) | (go_at_call 87; refine (HI.out _).mono ?_; rintro e w' ⟨rfl, rfl⟩))
      go_ret
      exact ⟨ret_int (by rw [E.out]; omega), rfl⟩
  · have e : lineI s.data.toList i = i := by
      unfold lineI
      rw [if_neg]
      rw [size_data]
      exact hin
    have E := Lib.hid e
    clear e
    go_enter Tryd.func67, Tryd.ntmps67
    go_wp2_with (go_at_call 56; refine (within_no _ _ _ (by omega)).mono ?_; rintro e w' ⟨rfl, rfl⟩)
    go_ret
    exact ⟨ret_int E.out.symm, rfl⟩
end Go.Proofs.YtmceblemiboedaaDoor

/-
  Package ast: isText, isMark, isNumber.
-/
namespace Go.Proofs.YtmceblemiboedaaDoor
open Go.RowKit
set_option linter.unusedVariables false

/-- utf8's tables lie in memory. -/
def TabU (w : World) : Prop := Lib.Utf8Tabs 0 1 w
theorem contains_index : ∀ (l : List UInt8) (c : UInt8), decide (0 ≤ Lib.indexByte l c) = l.contains c
  | [], c => by simp [Lib.indexByte]
  | x :: l, c => by
    have ih := contains_index l c
    rw [Lib.indexByte, List.contains_cons]
    by_cases h : x = c
    · subst h; simp
    · have h1 : (x == c) = false := by simpa using h
      have h2 : (c == x) = false := by simpa using fun e : c = x => h e.symm
      rw [h1, h2, Bool.false_or, ← ih]
      simp only [Bool.false_eq_true, if_false]
      by_cases h3 : Lib.indexByte l c = -1
      · rw [h3]; decide
      · have : (Lib.indexByte l c == -1) = false := by simpa using h3
        rw [this]
        simp only [Bool.false_eq_true, if_false]
        rw [decide_eq_decide]
        omega
set_option maxHeartbeats 1000000 in
theorem isText_any (s : ByteArray) (w : World) (hs : s.size ≤ 8000000) (hT : TabU w) :
    Calls Tryd.prog 24 #[.string s] w fun e w' => e = .returned (.bool (textB s)) ∧ Below w.heap.size w w' := by
  have hV := Tryd.utf8_ValidString s w (by omega) hT
  have hC := fun W => Tryd.strings_Contains_one s 13 W
  have hcc := contains_index s.data.toList 13
  unfold textB validB
  rw [← hcc]
  cases hv : Lib.validD s.data.toList
  · rw [hv] at hV
    clear hv hcc hC
    go_enter Tryd.func24, Tryd.ntmps24
    go_wp2_with (go_at_call 37; refine hV.mono ?_; rintro e w' ⟨rfl, hb⟩)
    go_ret
    exact ⟨rfl, hb⟩
  · rw [hv] at hV
    clear hv hcc
    generalize decide (0 ≤ Lib.indexByte s.data.toList 13) = q at hC ⊢
    go_enter Tryd.func24, Tryd.ntmps24
    go_wp2_with (first | (go_at_call 37; refine hV.mono ?_; rintro e w' ⟨rfl, hb⟩) | (go_at_call 38; refine (hC _).mono ?_; rintro e w' ⟨rfl, rfl⟩))
    go_ret
    exact ⟨by cases q <;> rfl, hb⟩
end Go.Proofs.YtmceblemiboedaaDoor

/-
  Package ast: areLines.
-/
namespace Go.Proofs.YtmceblemiboedaaDoor
open Go.RowKit
set_option linter.unusedVariables false
set_option linter.unusedSimpArgs false

theorem anyTo_skip (p : Nat → Bool) (a : Nat) : ∀ b, a ≤ b → (∀ j, a ≤ j → j < b → p j = false) → anyTo p b = anyTo p a
  | 0, h, _ => by rw [show a = 0 by omega]
  | b + 1, h, hp => by
    by_cases e : a = b + 1
    · rw [e]
    · rw [anyTo, anyTo_skip p a b (by omega) (fun j h1 h2 => hp j h1 (by omega)), hp b (by omega) (by omega), Bool.or_false]
theorem newAt_no {l : List UInt8} {j : Nat} (h : nlB (at0 l j) = true) : newAt l j = false := by
  unfold nlB at h
  unfold newAt
  cases e : at0 l j == 10
  · rfl
  · rw [e] at h; cases h
theorem badAt_no {l : List UInt8} {j : Nat} (h : newAt l j = false) : badAt l j = false := by unfold badAt; rw [h]; rfl
theorem flushAt_no {l : List UInt8} {j : Nat} (h : newAt l j = false) : flushAt l j = false := by unfold flushAt; rw [h]; rfl
/-- On to the next line feed. -/
theorem lines_step (l : List UInt8) (i : Nat) (hi : i + 1 ≤ l.length) :
    anyTo (newAt l) (behN nlB l (i + 1)) = (anyTo (newAt l) i || newAt l i) ∧ anyTo (badAt l) (behN nlB l (i + 1)) = (anyTo (badAt l) i || badAt l i) ∧ anyTo (flushAt l) (behN nlB l (i + 1)) = (anyTo (flushAt l) i || flushAt l i) := by
  have hn : ∀ j, i + 1 ≤ j → j < behN nlB l (i + 1) → newAt l j = false := fun j h1 h2 => newAt_no (behN_so nlB l (i + 1) j h1 h2)
  have hg := behN_ge nlB l (i + 1)
  exact ⟨anyTo_skip _ (i + 1) _ hg hn, anyTo_skip _ (i + 1) _ hg fun j h1 h2 => badAt_no (hn j h1 h2), anyTo_skip _ (i + 1) _ hg fun j h1 h2 => flushAt_no (hn j h1 h2)⟩
theorem lines_zero (l : List UInt8) : anyTo (newAt l) (behN nlB l 0) = false ∧ anyTo (badAt l) (behN nlB l 0) = false ∧ anyTo (flushAt l) (behN nlB l 0) = false := by
  have hn : ∀ j, 0 ≤ j → j < behN nlB l 0 → newAt l j = false := fun j h1 h2 => newAt_no (behN_so nlB l 0 j h1 h2)
  exact ⟨anyTo_skip _ 0 _ (Nat.zero_le _) hn, anyTo_skip _ 0 _ (Nat.zero_le _) fun j h1 h2 => badAt_no (hn j h1 h2), anyTo_skip _ 0 _ (Nat.zero_le _) fun j h1 h2 => flushAt_no (hn j h1 h2)⟩
theorem nlB_no {c : UInt8} (h : nlB c = false) : c = 10 := by unfold nlB at h; simpa using h
theorem nl_stop (l : List UInt8) (k : Nat) (h : behN nlB l k < l.length) : at0 l (behN nlB l k) = 10 := nlB_no (behN_stop nlB l k h)
theorem at0_data (s : ByteArray) (k : Nat) (h : k < s.size) : at0 s.data.toList k = s[k] := by
  rw [at0_get _ _ (by rw [size_data]; exact h)]; rfl
theorem mark_any (c : UInt8) (w : World) : Calls Tryd.prog 69 #[.int .u8 (c.toNat : Int)] w fun e w' => e = .returned (.bool (isMarkB c)) ∧ w = w' := by
  have E : isMarkB c = ((c.toNat : Int) == 46 || (c.toNat : Int) == 42 || (c.toNat : Int) == 91) := by
    unfold isMarkB
    rw [Bool.eq_iff_iff]
    simp [or_assoc]
  rw [E]
  clear E
  go_enter Tryd.func69, Tryd.ntmps69
  go_wp2
  all_goals
    go_ret
    exact ⟨by simp [*], rfl⟩
theorem beh_pos (p : UInt8 → Bool) (l : List UInt8) (k : Nat) (h : k < l.length) : decide ((k : Int) < (behN p l k : Int)) = p (at0 l k) := by
  rw [at0_get l k h]
  cases hb : p l[k]
  · rw [behN_no p l k h hb]; simp
  · have h1 := behN_yes p l k h hb
    have h2 := behN_ge p l (k + 1)
    exact decide_eq_true (by omega)
theorem sp_at (l : List UInt8) (k : Nat) (h : k < l.length) : ((behN spB l k : Int) == (k : Int)) = !spB (at0 l k) := by
  have := beh_pos spB l k h
  have hg := behN_ge spB l k
  rw [← this]
  by_cases e : behN spB l k = k
  · rw [e]; simp
  · have h1 : (k : Int) < (behN spB l k : Int) := by omega
    rw [decide_eq_true h1]
    simp
    omega
/-- Behind spaces something stands, if the last sign is none. -/
theorem sp_lt (l : List UInt8) (k : Nat) (h : k < l.length) (hl : blB (at0 l (l.length - 1)) = false) : behN spB l k < l.length := by
  have h1 := behN_le spB l k (by omega)
  rcases Nat.lt_or_ge (behN spB l k) l.length with h2 | h2
  · exact h2
  · have := behN_so spB l k (l.length - 1) (by omega) (by omega)
    unfold blB at hl
    unfold spB at this
    simp at hl this
    omega
theorem anyTo_true (p : Nat → Bool) (i : Nat) (h : p i = true) : ∀ n, i < n → anyTo p n = true
  | 0, hn => by omega
  | n + 1, hn => by
    rw [anyTo]
    by_cases e : i = n
    · subst e; rw [h, Bool.or_true]
    · rw [anyTo_true p i h n (by omega), Bool.true_or]
/-- How the lines end. -/
def lineEnd (l : List UInt8) (i : Nat) : Bool := !isMarkB (at0 l 0) || !anyTo (newAt l) i || anyTo (flushAt l) i
set_option maxHeartbeats 4000000 in
set_option maxRecDepth 1000000 in
theorem areLines_any (s : ByteArray) (w : World) (h0 : 0 < s.size) (hs : s.size ≤ 8000000) :
    Calls Tryd.prog 46 #[.string s] w fun e w' => e = .returned (.bool (linesB s.data.toList)) ∧ w = w' := by
  have hB := fun i W => blank_any s i W (by omega)
  have hL := fun i W => line_any s i W (by omega)
  have hS := fun i W => spaces_any s i W (by omega)
  have hlen := size_data s
  obtain ⟨l, hl⟩ : ∃ l, s.data.toList = l := ⟨_, rfl⟩
  rw [hl] at hB hL hS hlen ⊢
  have hat : ∀ k (h : k < s.size), s[k] = at0 l k := fun k h => by rw [← hl]; exact (at0_data s k h).symm
  have hB0 : behI blB l 0 = (behN blB l 0 : Int) := by unfold behI; rw [if_neg (by omega)]; rfl
  have hB1 : behI blB l (s.size - 1 : Int) = (behN blB l (s.size - 1) : Int) := by unfold behI; rw [if_neg (by omega), show ((s.size : Int) - 1).toNat = s.size - 1 by omega]
  have hd := beh_pos blB l 0 (by omega)
  have hd1 := beh_pos blB l (s.size - 1) (by omega)
  rw [show ((s.size - 1 : Nat) : Int) = (s.size : Int) - 1 by omega] at hd1
  rw [show ((0 : Nat) : Int) = 0 from rfl] at hd
  have hdN : decide (0 < behN blB l 0) = blB (at0 l 0) := by
    rw [← hd]
    rw [decide_eq_decide]
    omega
  have hB0' := fun W => hB 0 W
  have hB1' := fun W => hB (s.size - 1 : Int) W
  rw [hB0] at hB0'
  rw [hB1] at hB1'
  unfold linesB
  rw [hlen]
  have HLen := Lib.hid hlen
  have HL := Lib.hid hl
  have HAt := Lib.hid hat
  clear hB0 hB1 hB hlen hl hat
  have h1 : ¬ s.size < 1 := by omega
  have h1' : (1 : Int) ≤ (s.size : Int) := by omega
  have hLs : (s.size : Int) ≤ 8000000 := by omega
  cases hb0 : blB (at0 l 0)
  case true =>
    rw [hb0] at hd hdN
    generalize behN blB l 0 = k0 at *
    have HB := Lib.hid hB0'
    clear hd1 hB1' hB0' hL hS hb0
    go_enter Tryd.func46, Tryd.ntmps46
    go_wp2_with (go_at_call 66; refine (HB.out _).mono ?_; rintro e w' ⟨rfl, rfl⟩)
    go_ret
    exact ⟨rfl, rfl⟩
  rw [hb0] at hd hdN
  generalize behN blB l 0 = k0 at *
  cases hb1 : blB (at0 l (s.size - 1))
  case true =>
    rw [hb1] at hd1
    generalize behN blB l (s.size - 1) = k1 at *
    have HB := Lib.hid hB0'
    have HB1 := Lib.hid hB1'
    clear hB1' hB0' hL hS hb1 hb0
    go_enter Tryd.func46, Tryd.ntmps46
    go_wp2_with fail
    go_at_call 66
    refine (HB.out _).mono ?_
    rintro e w' ⟨rfl, rfl⟩
    go_wp2_with fail
    go_at_call 66
    refine (HB1.out _).mono ?_
    rintro e w' ⟨rfl, rfl⟩
    go_wp2
    go_ret
    exact ⟨rfl, rfl⟩
  rw [hb1] at hd1
  generalize behN blB l (s.size - 1) = k1 at *
  have HB := Lib.hid hB0'
  have HB1 := Lib.hid hB1'
  have HSp := Lib.hid hS
  have HLi := Lib.hid hL
  have Hb1 := Lib.hid hb1
  clear hB1' hB0' hL hS hb1 hb0
  have hl0 : lineI l 0 = (behN nlB l 0 : Int) := by unfold lineI; rw [if_pos ⟨by omega, by have := HLen.out; omega⟩]; rfl
  have hz := lines_zero l
  have hz1 := nl_stop l 0
  have hz2 := behN_le nlB l 0 (by omega)
  have hf := fun W => HLi.out 0 W
  rw [hl0] at hf
  have HF := Lib.hid hf
  rw [HLen.out] at hz1 hz2
  obtain ⟨i0, hi0⟩ : ∃ i0, behN nlB l 0 = i0 := ⟨_, rfl⟩
  rw [hi0] at HF hz hz1 hz2
  have Hz := Lib.hid hz
  have Hz1 := Lib.hid hz1
  clear hl0 hf hi0 hz hz1
  have hi0' : (0 : Int) ≤ (i0 : Int) := by omega
  have hi0'' : (i0 : Int) ≤ 8000000 := by omega
  go_enter Tryd.func46, Tryd.ntmps46
  go_wp2_with fail
  go_at_call 66
  refine (HB.out _).mono ?_
  rintro e w' ⟨rfl, rfl⟩
  go_wp2_with fail
  go_at_call 66
  refine (HB1.out _).mono ?_
  rintro e w' ⟨rfl, rfl⟩
  go_wp2_with fail
  go_at_call 67
  refine (HF.out _).mono ?_
  rintro e w' ⟨rfl, rfl⟩
  go_wp2
  go_loop [4, 5, 6] (fun sf fl at_ => ∃ k : Nat, 1 ≤ k ∧ k ≤ s.size + 1 ∧ at_ = .int .i64 (k : Nat) ∧ sf = .bool (anyTo (newAt l) (k - 1)) ∧ fl = .bool (anyTo (flushAt l) (k - 1)) ∧ Hid (k - 1 < s.size → at0 l (k - 1) = 10) ∧ Hid (anyTo (badAt l) (k - 1) = false)) (fun _ _ at_ => s.size + 1 - (intOf at_).toNat)
  case atStart =>
    exact ⟨i0 + 1, by omega, by omega, by go_num, by rw [Nat.add_sub_cancel, Hz.out.1], by rw [Nat.add_sub_cancel, Hz.out.2.2], Hz1.out, Hz.out.2.1⟩
  case round =>
    obtain ⟨k, hk1, hk2, rfl, rfl, rfl, Hnl, Hbad⟩ := hrel
    clear HB HB1 HF Hz Hz1 hz2 hi0' hi0'' hd hd1 hdN
    have hk0 : (0 : Int) ≤ (k : Int) := by omega
    have hk3 : (k : Int) ≤ 8000001 := by omega
    by_cases hlt : k < s.size
    · obtain ⟨i, hki⟩ : ∃ i, k = i + 1 := ⟨k - 1, by omega⟩
      have hst := lines_step l i (by have := HLen.out; omega)
      rw [← hki] at hst
      have hge := behN_ge nlB l k
      have hle := behN_le nlB l k (by have := HLen.out; omega)
      rw [HLen.out] at hle
      have hstop := nl_stop l k
      rw [HLen.out] at hstop
      have hln : lineI l (k : Int) = (behN nlB l k : Int) := by unfold lineI; rw [if_pos ⟨by omega, by have := HLen.out; omega⟩, Int.toNat_natCast]
      have hf := fun W => HLi.out (k : Int) W
      rw [hln] at hf
      have hnl := Hnl.out (by omega)
      have hki2 : k - 1 = i := by omega
      have hbad := Hbad.out
      rw [hki2] at hnl hbad ⊢
      have hnew : newAt l i = !(at0 l k == 10) := by
        unfold newAt
        rw [← hki, hnl, HLen.out, decide_eq_true hlt]; rfl
      have hsp := sp_lt l k (by have := HLen.out; omega) (by rw [HLen.out]; exact Hb1.out)
      rw [HLen.out] at hsp
      have hspg := behN_ge spB l k
      have hspa := sp_at l k (by have := HLen.out; omega)
      have hsb : behI spB l (k : Int) = (behN spB l k : Int) := by unfold behI; rw [if_neg (by omega), Int.toNat_natCast]
      have hsw := fun W => HSp.out (k : Int) W
      rw [hsb] at hsw
      obtain ⟨b, hb⟩ : ∃ b, behN spB l k = b := ⟨_, rfl⟩
      have hbd : badAt l i = (newAt l i && (at0 l b == 10 || isMarkB (at0 l b))) := by unfold badAt; rw [← hki, hb]
      have hfl : flushAt l i = (newAt l i && ((b : Int) == (k : Int))) := by unfold flushAt; rw [← hki, ← hspa, hb]
      rw [hb] at hsp hspg hsw
      obtain ⟨j, hj⟩ : ∃ j, behN nlB l k = j := ⟨_, rfl⟩
      rw [hj] at hst hge hle hstop hf
      have hc := HAt.out k hlt
      have hcb := HAt.out b hsp
      obtain ⟨c, hcc⟩ : ∃ c, s[k] = c := ⟨_, rfl⟩
      obtain ⟨x, hx⟩ : ∃ x, s[b] = x := ⟨_, rfl⟩
      rw [hcc] at hc
      rw [hx] at hcb
      rw [← hc] at hnew
      rw [← hcb] at hbd
      have hlt' : decide ((k : Int) < (s.size : Int)) = true := decide_eq_true (by omega)
      have hlt'' : decide (k < s.size) = true := decide_eq_true hlt
      have hlt3 : (k : Int) < (s.size : Int) := by omega
      have hb3 : (b : Int) < (s.size : Int) := by omega
      have hb0 : (0 : Int) ≤ (b : Int) := by omega
      have hj0 : (0 : Int) ≤ (j : Int) := by omega
      have hj1 : (j : Int) ≤ 8000000 := by omega
      have HF := Lib.hid hf
      have Hki := Lib.hid hki
      have HW := Lib.hid hsw
      have Hst := Lib.hid hst
      have Hnew := Lib.hid hnew
      have Hbd := Lib.hid hbd
      have Hfl := Lib.hid hfl
      have Hbad2 := Lib.hid hbad
      have Hstop := Lib.hid hstop
      have Hle := Lib.hid hle
      have Hge := Lib.hid hge
      have Hspg := Lib.hid hspg
      clear hki hki2 hst hstop hln hf hnl hbad hspa hsb hsw hb hbd hfl hj hc hcb hnew Hnl Hbad HLi HSp hle hge hspg
      obtain ⟨nA, hnA⟩ : ∃ z, anyTo (newAt l) i = z := ⟨_, rfl⟩
      obtain ⟨fA, hfA⟩ : ∃ z, anyTo (flushAt l) i = z := ⟨_, rfl⟩
      rw [hnA, hfA]
      have HnA := Lib.hid hnA
      have HfA := Lib.hid hfA
      clear hnA hfA
      by_cases h10 : c = 10
      · subst h10
        have hcz : ((s[k].toNat : Int) == 10) = true := by rw [hcc]; rfl
        have hn0 : newAt l i = false := by rw [Hnew.out]; rfl
        have Hn0 := Lib.hid hn0
        have Hcc := Lib.hid hcc
        clear hn0 hcc hx
        go_wp2_with fail
        go_at_call 67
        refine (HF.out _).mono ?_
        rintro e w' ⟨rfl, rfl⟩
        go_wp2
        go_round
        case rel =>
          have := Hle.out
          exact ⟨j + 1, by omega, by omega, by go_num, by rw [Nat.add_sub_cancel, Hst.out.1, HnA.out, Hn0.out, Bool.or_false], by rw [Nat.add_sub_cancel, Hst.out.2.2, HfA.out, flushAt_no Hn0.out, Bool.or_false], by rw [Nat.add_sub_cancel]; exact Hstop.out, by rw [Nat.add_sub_cancel]; exact (Hst.out.2.1.trans (by rw [Hbad2.out, badAt_no Hn0.out]; rfl))⟩
        case measure => simp [intOf]; have := Hge.out; omega
      · have hc1 : (c == 10) = false := by simpa using h10
        have hn1 : newAt l i = true := by rw [Hnew.out, hc1]; rfl
        have hcz : ((s[k].toNat : Int) == 10) = false := by
          rw [hcc]
          have : c.toNat ≠ 10 := fun e => h10 (UInt8.toNat_inj.1 e)
          simp; omega
        have Hn1 := Lib.hid hn1
        have Hcc := Lib.hid hcc
        have Hxx := Lib.hid hx
        have hms := fun W => mark_any s[b] W
        rw [hx] at hms
        have hxz : ((s[b].toNat : Int) == 10) = (x == 10) := by
          rw [hx]
          by_cases e : x = 10
          · subst e; rfl
          · have h1 : (x == 10) = false := by simpa using e
            have h2 : x.toNat ≠ 10 := fun e2 => e (UInt8.toNat_inj.1 e2)
            rw [h1]; simp; omega
        have hms2 : ∀ W : World, Calls Tryd.prog 69 #[.int .u8 (s[b].toNat : Int)] W fun e w' => e = .returned (.bool (isMarkB x)) ∧ W = w' := fun W => by rw [hx]; exact hms W
        have Hms := Lib.hid hms2
        clear hn1 hcc hx hms hms2 h10 hc1
        obtain ⟨q, hq⟩ : ∃ q, (x == 10) = q := ⟨_, rfl⟩
        rw [hq] at hxz
        have hb2 := Hbd.out
        rw [Hn1.out, hq] at hb2
        have Hb2 := Lib.hid hb2
        clear hq hb2
        cases q
        case true =>
          go_wp2_with fail
          go_at_call 68
          refine (HW.out _).mono ?_
          rintro e w' ⟨rfl, rfl⟩
          go_wp2
          go_ret
          exact ⟨ret_bool (by rw [anyTo_true (badAt l) i (by rw [Hb2.out]; rfl) s.size (by have := Hki.out; omega)]; simp), rfl⟩
        obtain ⟨m, hm⟩ : ∃ m, isMarkB x = m := ⟨_, rfl⟩
        have hms := Hms.out
        rw [hm] at hms
        have hb2 := Hb2.out
        rw [hm] at hb2
        have HM := Lib.hid hms
        have HB := Lib.hid hb2
        clear hm hms hb2 Hms Hb2
        cases m
        case true =>
          go_wp2_with fail
          go_at_call 68
          refine (HW.out _).mono ?_
          rintro e w' ⟨rfl, rfl⟩
          go_wp2_with fail
          go_at_call 69
          refine (HM.out _).mono ?_
          rintro e w' ⟨rfl, rfl⟩
          go_wp2
          go_ret
          exact ⟨ret_bool (by rw [anyTo_true (badAt l) i (by rw [HB.out]; rfl) s.size (by have := Hki.out; omega)]; simp), rfl⟩
        obtain ⟨z, hz⟩ : ∃ z, ((b : Int) == (k : Int)) = z := ⟨_, rfl⟩
        have hfl := Hfl.out
        rw [hz, Hn1.out] at hfl
        have HFl := Lib.hid hfl
        have hz2 : (b == k) = z := by rw [← hz]; rw [Bool.eq_iff_iff]; simp; omega
        clear hfl Hfl
        cases fA <;> cases z <;>
        · go_wp2_with fail
          go_at_call 68
          refine (HW.out _).mono ?_
          rintro e w' ⟨rfl, rfl⟩
          go_wp2_with fail
          go_at_call 69
          refine (HM.out _).mono ?_
          rintro e w' ⟨rfl, rfl⟩
          go_wp2_with fail
          go_at_call 67
          refine (HF.out _).mono ?_
          rintro e w' ⟨rfl, rfl⟩
          go_wp2
          go_round
          case rel =>
            have := Hle.out
            exact ⟨j + 1, by omega, by omega, by go_num, by rw [Nat.add_sub_cancel, Hst.out.1, HnA.out, Hn1.out, Bool.or_true], by rw [Nat.add_sub_cancel, Hst.out.2.2, HfA.out, HFl.out]; rfl, by rw [Nat.add_sub_cancel]; exact Hstop.out, by rw [Nat.add_sub_cancel]; exact (Hst.out.2.1.trans (by rw [Hbad2.out, HB.out]; rfl))⟩
          case measure => simp [intOf]; have := Hge.out; omega
    · have hkk : k = s.size + 1 := by
        by_cases e : k = s.size
        · have := Hnl.out (by omega)
          rw [e] at this
          have hb := Hb1.out
          rw [this] at hb
          exact absurd hb (by decide)
        · omega
      have hbad := Hbad.out
      obtain ⟨x, hx⟩ : ∃ x, anyTo (newAt l) s.size = x := ⟨_, rfl⟩
      obtain ⟨y, hy⟩ : ∃ y, anyTo (flushAt l) s.size = y := ⟨_, rfl⟩
      obtain ⟨m, hm⟩ : ∃ m, isMarkB (at0 l 0) = m := ⟨_, rfl⟩
      rw [show k - 1 = s.size by omega] at hbad ⊢
      rw [hx, hy]
      have hs0 := HAt.out 0 h0
      have hms := fun W => mark_any s[0] W
      rw [hs0, hm] at hms
      rw [← hs0] at hms
      have Hms := Lib.hid hms
      have Hx := Lib.hid hx
      have Hy := Lib.hid hy
      have Hm := Lib.hid hm
      have Hbad2 := Lib.hid hbad
      have hlt' : decide ((k : Int) < (s.size : Int)) = false := decide_eq_false (by omega)
      have hlt'' : decide (k < s.size) = false := decide_eq_false hlt
      have h00 : (0 : Int) < (s.size : Int) := by omega
      clear hs0 hkk hbad Hbad HLi HSp hx hy hm hms Hnl
      go_wp2_with fail
      go_at_call 69
      refine (Hms.out _).mono ?_
      rintro e w' ⟨rfl, rfl⟩
      cases m <;> cases x <;> cases y <;>
      · go_wp2
        go_ret
        exact ⟨ret_bool (by rw [Hbad2.out, Hx.out, Hy.out, Hm.out]; rfl), rfl⟩
end Go.Proofs.YtmceblemiboedaaDoor

/-
  strings.Builder at this program: copyCheck (its road by panic is none here), WriteByte, WriteString, by walks of our own.
-/
namespace Go.Proofs.YtmceblemiboedaaDoor
open Go.RowKit

theorem sizeBld : (Tryd.prog.info? 70).map (·.size) = some 2 := by kernel_rfl
theorem liesBld : liesAt Tryd.prog Tryd.prog.depth 70 (2 / Tryd.prog.cellsOf 70) 0 70 1 = true := by kernel_rfl
theorem infoByte : (Tryd.prog.info? 5).map (fun i => (i.zero, i.size, i.bytes)) = some (some (.int .u8 0), 1, 1) := by kernel_rfl

set_option maxHeartbeats 1000000 in
set_option maxRecDepth 100000 in
theorem bld_copyCheck_used (b : Nat) (w : World) (h0 : w.cell? ⟨b, 0, none⟩ = some (.pointer (some ⟨b, 0, none⟩))) :
    Calls Tryd.prog 63 #[.pointer (some ⟨b, 0, none⟩)] w fun e w' => e = .returned (.tuple #[]) ∧ w = w' := by
  obtain ⟨j, hj, _⟩ := Option.map_eq_some_iff.1 sizeBld
  go_enter Tryd.func63, Tryd.ntmps63
  go_wp2
  rw [Lib.run_neq_ptr_same w _ Tryd.underlying68 hj]
  go_wp2
  go_end0
  exact ⟨rfl, rfl⟩

set_option maxHeartbeats 1000000 in
set_option maxRecDepth 100000 in
theorem bld_copyCheck_fresh (b : Nat) (w : World) (h0 : w.cell? ⟨b, 0, none⟩ = some (.pointer none)) (hsh : w.shape? b = some (70, 2)) (hfz : w.frozen? ⟨b, 0, none⟩ = false) :
    Calls Tryd.prog 63 #[.pointer (some ⟨b, 0, none⟩)] w fun e w' => e = .returned (.tuple #[]) ∧ w' = w.setCell ⟨b, 0, none⟩ (.pointer (some ⟨b, 0, none⟩)) := by
  obtain ⟨j, hj, hjs⟩ := Option.map_eq_some_iff.1 sizeBld
  go_enter Tryd.func63, Tryd.ntmps63
  go_wp2
  rw [Lib.run_to_unsafe w ⟨b, 0, none⟩ Tryd.underlying68 Tryd.underlying100 hj (by rw [hjs]; decide) hsh (Nat.zero_lt_succ 1)]
  simp only [Result.andThen]
  rw [Oper.upon_value]
  go_wp2
  rw [run_callFunc_extern Tryd.func79 (by kernel_rfl) (by kernel_rfl) (by kernel_rfl) (e := Extern.AbiNoEscape.same) (by kernel_rfl)]
  rw [Lib.run_noEscape]
  simp only [Result.andThen]
  rw [Oper.upon_value]
  go_wp2
  rw [Lib.run_from_unsafe w ⟨b, 0, none⟩ Tryd.underlying100 Tryd.underlying68 hj hsh liesBld]
  simp only [Result.andThen]
  rw [Oper.upon_value]
  go_wp2
  go_end0
  exact ⟨rfl, rfl⟩

theorem bld_copyCheck (B b : Nat) (bs : List Value) (w : World) (h : Lib.IsBuilderF 70 5 B b bs w) :
    Calls Tryd.prog 63 #[.pointer (some ⟨b, 0, none⟩)] w fun e w' => e = .returned (.tuple #[]) ∧ (Lib.BuilderAtF 70 5 B b (.pointer (some ⟨b, 0, none⟩)) bs w' ∧ Below B w w' ∧ Lib.OthersKept 5 (some b) w w') := by
  rcases h with h | h
  · refine (bld_copyCheck_fresh b w h.cell0 h.shape h.frozen0).mono ?_
    rintro e w' ⟨rfl, rfl⟩
    exact ⟨rfl, h.used _, (Below.refl B w).setCell (p := ⟨b, 0, none⟩) h.1 _, (Lib.OthersKept.refl _ _ w).setCell ⟨b, 0, none⟩ rfl _⟩
  · refine (bld_copyCheck_used b w h.cell0).mono ?_
    rintro e w' ⟨rfl, rfl⟩
    exact ⟨rfl, h, Below.refl B _, Lib.OthersKept.refl _ _ _⟩

set_option maxHeartbeats 2000000 in
set_option maxRecDepth 100000 in
theorem bld_WriteByte (B b : Nat) (bs : List Value) (c : Int) (w : World) (h : Lib.IsBuilderF 70 5 B b bs w) (hlen : bs.length + 1 ≤ 140737488355328) (hBw : B ≤ w.heap.size) :
    Calls Tryd.prog 45 #[.pointer (some ⟨b, 0, none⟩), .int .u8 c] w fun e w' => e = .returned .nilIface ∧ (Lib.BuilderAtF 70 5 B b (.pointer (some ⟨b, 0, none⟩)) (bs ++ [.int .u8 c]) w' ∧ Below B w w' ∧ Lib.OthersKept 5 (some b) w w') := by
  obtain ⟨i0, hi, hz0, hz1, hz2⟩ := info_parts infoByte
  go_enter Tryd.func45, Tryd.ntmps45
  go_wp2_with (go_at_call 63; refine (bld_copyCheck B b bs _ h).mono ?_)
  rintro e w1 ⟨rfl, h1, hb1, hk1⟩
  obtain ⟨hB, v, hbk, hown, hne⟩ := h1
  have c0 : w1.cell? ⟨b, 0, none⟩ = some (.pointer (some ⟨b, 0, none⟩)) := by rw [Lib.cell_of_heap hbk]; rfl
  have c1 : w1.cell? ⟨b, 1, none⟩ = some v := by rw [Lib.cell_of_heap hbk]; rfl
  go_wp2_with (at_builtin; refine wpList_append_ownF _ rfl _ _ 58 rfl B 5 i0 (.int .u8 0) 1 1 Tryd.underlying58 hi hz0 hz1 hz2 rfl (by decide) _ _ _ rfl (hown.alloc _) ⟨w1.heap.size, 0, none⟩ 1 1 [.int .u8 c] rfl rfl ?c1 ?c2 ?c3 ?c4 ?c5 ?_)
  case c1 =>
    intro j u hj
    match j, hj with
    | 0, hj => simp at hj; subst hj; simp [Addr.add]
  case c2 => intro u hu; simp at hu; subst hu; rfl
  case c3 => unfold maxLen; omega
  case c4 => omega
  case c5 => have := hb1.size; simp; omega
  intro v' w2 hown' hgrow _
  have hlt : b < w1.heap.size := by
    rcases Nat.lt_or_ge b w1.heap.size with h' | h'
    · exact h'
    · simp [Array.getElem?_eq_none h'] at hbk
  have hb2 : w2.heap[b]? = some (.cells #[.pointer (some ⟨b, 0, none⟩), v] 70 (0, 0)) := by
    rw [hgrow.block b (by simp; omega) (fun e => hne e.symm), Lib.alloc_old w1 _ b hlt]
    exact hbk
  have d0 : w2.cell? ⟨b, 0, none⟩ = some (.pointer (some ⟨b, 0, none⟩)) := by rw [Lib.cell_of_heap hb2]; rfl
  have d1 : w2.cell? ⟨b, 1, none⟩ = some v := by rw [Lib.cell_of_heap hb2]; rfl
  have f1 : w2.frozen? ⟨b, 1, none⟩ = false := Lib.frozen_of_heap hb2 1
  obtain ⟨g, cap, rfl⟩ : ∃ g cap, v' = .slice (some ⟨g, 0, none⟩) (bs.length + 1) cap := by
    rcases hown'.2 with ⟨_, h0⟩ | ⟨g, cap, cur, fz, hv, _⟩
    · omega
    · exact ⟨g, cap, hv⟩
  go_wp2
  go_ret
  refine ⟨rfl, ?_, ?_, ((hk1.alloc _).grown hgrow (Lib.ownsRowF_kind (hown.alloc _))).setCell ⟨b, 1, none⟩ rfl _⟩
  · exact Lib.BuilderAtF.put (T := 70) (e := 5) hB hb2 (bs' := bs ++ [.int .u8 c]) (by simpa using hown') (by decide)
  · exact ((hb1.alloc (by have := hb1.size; omega) _).grown hgrow (by have := hb1.size; simp; omega) (fun k hk => (hown.lt k hk).1)).setCell (p := ⟨b, 1, none⟩) hB _

set_option maxHeartbeats 2000000 in
set_option maxRecDepth 100000 in
theorem bld_WriteString (B b : Nat) (bs : List Value) (s : ByteArray) (w : World) (h : Lib.IsBuilderF 70 5 B b bs w) (hlen : bs.length + s.size ≤ 140737488355328) (hBw : B ≤ w.heap.size) :
    Calls Tryd.prog 41 #[.pointer (some ⟨b, 0, none⟩), .string s] w fun e w' => e = .returned (.tuple #[.int .i64 s.size, .nilIface]) ∧ (Lib.BuilderAtF 70 5 B b (.pointer (some ⟨b, 0, none⟩)) (bs ++ Lib.strCells s) w' ∧ Below B w w' ∧ Lib.OthersKept 5 (some b) w w') := by
  obtain ⟨i0, hi, hz0, hz1, hz2⟩ := info_parts infoByte
  go_enter Tryd.func41, Tryd.ntmps41
  go_wp2_with (go_at_call 63; refine (bld_copyCheck B b bs _ h).mono ?_)
  rintro e w1 ⟨rfl, h1, hb1, hk1⟩
  obtain ⟨hB, v, hbk, hown, hne⟩ := h1
  have c0 : w1.cell? ⟨b, 0, none⟩ = some (.pointer (some ⟨b, 0, none⟩)) := by rw [Lib.cell_of_heap hbk]; rfl
  have c1 : w1.cell? ⟨b, 1, none⟩ = some v := by rw [Lib.cell_of_heap hbk]; rfl
  go_wp2_with (at_builtin; refine Lib.wpList_append_own_stringF _ rfl _ _ 58 9 rfl B 5 i0 Tryd.underlying58 Tryd.underlying9 hi hz0 hz1 hz2 _ _ _ rfl hown s rfl ?c3 ?c4 ?c5 ?_)
  case c3 => unfold maxLen; omega
  case c4 => omega
  case c5 => have := hb1.size; omega
  intro v' w2 hown' hgrow _
  have hlt : b < w1.heap.size := by
    rcases Nat.lt_or_ge b w1.heap.size with h' | h'
    · exact h'
    · simp [Array.getElem?_eq_none h'] at hbk
  have hb2 : w2.heap[b]? = some (.cells #[.pointer (some ⟨b, 0, none⟩), v] 70 (0, 0)) := by
    rw [hgrow.block b hlt (fun e => hne e.symm)]
    exact hbk
  have d0 : w2.cell? ⟨b, 0, none⟩ = some (.pointer (some ⟨b, 0, none⟩)) := by rw [Lib.cell_of_heap hb2]; rfl
  have d1 : w2.cell? ⟨b, 1, none⟩ = some v := by rw [Lib.cell_of_heap hb2]; rfl
  have f1 : w2.frozen? ⟨b, 1, none⟩ = false := Lib.frozen_of_heap hb2 1
  obtain ⟨ao, n', cap, rfl⟩ : ∃ ao n' cap, v' = .slice ao n' cap := by
    rcases hown'.2 with ⟨hv, _⟩ | ⟨g, cap, cur, fz, hv, _⟩
    · exact ⟨_, _, _, hv⟩
    · exact ⟨_, _, _, hv⟩
  go_wp2
  go_ret2
  refine ⟨rfl, ?_, ?_, (hk1.grown hgrow (Lib.ownsRowF_kind hown)).setCell ⟨b, 1, none⟩ rfl _⟩
  · exact Lib.BuilderAtF.put (T := 70) (e := 5) hB hb2 (bs' := bs ++ Lib.strCells s) (by simpa [Lib.strCells_length] using hown') (by decide)
  · exact (hb1.grown hgrow (by have := hb1.size; omega) (fun k hk => (hown.lt k hk).1)).setCell (p := ⟨b, 1, none⟩) hB _
end Go.Proofs.YtmceblemiboedaaDoor

/-
  Package ast: the list of questions while a builder is written; a pattern's builder while the list is.
-/
namespace Go.Proofs.YtmceblemiboedaaDoor
open Go.RowKit
set_option linter.unusedVariables false

/-- The types of the boxes that a question stands in. -/
def Kd (t : TypeId) : Prop := t = 52 ∨ t = 33 ∨ t = 105 ∨ t = 3
theorem IsQ.mono {W0 : World} {qb : Nat} {fv : Value} {q : Qn} {w w' : World} (h : IsQ W0 qb fv q w) (go : ∀ {k c t}, Kd t → BoxAt w k c t → BoxAt w' k c t) : IsQ W0 qb fv q w' := by
  match q, h with
  | .same a b, ⟨k1, k2, k3, pa, pb, e, b1, b2, b3, r⟩ => exact ⟨k1, k2, k3, pa, pb, e, go (by simp [Kd]) b1, go (by simp [Kd]) b2, go (by simp [Kd]) b3, r⟩
  | .pats a b, ⟨k1, k2, k3, x1, o1, x2, o2, u1, u2, e, b1, b2, b3, r⟩ => exact ⟨k1, k2, k3, x1, o1, x2, o2, u1, u2, e, go (by simp [Kd]) b1, go (by simp [Kd]) b2, go (by simp [Kd]) b3, r⟩
  | .may .brc a d, ⟨N, k1, k2, k3, p, d', hN, hd, hd2, e, b1, b2, b3, r⟩ => exact ⟨N, k1, k2, k3, p, d', hN, hd, hd2, e, go (by simp [Kd]) b1, go (by simp [Kd]) b2, go (by simp [Kd]) b3, r⟩
  | .may .inl a d, ⟨k1, k2, k3, p, hd, e, b1, b2, b3, r⟩ => exact ⟨k1, k2, k3, p, hd, e, go (by simp [Kd]) b1, go (by simp [Kd]) b2, go (by simp [Kd]) b3, r⟩
theorem QZip.mono {W0 : World} {qb : Nat} {w w' : World} (go : ∀ {k c t}, Kd t → BoxAt w k c t → BoxAt w' k c t) : ∀ {fs : List Value} {qs : List Qn}, QZip W0 qb w fs qs → QZip W0 qb w' fs qs
  | [], [], _ => trivial
  | f :: fs, q :: qs, h => ⟨h.1.mono go, QZip.mono go h.2⟩
  | [], q :: qs, h => h.elim
  | f :: fs, [], h => h.elim
/-- What a builder's step keeps. -/
theorem keptU_box {b : Nat} {cs : Array Value} {w w' : World} (hb : BoxAt w b cs 70) (hk : Lib.OthersKept 5 (some b) w w') {k : Nat} {c : Array Value} {t : TypeId} (h : BoxAt w k c t) (h1 : t ≠ 70) (h2 : t ≠ 5) : BoxAt w' k c t :=
  hk k _ h (by intro e; exact ne_of_box h hb h1 (Option.some.inj e)) (by intro c fz e; cases e; exact h2 rfl)
theorem QsAt.keptU {W0 : World} {qb : Nat} {qs : List Qn} {b : Nat} {cs : Array Value} {w w' : World} (h : QsAt W0 qb qs w) (hb : BoxAt w b cs 70) (hk : Lib.OthersKept 5 (some b) w w') (hB : Below W0.heap.size w w') : QsAt W0 qb qs w' := by
  obtain ⟨fvs, ⟨h1, v, h2, h3⟩, h4, h5⟩ := h
  refine ⟨fvs, ⟨h1, v, keptU_box hb hk h2 (by decide) (by decide), ?_⟩, h4.mono (fun hkd hbx => keptU_box hb hk hbx (by rcases hkd with rfl | rfl | rfl | rfl <;> decide) (by rcases hkd with rfl | rfl | rfl | rfl <;> decide)), h5.trans hB⟩
  obtain ⟨g1, g2⟩ := h3
  refine ⟨g1, ?_⟩
  rcases g2 with g2 | ⟨g, cap, cur, e, hg, hh, r⟩
  · exact .inl g2
  · exact .inr ⟨g, cap, cur, e, hg, keptU_box hb hk hh (by decide) (by decide), r⟩
/-- A step of a builder that is younger than w. -/
theorem StepQ.build {B qb n : Nat} {w w1 w2 : World} (h : StepQ B qb w w1) (hn : n = w.heap.size) (hB : B ≤ n) (hs : Below n w1 w2) : StepQ B qb w w2 :=
  ⟨h.below.trans (hs.mono hB), fun k o hk h1 h2 => (hs.block k (by rw [hn]; exact (Array.getElem?_eq_some_iff.1 hk).1)).trans (h.kept k o hk h1 h2)⟩
/-- A builder while the list is written. -/
theorem IsBuilderF.stepQ {B qb n b : Nat} {cs : Array Value} {bs : List Value} {w w' : World} (h : Lib.IsBuilderF 70 5 n b bs w) (hq : BoxAt w qb cs 46) (hs : StepQ B qb w w') : Lib.IsBuilderF 70 5 n b bs w' := by
  have go : ∀ {p : Value}, Lib.BuilderAtF 70 5 n b p bs w → Lib.BuilderAtF 70 5 n b p bs w' := by
    rintro p ⟨h1, v, h2, h3, h4⟩
    have hx : BoxAt w b #[p, v] 70 := h2
    refine ⟨h1, v, hx.step hs (ne_of_box hx hq (by decide)) (by decide), ?_, h4⟩
    obtain ⟨g1, g2⟩ := h3
    refine ⟨g1, ?_⟩
    rcases g2 with g2 | ⟨g, cap, cur, fz, e, hg, hh, r⟩
    · exact .inl g2
    · refine .inr ⟨g, cap, cur, fz, e, hg, ?_, r⟩
      have hne : g ≠ qb := by
        rintro rfl
        unfold BoxAt at hq
        rw [hh] at hq
        cases hq
      exact hs.kept g _ hh (by intro e; exact hne (Option.some.inj e)) (by intro c fz e; cases e)
  rcases h with h | h
  · exact .inl (go h)
  · exact .inr (go h)
theorem IsBuilderF.box {n b : Nat} {bs : List Value} {w : World} (h : Lib.IsBuilderF 70 5 n b bs w) : ∃ cs, BoxAt w b cs 70 := by
  rcases h with ⟨_, v, h, _⟩ | ⟨_, v, h, _⟩
  · exact ⟨_, h⟩
  · exact ⟨_, h⟩
end Go.Proofs.YtmceblemiboedaaDoor

/-
  Package ast: isPattern.
-/
namespace Go.Proofs.YtmceblemiboedaaDoor
open Go.RowKit
set_option linter.unusedVariables false
set_option linter.unusedSimpArgs false

def hasBrace (s : ByteArray) : Bool := s.data.toList.contains 123 || s.data.toList.contains 125
/-- strings.ContainsAny of a text of signs, for braces. -/
def CaTo (s : ByteArray) : Prop := ∀ w : World, Calls Tryd.prog 40 #[.string s, .string ⟨#[123, 125]⟩] w fun e w' => e = .returned (.bool (hasBrace s)) ∧ Below w.heap.size w w'
/-- Does a text stand ahead? -/
def besideAt (l : List EL) : Nat → Bool
  | 0 => false
  | j + 1 => match l[j]? with
    | some (.mk _ none) => true
    | _ => false
/-- The value of an element's place. -/
theorem pat_get {W0 : World} {l : List EL} {v : Value} (h : PatAt W0 l v) {i : Nat} (hi : i < l.length) : ∃ b o c, v = .slice (some ⟨b, o, none⟩) l.length c ∧ b < W0.heap.size ∧
    ∀ j t p, l[j]? = some (.mk t p) → W0.cell? ⟨b, o + j * 2, none⟩ = some (.string t) ∧ ∃ u, W0.cell? ⟨b, o + j * 2 + 1, none⟩ = some u ∧ OAt W0 p u := by
  obtain ⟨A, c, rfl, _, _, h2⟩ := h
  obtain ⟨b, o, rfl, h3⟩ := h2 (by omega)
  obtain ⟨t, p⟩ : EL := l[0]'(by omega)
  have h0 : l[0]? = some l[0] := List.getElem?_eq_getElem (by omega)
  refine ⟨b, o, c, rfl, ?_, fun j t p hj => ?_⟩
  · cases e : l[0]'(by omega) with
    | mk t p => rw [e] at h0; exact (h3.get 0 h0).1
  · exact ⟨(h3.get j hj).2.1, (h3.get j hj).2.2⟩
theorem sizeEs_length : ∀ l : List EL, l.length ≤ sizeEs l
  | [] => Nat.zero_le _
  | .mk t p :: r => by have := sizeEs_length r; rw [sizeEs, List.length_cons]; omega
theorem sizeEs_append : ∀ a b : List EL, sizeEs (a ++ b) = sizeEs a + sizeEs b
  | [], b => by rw [List.nil_append, sizeEs]; omega
  | .mk t p :: r, b => by rw [List.cons_append, sizeEs, sizeEs, sizeEs_append r b]; omega
theorem linesOf_append (c : UInt8) : ∀ a b : List EL, linesOf c (a ++ b) = linesOf c a ++ linesOf c b
  | [], b => by simp [linesOf]
  | .mk t none :: r, b => by rw [List.cons_append, linesOf, linesOf, linesOf_append c r b, List.append_assoc]
  | .mk t (some e) :: r, b => by rw [List.cons_append, linesOf, linesOf, linesOf_append c r b, List.cons_append]
theorem linesOf_length (c : UInt8) : ∀ l : List EL, (linesOf c l).length ≤ sizeEs l
  | [] => by simp [linesOf]
  | .mk t none :: r => by have := linesOf_length c r; have := size_data t; rw [linesOf, sizeEs, List.length_append]; omega
  | .mk t (some e) :: r => by have := linesOf_length c r; rw [linesOf, sizeEs, List.length_cons]; omega
theorem take_snoc {α : Type} (l : List α) (i : Nat) (x : α) (h : l[i]? = some x) : l.take (i + 1) = l.take i ++ [x] := by
  rw [List.take_add_one, h]; rfl
theorem drop_cons {α : Type} (l : List α) (i : Nat) (x : α) (h : l[i]? = some x) : l.drop i = x :: l.drop (i + 1) := by
  obtain ⟨hi, rfl⟩ := List.getElem?_eq_some_iff.1 h
  exact List.drop_eq_getElem_cons hi
theorem sizeEs_take (l : List EL) (i : Nat) : sizeEs (l.take i) ≤ sizeEs l := by
  have := sizeEs_append (l.take i) (l.drop i)
  rw [List.take_append_drop] at this
  omega
/-- The start: nothing written, nothing asked. -/
theorem builder_new (w : World) (n : Nat) (h : n ≤ w.heap.size) : Lib.IsBuilderF 70 5 n w.heap.size (Lib.byteCells []) (w.alloc (.cells #[.pointer none, .slice none 0 0] 70)) :=
  .inl ⟨h, _, BoxAt.new w _ _, World.ownsRowF_nil _ _ _ _, by simp [Value.ownBlock]⟩
theorem BoxAt.later {w w' : World} {k : Nat} {c : Array Value} {t : TypeId} (h : BoxAt w k c t) (hb : Below w.heap.size w w') : BoxAt w' k c t := (hb.block k h.lt).trans h
theorem StepQ.later {B qb : Nat} {a w w' : World} (h : StepQ B qb a w) (hb : Below w.heap.size w w') (hB : B ≤ w.heap.size) : StepQ B qb a w' :=
  ⟨h.below.trans (hb.mono hB), fun k o hk h1 h2 => by
    have := h.kept k o hk h1 h2
    exact (hb.block k (Array.getElem?_eq_some_iff.1 this).1).trans this⟩
theorem QsAt.later {W0 : World} {qb : Nat} {qs : List Qn} {w w' : World} (h : QsAt W0 qb qs w) (hb : Below w.heap.size w w') : QsAt W0 qb qs w' := by
  have ho := h.old
  obtain ⟨fvs, ⟨h1, v, h2, h3⟩, h4, h5⟩ := h
  refine ⟨fvs, ⟨h1, v, h2.later hb, ?_⟩, h4.mono (fun _ hx => hx.later hb), h5.trans (hb.mono ho)⟩
  obtain ⟨g1, g2⟩ := h3
  refine ⟨g1, ?_⟩
  rcases g2 with g2 | ⟨g, cap, cur, e, hg, hh, r⟩
  · exact .inl g2
  · exact .inr ⟨g, cap, cur, e, hg, (hb.block g (Array.getElem?_eq_some_iff.1 hh).1).trans hh, r⟩
theorem IsBuilderF.later {n b : Nat} {bs : List Value} {w w' : World} (h : Lib.IsBuilderF 70 5 n b bs w) (hb : Below w.heap.size w w') : Lib.IsBuilderF 70 5 n b bs w' := by
  have go : ∀ {p : Value}, Lib.BuilderAtF 70 5 n b p bs w → Lib.BuilderAtF 70 5 n b p bs w' := by
    rintro p ⟨h1, v, h2, h3, h4⟩
    refine ⟨h1, v, (hb.block b (Array.getElem?_eq_some_iff.1 h2).1).trans h2, ?_, h4⟩
    obtain ⟨g1, g2⟩ := h3
    refine ⟨g1, ?_⟩
    rcases g2 with g2 | ⟨g, cap, cur, fz, e, hg, hh, r⟩
    · exact .inl g2
    · exact .inr ⟨g, cap, cur, fz, e, hg, (hb.block g (Array.getElem?_eq_some_iff.1 hh).1).trans hh, r⟩
  rcases h with h | h
  · exact .inl (go h)
  · exact .inr (go h)
/-- What isPattern holds while it goes. -/
structure Pin (W0 : World) (qb : Nat) (w : World) (d : Nat) (qs : List Qn) (bs : List UInt8) (wr : World) : Prop where
  qs : QsAt W0 qb qs wr
  step : StepQ W0.heap.size qb w wr
  bld : Lib.IsBuilderF 70 5 w.heap.size (w.heap.size + 1 + 1) (Lib.byteCells bs) wr
  k0 : BoxAt wr w.heap.size #[pt qb] 52
  k1 : BoxAt wr (w.heap.size + 1) #[.int .i64 d] 3
theorem Pin.later {W0 : World} {qb : Nat} {w : World} {d : Nat} {qs : List Qn} {bs : List UInt8} {wr w' : World} (h : Pin W0 qb w d qs bs wr) (hb : Below wr.heap.size wr w') : Pin W0 qb w d qs bs w' :=
  ⟨h.qs.later hb, h.step.later hb h.qs.old, IsBuilderF.later h.bld hb, h.k0.later hb, h.k1.later hb⟩
theorem Pin.alloc {W0 : World} {qb : Nat} {w : World} {d : Nat} {qs : List Qn} {bs : List UInt8} {wr : World} (h : Pin W0 qb w d qs bs wr) (o : Obj) : Pin W0 qb w d qs bs (wr.alloc o) :=
  h.later ((Below.refl _ _).alloc (Nat.le_refl _) _)
theorem Pin.size {W0 : World} {qb : Nat} {w : World} {d : Nat} {qs : List Qn} {bs : List UInt8} {wr : World} (h : Pin W0 qb w d qs bs wr) : w.heap.size + 1 + 1 < wr.heap.size := by
  obtain ⟨cs, hb⟩ := IsBuilderF.box h.bld
  exact hb.lt
theorem Pin.old {W0 : World} {qb : Nat} {w : World} {d : Nat} {qs : List Qn} {bs : List UInt8} {wr : World} (h : Pin W0 qb w d qs bs wr) : W0.heap.size ≤ w.heap.size := by
  have := h.qs.lt
  have h1 := h.k0
  rcases Nat.lt_or_ge w.heap.size W0.heap.size with h2 | h2
  · exfalso
    have h3 := h.step.below.block w.heap.size h2
    unfold BoxAt at h1
    rw [h1] at h3
    rw [Array.getElem?_eq_none (Nat.le_refl _)] at h3
    cases h3
  · exact h2
/-- A builder's step. -/
theorem Pin.write {W0 : World} {qb : Nat} {w : World} {d : Nat} {qs : List Qn} {bs bs' : List UInt8} {wr w' : World} (h : Pin W0 qb w d qs bs wr) (hn : Lib.BuilderAtF 70 5 w.heap.size (w.heap.size + 1 + 1) (.pointer (some ⟨w.heap.size + 1 + 1, 0, none⟩)) (Lib.byteCells bs') w')
    (hb : Below w.heap.size wr w') (hk : Lib.OthersKept 5 (some (w.heap.size + 1 + 1)) wr w') : Pin W0 qb w d qs bs' w' := by
  obtain ⟨cs, hx⟩ := IsBuilderF.box h.bld
  exact ⟨h.qs.keptU hx hk (hb.mono h.old), h.step.build rfl h.old hb, .inr hn, keptU_box hx hk h.k0 (by decide) (by decide), keptU_box hx hk h.k1 (by decide) (by decide)⟩
/-- A question put off. -/
theorem Pin.push {W0 : World} {qb : Nat} {w : World} {d : Nat} {qs qs' : List Qn} {bs : List UInt8} {wr w' : World} (h : Pin W0 qb w d qs bs wr) (hq : QsAt W0 qb qs' w') (hs : StepQ W0.heap.size qb wr w') : Pin W0 qb w d qs' bs w' := by
  obtain ⟨v, hx⟩ := h.qs.box
  exact ⟨hq, h.step.trans hs, IsBuilderF.stepQ h.bld hx hs, h.k0.step hs (ne_of_box h.k0 hx (by decide)) (by decide), h.k1.step hs (ne_of_box h.k1 hx (by decide)) (by decide)⟩
theorem Pin.ends {W0 : World} {qb : Nat} {D : Qn → Prop} {w : World} {d : Nat} {qs qs' : List Qn} {bs : List UInt8} {w' : World} {b r : Bool} {n : Nat} (h : Pin W0 qb w d (qs ++ qs') bs w') (ht : total qs' ≤ n) (hb : b = (r && answers qs')) (hD : ∀ q ∈ qs', D q) : Asked W0 qb D qs w b n (.returned (.bool r)) w' :=
  ⟨r, qs', rfl, h.qs, h.step, ht, hb, hD⟩
theorem TabU.below {W w : World} (h : TabU W) (hb : Below W.heap.size W w) : TabU w := Go.Proofs.Utf8Tabs_below h hb
set_option maxHeartbeats 4000000 in
set_option maxRecDepth 1000000 in
theorem isPattern_asks {W0 : World} {qb : Nat} {D : Qn → Prop} (hT : TabU W0) (l : List EL) (HCA : ∀ t p, EL.mk t p ∈ l → validB t = true → CaTo t) {v : Value} (hv : PatAt W0 l v) (d : Nat) (hd : d ≤ 20) (hD : ∀ t e, EL.mk t (some e) ∈ l → D (.may .brc e (d + 1))) (w : World) :
    Asks W0 qb D 26 #[pt qb, v, .int .i64 d] w (patB l d) (sizeEs l) := by
  intro qs hq hn
  have Hq := Lib.hid hq
  have Hn := Lib.hid hn
  have hv' := hv
  obtain ⟨A, c, rfl, hc1, hc2, _⟩ := hv'
  have HV := Lib.hid hv
  have hold := hq.old
  have hlen : (l.length : Int) ≤ 4000000 := by have := sizeEs_length l; unfold qMax at hn; omega
  have Hd := Lib.hid hd
  have HD := Lib.hid hD
  have HC := Lib.hid HCA
  clear hq hn hv hd hc1 hc2 hD HCA
  unfold pt
  go_enter Tryd.func26, Tryd.ntmps26
  go_wp2
  go_loopw [14] (fun t14 wr => ∃ (i : Nat) (qs' : List Qn), t14 = .int .i64 i ∧ i ≤ l.length ∧ Hid (Pin W0 qb w d (qs ++ qs') (linesOf 123 (l.take i)) wr) ∧ Hid (0 < i → linesOf 123 (l.take i) ≠ []) ∧
      Hid (total qs' ≤ sizeEs (l.take i)) ∧ Hid (patB l d = (textsB (besideAt l i) (l.drop i) && (l.isEmpty || linesB (linesOf 123 l)) && answers qs' && okEs (l.drop i) (d + 1))) ∧ Hid (∀ q ∈ qs', D q)) (fun t14 _ => l.length - (intOf t14).toNat)
  case atStart =>
    refine ⟨0, [], rfl, Nat.zero_le _, ?_, ?_, ?_, ?_, by unfold Hid; simp⟩
    · unfold Hid
      rw [List.append_nil]
      have hk1 := (BoxAt.new (w.alloc (.cells #[pt qb] 52)) #[.int .i64 d] 3).alloc (.cells #[.pointer none, .slice none 0 0] 70)
      rw [World.size_alloc] at hk1
      exact ⟨((Hq.out.alloc _).alloc _).alloc _, (((StepQ.refl _ _ _).alloc hold _).alloc (by simp; omega) _).alloc (by simp; omega) _,
        by
          have := builder_new ((w.alloc (.cells #[pt qb] 52)).alloc (.cells #[.int .i64 d] 3)) w.heap.size (by simp; omega)
          rw [World.size_alloc, World.size_alloc] at this
          simp only [List.take_zero, linesOf]
          exact this, ((BoxAt.new _ _ _).alloc _).alloc _, hk1⟩
    · unfold Hid; intro h; omega
    · unfold Hid; simp [total]
    · unfold Hid; simp [patB, patL, answers, besideAt, Bool.and_assoc]
  case round =>
    obtain ⟨i, qs', rfl, hi, HP, Hne, Htot, Hans, HDq⟩ := hrel
    have hi0 : (i : Int) ≤ 4000000 := by omega
    have hbel := HP.out.qs.below
    have hTr := hT.below hbel
    have hsz := HP.out.size
    have hszW := HP.out.qs.old
    by_cases hlt : i < l.length
    · obtain ⟨b, o, c', e, hb, hcs⟩ := pat_get HV.out hlt
      cases e
      obtain ⟨t, p, hel⟩ : ∃ t p, l[i]? = some (.mk t p) := by
        cases e : l[i] with
        | mk t p => exact ⟨t, p, by rw [List.getElem?_eq_getElem hlt, e]⟩
      obtain ⟨c0, u, c1, hu⟩ := hcs i t p hel
      rw [← hbel.cell (p := ⟨b, o + i * 2, none⟩) hb] at c0
      rw [← hbel.cell (p := ⟨b, o + i * 2 + 1, none⟩) hb] at c1
      have hbw : b < wr.heap.size := by omega
      have hbw1 : b < wr.heap.size + 1 := by omega
      have hlt' : decide ((i : Int) < (l.length : Int)) = true := decide_eq_true (by omega)
      have hlt3 : ((i : Nat) : Int) < (l.length : Int) := by omega
      have htk := take_snoc l i _ hel
      have hdr := drop_cons l i _ hel
      have hans := Hans.out
      rw [hdr] at hans
      have htot := Htot.out
      have hszt : sizeEs (l.take (i + 1)) = sizeEs (l.take i) + (1 + t.size + sizeO p) := by
        rw [htk, sizeEs_append, sizeEs, sizeEs, Nat.add_zero]
      have hszl := sizeEs_take l (i + 1)
      have hln : (linesOf 123 (l.take i)).length ≤ 4000000 := by
        have h1 := linesOf_length 123 (l.take i)
        have h2 := sizeEs_take l i
        have h3 : total qs + sizeEs l ≤ 4000000 := Hn.out
        omega
      have hqm : total qs + sizeEs l ≤ 4000000 := Hn.out
      have hts : t.size ≤ 4000000 := by omega
      have Htk := Lib.hid htk
      have Hdr := Lib.hid hdr
      have Hel := Lib.hid hel
      have Hln := Lib.hid hln
      have Hszt := Lib.hid hszt
      have Hszl := Lib.hid hszl
      have HTr := Lib.hid hTr
      clear htk hdr hel hln hszt hszl Hans hTr
      cases p with
      | none =>
        simp only [OAt] at hu
        subst hu
        obtain ⟨bs, hbs⟩ : ∃ bs, besideAt l i = bs := ⟨_, rfl⟩
        have hprev : 0 < i → ∃ a : Option Addr, wr.cell? ⟨b, o + (i - 1) * 2 + 1, none⟩ = some (.pointer a) ∧ bs = a.isNone := by
          intro h0
          obtain ⟨j, rfl⟩ : ∃ j, i = j + 1 := ⟨i - 1, by omega⟩
          rw [Nat.add_sub_cancel]
          have hj : j < l.length := by omega
          obtain ⟨t', p', hel'⟩ : ∃ t p, l[j]? = some (.mk t p) := by
            cases e : l[j] with
            | mk t p => exact ⟨t, p, by rw [List.getElem?_eq_getElem hj, e]⟩
          obtain ⟨_, u', c1', hu'⟩ := hcs j t' p' hel'
          rw [← hbel.cell (p := ⟨b, o + j * 2 + 1, none⟩) hb] at c1'
          have hbb : besideAt l (j + 1) = p'.isNone := by
            rw [besideAt, hel']
            cases p' <;> rfl
          rw [hbb] at hbs
          subst hbs
          cases p' with
          | none => simp only [OAt] at hu'; subst hu'; exact ⟨none, c1', rfl⟩
          | some e' => simp only [OAt] at hu'; obtain ⟨_, _, _, rfl, _⟩ := hu'; exact ⟨_, c1', rfl⟩
        rw [textsB, okEs, hbs] at hans
        have Hans := Lib.hid hans
        have Hbs := Lib.hid hbs
        clear hans hbs hcs
        have htl : total qs' ≤ sizeEs l := Nat.le_trans htot (sizeEs_take l i)
        by_cases h0 : 0 < i
        · obtain ⟨a, c2, hbn⟩ := hprev h0
          subst hbn
          have h0' : decide ((0 : Int) < (i : Int)) = true := decide_eq_true (by omega)
          have h0'' : decide (0 < i) = true := decide_eq_true h0
          have h03 : (0 : Int) < (i : Int) := by omega
          have h04 : (1 : Int) ≤ (i : Int) := by omega
          clear hprev
          cases he : t.toList.isEmpty
          case true =>
            go_wp2
            go_ret
            exact (((HP.out.alloc _).alloc _)).ends htl (by rw [Hans.out]; simp [emp, he]) HDq.out
          have hP2 := ((HP.out.alloc (.cells #[.string t, .pointer none] 38)).alloc (.cells #[.pointer none] 33))
          have HP2 := Lib.hid hP2
          clear hP2 hsz
          go_wp2_with fail
          go_at_call 24
          refine (isText_any t _ (by omega) (HTr.out.below (((Below.refl _ _).alloc (Nat.le_refl _) _).alloc (by simp) _))).mono ?_
          rintro e w3 ⟨rfl, hb3⟩
          obtain ⟨q, hq⟩ : ∃ q, textB t = q := ⟨_, rfl⟩
          rw [hq]
          have Hq2 := Lib.hid hq
          obtain ⟨hcc, hff⟩ := bcell hb3
          have hP3 := HP2.out.later hb3
          have HP3 := Lib.hid hP3
          have Hb3 := Lib.hid hb3
          have hs3 := hb3.size
          simp only [World.size_alloc] at hs3
          have d0 : w3.cell? ⟨wr.heap.size, 0, none⟩ = some (.string t) := by rw [hcc _ _ (by simp; omega)]; simp
          have hE3 : BoxAt w3 wr.heap.size #[.string t, .pointer none] 38 := (((BoxAt.new wr _ _).alloc _).later hb3)
          have HE3 := Lib.hid hE3
          clear hq hP3 hb3 hcc hff hE3
          cases q
          case false =>
            go_wp2
            go_ret
            exact HP3.out.ends htl (by rw [Hans.out, Hq2.out]; simp) HDq.out
          have hvt : validB t = true := by
            have := Hq2.out
            unfold textB at this
            simp at this
            exact this.1
          have hca := HC.out t none (List.mem_of_getElem? Hel.out) hvt w3
          have Hca := Lib.hid hca
          clear hca hvt
          go_wp2_with fail
          go_at_call 40
          refine Hca.out.mono ?_
          rintro e w4 ⟨rfl, hb4⟩
          obtain ⟨q, hq⟩ : ∃ q, hasBrace t = q := ⟨_, rfl⟩
          rw [hq]
          have Hq3 := Lib.hid hq
          have hP4 := HP3.out.later hb4
          have HP4 := Lib.hid hP4
          have hE4 := HE3.out.later hb4
          have d1 : w4.cell? ⟨wr.heap.size, 0, none⟩ = some (.string t) := hE4.cell 0
          have Hb4 := Lib.hid hb4
          have hs4 := hb4.size
          clear hq hP4 hb4 hE4
          have hans2 := Hans.out
          rw [show (t.data.toList.contains 123 || t.data.toList.contains 125) = hasBrace t from rfl, Hq2.out, Hq3.out] at hans2
          have Hans2 := Lib.hid hans2
          clear hans2
          cases q
          case true =>
            go_wp2
            go_ret
            exact HP4.out.ends htl (by rw [Hans2.out]; simp) HDq.out
          obtain ⟨q, hqa⟩ : ∃ q, a.isNone = q := ⟨_, rfl⟩
          have Hqa := Lib.hid hqa
          have hans3 := Hans2.out
          rw [hqa] at hans3
          rw [hqa]
          have Hans4 := Lib.hid hans3
          clear hqa hans3 Hans2
          have Hans2 := Hans4
          clear Hans4
          cases q
          case true =>
            go_wp2
            go_ret
            exact HP4.out.ends htl (by rw [Hans2.out]; simp) HDq.out
          have hemp : emp t = false := he
          have hans3 := Hans2.out
          rw [hemp] at hans3
          simp only [Bool.not_false, Bool.true_and, Bool.not_true] at hans3
          have Hans3 := Lib.hid hans3
          have hw := bld_WriteString w.heap.size (w.heap.size + 1 + 1) _ t w4 HP4.out.bld (by rw [Lib.byteCells_length]; have := Hln.out; omega) (by have := HP4.out.size; omega)
          have HW := Lib.hid hw
          have hE4 : BoxAt w4 wr.heap.size #[.string t, .pointer none] 38 := HE3.out.later Hb4.out
          clear hans3 hw hemp
          go_wp2_with fail
          go_at_call 41
          refine HW.out.mono ?_
          rintro e w5 ⟨rfl, h5, b5, k5⟩
          have hP5 := HP4.out.write (bs' := linesOf 123 (l.take i) ++ t.data.toList) (by rw [Lib.byteCells_append]; exact h5) b5 k5
          have HP5 := Lib.hid hP5
          clear h5 b5 k5 hP5
          go_wp2
          go_roundw
          case rel =>
            have hlo : linesOf 123 (l.take (i + 1)) = linesOf 123 (l.take i) ++ t.data.toList := by
              rw [Htk.out, linesOf_append, linesOf, linesOf, List.append_nil]
            have hb' : besideAt l (i + 1) = true := by
              rw [besideAt, Hel.out]
            refine ⟨i + 1, qs', by go_num, hlt, ?_, ?_, ?_, ?_, HDq.out⟩
            · rw [hlo]; exact HP5.out
            · intro _ e
              rw [hlo] at e
              have e2 := (List.append_eq_nil_iff.1 e).2
              have := Lib.toList_data t
              rw [this, e2] at he
              cases he
            · have := Hszt.out
              show _ ≤ _
              omega
            · rw [hb']; exact Hans3.out
          case measure => simp [intOf]; omega
        · clear hprev
          have hb0 : besideAt l i = false := by
            obtain rfl : i = 0 := by omega
            rfl
          have h0' : decide ((0 : Int) < (i : Int)) = false := decide_eq_false (by omega)
          have h0'' : decide (0 < i) = false := decide_eq_false h0
          have h03 : ¬ (0 : Int) < (i : Int) := by omega
          rw [Hbs.out] at hb0
          subst hb0
          cases he : t.toList.isEmpty
          case true =>
            go_wp2
            go_ret
            exact (((HP.out.alloc _).alloc _)).ends htl (by rw [Hans.out]; simp [emp, he]) HDq.out
          have hP2 := ((HP.out.alloc (.cells #[.string t, .pointer none] 38)).alloc (.cells #[.pointer none] 33))
          have HP2 := Lib.hid hP2
          clear hP2 hsz
          go_wp2_with fail
          go_at_call 24
          refine (isText_any t _ (by omega) (HTr.out.below (((Below.refl _ _).alloc (Nat.le_refl _) _).alloc (by simp) _))).mono ?_
          rintro e w3 ⟨rfl, hb3⟩
          obtain ⟨q, hq⟩ : ∃ q, textB t = q := ⟨_, rfl⟩
          rw [hq]
          have Hq2 := Lib.hid hq
          obtain ⟨hcc, hff⟩ := bcell hb3
          have hP3 := HP2.out.later hb3
          have HP3 := Lib.hid hP3
          have Hb3 := Lib.hid hb3
          have hs3 := hb3.size
          simp only [World.size_alloc] at hs3
          have d0 : w3.cell? ⟨wr.heap.size, 0, none⟩ = some (.string t) := by rw [hcc _ _ (by simp; omega)]; simp
          have hE3 : BoxAt w3 wr.heap.size #[.string t, .pointer none] 38 := (((BoxAt.new wr _ _).alloc _).later hb3)
          have HE3 := Lib.hid hE3
          clear hq hP3 hb3 hcc hff hE3
          cases q
          case false =>
            go_wp2
            go_ret
            exact HP3.out.ends htl (by rw [Hans.out, Hq2.out]; simp) HDq.out
          have hvt : validB t = true := by
            have := Hq2.out
            unfold textB at this
            simp at this
            exact this.1
          have hca := HC.out t none (List.mem_of_getElem? Hel.out) hvt w3
          have Hca := Lib.hid hca
          clear hca hvt
          go_wp2_with fail
          go_at_call 40
          refine Hca.out.mono ?_
          rintro e w4 ⟨rfl, hb4⟩
          obtain ⟨q, hq⟩ : ∃ q, hasBrace t = q := ⟨_, rfl⟩
          rw [hq]
          have Hq3 := Lib.hid hq
          have hP4 := HP3.out.later hb4
          have HP4 := Lib.hid hP4
          have hE4 := HE3.out.later hb4
          have d1 : w4.cell? ⟨wr.heap.size, 0, none⟩ = some (.string t) := hE4.cell 0
          have Hb4 := Lib.hid hb4
          have hs4 := hb4.size
          clear hq hP4 hb4 hE4
          have hans2 := Hans.out
          rw [show (t.data.toList.contains 123 || t.data.toList.contains 125) = hasBrace t from rfl, Hq2.out, Hq3.out] at hans2
          have Hans2 := Lib.hid hans2
          clear hans2
          cases q
          case true =>
            go_wp2
            go_ret
            exact HP4.out.ends htl (by rw [Hans2.out]; simp) HDq.out
          have hemp : emp t = false := he
          have hans3 := Hans2.out
          rw [hemp] at hans3
          simp only [Bool.not_false, Bool.true_and, Bool.not_true] at hans3
          have Hans3 := Lib.hid hans3
          have hw := bld_WriteString w.heap.size (w.heap.size + 1 + 1) _ t w4 HP4.out.bld (by rw [Lib.byteCells_length]; have := Hln.out; omega) (by have := HP4.out.size; omega)
          have HW := Lib.hid hw
          have hE4 : BoxAt w4 wr.heap.size #[.string t, .pointer none] 38 := HE3.out.later Hb4.out
          clear hans3 hw hemp
          go_wp2_with fail
          go_at_call 41
          refine HW.out.mono ?_
          rintro e w5 ⟨rfl, h5, b5, k5⟩
          have hP5 := HP4.out.write (bs' := linesOf 123 (l.take i) ++ t.data.toList) (by rw [Lib.byteCells_append]; exact h5) b5 k5
          have HP5 := Lib.hid hP5
          clear h5 b5 k5 hP5
          go_wp2
          go_roundw
          case rel =>
            have hlo : linesOf 123 (l.take (i + 1)) = linesOf 123 (l.take i) ++ t.data.toList := by
              rw [Htk.out, linesOf_append, linesOf, linesOf, List.append_nil]
            have hb' : besideAt l (i + 1) = true := by
              rw [besideAt, Hel.out]
            refine ⟨i + 1, qs', by go_num, hlt, ?_, ?_, ?_, ?_, HDq.out⟩
            · rw [hlo]; exact HP5.out
            · intro _ e
              rw [hlo] at e
              have e2 := (List.append_eq_nil_iff.1 e).2
              have := Lib.toList_data t
              rw [this, e2] at he
              cases he
            · have := Hszt.out
              show _ ≤ _
              omega
            · rw [hb']; exact Hans3.out
          case measure => simp [intOf]; omega
      | some ex =>
        have hu2 := hu
        simp only [OAt] at hu2
        obtain ⟨pb, po, pc7, rfl, _⟩ := hu2
        have HU := Lib.hid hu
        rw [textsB, okEs] at hans
        have Hans := Lib.hid hans
        clear hans hcs hu
        have htl : total qs' ≤ sizeEs l := Nat.le_trans htot (sizeEs_take l i)
        have hP2 := ((HP.out.alloc (.cells #[.string t, .pointer (some ⟨pb, po, none⟩)] 38)).alloc (.cells #[.pointer (some ⟨pb, po, none⟩)] 33))
        have hbx : BoxAt ((wr.alloc (.cells #[.string t, .pointer (some ⟨pb, po, none⟩)] 38)).alloc (.cells #[.pointer (some ⟨pb, po, none⟩)] 33)) (wr.heap.size + 1) #[.pointer (some ⟨pb, po, none⟩)] 33 := by
          have := BoxAt.new (wr.alloc (.cells #[.string t, .pointer (some ⟨pb, po, none⟩)] 38)) #[.pointer (some ⟨pb, po, none⟩)] 33
          rw [World.size_alloc] at this
          exact this
        have hc0 : ((wr.alloc (.cells #[.string t, .pointer (some ⟨pb, po, none⟩)] 38)).alloc (.cells #[.pointer (some ⟨pb, po, none⟩)] 33)).cell? ⟨w.heap.size, 0, none⟩ = some (.pointer (some ⟨qb, 0, none⟩)) := hP2.k0.cell 0
        have HP2 := Lib.hid hP2
        have HBx := Lib.hid hbx
        clear hP2 hbx
        have hsz1 : w.heap.size < wr.heap.size := by omega
        have hsz2 : w.heap.size < wr.heap.size + 1 := by omega
        have hcw : wr.cell? ⟨w.heap.size, 0, none⟩ = some (.pointer (some ⟨qb, 0, none⟩)) := HP.out.k0.cell 0
        cases he : t.toList.isEmpty
        case false =>
          go_wp2
          go_ret
          exact HP2.out.ends htl (by rw [Hans.out]; simp [emp, he]) HDq.out
        have hemp : emp t = true := he
        have hans2 := Hans.out
        rw [hemp] at hans2
        simp only [Bool.true_and] at hans2
        have Hans2 := Lib.hid hans2
        have hszt2 : sizeEs (l.take (i + 1)) = sizeEs (l.take i) + (1 + t.size + ex.size) := by rw [Hszt.out, sizeO]
        have hlt2 := later_q (W0 := W0) (qb := qb) (qs := qs ++ qs') 43 #[pt w.heap.size, pt (wr.heap.size + 1), pt (w.heap.size + 1)] (.may .brc ex (d + 1))
          ⟨_, _, _, _, .pointer (some ⟨pb, po, none⟩), d, .inl rfl, rfl, Hd.out, rfl, HP2.out.k0, HBx.out, HP2.out.k1, HU.out⟩ HP2.out.qs (by
            rw [total_append]
            have := Hszl.out
            show total qs + total qs' + ex.size ≤ 4000000
            omega)
        have HL := Lib.hid hlt2
        have Hszt2 := Lib.hid hszt2
        clear hlt2 hans2 hemp hszt2
        go_wp2_with fail
        go_at_call 42
        refine HL.out.mono ?_
        rintro e w5 ⟨rfl, h5, s5⟩
        have hP5 := HP2.out.push h5 s5
        have hw := bld_WriteByte w.heap.size (w.heap.size + 1 + 1) _ 123 w5 hP5.bld (by rw [Lib.byteCells_length]; have := Hln.out; omega) (by have := hP5.size; omega)
        have HW := Lib.hid hw
        have HP5 := Lib.hid hP5
        clear hw hP5 h5 s5
        go_wp2_with fail
        go_at_call 45
        refine HW.out.mono ?_
        rintro e w6 ⟨rfl, h6, b6, k6⟩
        have hP6 := HP5.out.write (bs' := linesOf 123 (l.take i) ++ [123]) (by rw [Lib.byteCells_append]; exact h6) b6 k6
        have HP6 := Lib.hid hP6
        clear h6 b6 k6 hP6
        go_wp2
        go_roundw
        case rel =>
          have hlo : linesOf 123 (l.take (i + 1)) = linesOf 123 (l.take i) ++ [123] := by
            rw [Htk.out, linesOf_append, linesOf, linesOf]
          have hb' : besideAt l (i + 1) = false := by
            rw [besideAt, Hel.out]
          refine ⟨i + 1, qs' ++ [.may .brc ex (d + 1)], by go_num, hlt, ?_, ?_, ?_, ?_, ?_⟩
          · rw [hlo, ← List.append_assoc]; exact HP6.out
          · intro _ e
            rw [hlo] at e
            simp at e
          · have := Hszt2.out
            show _ ≤ _
            rw [total_append]
            show total qs' + (ex.size + 0) ≤ _
            omega
          · rw [hb', answers_append]
            show _ = _
            rw [Hans2.out]
            simp only [answers, List.all_cons, List.all_nil, Bool.and_true, Qn.ans]
            cases textsB false (l.drop (i + 1)) <;> cases (l.isEmpty || linesB (linesOf 123 l)) <;> cases qs'.all Qn.ans <;> simp
          · intro x hx
            rcases List.mem_append.1 hx with h1 | h1
            · exact HDq.out x h1
            · have := List.mem_singleton.1 h1
              subst this
              exact HD.out t ex (List.mem_of_getElem? Hel.out)
        case measure => simp [intOf]; omega
    · obtain rfl : i = l.length := by omega
      have hans := Hans.out
      rw [List.drop_length, textsB, okEs, Bool.true_and, Bool.and_true] at hans
      have hP := HP.out
      rw [List.take_length] at hP
      have hne := Hne.out
      rw [List.take_length] at hne
      have htl : total qs' ≤ sizeEs l := by have := Htot.out; rw [List.take_length] at this; exact this
      have hln := linesOf_length 123 l
      have hqm : total qs + sizeEs l ≤ 4000000 := Hn.out
      have hlt' : decide ((l.length : Int) < (l.length : Int)) = false := decide_eq_false (by omega)
      by_cases h0 : 0 < l.length
      · have hne2 := hne h0
        have hz : ((l.length : Int) == 0) = false := beq_eq_false_iff_ne.2 (by omega)
        have hz' : (l.length == 0) = false := beq_eq_false_iff_ne.2 (by omega)
        have hie : l.isEmpty = false := by cases l with | nil => simp at h0 | cons _ _ => rfl
        rw [hie, Bool.false_or] at hans
        have hS := Tryd.Builder_String_any_k w.heap.size (w.heap.size + 1 + 1) (linesOf 123 l) wr hP.bld (by omega)
        have hsz0 : 0 < (⟨(linesOf 123 l).toArray⟩ : ByteArray).size := by
          rw [size_mk]
          cases e : linesOf 123 l with
          | nil => exact absurd e hne2
          | cons _ _ => simp
        have hA := fun W => areLines_any ⟨(linesOf 123 l).toArray⟩ W hsz0 (by rw [size_mk]; omega)
        rw [show (⟨(linesOf 123 l).toArray⟩ : ByteArray).data.toList = linesOf 123 l from by simp] at hA
        have HS := Lib.hid hS
        have HA := Lib.hid hA
        have HPP := Lib.hid hP
        have Hans2 := Lib.hid hans
        clear hS hA hP hans hne hne2 hln hsz0 Hne Hans
        go_wp2_with fail
        go_at_call 47
        refine HS.out.mono ?_
        rintro e w5 ⟨rfl, i5, b5, k5⟩
        obtain ⟨cs5, hx⟩ := IsBuilderF.box HPP.out.bld
        have hq5 := HPP.out.qs.keptU hx k5 (b5.mono HPP.out.old)
        have hs5 := HPP.out.step.build rfl HPP.out.old b5
        have Hq5 := Lib.hid hq5
        have Hs5 := Lib.hid hs5
        clear i5 b5 k5 hx hq5 hs5
        obtain ⟨str, hstr⟩ : ∃ s : ByteArray, (⟨(linesOf 123 l).toArray⟩ : ByteArray) = s := ⟨_, rfl⟩
        rw [hstr] at HA ⊢
        clear hstr
        go_wp2_with fail
        go_at_call 46
        refine (HA.out _).mono ?_
        rintro e w6 ⟨rfl, rfl⟩
        go_wp2
        go_ret
        exact ⟨_, qs', rfl, Hq5.out, Hs5.out, htl, Hans2.out, HDq.out⟩
      · have hz : ((l.length : Int) == 0) = true := beq_iff_eq.2 (by omega)
        have hz' : (l.length == 0) = true := beq_iff_eq.2 (by omega)
        have hie : l.isEmpty = true := by cases l with | nil => rfl | cons _ _ => simp at h0
        rw [hie, Bool.true_or, Bool.true_and] at hans
        have HPP := Lib.hid hP
        have Hans2 := Lib.hid hans
        clear hP hans hne hln Hne Hans
        go_wp2
        go_ret
        exact ⟨true, qs', rfl, HPP.out.qs, HPP.out.step, htl, by rw [Hans2.out]; rfl, HDq.out⟩
end Go.Proofs.YtmceblemiboedaaDoor

/-
  strings.ContainsAny for braces, of whatever text: mathematics.
-/
namespace Go.Proofs.YtmceblemiboedaaDoor
open Go.RowKit
set_option linter.unusedVariables false
set_option linter.unusedSimpArgs false

def br2 : ByteArray := ⟨#[123, 125]⟩
theorem br2_list : br2.data.toList = [123, 125] := rfl
/-- A sign's place in the text of both braces. -/
def runeAt (r : Nat) : Int := if r = 123 then 0 else if r = 125 then 1 else -1
theorem cont_high (s : ByteArray) (pos j : Nat) (hj : 0 < j) (hj2 : j < (Utf8.decode s pos).2) : pos + j < s.size ∧ 128 ≤ (s.get! (pos + j)).toNat := by
  unfold Utf8.decode at hj2
  simp only at hj2
  split at hj2
  · simp at hj2; omega
  split at hj2
  · rename_i h
    simp only [Bool.and_eq_true, decide_eq_true_eq, beq_iff_eq] at h
    split at hj2
    · simp at hj2
      obtain rfl : j = 1 := by omega
      exact ⟨h.2.1, by omega⟩
    · simp at hj2; omega
  split at hj2
  · rename_i h
    simp only [Bool.and_eq_true, decide_eq_true_eq, beq_iff_eq] at h
    split at hj2
    · simp at hj2
      rcases (by omega : j = 1 ∨ j = 2) with rfl | rfl
      · exact ⟨h.1.2.1, by omega⟩
      · exact ⟨h.2.1, by omega⟩
    · simp at hj2; omega
  split at hj2
  · rename_i h
    simp only [Bool.and_eq_true, decide_eq_true_eq, beq_iff_eq] at h
    split at hj2
    · simp at hj2
      rcases (by omega : j = 1 ∨ j = 2 ∨ j = 3) with rfl | rfl | rfl
      · exact ⟨h.1.1.2.1, by omega⟩
      · exact ⟨h.1.2.1, by omega⟩
      · exact ⟨h.2.1, by omega⟩
    · simp at hj2; omega
  · simp at hj2; omega
def hasB (l : List UInt8) : Bool := l.contains 123 || l.contains 125
theorem hasB_append (a b : List UInt8) : hasB (a ++ b) = (hasB a || hasB b) := by
  unfold hasB
  rw [List.contains_append, List.contains_append]
  cases a.contains 123 <;> cases a.contains 125 <;> cases b.contains 123 <;> cases b.contains 125 <;> rfl
theorem hasB_none (l : List UInt8) (h : ∀ x ∈ l, x ≠ 123 ∧ x ≠ 125) : hasB l = false := by
  unfold hasB
  have h1 : l.contains 123 = false := by
    rw [Bool.eq_false_iff]
    intro e
    exact (h 123 (List.contains_iff_mem.1 e)).1 rfl
  have h2 : l.contains 125 = false := by
    rw [Bool.eq_false_iff]
    intro e
    exact (h 125 (List.contains_iff_mem.1 e)).2 rfl
  rw [h1, h2]; rfl
theorem get_bang (s : ByteArray) (k : Nat) (h : k < s.size) : s.get! k = s.data.toList[k]'(by rw [size_data]; exact h) := by
  have h2 : s.get! k = s.data[k]! := rfl
  rw [h2, getElem!_pos s.data k h]
  simp
/-- One sign on. -/
theorem hasB_step (s : ByteArray) (pos : Nat) (hp : pos < s.size) (h : (Utf8.decode s pos).1 ≠ 123 ∧ (Utf8.decode s pos).1 ≠ 125) : hasB (s.data.toList.drop pos) = hasB (s.data.toList.drop (pos + (Utf8.decode s pos).2)) := by
  have e : s.data.toList.drop pos = (s.data.toList.drop pos).take (Utf8.decode s pos).2 ++ s.data.toList.drop (pos + (Utf8.decode s pos).2) := by
    rw [← List.drop_drop, List.take_append_drop]
  rw [e, hasB_append, hasB_none _ ?_, Bool.false_or]
  intro x hx
  obtain ⟨j, hj, rfl⟩ := List.getElem_of_mem hx
  rw [List.length_take, List.length_drop, size_data] at hj
  rw [List.getElem_take, List.getElem_drop, ← get_bang s (pos + j) (by omega)]
  by_cases h0 : j = 0
  · subst h0
    by_cases ha : (s[pos]'hp).toNat < 128
    · have hd := decode_ascii s pos hp ha
      rw [hd] at h
      have e2 : s.get! (pos + 0) = s[pos]'hp := by rw [Nat.add_zero, get_bang s pos hp]; rfl
      rw [e2]
      exact ⟨fun e => h.1 (by rw [e]; rfl), fun e => h.2 (by rw [e]; rfl)⟩
    · have e2 : s.get! (pos + 0) = s[pos]'hp := by rw [Nat.add_zero, get_bang s pos hp]; rfl
      rw [e2]
      exact ⟨fun e => ha (by rw [e]; decide), fun e => ha (by rw [e]; decide)⟩
  · have := (cont_high s pos j (by omega) (by omega)).2
    exact ⟨fun e => by rw [e] at this; exact absurd this (by decide), fun e => by rw [e] at this; exact absurd this (by decide)⟩
theorem hasB_here (s : ByteArray) (pos : Nat) (hp : pos < s.size) (h : (Utf8.decode s pos).1 = 123 ∨ (Utf8.decode s pos).1 = 125) : hasB (s.data.toList.drop pos) = true := by
  have ha : (s[pos]'hp).toNat < 128 := by
    rcases Nat.lt_or_ge (s[pos]'hp).toNat 128 with h1 | h1
    · exact h1
    · have := (decode_high s pos hp h1).1
      omega
  have hd := decode_ascii s pos hp ha
  rw [hd] at h
  have e : s.data.toList.drop pos = (s[pos]'hp) :: s.data.toList.drop (pos + 1) := by
    rw [List.drop_eq_getElem_cons (by rw [size_data]; exact hp)]
    rfl
  rw [e]
  rcases h with h | h
  · have : s[pos]'hp = 123 := UInt8.toNat_inj.1 h
    rw [this]; simp [hasB]
  · have : s[pos]'hp = 125 := UInt8.toNat_inj.1 h
    rw [this]; simp [hasB]
theorem index_two (r : Nat) (h : r < 128) : Lib.indexByte [123, 125] ((r : Int).toNat.toUInt8) = runeAt r := by
  have h1 : ((r : Int).toNat.toUInt8).toNat = r := by
    rw [Int.toNat_natCast]
    show r % 256 = r
    omega
  generalize (r : Int).toNat.toUInt8 = c at h1
  subst h1
  unfold runeAt
  by_cases e1 : c = 123
  · subst e1; rfl
  by_cases e2 : c = 125
  · subst e2; rfl
  · have n1 : ¬ c.toNat = 123 := fun e => e1 (UInt8.toNat_inj.1 e)
    have n2 : ¬ c.toNat = 125 := fun e => e2 (UInt8.toNat_inj.1 e)
    rw [if_neg n1, if_neg n2]
    have m1 : ((123 : UInt8) == c) = false := by simpa using fun e : 123 = c => e1 e.symm
    have m2 : ((125 : UInt8) == c) = false := by simpa using fun e : 125 = c => e2 e.symm
    simp [Lib.indexByte, m1, m2]
theorem containsAny_two (l : List UInt8) : Lib.containsAny l [123, 125] = hasB l := by
  unfold Lib.containsAny
  induction l with
  | nil => rfl
  | cons x r ih =>
    rw [Lib.indexAny]
    by_cases h : [123, 125].contains x = true
    · rw [if_pos h]
      simp at h
      rcases h with rfl | rfl <;> simp [hasB]
    · rw [if_neg h]
      have hx : x ≠ 123 ∧ x ≠ 125 := by simp at h; exact h
      have e : hasB (x :: r) = hasB r := by
        show hasB ([x] ++ r) = _
        rw [hasB_append, hasB_none [x] (fun y hy => by rw [List.mem_singleton.1 hy]; exact hx), Bool.false_or]
      rw [e, ← ih]
      have := Lib.indexAny_ge [123, 125] r
      by_cases h2 : Lib.indexAny r [123, 125] = -1
      · rw [h2]; rfl
      · have h3 : (Lib.indexAny r [123, 125] == -1) = false := by simpa using h2
        rw [h3]
        simp only [Bool.false_eq_true, if_false]
        rw [decide_eq_decide]
        omega
end Go.Proofs.YtmceblemiboedaaDoor
