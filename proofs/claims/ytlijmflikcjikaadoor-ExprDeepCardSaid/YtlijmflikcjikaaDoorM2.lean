/-
  Several texts put together (part 2): what the law and the program call, walked; their contracts.
-/
import Derived.Shelf.Strings.Builder1
import Derived.Shelf.Strings.Builder2
import Derived.Shelf.Strings.Trim
import Derived.Shelf.Small.Utf8
import Derived.Shelf.Small.Strs
import Derived.Shelf.Strings.BuilderF
import Derived.Shelf.Strings.BuilderK
import Derived.Shelf.Strings.BuilderRune
import Derived.Shelf.Utf8.AppendRune
import Derived.Shelf.Utf8.AppendRunePlain
import Derived.Shelf.Strings.Search1
import Derived.Shelf.Strings.Prefix
import Derived.Shelf.Strings.Runes
import Derived.Shelf.Strings.IndexAny
import Derived.Shelf.Strings.AsciiSet
import Derived.Shelf.Strings.IndexAnyAll
import Derived.Shelf.Bits.Mul64
import Derived.Shelf.Strings.Repeat
import Derived.Shelf.Unicode.DecodeSlow
import Derived.Test.YtlijmflikcjikaaDoorProg
import Derived.Lib.FrozenHead2
import Derived.Lib.OthersKept
import Derived.BigCall
import Derived.Laws.BitsLemmas
import Derived.OwnWalk
import Derived.Deep.QuietTactic
import Derived.BigQuiet
import Derived.Deep.RegionHeld3
import Derived.Test.YtlijmflikcjikaaDoorM1
/-
  DERIVED: THE SHELF's CONTRACTS AT THIS DUMP, IN PLAIN WORDS (tools/lay-plain.mjs out of 'TrydShelf.lean', which tools/lay-shelf.mjs wrote): THE SAME DECLARATIONS UNDER THE SAME NAMES: 'import', 'namespace', 'open', 'def', 'theorem' AND NOTHING ELSE: no command of the shelf's: FOR A HAND-IN. Each laying: the table of numbers ('.._ren') and one theorem, a field a fact of the dump's own or the kernel's comparison; each contract: ONE APPLICATION.
-/
namespace Go.Proofs
open Go.Shelf
def Tryd.lays170_ren : Go.Shelf.Ren := ⟨fun | 170 => 34 | n => n, fun | 70 => 75 | 3 => 3 | 0 => 0 | 72 => 78 | 37 => 76 | 5 => 5 | n => n, fun | n => n⟩
theorem Tryd.lays170 : Go.Proofs.Lays.n170 Tryd.prog Tryd.lays170_ren := {
  mixed := by kernel_rfl
  f170 := Tryd.func34.trans (congrArg some (by kernel_rfl))
  t0 := Tryd.underlying0
  a0 := Tryd.isAgg0
  z0 := Tryd.sizeOf0
  v0 := Tryd.zeroValue0
  t3 := Tryd.underlying3
  a3 := Tryd.isAgg3
  z3 := Tryd.sizeOf3
  v3 := Tryd.zeroValue3
  t37 := Tryd.underlying76
  a37 := Tryd.isAgg76
  z37 := Tryd.sizeOf76
  v37 := Tryd.zeroValue76
  t70 := Tryd.underlying75
  a70 := Tryd.isAgg75
  z70 := Tryd.sizeOf75
  v70 := Tryd.zeroValue75
  t72 := Tryd.underlying78
  a72 := Tryd.isAgg78
  z72 := Tryd.sizeOf78
  v72 := Tryd.zeroValue78 }
open Go.RowKit in
/-- (*strings.Builder).Len: "Len returns the number of accumulated bytes; b.Len() == len(b.String()).": the world is as it was. (LAID: no walk: one application.) -/
theorem Tryd.Builder_Len (B b : Nat) (bs : List Value) (w : World) (h : Lib.IsBuilder 78 5 B b bs w) :
    Calls Tryd.prog 34 #[.pointer (some ⟨b, 0, none⟩)] w fun e w' => e = .returned (.int .i64 bs.length) ∧ w' = w := Any.Builder_Len Tryd.lays170 B b bs w h
def Tryd.lays169_ren : Go.Shelf.Ren := ⟨fun | 169 => 37 | n => n, fun | 70 => 75 | 9 => 9 | 0 => 0 | 72 => 78 | 37 => 76 | 127 => 100 | 3 => 3 | 5 => 5 | n => n, fun | n => n⟩
theorem Tryd.lays169 : Go.Proofs.Lays.n169 Tryd.prog Tryd.lays169_ren := {
  mixed := by kernel_rfl
  f169 := Tryd.func37.trans (congrArg some (by kernel_rfl))
  t0 := Tryd.underlying0
  a0 := Tryd.isAgg0
  z0 := Tryd.sizeOf0
  v0 := Tryd.zeroValue0
  t3 := Tryd.underlying3
  a3 := Tryd.isAgg3
  z3 := Tryd.sizeOf3
  v3 := Tryd.zeroValue3
  t9 := Tryd.underlying9
  a9 := Tryd.isAgg9
  z9 := Tryd.sizeOf9
  v9 := Tryd.zeroValue9
  t37 := Tryd.underlying76
  a37 := Tryd.isAgg76
  z37 := Tryd.sizeOf76
  v37 := Tryd.zeroValue76
  t70 := Tryd.underlying75
  a70 := Tryd.isAgg75
  z70 := Tryd.sizeOf75
  v70 := Tryd.zeroValue75
  t72 := Tryd.underlying78
  a72 := Tryd.isAgg78
  z72 := Tryd.sizeOf78
  v72 := Tryd.zeroValue78
  t127 := Tryd.underlying100
  a127 := Tryd.isAgg100
  z127 := Tryd.sizeOf100
  v127 := Tryd.zeroValue100 }
theorem Tryd.Builder_Extra_169 : Builder.Extra Tryd.prog Tryd.lays169_ren := {
  sizeBuilder := by kernel_rfl
  liesBuilder := by kernel_rfl
  t5 := Tryd.underlying5
  a5 := Tryd.isAgg5
  z5 := Tryd.sizeOf5
  v5 := Tryd.zeroValue5
  infoByte := by kernel_rfl
  cellsByte := by kernel_rfl
  sizeByte := by kernel_rfl
  neB5 := by decide }
open Go.RowKit in
/-- (*strings.Builder).String: "String returns the accumulated string.": OF A BUILDER THAT HOLDS AT LEAST ONE BYTE. ✋ THE MODEL FREEZES THOSE BYTES IN THE BUFFER (unsafe.String): a later write INTO them ends the model's run without an answer; a later append BEHIND them goes on. The statement's order of evaluation is drawn: one draw. (LAID: no walk: one application.) -/
theorem Tryd.Builder_String (B b : Nat) (l : List UInt8) (w : World) (h : Lib.IsBuilder 78 5 B b (Lib.byteCells l) w) (h0 : l ≠ []) :
    Calls Tryd.prog 37 #[.pointer (some ⟨b, 0, none⟩)] w fun e w' => e = .returned (.string ⟨l.toArray⟩) ∧ Below B w w' := Any.Builder_String Tryd.lays169 Tryd.Builder_Extra_169 B b l w h h0
open Go.RowKit in
/-- (*strings.Builder).String OF A BUILDER THAT HOLDS NO BYTE: the empty string. (Its buffer is nil, or a row of which it has taken nothing yet; where that row has NO capacity the model lays one new block for unsafe.SliceData's 'some address'.) One draw. (LAID: no walk: one application.) -/
theorem Tryd.Builder_String_empty (B b : Nat) (w : World) (h : Lib.IsBuilder 78 5 B b [] w) (hBw : B ≤ w.heap.size) :
    Calls Tryd.prog 37 #[.pointer (some ⟨b, 0, none⟩)] w fun e w' => e = .returned (.string ⟨#[]⟩) ∧ Below B w w' := Any.Builder_String_empty Tryd.lays169 Tryd.Builder_Extra_169 B b w h hBw
open Go.RowKit in
/-- (*strings.Builder).String: "String returns the accumulated string.": WHATEVER THE BUILDER HOLDS. (LAID: no walk: one application.) -/
theorem Tryd.Builder_String_any (B b : Nat) (l : List UInt8) (w : World) (h : Lib.IsBuilder 78 5 B b (Lib.byteCells l) w) (hBw : B ≤ w.heap.size) :
    Calls Tryd.prog 37 #[.pointer (some ⟨b, 0, none⟩)] w fun e w' => e = .returned (.string ⟨l.toArray⟩) ∧ Below B w w' := Any.Builder_String_any Tryd.lays169 Tryd.Builder_Extra_169 B b l w h hBw
def Tryd.lays241_ren : Go.Shelf.Ren := ⟨fun | 241 => 77 | 277 => 85 | n => n, fun | 70 => 75 | 3 => 3 | 0 => 0 | 72 => 78 | 37 => 76 | 5 => 5 | n => n, fun | n => n⟩
theorem Tryd.lays241 : Go.Proofs.Lays.n241 Tryd.prog Tryd.lays241_ren := {
  mixed := by kernel_rfl
  f241 := Tryd.func77.trans (congrArg some (by kernel_rfl))
  f277 := Tryd.func85.trans (congrArg some (by kernel_rfl))
  t0 := Tryd.underlying0
  a0 := Tryd.isAgg0
  z0 := Tryd.sizeOf0
  v0 := Tryd.zeroValue0
  t3 := Tryd.underlying3
  a3 := Tryd.isAgg3
  z3 := Tryd.sizeOf3
  v3 := Tryd.zeroValue3
  t37 := Tryd.underlying76
  a37 := Tryd.isAgg76
  z37 := Tryd.sizeOf76
  v37 := Tryd.zeroValue76
  t70 := Tryd.underlying75
  a70 := Tryd.isAgg75
  z70 := Tryd.sizeOf75
  v70 := Tryd.zeroValue75
  t72 := Tryd.underlying78
  a72 := Tryd.isAgg78
  z72 := Tryd.sizeOf78
  v72 := Tryd.zeroValue78 }
theorem Tryd.Builder_Extra_241 : Builder.Extra Tryd.prog Tryd.lays241_ren := {
  sizeBuilder := by kernel_rfl
  liesBuilder := by kernel_rfl
  t5 := Tryd.underlying5
  a5 := Tryd.isAgg5
  z5 := Tryd.sizeOf5
  v5 := Tryd.zeroValue5
  infoByte := by kernel_rfl
  cellsByte := by kernel_rfl
  sizeByte := by kernel_rfl
  neB5 := by decide }
open Go.RowKit in
/-- (*strings.Builder).grow (no doc but "grow copies the buffer to a new, larger buffer so that there are at least n bytes of capacity beyond len(b.buf)."): AT A BUILDER WITHOUT A BUFFER: a new row of whatever bytes for its buffer, none of them its own yet. Three draws. (LAID: no walk: one application.) -/
theorem Tryd.Builder_grow_fresh (B b n : Nat) (w : World) (hB : B ≤ b) (hbk : w.heap[b]? = some (.cells #[.pointer (some ⟨b, 0, none⟩), .slice none 0 0] 78 (0, 0))) (hBw : B ≤ w.heap.size) (hn : n ≤ 281474976710656) :
    Calls Tryd.prog 77 #[.pointer (some ⟨b, 0, none⟩), .int .i64 n] w fun e w' => e = .returned (.tuple #[]) ∧ (Lib.BuilderAt 78 5 B b (.pointer (some ⟨b, 0, none⟩)) [] w' ∧ Below B w w') := Any.Builder_grow_fresh Tryd.lays241 Tryd.Builder_Extra_241 B b n w hB hbk hBw hn
def Tryd.lays165_ren : Go.Shelf.Ren := ⟨fun | 165 => 56 | 240 => 54 | 241 => 77 | 276 => 74 | 277 => 85 | n => n, fun | 70 => 75 | 3 => 3 | 0 => 0 | 4 => 4 | 9 => 9 | 20 => 20 | 72 => 78 | 37 => 76 | 164 => 116 | 5 => 5 | n => n, fun | n => n⟩
theorem Tryd.lays165 : Go.Proofs.Lays.n165 Tryd.prog Tryd.lays165_ren := {
  mixed := by kernel_rfl
  f165 := Tryd.func56.trans (congrArg some (by kernel_rfl))
  f240 := Tryd.func54.trans (congrArg some (by kernel_rfl))
  f241 := Tryd.func77.trans (congrArg some (by kernel_rfl))
  f276 := Tryd.func74.trans (congrArg some (by kernel_rfl))
  f277 := Tryd.func85.trans (congrArg some (by kernel_rfl))
  t0 := Tryd.underlying0
  a0 := Tryd.isAgg0
  z0 := Tryd.sizeOf0
  v0 := Tryd.zeroValue0
  t3 := Tryd.underlying3
  a3 := Tryd.isAgg3
  z3 := Tryd.sizeOf3
  v3 := Tryd.zeroValue3
  t4 := Tryd.underlying4
  a4 := Tryd.isAgg4
  z4 := Tryd.sizeOf4
  v4 := Tryd.zeroValue4
  t9 := Tryd.underlying9
  a9 := Tryd.isAgg9
  z9 := Tryd.sizeOf9
  v9 := Tryd.zeroValue9
  t20 := Tryd.underlying20
  a20 := Tryd.isAgg20
  z20 := Tryd.sizeOf20
  v20 := Tryd.zeroValue20
  t37 := Tryd.underlying76
  a37 := Tryd.isAgg76
  z37 := Tryd.sizeOf76
  v37 := Tryd.zeroValue76
  t70 := Tryd.underlying75
  a70 := Tryd.isAgg75
  z70 := Tryd.sizeOf75
  v70 := Tryd.zeroValue75
  t72 := Tryd.underlying78
  a72 := Tryd.isAgg78
  z72 := Tryd.sizeOf78
  v72 := Tryd.zeroValue78
  t164 := Tryd.underlying116
  a164 := Tryd.isAgg116
  z164 := Tryd.sizeOf116
  v164 := Tryd.zeroValue116 }
theorem Tryd.Builder_Extra_165 : Builder.Extra Tryd.prog Tryd.lays165_ren := {
  sizeBuilder := by kernel_rfl
  liesBuilder := by kernel_rfl
  t5 := Tryd.underlying5
  a5 := Tryd.isAgg5
  z5 := Tryd.sizeOf5
  v5 := Tryd.zeroValue5
  infoByte := by kernel_rfl
  cellsByte := by kernel_rfl
  sizeByte := by kernel_rfl
  neB5 := by decide }
open Go.RowKit in
/-- (*strings.Builder).Grow AT A BUILDER THAT HAS NOT BEEN WRITTEN ('var b strings.Builder; b.Grow(n)'): "Grow grows b's capacity, if necessary, to guarantee space for another n bytes.": it holds no byte behind it as before it. (LAID: no walk: one application.) -/
theorem Tryd.Builder_Grow_fresh (B b n : Nat) (w : World) (hB : B ≤ b) (hbk : w.heap[b]? = some (.cells #[.pointer none, .slice none 0 0] 78 (0, 0))) (hBw : B ≤ w.heap.size) (hn : n ≤ 281474976710656) :
    Calls Tryd.prog 56 #[.pointer (some ⟨b, 0, none⟩), .int .i64 n] w fun e w' => e = .returned (.tuple #[]) ∧ (Lib.BuilderAt 78 5 B b (.pointer (some ⟨b, 0, none⟩)) [] w' ∧ Below B w w') := Any.Builder_Grow_fresh Tryd.lays165 Tryd.Builder_Extra_165 B b n w hB hbk hBw hn
def Tryd.lays232_ren : Go.Shelf.Ren := ⟨fun | 232 => 57 | n => n, fun | 9 => 9 | 5 => 5 | 3 => 3 | 4 => 4 | n => n, fun | n => n⟩
theorem Tryd.lays232 : Go.Proofs.Lays.n232 Tryd.prog Tryd.lays232_ren := {
  mixed := by kernel_rfl
  f232 := Tryd.func57.trans (congrArg some (by kernel_rfl))
  t3 := Tryd.underlying3
  a3 := Tryd.isAgg3
  z3 := Tryd.sizeOf3
  v3 := Tryd.zeroValue3
  t4 := Tryd.underlying4
  a4 := Tryd.isAgg4
  z4 := Tryd.sizeOf4
  v4 := Tryd.zeroValue4
  t5 := Tryd.underlying5
  a5 := Tryd.isAgg5
  z5 := Tryd.sizeOf5
  v5 := Tryd.zeroValue5
  t9 := Tryd.underlying9
  a9 := Tryd.isAgg9
  z9 := Tryd.sizeOf9
  v9 := Tryd.zeroValue9 }
open Go.RowKit in
/-- strings.trimRightByte (no doc; what TrimRight and Trim call at a cutset of one ASCII byte): the trailing bytes that are c are cut off. The world is as it was. ('hs': a string's length is a number that an int holds.) (LAID: no walk: one application.) -/
theorem Tryd.strings_trimRightByte (s : ByteArray) (c : UInt8) (w : World) (hs : s.size ≤ 9223372036854775807) :
    Calls Tryd.prog 57 #[.string s, .int .u8 c.toNat] w fun e w' => e = .returned (.string ⟨(Lib.trimRightB s.data.toList c).toArray⟩) ∧ w' = w := Any.strings_trimRightByte Tryd.lays232 s c w hs
def Tryd.lays162_ren : Go.Shelf.Ren := ⟨fun | 162 => 38 | 232 => 57 | 227 => 58 | 234 => 59 | 236 => 60 | 228 => 73 | 271 => 78 | 151 => 79 | 120 => 86 | 197 => 87 | 152 => 71 | 260 => 90 | 137 => 29 | 119 => 82 | 224 => 83 | 225 => 84 | 217 => 52 | 266 => 70 | n => n, fun | 9 => 9 | 4 => 4 | 3 => 3 | 5 => 5 | 117 => 104 | 116 => 103 | 0 => 0 | 124 => 107 | 21 => 21 | 105 => 124 | 46 => 96 | 119 => 135 | 139 => 138 | 138 => 137 | n => n, fun | 3 => 1 | 4 => 2 | n => n⟩
theorem Tryd.lays162 : Go.Proofs.Lays.n162 Tryd.prog Tryd.lays162_ren := {
  mixed := by kernel_rfl
  f119 := Tryd.func82.trans (congrArg some (by kernel_rfl))
  f120 := Tryd.func86.trans (congrArg some (by kernel_rfl))
  f137 := Tryd.func29.trans (congrArg some (by kernel_rfl))
  f151 := Tryd.func79.trans (congrArg some (by kernel_rfl))
  f152 := Tryd.func71.trans (congrArg some (by kernel_rfl))
  f162 := Tryd.func38.trans (congrArg some (by kernel_rfl))
  f197 := Tryd.func87.trans (congrArg some (by kernel_rfl))
  f217 := Tryd.func52.trans (congrArg some (by kernel_rfl))
  f224 := Tryd.func83.trans (congrArg some (by kernel_rfl))
  f225 := Tryd.func84.trans (congrArg some (by kernel_rfl))
  f227 := Tryd.func58.trans (congrArg some (by kernel_rfl))
  f228 := Tryd.func73.trans (congrArg some (by kernel_rfl))
  f232 := Tryd.func57.trans (congrArg some (by kernel_rfl))
  f234 := Tryd.func59.trans (congrArg some (by kernel_rfl))
  f236 := Tryd.func60.trans (congrArg some (by kernel_rfl))
  f260 := Tryd.func90.trans (congrArg some (by kernel_rfl))
  f266 := Tryd.func70.trans (congrArg some (by kernel_rfl))
  f271 := Tryd.func78.trans (congrArg some (by kernel_rfl))
  t0 := Tryd.underlying0
  a0 := Tryd.isAgg0
  z0 := Tryd.sizeOf0
  v0 := Tryd.zeroValue0
  t3 := Tryd.underlying3
  a3 := Tryd.isAgg3
  z3 := Tryd.sizeOf3
  v3 := Tryd.zeroValue3
  t4 := Tryd.underlying4
  a4 := Tryd.isAgg4
  z4 := Tryd.sizeOf4
  v4 := Tryd.zeroValue4
  t5 := Tryd.underlying5
  a5 := Tryd.isAgg5
  z5 := Tryd.sizeOf5
  v5 := Tryd.zeroValue5
  t9 := Tryd.underlying9
  a9 := Tryd.isAgg9
  z9 := Tryd.sizeOf9
  v9 := Tryd.zeroValue9
  t21 := Tryd.underlying21
  a21 := Tryd.isAgg21
  z21 := Tryd.sizeOf21
  v21 := Tryd.zeroValue21
  t46 := Tryd.underlying96
  a46 := Tryd.isAgg96
  z46 := Tryd.sizeOf96
  v46 := Tryd.zeroValue96
  t105 := Tryd.underlying124
  a105 := Tryd.isAgg124
  z105 := Tryd.sizeOf124
  v105 := Tryd.zeroValue124
  t116 := Tryd.underlying103
  a116 := Tryd.isAgg103
  z116 := Tryd.sizeOf103
  t117 := Tryd.underlying104
  a117 := Tryd.isAgg104
  z117 := Tryd.sizeOf104
  v117 := Tryd.zeroValue104
  t119 := Tryd.underlying135
  a119 := Tryd.isAgg135
  z119 := Tryd.sizeOf135
  t124 := Tryd.underlying107
  a124 := Tryd.isAgg107
  z124 := Tryd.sizeOf107
  v124 := Tryd.zeroValue107
  t138 := Tryd.underlying137
  a138 := Tryd.isAgg137
  z138 := Tryd.sizeOf137
  v138 := Tryd.zeroValue137
  t139 := Tryd.underlying138
  a139 := Tryd.isAgg138
  z139 := Tryd.sizeOf138
  v139 := Tryd.zeroValue138
  g3 := by kernel_rfl
  g4 := by kernel_rfl }
open Go.RowKit in
/-- strings.TrimRight: "TrimRight returns a slice of the string s, with all trailing Unicode code points contained in cutset removed.": AT A cutset OF ONE ASCII BYTE. The world is as it was. (LAID: no walk: one application.) -/
theorem Tryd.strings_TrimRight_one (s : ByteArray) (c : UInt8) (hc : c.toNat < 128) (w : World) (hs : s.size ≤ 9223372036854775807) :
    Calls Tryd.prog 38 #[.string s, .string ⟨#[c]⟩] w fun e w' => e = .returned (.string ⟨(Lib.trimRightB s.data.toList c).toArray⟩) ∧ w' = w := Any.strings_TrimRight_one Tryd.lays162 s c hc w hs
def Tryd.lays119_ren : Go.Shelf.Ren := ⟨fun | 119 => 82 | n => n, fun | 21 => 21 | 4 => 4 | n => n, fun | n => n⟩
theorem Tryd.lays119 : Go.Proofs.Lays.n119 Tryd.prog Tryd.lays119_ren := {
  mixed := by kernel_rfl
  f119 := Tryd.func82.trans (congrArg some (by kernel_rfl))
  t4 := Tryd.underlying4
  a4 := Tryd.isAgg4
  z4 := Tryd.sizeOf4
  v4 := Tryd.zeroValue4
  t21 := Tryd.underlying21
  a21 := Tryd.isAgg21
  z21 := Tryd.sizeOf21
  v21 := Tryd.zeroValue21 }
/-- utf8.ValidRune: "ValidRune reports whether r can be legally encoded as UTF-8. Code points that are out of range or a surrogate half are illegal.": IT RETURNS 'Lib.validRune r'; the world is as it was. (LAID: no walk: one application.) -/
theorem Tryd.utf8_ValidRune (r : Int) (w : World) :
    Calls Tryd.prog 82 #[.int .i32 r] w fun e w' => e = .returned (.bool (Lib.validRune r)) ∧ w' = w := Any.utf8_ValidRune Tryd.lays119 r w
def Tryd.lays120_ren : Go.Shelf.Ren := ⟨fun | 120 => 86 | n => n, fun | 5 => 5 | 4 => 4 | n => n, fun | n => n⟩
theorem Tryd.lays120 : Go.Proofs.Lays.n120 Tryd.prog Tryd.lays120_ren := {
  mixed := by kernel_rfl
  f120 := Tryd.func86.trans (congrArg some (by kernel_rfl))
  t4 := Tryd.underlying4
  a4 := Tryd.isAgg4
  z4 := Tryd.sizeOf4
  v4 := Tryd.zeroValue4
  t5 := Tryd.underlying5
  a5 := Tryd.isAgg5
  z5 := Tryd.sizeOf5
  v5 := Tryd.zeroValue5 }
/-- utf8.RuneStart: "RuneStart reports whether the byte could be the first byte of an encoded, possibly invalid rune. Second and subsequent bytes always have the top two bits set to 10.": IT RETURNS 'Lib.runeStart b'; the world is as it was. ('h0', 'h1': b is a byte: a caller has it of every byte that it was handed.) (LAID: no walk: one application.) -/
theorem Tryd.utf8_RuneStart (b : Int) (w : World) (h0 : 0 ≤ b) (h1 : b < 256) :
    Calls Tryd.prog 86 #[.int .u8 b] w fun e w' => e = .returned (.bool (Lib.runeStart b)) ∧ w' = w := Any.utf8_RuneStart Tryd.lays120 b w h0 h1
def Tryd.lays137_ren : Go.Shelf.Ren := ⟨fun | 137 => 29 | 217 => 52 | 266 => 70 | n => n, fun | 9 => 9 | 5 => 5 | 3 => 3 | n => n, fun | n => n⟩
theorem Tryd.lays137 : Go.Proofs.Lays.n137 Tryd.prog Tryd.lays137_ren := {
  mixed := by kernel_rfl
  f137 := Tryd.func29.trans (congrArg some (by kernel_rfl))
  f217 := Tryd.func52.trans (congrArg some (by kernel_rfl))
  f266 := Tryd.func70.trans (congrArg some (by kernel_rfl))
  t3 := Tryd.underlying3
  a3 := Tryd.isAgg3
  z3 := Tryd.sizeOf3
  v3 := Tryd.zeroValue3
  t5 := Tryd.underlying5
  a5 := Tryd.isAgg5
  z5 := Tryd.sizeOf5
  v5 := Tryd.zeroValue5
  t9 := Tryd.underlying9
  a9 := Tryd.isAgg9
  z9 := Tryd.sizeOf9
  v9 := Tryd.zeroValue9 }
open Go.RowKit in
/-- strings.IndexByte: "IndexByte returns the index of the first instance of c in s, or -1 if c is not present in s.": IT RETURNS 'Lib.indexByte s c'; the world is as it was. (LAID: no walk: one application.) -/
theorem Tryd.strings_IndexByte (s : ByteArray) (c : Int) (w : World) :
    Calls Tryd.prog 29 #[.string s, .int .u8 c] w fun e w' => e = .returned (.int .i64 (Lib.indexByte s.data.toList c.toNat.toUInt8)) ∧ w' = w := Any.strings_IndexByte Tryd.lays137 s c w
open Go.RowKit in
/-- (*strings.Builder).Len: "Len returns the number of accumulated bytes; b.Len() == len(b.String()).": the world is as it was. (THE FORM '_f': 'Lib.IsBuilderF'.) (LAID: no walk: one application.) -/
theorem Tryd.Builder_Len_f (B b : Nat) (bs : List Value) (w : World) (h : Lib.IsBuilderF 78 5 B b bs w) :
    Calls Tryd.prog 34 #[.pointer (some ⟨b, 0, none⟩)] w fun e w' => e = .returned (.int .i64 bs.length) ∧ w' = w := Any.Builder_Len_f Tryd.lays170 B b bs w h
open Go.RowKit in
/-- (*strings.Builder).String: "String returns the accumulated string.": OF A BUILDER THAT HOLDS AT LEAST ONE BYTE. ✋ THE MODEL FREEZES THOSE BYTES IN THE BUFFER (unsafe.String): a later write INTO them ends the model's run without an answer; a later append BEHIND them goes on. The statement's order of evaluation is drawn: one draw. THE FORM '_f': IT SAYS BESIDES THAT THE BUILDER IS A BUILDER STILL ('Lib.IsBuilderF', the same bytes): SO IT CAN BE WRITTEN ON: 'b.WriteString(b.String()[:k])'. (LAID: no walk: one application.) -/
theorem Tryd.Builder_String_f (B b : Nat) (l : List UInt8) (w : World) (h : Lib.IsBuilderF 78 5 B b (Lib.byteCells l) w) (h0 : l ≠ []) :
    Calls Tryd.prog 37 #[.pointer (some ⟨b, 0, none⟩)] w fun e w' => e = .returned (.string ⟨l.toArray⟩) ∧ (Lib.IsBuilderF 78 5 B b (Lib.byteCells l) w' ∧ Below B w w') := Any.Builder_String_f Tryd.lays169 Tryd.Builder_Extra_169 B b l w h h0
open Go.RowKit in
/-- (*strings.Builder).String OF A BUILDER THAT HOLDS NO BYTE: the empty string; THE FORM '_f': a builder still. (LAID: no walk: one application.) -/
theorem Tryd.Builder_String_empty_f (B b : Nat) (w : World) (h : Lib.IsBuilderF 78 5 B b [] w) (hBw : B ≤ w.heap.size) :
    Calls Tryd.prog 37 #[.pointer (some ⟨b, 0, none⟩)] w fun e w' => e = .returned (.string ⟨#[]⟩) ∧ (Lib.IsBuilderF 78 5 B b [] w' ∧ Below B w w') := Any.Builder_String_empty_f Tryd.lays169 Tryd.Builder_Extra_169 B b w h hBw
open Go.RowKit in
/-- (*strings.Builder).String: "String returns the accumulated string.": WHATEVER THE BUILDER HOLDS; THE FORM '_f': OF A BUILDER THAT MAY HAVE BEEN READ BEFORE; AND IT IS A BUILDER STILL, holding the same bytes: it can be written on. (LAID: no walk: one application.) -/
theorem Tryd.Builder_String_any_f (B b : Nat) (l : List UInt8) (w : World) (h : Lib.IsBuilderF 78 5 B b (Lib.byteCells l) w) (hBw : B ≤ w.heap.size) :
    Calls Tryd.prog 37 #[.pointer (some ⟨b, 0, none⟩)] w fun e w' => e = .returned (.string ⟨l.toArray⟩) ∧ (Lib.IsBuilderF 78 5 B b (Lib.byteCells l) w' ∧ Below B w w') := Any.Builder_String_any_f Tryd.lays169 Tryd.Builder_Extra_169 B b l w h hBw
open Go.RowKit in
/-- (*strings.Builder).String: "String returns the accumulated string.": OF A BUILDER THAT HOLDS AT LEAST ONE BYTE. ✋ THE MODEL FREEZES THOSE BYTES IN THE BUFFER (unsafe.String): a later write INTO them ends the model's run without an answer; a later append BEHIND them goes on. The statement's order of evaluation is drawn: one draw. THE FORM '_k': OVER 'Lib.IsBuilderF' (a builder that 'String()' may have read), AND WITH THE FRAME THAT REACHES ABOVE THE BUILDER: 'Lib.OthersKept': every block that is not b and is no row of uint8's stands as it stood: the iterator of a range among them. (LAID: no walk: one application.) -/
theorem Tryd.Builder_String_k (B b : Nat) (l : List UInt8) (w : World) (h : Lib.IsBuilderF 78 5 B b (Lib.byteCells l) w) (h0 : l ≠ []) :
    Calls Tryd.prog 37 #[.pointer (some ⟨b, 0, none⟩)] w fun e w' => e = .returned (.string ⟨l.toArray⟩) ∧ (Lib.IsBuilderF 78 5 B b (Lib.byteCells l) w' ∧ Below B w w' ∧ Lib.OthersKept 5 (some b) w w') := Any.Builder_String_k Tryd.lays169 Tryd.Builder_Extra_169 B b l w h h0
open Go.RowKit in
/-- (*strings.Builder).String OF A BUILDER THAT HOLDS NO BYTE: the empty string; THE FORM '_k': OVER 'Lib.IsBuilderF' (a builder that 'String()' may have read), AND WITH THE FRAME THAT REACHES ABOVE THE BUILDER: 'Lib.OthersKept': every block that is not b and is no row of uint8's stands as it stood: the iterator of a range among them. (LAID: no walk: one application.) -/
theorem Tryd.Builder_String_empty_k (B b : Nat) (w : World) (h : Lib.IsBuilderF 78 5 B b [] w) (hBw : B ≤ w.heap.size) :
    Calls Tryd.prog 37 #[.pointer (some ⟨b, 0, none⟩)] w fun e w' => e = .returned (.string ⟨#[]⟩) ∧ (Lib.IsBuilderF 78 5 B b [] w' ∧ Below B w w' ∧ Lib.OthersKept 5 (some b) w w') := Any.Builder_String_empty_k Tryd.lays169 Tryd.Builder_Extra_169 B b w h hBw
open Go.RowKit in
/-- (*strings.Builder).String: "String returns the accumulated string.": WHATEVER THE BUILDER HOLDS; THE FORM '_k': OVER 'Lib.IsBuilderF' (a builder that 'String()' may have read), AND WITH THE FRAME THAT REACHES ABOVE THE BUILDER: 'Lib.OthersKept': every block that is not b and is no row of uint8's stands as it stood: the iterator of a range among them. (LAID: no walk: one application.) -/
theorem Tryd.Builder_String_any_k (B b : Nat) (l : List UInt8) (w : World) (h : Lib.IsBuilderF 78 5 B b (Lib.byteCells l) w) (hBw : B ≤ w.heap.size) :
    Calls Tryd.prog 37 #[.pointer (some ⟨b, 0, none⟩)] w fun e w' => e = .returned (.string ⟨l.toArray⟩) ∧ (Lib.IsBuilderF 78 5 B b (Lib.byteCells l) w' ∧ Below B w w' ∧ Lib.OthersKept 5 (some b) w w') := Any.Builder_String_any_k Tryd.lays169 Tryd.Builder_Extra_169 B b l w h hBw
def Tryd.lays278_ren : Go.Shelf.Ren := ⟨fun | 278 => 92 | n => n, fun | 37 => 76 | 21 => 21 | 51 => 118 | 4 => 4 | 46 => 96 | 5 => 5 | n => n, fun | n => n⟩
theorem Tryd.lays278 : Go.Proofs.Lays.n278 Tryd.prog Tryd.lays278_ren := {
  mixed := by kernel_rfl
  f278 := Tryd.func92.trans (congrArg some (by kernel_rfl))
  t4 := Tryd.underlying4
  a4 := Tryd.isAgg4
  z4 := Tryd.sizeOf4
  v4 := Tryd.zeroValue4
  t5 := Tryd.underlying5
  a5 := Tryd.isAgg5
  z5 := Tryd.sizeOf5
  v5 := Tryd.zeroValue5
  t21 := Tryd.underlying21
  a21 := Tryd.isAgg21
  z21 := Tryd.sizeOf21
  v21 := Tryd.zeroValue21
  t37 := Tryd.underlying76
  a37 := Tryd.isAgg76
  z37 := Tryd.sizeOf76
  v37 := Tryd.zeroValue76
  t46 := Tryd.underlying96
  a46 := Tryd.isAgg96
  z46 := Tryd.sizeOf96
  v46 := Tryd.zeroValue96
  t51 := Tryd.underlying118
  a51 := Tryd.isAgg118
  z51 := Tryd.sizeOf118
  v51 := Tryd.zeroValue118 }
open Go.RowKit in
/-- unicode/utf8.appendRuneNonASCII (what AppendRune calls for all but ASCII), ONTO A ROW OF BYTES THAT THE CALL OWNS: every int32 that is no ASCII rune: 'Lib.runeCells r' goes in behind what the row holds. (LAID: no walk: one application.) -/
theorem Tryd.utf8_appendRuneNonASCII_row (B : Nat) (v : Value) (n : Nat) (xs : List Value) (r : Int) (hr0 : -2147483648 ≤ r) (hr1 : r ≤ 2147483647) (hna : r < 0 ∨ 128 ≤ r) (w : World) (hown : w.ownsRowF B 5 1 v n xs) (hlen : n + 4 ≤ 140737488355328) (hBw : B ≤ w.heap.size) :
    Calls Tryd.prog 92 #[v, .int .i32 r] w fun e w' => ∃ v', e = .returned v' ∧ w'.ownsRowF B 5 1 v' (n + (Lib.runeCells r).length) (xs ++ Lib.runeCells r) ∧ ∃ o, (w.alloc o).grownBy w' v.ownBlock := Any.utf8_appendRuneNonASCII_row Tryd.lays278 (by kernel_rfl) B v n xs r hr0 hr1 hna w hown hlen hBw
def Tryd.lays242_ren : Go.Shelf.Ren := ⟨fun | 242 => 89 | 278 => 92 | n => n, fun | 37 => 76 | 21 => 21 | 51 => 118 | 4 => 4 | 5 => 5 | 46 => 96 | n => n, fun | n => n⟩
theorem Tryd.lays242 : Go.Proofs.Lays.n242 Tryd.prog Tryd.lays242_ren := {
  mixed := by kernel_rfl
  f242 := Tryd.func89.trans (congrArg some (by kernel_rfl))
  f278 := Tryd.func92.trans (congrArg some (by kernel_rfl))
  t4 := Tryd.underlying4
  a4 := Tryd.isAgg4
  z4 := Tryd.sizeOf4
  v4 := Tryd.zeroValue4
  t5 := Tryd.underlying5
  a5 := Tryd.isAgg5
  z5 := Tryd.sizeOf5
  v5 := Tryd.zeroValue5
  t21 := Tryd.underlying21
  a21 := Tryd.isAgg21
  z21 := Tryd.sizeOf21
  v21 := Tryd.zeroValue21
  t37 := Tryd.underlying76
  a37 := Tryd.isAgg76
  z37 := Tryd.sizeOf76
  v37 := Tryd.zeroValue76
  t46 := Tryd.underlying96
  a46 := Tryd.isAgg96
  z46 := Tryd.sizeOf96
  v46 := Tryd.zeroValue96
  t51 := Tryd.underlying118
  a51 := Tryd.isAgg118
  z51 := Tryd.sizeOf118
  v51 := Tryd.zeroValue118 }
open Go.RowKit in
/-- unicode/utf8.AppendRune: "AppendRune appends the UTF-8 encoding of r to the end of p and returns the extended buffer. If the rune is out of range, it appends the encoding of RuneError.": ONTO A ROW OF BYTES THAT THE CALL OWNS (its head frozen or not): EVERY int32: 'Lib.runeCells r' goes in behind what the row holds; the world: one new block (the bytes as the call's variadic argument), then what 'append' does to the row. (LAID: no walk: one application.) -/
theorem Tryd.utf8_AppendRune_row (B : Nat) (v : Value) (n : Nat) (xs : List Value) (r : Int) (hr0 : -2147483648 ≤ r) (hr1 : r ≤ 2147483647) (w : World) (hown : w.ownsRowF B 5 1 v n xs) (hlen : n + 4 ≤ 140737488355328) (hBw : B ≤ w.heap.size) :
    Calls Tryd.prog 89 #[v, .int .i32 r] w fun e w' => ∃ v', e = .returned v' ∧ w'.ownsRowF B 5 1 v' (n + (Lib.runeCells r).length) (xs ++ Lib.runeCells r) ∧ ∃ o, (w.alloc o).grownBy w' v.ownBlock := Any.utf8_AppendRune_row Tryd.lays242 (by kernel_rfl) B v n xs r hr0 hr1 w hown hlen hBw
open Go.RowKit in
/-- unicode/utf8.appendRuneNonASCII (what AppendRune calls for all but ASCII), ONTO A ROW OF BYTES THAT THE CALL OWNS: every int32 that is no ASCII rune: 'Lib.runeCells r' goes in behind what the row holds. (LAID: no walk: one application.) -/
theorem Tryd.utf8_appendRuneNonASCII_plain (B : Nat) (v : Value) (n : Nat) (xs : List Value) (r : Int) (hr0 : -2147483648 ≤ r) (hr1 : r ≤ 2147483647) (hna : r < 0 ∨ 128 ≤ r) (w : World) (hown : w.ownsRow B 5 1 v n xs) (hlen : n + 4 ≤ 140737488355328) (hBw : B ≤ w.heap.size) :
    Calls Tryd.prog 92 #[v, .int .i32 r] w fun e w' => ∃ v', e = .returned v' ∧ w'.ownsRow B 5 1 v' (n + (Lib.runeCells r).length) (xs ++ Lib.runeCells r) ∧ ∃ o, (w.alloc o).grownBy w' v.ownBlock := Any.utf8_appendRuneNonASCII_plain Tryd.lays278 (by kernel_rfl) B v n xs r hr0 hr1 hna w hown hlen hBw
open Go.RowKit in
/-- unicode/utf8.AppendRune: "AppendRune appends the UTF-8 encoding of r to the end of p and returns the extended buffer. If the rune is out of range, it appends the encoding of RuneError.": ONTO A ROW OF BYTES THAT THE CALL OWNS (its head frozen or not): EVERY int32: 'Lib.runeCells r' goes in behind what the row holds; the world: one new block (the bytes as the call's variadic argument), then what 'append' does to the row. (LAID: no walk: one application.) -/
theorem Tryd.utf8_AppendRune_plain (B : Nat) (v : Value) (n : Nat) (xs : List Value) (r : Int) (hr0 : -2147483648 ≤ r) (hr1 : r ≤ 2147483647) (w : World) (hown : w.ownsRow B 5 1 v n xs) (hlen : n + 4 ≤ 140737488355328) (hBw : B ≤ w.heap.size) :
    Calls Tryd.prog 89 #[v, .int .i32 r] w fun e w' => ∃ v', e = .returned v' ∧ w'.ownsRow B 5 1 v' (n + (Lib.runeCells r).length) (xs ++ Lib.runeCells r) ∧ ∃ o, (w.alloc o).grownBy w' v.ownBlock := Any.utf8_AppendRune_plain Tryd.lays242 (by kernel_rfl) B v n xs r hr0 hr1 w hown hlen hBw
def Tryd.lays217_ren : Go.Shelf.Ren := ⟨fun | 217 => 52 | 266 => 70 | n => n, fun | 9 => 9 | 5 => 5 | 3 => 3 | n => n, fun | n => n⟩
theorem Tryd.lays217 : Go.Proofs.Lays.n217 Tryd.prog Tryd.lays217_ren := {
  mixed := by kernel_rfl
  f217 := Tryd.func52.trans (congrArg some (by kernel_rfl))
  f266 := Tryd.func70.trans (congrArg some (by kernel_rfl))
  t3 := Tryd.underlying3
  a3 := Tryd.isAgg3
  z3 := Tryd.sizeOf3
  v3 := Tryd.zeroValue3
  t5 := Tryd.underlying5
  a5 := Tryd.isAgg5
  z5 := Tryd.sizeOf5
  v5 := Tryd.zeroValue5
  t9 := Tryd.underlying9
  a9 := Tryd.isAgg9
  z9 := Tryd.sizeOf9
  v9 := Tryd.zeroValue9 }
open Go.RowKit Go.Lib in
/-- internal/stringslite.IndexByte (what strings.IndexByte calls): IT RETURNS 'Lib.indexByte s c'; the world is as it was. (LAID: no walk: one application.) -/
theorem Tryd.stringslite_IndexByte (s : ByteArray) (c : Int) (w : World) :
    Calls Tryd.prog 52 #[.string s, .int .u8 c] w fun e w' => e = .returned (.int .i64 (Lib.indexByte s.data.toList c.toNat.toUInt8)) ∧ w' = w := Any.stringslite_IndexByte Tryd.lays217 s c w
def Tryd.lays224_ren : Go.Shelf.Ren := ⟨fun | 224 => 83 | n => n, fun | 3 => 3 | n => n, fun | n => n⟩
theorem Tryd.lays224 : Go.Proofs.Lays.n224 Tryd.prog Tryd.lays224_ren := {
  mixed := by kernel_rfl
  f224 := Tryd.func83.trans (congrArg some (by kernel_rfl))
  t3 := Tryd.underlying3
  a3 := Tryd.isAgg3
  z3 := Tryd.sizeOf3
  v3 := Tryd.zeroValue3 }
open Go.RowKit Go.Lib in
/-- internal/bytealg.Cutover: "Cutover reports the number of failures of IndexByte we should tolerate before switching over to Index. n is the number of bytes processed so far.": on amd64: (n + 16) / 8. (LAID: no walk: one application.) -/
theorem Tryd.bytealg_Cutover (n : Int) (h0 : 0 ≤ n) (h1 : n < 4611686018427387904) (w : World) :
    Calls Tryd.prog 83 #[.int .i64 n] w fun e w' => e = .returned (.int .i64 ((n + 16) / 8)) ∧ w' = w := Any.bytealg_Cutover Tryd.lays224 n h0 h1 w
def Tryd.lays206_ren : Go.Shelf.Ren := ⟨fun | 206 => 39 | n => n, fun | 9 => 9 | 4 => 4 | 3 => 3 | n => n, fun | n => n⟩
theorem Tryd.lays206 : Go.Proofs.Lays.n206 Tryd.prog Tryd.lays206_ren := {
  mixed := by kernel_rfl
  f206 := Tryd.func39.trans (congrArg some (by kernel_rfl))
  t3 := Tryd.underlying3
  a3 := Tryd.isAgg3
  z3 := Tryd.sizeOf3
  v3 := Tryd.zeroValue3
  t4 := Tryd.underlying4
  a4 := Tryd.isAgg4
  z4 := Tryd.sizeOf4
  v4 := Tryd.zeroValue4
  t9 := Tryd.underlying9
  a9 := Tryd.isAgg9
  z9 := Tryd.sizeOf9
  v9 := Tryd.zeroValue9 }
open Go.RowKit Go.Lib in
/-- internal/stringslite.HasPrefix (what strings.HasPrefix calls). (LAID: no walk: one application.) -/
theorem Tryd.stringslite_HasPrefix (s p : ByteArray) (w : World) :
    Calls Tryd.prog 39 #[.string s, .string p] w fun e w' => e = .returned (.bool (Lib.hasPrefix s.data.toList p.data.toList)) ∧ w' = w := Any.stringslite_HasPrefix Tryd.lays206 s p w
def Tryd.lays99_ren : Go.Shelf.Ren := ⟨fun | 99 => 20 | 206 => 39 | n => n, fun | 9 => 9 | 4 => 4 | 3 => 3 | n => n, fun | n => n⟩
theorem Tryd.lays99 : Go.Proofs.Lays.n99 Tryd.prog Tryd.lays99_ren := {
  mixed := by kernel_rfl
  f99 := Tryd.func20.trans (congrArg some (by kernel_rfl))
  f206 := Tryd.func39.trans (congrArg some (by kernel_rfl))
  t3 := Tryd.underlying3
  a3 := Tryd.isAgg3
  z3 := Tryd.sizeOf3
  v3 := Tryd.zeroValue3
  t4 := Tryd.underlying4
  a4 := Tryd.isAgg4
  z4 := Tryd.sizeOf4
  v4 := Tryd.zeroValue4
  t9 := Tryd.underlying9
  a9 := Tryd.isAgg9
  z9 := Tryd.sizeOf9
  v9 := Tryd.zeroValue9 }
open Go.RowKit Go.Lib in
/-- strings.HasPrefix: "HasPrefix reports whether the string s begins with prefix.": IT RETURNS 'Lib.hasPrefix s prefix'; the world is as it was. (LAID: no walk: one application.) -/
theorem Tryd.strings_HasPrefix (s p : ByteArray) (w : World) :
    Calls Tryd.prog 20 #[.string s, .string p] w fun e w' => e = .returned (.bool (Lib.hasPrefix s.data.toList p.data.toList)) ∧ w' = w := Any.strings_HasPrefix Tryd.lays99 s p w
def Tryd.lays152_ren : Go.Shelf.Ren := ⟨fun | 152 => 71 | 137 => 29 | 119 => 82 | 224 => 83 | 225 => 84 | 217 => 52 | 266 => 70 | n => n, fun | 9 => 9 | 21 => 21 | 3 => 3 | 4 => 4 | 5 => 5 | 0 => 0 | 46 => 96 | n => n, fun | n => n⟩
theorem Tryd.lays152 : Go.Proofs.Lays.n152 Tryd.prog Tryd.lays152_ren := {
  mixed := by kernel_rfl
  f119 := Tryd.func82.trans (congrArg some (by kernel_rfl))
  f137 := Tryd.func29.trans (congrArg some (by kernel_rfl))
  f152 := Tryd.func71.trans (congrArg some (by kernel_rfl))
  f217 := Tryd.func52.trans (congrArg some (by kernel_rfl))
  f224 := Tryd.func83.trans (congrArg some (by kernel_rfl))
  f225 := Tryd.func84.trans (congrArg some (by kernel_rfl))
  f266 := Tryd.func70.trans (congrArg some (by kernel_rfl))
  t0 := Tryd.underlying0
  a0 := Tryd.isAgg0
  z0 := Tryd.sizeOf0
  v0 := Tryd.zeroValue0
  t3 := Tryd.underlying3
  a3 := Tryd.isAgg3
  z3 := Tryd.sizeOf3
  v3 := Tryd.zeroValue3
  t4 := Tryd.underlying4
  a4 := Tryd.isAgg4
  z4 := Tryd.sizeOf4
  v4 := Tryd.zeroValue4
  t5 := Tryd.underlying5
  a5 := Tryd.isAgg5
  z5 := Tryd.sizeOf5
  v5 := Tryd.zeroValue5
  t9 := Tryd.underlying9
  a9 := Tryd.isAgg9
  z9 := Tryd.sizeOf9
  v9 := Tryd.zeroValue9
  t21 := Tryd.underlying21
  a21 := Tryd.isAgg21
  z21 := Tryd.sizeOf21
  v21 := Tryd.zeroValue21
  t46 := Tryd.underlying96
  a46 := Tryd.isAgg96
  z46 := Tryd.sizeOf96
  v46 := Tryd.zeroValue96 }
open Go.RowKit Go.Lib in
theorem Tryd.strings_IndexRune_ascii (s : ByteArray) (r : Int) (w : World) (h0 : 0 ≤ r) (h1 : r < 128) :
    Calls Tryd.prog 71 #[.string s, .int .i32 r] w fun e w' => e = .returned (.int .i64 (Lib.indexByte s.data.toList r.toNat.toUInt8)) ∧ w' = w := Any.strings_IndexRune_ascii Tryd.lays152 s r w h0 h1
def Tryd.lays151_ren : Go.Shelf.Ren := ⟨fun | 151 => 79 | 152 => 71 | 137 => 29 | 119 => 82 | 224 => 83 | 225 => 84 | 217 => 52 | 266 => 70 | n => n, fun | 9 => 9 | 21 => 21 | 4 => 4 | 3 => 3 | 5 => 5 | 0 => 0 | 46 => 96 | n => n, fun | n => n⟩
theorem Tryd.lays151 : Go.Proofs.Lays.n151 Tryd.prog Tryd.lays151_ren := {
  mixed := by kernel_rfl
  f119 := Tryd.func82.trans (congrArg some (by kernel_rfl))
  f137 := Tryd.func29.trans (congrArg some (by kernel_rfl))
  f151 := Tryd.func79.trans (congrArg some (by kernel_rfl))
  f152 := Tryd.func71.trans (congrArg some (by kernel_rfl))
  f217 := Tryd.func52.trans (congrArg some (by kernel_rfl))
  f224 := Tryd.func83.trans (congrArg some (by kernel_rfl))
  f225 := Tryd.func84.trans (congrArg some (by kernel_rfl))
  f266 := Tryd.func70.trans (congrArg some (by kernel_rfl))
  t0 := Tryd.underlying0
  a0 := Tryd.isAgg0
  z0 := Tryd.sizeOf0
  v0 := Tryd.zeroValue0
  t3 := Tryd.underlying3
  a3 := Tryd.isAgg3
  z3 := Tryd.sizeOf3
  v3 := Tryd.zeroValue3
  t4 := Tryd.underlying4
  a4 := Tryd.isAgg4
  z4 := Tryd.sizeOf4
  v4 := Tryd.zeroValue4
  t5 := Tryd.underlying5
  a5 := Tryd.isAgg5
  z5 := Tryd.sizeOf5
  v5 := Tryd.zeroValue5
  t9 := Tryd.underlying9
  a9 := Tryd.isAgg9
  z9 := Tryd.sizeOf9
  v9 := Tryd.zeroValue9
  t21 := Tryd.underlying21
  a21 := Tryd.isAgg21
  z21 := Tryd.sizeOf21
  v21 := Tryd.zeroValue21
  t46 := Tryd.underlying96
  a46 := Tryd.isAgg96
  z46 := Tryd.sizeOf96
  v46 := Tryd.zeroValue96 }
open Go.RowKit Go.Lib in
theorem Tryd.strings_ContainsRune_ascii (s : ByteArray) (r : Int) (w : World) (h0 : 0 ≤ r) (h1 : r < 128) :
    Calls Tryd.prog 79 #[.string s, .int .i32 r] w fun e w' => e = .returned (.bool (decide (0 ≤ Lib.indexByte s.data.toList r.toNat.toUInt8))) ∧ w' = w := Any.strings_ContainsRune_ascii Tryd.lays151 s r w h0 h1
def Tryd.lays226_ren : Go.Shelf.Ren := ⟨fun | 226 => 72 | n => n, fun | 3 => 3 | 4 => 4 | n => n, fun | n => n⟩
theorem Tryd.lays226 : Go.Proofs.Lays.n226 Tryd.prog Tryd.lays226_ren := {
  mixed := by kernel_rfl
  f226 := Tryd.func72.trans (congrArg some (by kernel_rfl))
  t3 := Tryd.underlying3
  a3 := Tryd.isAgg3
  z3 := Tryd.sizeOf3
  v3 := Tryd.zeroValue3
  t4 := Tryd.underlying4
  a4 := Tryd.isAgg4
  z4 := Tryd.sizeOf4
  v4 := Tryd.zeroValue4 }
open Go.RowKit Go.Lib in
theorem Tryd.strings_shouldUseASCIISet (n : Int) (w : World) :
    Calls Tryd.prog 72 #[.int .i64 n] w fun e w' => e = .returned (.bool (decide (8 < n))) ∧ w' = w := Any.strings_shouldUseASCIISet Tryd.lays226 n w
def Tryd.lays153_ren : Go.Shelf.Ren := ⟨fun | 153 => 53 | 152 => 71 | 226 => 72 | 227 => 58 | 228 => 73 | 137 => 29 | 119 => 82 | 224 => 83 | 225 => 84 | 217 => 52 | 266 => 70 | n => n, fun | 9 => 9 | 3 => 3 | 4 => 4 | 5 => 5 | 21 => 21 | 117 => 104 | 116 => 103 | 0 => 0 | 46 => 96 | 124 => 107 | n => n, fun | n => n⟩
theorem Tryd.lays153 : Go.Proofs.Lays.n153 Tryd.prog Tryd.lays153_ren := {
  mixed := by kernel_rfl
  f119 := Tryd.func82.trans (congrArg some (by kernel_rfl))
  f137 := Tryd.func29.trans (congrArg some (by kernel_rfl))
  f152 := Tryd.func71.trans (congrArg some (by kernel_rfl))
  f153 := Tryd.func53.trans (congrArg some (by kernel_rfl))
  f217 := Tryd.func52.trans (congrArg some (by kernel_rfl))
  f224 := Tryd.func83.trans (congrArg some (by kernel_rfl))
  f225 := Tryd.func84.trans (congrArg some (by kernel_rfl))
  f226 := Tryd.func72.trans (congrArg some (by kernel_rfl))
  f227 := Tryd.func58.trans (congrArg some (by kernel_rfl))
  f228 := Tryd.func73.trans (congrArg some (by kernel_rfl))
  f266 := Tryd.func70.trans (congrArg some (by kernel_rfl))
  t0 := Tryd.underlying0
  a0 := Tryd.isAgg0
  z0 := Tryd.sizeOf0
  v0 := Tryd.zeroValue0
  t3 := Tryd.underlying3
  a3 := Tryd.isAgg3
  z3 := Tryd.sizeOf3
  v3 := Tryd.zeroValue3
  t4 := Tryd.underlying4
  a4 := Tryd.isAgg4
  z4 := Tryd.sizeOf4
  v4 := Tryd.zeroValue4
  t5 := Tryd.underlying5
  a5 := Tryd.isAgg5
  z5 := Tryd.sizeOf5
  v5 := Tryd.zeroValue5
  t9 := Tryd.underlying9
  a9 := Tryd.isAgg9
  z9 := Tryd.sizeOf9
  v9 := Tryd.zeroValue9
  t21 := Tryd.underlying21
  a21 := Tryd.isAgg21
  z21 := Tryd.sizeOf21
  v21 := Tryd.zeroValue21
  t46 := Tryd.underlying96
  a46 := Tryd.isAgg96
  z46 := Tryd.sizeOf96
  v46 := Tryd.zeroValue96
  t116 := Tryd.underlying103
  a116 := Tryd.isAgg103
  z116 := Tryd.sizeOf103
  t117 := Tryd.underlying104
  a117 := Tryd.isAgg104
  z117 := Tryd.sizeOf104
  v117 := Tryd.zeroValue104
  t124 := Tryd.underlying107
  a124 := Tryd.isAgg107
  z124 := Tryd.sizeOf107
  v124 := Tryd.zeroValue107 }
open Go.RowKit Go.Lib in
/-- chars is empty. (LAID: no walk: one application.) -/
theorem Tryd.strings_IndexAny_none (s chars : ByteArray) (w : World) (h0 : chars.size = 0) :
    Calls Tryd.prog 53 #[.string s, .string chars] w fun e w' => e = .returned (.int .i64 (Lib.indexAny s.data.toList chars.data.toList)) ∧ w' = w := Any.strings_IndexAny_none Tryd.lays153 s chars w h0
open Go.RowKit Go.Lib in
/-- chars is one ASCII byte. (LAID: no walk: one application.) -/
theorem Tryd.strings_IndexAny_one (s chars : ByteArray) (w : World) (h1 : chars.size = 1) (hascii : ∀ (j : Nat) b, chars.data.toList[j]? = some b → b.toNat < 128) :
    Calls Tryd.prog 53 #[.string s, .string chars] w fun e w' => e = .returned (.int .i64 (Lib.indexAny s.data.toList chars.data.toList)) ∧ w' = w := Any.strings_IndexAny_one Tryd.lays153 s chars w h1 hascii
open Go.RowKit Go.Lib in
/-- s of at most 8 bytes; chars of two or more: 'for i, c := range s { if IndexRune(chars, c) >= 0 { return i } }'. One block more: the model's iterator over s. (LAID: no walk: one application.) -/
theorem Tryd.strings_IndexAny_short (s chars : ByteArray) (w : World) (h2 : 2 ≤ chars.size) (h8 : s.size ≤ 8) (hascii : ∀ (j : Nat) b, s.data.toList[j]? = some b → b.toNat < 128) :
    Calls Tryd.prog 53 #[.string s, .string chars] w fun e w' => e = .returned (.int .i64 (Lib.indexAny s.data.toList chars.data.toList)) ∧ ∃ pos, w' = w.iter s pos := Any.strings_IndexAny_short Tryd.lays153 s chars w h2 h8 hascii
def Tryd.lays227_ren : Go.Shelf.Ren := ⟨fun | 227 => 58 | n => n, fun | 9 => 9 | 116 => 103 | 4 => 4 | 0 => 0 | 3 => 3 | 5 => 5 | n => n, fun | n => n⟩
theorem Tryd.lays227 : Go.Proofs.Lays.n227 Tryd.prog Tryd.lays227_ren := {
  mixed := by kernel_rfl
  f227 := Tryd.func58.trans (congrArg some (by kernel_rfl))
  t0 := Tryd.underlying0
  a0 := Tryd.isAgg0
  z0 := Tryd.sizeOf0
  v0 := Tryd.zeroValue0
  t3 := Tryd.underlying3
  a3 := Tryd.isAgg3
  z3 := Tryd.sizeOf3
  v3 := Tryd.zeroValue3
  t4 := Tryd.underlying4
  a4 := Tryd.isAgg4
  z4 := Tryd.sizeOf4
  v4 := Tryd.zeroValue4
  t5 := Tryd.underlying5
  a5 := Tryd.isAgg5
  z5 := Tryd.sizeOf5
  v5 := Tryd.zeroValue5
  t9 := Tryd.underlying9
  a9 := Tryd.isAgg9
  z9 := Tryd.sizeOf9
  v9 := Tryd.zeroValue9
  t116 := Tryd.underlying103
  a116 := Tryd.isAgg103
  z116 := Tryd.sizeOf103 }
open Go.RowKit Go.Lib in
theorem Tryd.strings_makeASCIISet (hv116 : ∀ w, (zeroValue 103).run Tryd.prog w = .ok (.agg (Array.replicate 256 (.bool false))) w) (chars : ByteArray) (w : World) (hs : chars.size < 4294967281) (hascii : ∀ (j : Nat) b, chars.data.toList[j]? = some b → b.toNat < 128) :
    Calls Tryd.prog 58 #[.string chars] w fun e w' => e = .returned (.tuple #[.agg (Lib.setCells chars.data.toList), .bool true]) ∧ w' = w.alloc (.cells (Lib.setCells chars.data.toList) 103) := Any.strings_makeASCIISet Tryd.lays227 hv116 (by kernel_rfl) chars w hs hascii
def Tryd.lays228_ren : Go.Shelf.Ren := ⟨fun | 228 => 73 | n => n, fun | 124 => 107 | 5 => 5 | 4 => 4 | 0 => 0 | 116 => 103 | n => n, fun | n => n⟩
theorem Tryd.lays228 : Go.Proofs.Lays.n228 Tryd.prog Tryd.lays228_ren := {
  mixed := by kernel_rfl
  f228 := Tryd.func73.trans (congrArg some (by kernel_rfl))
  t0 := Tryd.underlying0
  a0 := Tryd.isAgg0
  z0 := Tryd.sizeOf0
  v0 := Tryd.zeroValue0
  t4 := Tryd.underlying4
  a4 := Tryd.isAgg4
  z4 := Tryd.sizeOf4
  v4 := Tryd.zeroValue4
  t5 := Tryd.underlying5
  a5 := Tryd.isAgg5
  z5 := Tryd.sizeOf5
  v5 := Tryd.zeroValue5
  t116 := Tryd.underlying103
  a116 := Tryd.isAgg103
  z116 := Tryd.sizeOf103
  t124 := Tryd.underlying107
  a124 := Tryd.isAgg107
  z124 := Tryd.sizeOf107
  v124 := Tryd.zeroValue107 }
open Go.RowKit Go.Lib in
/-- '(as *asciiSet) contains(c)': 'as[c]': the set lies at block b, whole. (LAID: no walk: one application.) -/
theorem Tryd.asciiSet_contains (b : Nat) (x : UInt8) (v : Bool) (w : World) (hc : w.cell? ⟨b, x.toNat, none⟩ = some (.bool v)) :
    Calls Tryd.prog 73 #[.pointer (some ⟨b, 0, none⟩), .int .u8 x.toNat] w fun e w' => e = .returned (.bool v) ∧ w' = w := Any.asciiSet_contains Tryd.lays228 b x v w hc
open Go.RowKit Go.Lib in
theorem Tryd.strings_IndexAny_long (hv116 : ∀ w, (zeroValue 103).run Tryd.prog w = .ok (.agg (Array.replicate 256 (.bool false))) w) (s chars : ByteArray) (w : World) (h2 : 2 ≤ chars.size) (h8 : 8 < s.size) (hs : s.size < 4294967281) (hcs : chars.size < 4294967281) (hascii : ∀ (j : Nat) b, chars.data.toList[j]? = some b → b.toNat < 128) :
    Calls Tryd.prog 53 #[.string s, .string chars] w fun e w' => e = .returned (.int .i64 (Lib.indexAny s.data.toList chars.data.toList)) ∧ w' = ((w.alloc (.cells (Lib.setCells chars.data.toList) 103)).alloc (.cells (Lib.setCells chars.data.toList) 103)) := Any.strings_IndexAny_long Tryd.lays153 hv116 (by kernel_rfl) s chars w h2 h8 hs hcs hascii
open Go.RowKit Go.Lib in
/-- strings.IndexAny ON ASCII BYTES: the four roads under one statement. (LAID: no walk: one application.) -/
theorem Tryd.strings_IndexAny (hv116 : ∀ w, (zeroValue 103).run Tryd.prog w = .ok (.agg (Array.replicate 256 (.bool false))) w) (s chars : ByteArray) (w : World) (hs : s.size < 4294967281) (hcs : chars.size < 4294967281) (has : ∀ (j : Nat) b, s.data.toList[j]? = some b → b.toNat < 128) (hac : ∀ (j : Nat) b, chars.data.toList[j]? = some b → b.toNat < 128) :
    Calls Tryd.prog 53 #[.string s, .string chars] w fun e w' => e = .returned (.int .i64 (Lib.indexAny s.data.toList chars.data.toList)) ∧ Below w.heap.size w w' := Any.strings_IndexAny Tryd.lays153 hv116 (by kernel_rfl) s chars w hs hcs has hac
open Go.RowKit Go.Lib in
theorem Tryd.strings_IndexAny_laid (s chars : ByteArray) (w : World) (hs : s.size < 4294967281) (hcs : chars.size < 4294967281) (has : ∀ (j : Nat) b, s.data.toList[j]? = some b → b.toNat < 128) (hac : ∀ (j : Nat) b, chars.data.toList[j]? = some b → b.toNat < 128) :
    Calls Tryd.prog 53 #[.string s, .string chars] w fun e w' => e = .returned (.int .i64 (Lib.indexAny s.data.toList chars.data.toList)) ∧ Below w.heap.size w w' := Any.strings_IndexAny_laid Tryd.lays153 (by kernel_rfl) s chars w hs hcs has hac
def Tryd.lays264_ren : Go.Shelf.Ren := ⟨fun | 264 => 76 | n => n, fun | 53 => 121 | 46 => 96 | n => n, fun | n => n⟩
theorem Tryd.lays264 : Go.Proofs.Lays.n264 Tryd.prog Tryd.lays264_ren := {
  mixed := by kernel_rfl
  f264 := Tryd.func76.trans (congrArg some (by kernel_rfl))
  t46 := Tryd.underlying96
  a46 := Tryd.isAgg96
  z46 := Tryd.sizeOf96
  v46 := Tryd.zeroValue96
  t53 := Tryd.underlying121
  a53 := Tryd.isAgg121
  z53 := Tryd.sizeOf121
  v53 := Tryd.zeroValue121 }
open Go.RowKit Go.Lib in
theorem Tryd.bits_Mul64 (x y : Nat) (hx : x < 18446744073709551616) (hy : y < 18446744073709551616) (w : World) :
    Calls Tryd.prog 76 #[.int .u64 x, .int .u64 y] w fun e w' => e = .returned (.tuple #[.int .u64 ((x * y / 18446744073709551616 : Nat) : Int), .int .u64 ((x * y % 18446744073709551616 : Nat) : Int)]) ∧ w' = w := Any.bits_Mul64 Tryd.lays264 x y hx hy w
def Tryd.lays212_ren : Go.Shelf.Ren := ⟨fun | 212 => 55 | 263 => 75 | 264 => 76 | n => n, fun | 46 => 96 | 51 => 118 | 146 => 119 | 53 => 121 | 148 => 122 | n => n, fun | n => n⟩
theorem Tryd.lays212 : Go.Proofs.Lays.n212 Tryd.prog Tryd.lays212_ren := {
  mixed := by kernel_rfl
  f212 := Tryd.func55.trans (congrArg some (by kernel_rfl))
  f263 := Tryd.func75.trans (congrArg some (by kernel_rfl))
  f264 := Tryd.func76.trans (congrArg some (by kernel_rfl))
  t46 := Tryd.underlying96
  a46 := Tryd.isAgg96
  z46 := Tryd.sizeOf96
  v46 := Tryd.zeroValue96
  t51 := Tryd.underlying118
  a51 := Tryd.isAgg118
  z51 := Tryd.sizeOf118
  v51 := Tryd.zeroValue118
  t53 := Tryd.underlying121
  a53 := Tryd.isAgg121
  z53 := Tryd.sizeOf121
  v53 := Tryd.zeroValue121
  t146 := Tryd.underlying119
  a146 := Tryd.isAgg119
  z146 := Tryd.sizeOf119
  v146 := Tryd.zeroValue119
  t148 := Tryd.underlying122
  a148 := Tryd.isAgg122
  z148 := Tryd.sizeOf122
  v148 := Tryd.zeroValue122 }
open Go.RowKit Go.Lib in
/-- math/bits.Mul: "Mul returns the full-width product of x and y": on a machine of 64 bits: Mul64's. (LAID: no walk: one application.) -/
theorem Tryd.bits_Mul (x y : Nat) (hx : x < 18446744073709551616) (hy : y < 18446744073709551616) (w : World) :
    Calls Tryd.prog 55 #[.int .u64 x, .int .u64 y] w fun e w' => e = .returned (.tuple #[.int .u64 ((x * y / 18446744073709551616 : Nat) : Int), .int .u64 ((x * y % 18446744073709551616 : Nat) : Int)]) ∧ w' = w := Any.bits_Mul Tryd.lays212 x y hx hy w
def Tryd.lays105_ren : Go.Shelf.Ren := ⟨fun | 105 => 36 | 212 => 55 | 99 => 20 | 165 => 56 | 166 => 35 | 170 => 34 | 169 => 37 | 263 => 75 | 264 => 76 | 206 => 39 | 240 => 54 | 241 => 77 | 276 => 74 | 277 => 85 | n => n, fun | 9 => 9 | 3 => 3 | 4 => 4 | 20 => 20 | 0 => 0 | 46 => 96 | 109 => 97 | 5 => 5 | 72 => 78 | 76 => 84 | 51 => 118 | 146 => 119 | 53 => 121 | 148 => 122 | 70 => 75 | 37 => 76 | 75 => 83 | 127 => 100 | 164 => 116 | 80 => 87 | n => n, fun | n => n⟩
theorem Tryd.lays105 : Go.Proofs.Lays.n105 Tryd.prog Tryd.lays105_ren := {
  mixed := by kernel_rfl
  f99 := Tryd.func20.trans (congrArg some (by kernel_rfl))
  f105 := Tryd.func36.trans (congrArg some (by kernel_rfl))
  f165 := Tryd.func56.trans (congrArg some (by kernel_rfl))
  f166 := Tryd.func35.trans (congrArg some (by kernel_rfl))
  f169 := Tryd.func37.trans (congrArg some (by kernel_rfl))
  f170 := Tryd.func34.trans (congrArg some (by kernel_rfl))
  f206 := Tryd.func39.trans (congrArg some (by kernel_rfl))
  f212 := Tryd.func55.trans (congrArg some (by kernel_rfl))
  f240 := Tryd.func54.trans (congrArg some (by kernel_rfl))
  f241 := Tryd.func77.trans (congrArg some (by kernel_rfl))
  f263 := Tryd.func75.trans (congrArg some (by kernel_rfl))
  f264 := Tryd.func76.trans (congrArg some (by kernel_rfl))
  f276 := Tryd.func74.trans (congrArg some (by kernel_rfl))
  f277 := Tryd.func85.trans (congrArg some (by kernel_rfl))
  t0 := Tryd.underlying0
  a0 := Tryd.isAgg0
  z0 := Tryd.sizeOf0
  v0 := Tryd.zeroValue0
  t3 := Tryd.underlying3
  a3 := Tryd.isAgg3
  z3 := Tryd.sizeOf3
  v3 := Tryd.zeroValue3
  t4 := Tryd.underlying4
  a4 := Tryd.isAgg4
  z4 := Tryd.sizeOf4
  v4 := Tryd.zeroValue4
  t5 := Tryd.underlying5
  a5 := Tryd.isAgg5
  z5 := Tryd.sizeOf5
  v5 := Tryd.zeroValue5
  t9 := Tryd.underlying9
  a9 := Tryd.isAgg9
  z9 := Tryd.sizeOf9
  v9 := Tryd.zeroValue9
  t20 := Tryd.underlying20
  a20 := Tryd.isAgg20
  z20 := Tryd.sizeOf20
  v20 := Tryd.zeroValue20
  t37 := Tryd.underlying76
  a37 := Tryd.isAgg76
  z37 := Tryd.sizeOf76
  v37 := Tryd.zeroValue76
  t46 := Tryd.underlying96
  a46 := Tryd.isAgg96
  z46 := Tryd.sizeOf96
  v46 := Tryd.zeroValue96
  t51 := Tryd.underlying118
  a51 := Tryd.isAgg118
  z51 := Tryd.sizeOf118
  v51 := Tryd.zeroValue118
  t53 := Tryd.underlying121
  a53 := Tryd.isAgg121
  z53 := Tryd.sizeOf121
  v53 := Tryd.zeroValue121
  t70 := Tryd.underlying75
  a70 := Tryd.isAgg75
  z70 := Tryd.sizeOf75
  v70 := Tryd.zeroValue75
  t72 := Tryd.underlying78
  a72 := Tryd.isAgg78
  z72 := Tryd.sizeOf78
  v72 := Tryd.zeroValue78
  t75 := Tryd.underlying83
  a75 := Tryd.isAgg83
  z75 := Tryd.sizeOf83
  v75 := Tryd.zeroValue83
  t76 := Tryd.underlying84
  a76 := Tryd.isAgg84
  z76 := Tryd.sizeOf84
  v76 := Tryd.zeroValue84
  t109 := Tryd.underlying97
  a109 := Tryd.isAgg97
  z109 := Tryd.sizeOf97
  v109 := Tryd.zeroValue97
  t127 := Tryd.underlying100
  a127 := Tryd.isAgg100
  z127 := Tryd.sizeOf100
  v127 := Tryd.zeroValue100
  t146 := Tryd.underlying119
  a146 := Tryd.isAgg119
  z146 := Tryd.sizeOf119
  v146 := Tryd.zeroValue119
  t148 := Tryd.underlying122
  a148 := Tryd.isAgg122
  z148 := Tryd.sizeOf122
  v148 := Tryd.zeroValue122
  t164 := Tryd.underlying116
  a164 := Tryd.isAgg116
  z164 := Tryd.sizeOf116
  v164 := Tryd.zeroValue116 }
theorem Tryd.Builder_Extra_105 : Builder.Extra Tryd.prog Tryd.lays105_ren := {
  sizeBuilder := by kernel_rfl
  liesBuilder := by kernel_rfl
  t5 := Tryd.underlying5
  a5 := Tryd.isAgg5
  z5 := Tryd.sizeOf5
  v5 := Tryd.zeroValue5
  infoByte := by kernel_rfl
  cellsByte := by kernel_rfl
  sizeByte := by kernel_rfl
  neB5 := by decide }
open Go.RowKit Go.Lib in
/-- THE MAIN CASE: at least two copies of a string that is not empty. (LAID: no walk: one application.) -/
theorem Tryd.strings_Repeat_main (s : ByteArray) (c : Nat) (w : World) (hc2 : 2 ≤ c) (hc : c ≤ 9223372036854775807) (hlen : s.size * c ≤ 140737488355328) (h0 : 0 < s.size) :
    Calls Tryd.prog 36 #[.string s, .int .i64 c] w fun e w' => e = .returned (.string ⟨(Lib.repeatL s.data.toList c).toArray⟩) ∧ Below w.heap.size w w' := Any.strings_Repeat_main Tryd.lays105 Tryd.Builder_Extra_105 s c w hc2 hc hlen h0
open Go.RowKit Go.Lib in
theorem Tryd.strings_Repeat_zero (s : ByteArray) (w : World) :
    Calls Tryd.prog 36 #[.string s, .int .i64 0] w fun e w' => e = .returned (.string ⟨#[]⟩) ∧ w' = w := Any.strings_Repeat_zero Tryd.lays105 s w
open Go.RowKit Go.Lib in
theorem Tryd.strings_Repeat_one (s : ByteArray) (w : World) :
    Calls Tryd.prog 36 #[.string s, .int .i64 1] w fun e w' => e = .returned (.string s) ∧ w' = w := Any.strings_Repeat_one Tryd.lays105 s w
open Go.RowKit Go.Lib in
/-- Copies of the empty string. (LAID: no walk: one application.) -/
theorem Tryd.strings_Repeat_empty (s : ByteArray) (c : Nat) (w : World) (hc2 : 2 ≤ c) (hc : c ≤ 9223372036854775807) (h0 : s.size = 0) :
    Calls Tryd.prog 36 #[.string s, .int .i64 c] w fun e w' => e = .returned (.string ⟨#[]⟩) ∧ w' = w := Any.strings_Repeat_empty Tryd.lays105 s c w hc2 hc h0
open Go.RowKit Go.Lib in
/-- count < 0: "It panics if count is negative". (LAID: no walk: one application.) -/
theorem Tryd.strings_Repeat_negative (s : ByteArray) (c : Int) (w : World) (hc : c < 0) :
    Calls Tryd.prog 36 #[.string s, .int .i64 c] w fun e w' => e = .panicked [{ v := repeatPanic Tryd.lays105_ren "strings: negative Repeat count", recovered := false }] ∧ w' = w := Any.strings_Repeat_negative Tryd.lays105 s c w hc
open Go.RowKit Go.Lib in
/-- len(s) * count is no int: ".. or if the result of (len(s) * count) overflows". (LAID: no walk: one application.) -/
theorem Tryd.strings_Repeat_overflow (s : ByteArray) (c : Nat) (w : World) (hc : c ≤ 9223372036854775807) (hs : s.size ≤ 9223372036854775807) (hbig : 9223372036854775807 < s.size * c) :
    Calls Tryd.prog 36 #[.string s, .int .i64 c] w fun e w' => e = .panicked [{ v := repeatPanic Tryd.lays105_ren "strings: Repeat output length overflow", recovered := false }] ∧ w' = w := Any.strings_Repeat_overflow Tryd.lays105 s c w hc hs hbig
open Go.RowKit Go.Lib in
/-- **strings.Repeat: count ≥ 0, the result within one allocation: count copies of s.** (LAID: no walk: one application.) -/
theorem Tryd.strings_Repeat (s : ByteArray) (c : Nat) (w : World) (hc : c ≤ 9223372036854775807) (hlen : s.size * c ≤ 140737488355328) :
    Calls Tryd.prog 36 #[.string s, .int .i64 c] w fun e w' => e = .returned (.string ⟨(Lib.repeatL s.data.toList c).toArray⟩) ∧ Below w.heap.size w w' := Any.strings_Repeat Tryd.lays105 Tryd.Builder_Extra_105 s c w hc hlen
def Tryd.lays260_ren : Go.Shelf.Ren := ⟨fun | 260 => 90 | n => n, fun | 9 => 9 | 21 => 21 | 3 => 3 | 4 => 4 | 5 => 5 | 119 => 135 | 0 => 0 | 46 => 96 | 139 => 138 | 138 => 137 | n => n, fun | 3 => 1 | 4 => 2 | n => n⟩
theorem Tryd.lays260 : Go.Proofs.Lays.n260 Tryd.prog Tryd.lays260_ren := {
  mixed := by kernel_rfl
  f260 := Tryd.func90.trans (congrArg some (by kernel_rfl))
  t0 := Tryd.underlying0
  a0 := Tryd.isAgg0
  z0 := Tryd.sizeOf0
  v0 := Tryd.zeroValue0
  t3 := Tryd.underlying3
  a3 := Tryd.isAgg3
  z3 := Tryd.sizeOf3
  v3 := Tryd.zeroValue3
  t4 := Tryd.underlying4
  a4 := Tryd.isAgg4
  z4 := Tryd.sizeOf4
  v4 := Tryd.zeroValue4
  t5 := Tryd.underlying5
  a5 := Tryd.isAgg5
  z5 := Tryd.sizeOf5
  v5 := Tryd.zeroValue5
  t9 := Tryd.underlying9
  a9 := Tryd.isAgg9
  z9 := Tryd.sizeOf9
  v9 := Tryd.zeroValue9
  t21 := Tryd.underlying21
  a21 := Tryd.isAgg21
  z21 := Tryd.sizeOf21
  v21 := Tryd.zeroValue21
  t46 := Tryd.underlying96
  a46 := Tryd.isAgg96
  z46 := Tryd.sizeOf96
  v46 := Tryd.zeroValue96
  t119 := Tryd.underlying135
  a119 := Tryd.isAgg135
  z119 := Tryd.sizeOf135
  t138 := Tryd.underlying137
  a138 := Tryd.isAgg137
  z138 := Tryd.sizeOf137
  v138 := Tryd.zeroValue137
  t139 := Tryd.underlying138
  a139 := Tryd.isAgg138
  z139 := Tryd.sizeOf138
  v139 := Tryd.zeroValue138
  g3 := by kernel_rfl
  g4 := by kernel_rfl }
open Go.RowKit Go.Lib in
theorem Tryd.utf8_decodeRuneInStringSlow (s : ByteArray) (w : World) (hT : Lib.Utf8Tabs 1 2 w) :
    Calls Tryd.prog 90 #[.string s] w fun e w' => e = .returned (.tuple #[.int .i32 (Lib.decodeGo s).1, .int .i64 (Lib.decodeGo s).2]) ∧ Below w.heap.size w w' := Any.utf8_decodeRuneInStringSlow Tryd.lays260 s w hT
end Go.Proofs

/-
  strings.Builder at this program: copyCheck (its road by panic is none here), WriteByte, WriteString, by walks of our own.
-/
namespace Go.Proofs.YtlijmflikcjikaaDoor
open Go.RowKit

theorem sizeBld : (Tryd.prog.info? 78).map (·.size) = some 2 := by kernel_rfl
theorem liesBld : liesAt Tryd.prog Tryd.prog.depth 78 (2 / Tryd.prog.cellsOf 78) 0 78 1 = true := by kernel_rfl
theorem infoByte : (Tryd.prog.info? 5).map (fun i => (i.zero, i.size, i.bytes)) = some (some (.int .u8 0), 1, 1) := by kernel_rfl

set_option maxHeartbeats 1000000 in
set_option maxRecDepth 100000 in
theorem bld_copyCheck_used (b : Nat) (w : World) (h0 : w.cell? ⟨b, 0, none⟩ = some (.pointer (some ⟨b, 0, none⟩))) :
    Calls Tryd.prog 54 #[.pointer (some ⟨b, 0, none⟩)] w fun e w' => e = .returned (.tuple #[]) ∧ w = w' := by
  obtain ⟨j, hj, _⟩ := Option.map_eq_some_iff.1 sizeBld
  go_enter Tryd.func54, Tryd.ntmps54
  go_wp2
  rw [Lib.run_neq_ptr_same w _ Tryd.underlying75 hj]
  go_wp2
  go_end0
  exact ⟨rfl, rfl⟩

set_option maxHeartbeats 1000000 in
set_option maxRecDepth 100000 in
theorem bld_copyCheck_fresh (b : Nat) (w : World) (h0 : w.cell? ⟨b, 0, none⟩ = some (.pointer none)) (hsh : w.shape? b = some (78, 2)) (hfz : w.frozen? ⟨b, 0, none⟩ = false) :
    Calls Tryd.prog 54 #[.pointer (some ⟨b, 0, none⟩)] w fun e w' => e = .returned (.tuple #[]) ∧ w' = w.setCell ⟨b, 0, none⟩ (.pointer (some ⟨b, 0, none⟩)) := by
  obtain ⟨j, hj, hjs⟩ := Option.map_eq_some_iff.1 sizeBld
  go_enter Tryd.func54, Tryd.ntmps54
  go_wp2
  rw [Lib.run_to_unsafe w ⟨b, 0, none⟩ Tryd.underlying75 Tryd.underlying116 hj (by rw [hjs]; decide) hsh (Nat.zero_lt_succ 1)]
  simp only [Result.andThen]
  rw [Oper.upon_value]
  go_wp2
  rw [run_callFunc_extern Tryd.func74 (by kernel_rfl) (by kernel_rfl) (by kernel_rfl) (e := Extern.AbiNoEscape.same) (by kernel_rfl)]
  rw [Lib.run_noEscape]
  simp only [Result.andThen]
  rw [Oper.upon_value]
  go_wp2
  rw [Lib.run_from_unsafe w ⟨b, 0, none⟩ Tryd.underlying116 Tryd.underlying75 hj hsh liesBld]
  simp only [Result.andThen]
  rw [Oper.upon_value]
  go_wp2
  go_end0
  exact ⟨rfl, rfl⟩

theorem bld_copyCheck (B b : Nat) (bs : List Value) (w : World) (h : Lib.IsBuilderF 78 5 B b bs w) :
    Calls Tryd.prog 54 #[.pointer (some ⟨b, 0, none⟩)] w fun e w' => e = .returned (.tuple #[]) ∧ (Lib.BuilderAtF 78 5 B b (.pointer (some ⟨b, 0, none⟩)) bs w' ∧ Below B w w' ∧ Lib.OthersKept 5 (some b) w w') := by
  rcases h with h | h
  · refine (bld_copyCheck_fresh b w h.cell0 h.shape h.frozen0).mono ?_
    rintro e w' ⟨rfl, rfl⟩
    exact ⟨rfl, h.used _, (Below.refl B w).setCell (p := ⟨b, 0, none⟩) h.1 _, (Lib.OthersKept.refl _ _ w).setCell ⟨b, 0, none⟩ rfl _⟩
  · refine (bld_copyCheck_used b w h.cell0).mono ?_
    rintro e w' ⟨rfl, rfl⟩
    exact ⟨rfl, h, Below.refl B _, Lib.OthersKept.refl _ _ _⟩

set_option maxHeartbeats 2000000 in
set_option maxRecDepth 100000 in
theorem bld_WriteString (B b : Nat) (bs : List Value) (s : ByteArray) (w : World) (h : Lib.IsBuilderF 78 5 B b bs w) (hlen : bs.length + s.size ≤ 140737488355328) (hBw : B ≤ w.heap.size) :
    Calls Tryd.prog 35 #[.pointer (some ⟨b, 0, none⟩), .string s] w fun e w' => e = .returned (.tuple #[.int .i64 s.size, .nilIface]) ∧ (Lib.BuilderAtF 78 5 B b (.pointer (some ⟨b, 0, none⟩)) (bs ++ Lib.strCells s) w' ∧ Below B w w' ∧ Lib.OthersKept 5 (some b) w w') := by
  obtain ⟨i0, hi, hz0, hz1, hz2⟩ := info_parts infoByte
  go_enter Tryd.func35, Tryd.ntmps35
  go_wp2_with (go_at_call 54; refine (bld_copyCheck B b bs _ h).mono ?_)
  rintro e w1 ⟨rfl, h1, hb1, hk1⟩
  obtain ⟨hB, v, hbk, hown, hne⟩ := h1
  have c0 : w1.cell? ⟨b, 0, none⟩ = some (.pointer (some ⟨b, 0, none⟩)) := by rw [Lib.cell_of_heap hbk]; rfl
  have c1 : w1.cell? ⟨b, 1, none⟩ = some v := by rw [Lib.cell_of_heap hbk]; rfl
  go_wp2_with (at_builtin; refine Lib.wpList_append_own_stringF _ rfl _ _ 76 9 rfl B 5 i0 Tryd.underlying76 Tryd.underlying9 hi hz0 hz1 hz2 _ _ _ rfl hown s rfl ?c3 ?c4 ?c5 ?_)
  case c3 => unfold maxLen; omega
  case c4 => omega
  case c5 => have := hb1.size; omega
  intro v' w2 hown' hgrow _
  have hlt : b < w1.heap.size := by
    rcases Nat.lt_or_ge b w1.heap.size with h' | h'
    · exact h'
    · simp [Array.getElem?_eq_none h'] at hbk
  have hb2 : w2.heap[b]? = some (.cells #[.pointer (some ⟨b, 0, none⟩), v] 78 (0, 0)) := by
    rw [hgrow.block b hlt (fun e => hne e.symm)]
    exact hbk
  have d0 : w2.cell? ⟨b, 0, none⟩ = some (.pointer (some ⟨b, 0, none⟩)) := by rw [Lib.cell_of_heap hb2]; rfl
  have d1 : w2.cell? ⟨b, 1, none⟩ = some v := by rw [Lib.cell_of_heap hb2]; rfl
  have f1 : w2.frozen? ⟨b, 1, none⟩ = false := Lib.frozen_of_heap hb2 1
  obtain ⟨ao, n', cap, rfl⟩ : ∃ ao n' cap, v' = .slice ao n' cap := by
    rcases hown'.2 with ⟨hv, _⟩ | ⟨g, cap, cur, fz, hv, _⟩
    · exact ⟨_, _, _, hv⟩
    · exact ⟨_, _, _, hv⟩
  go_wp2
  go_ret2
  refine ⟨rfl, ?_, ?_, (hk1.grown hgrow (Lib.ownsRowF_kind hown)).setCell ⟨b, 1, none⟩ rfl _⟩
  · exact Lib.BuilderAtF.put (T := 78) (e := 5) hB hb2 (bs' := bs ++ Lib.strCells s) (by simpa [Lib.strCells_length] using hown') (by decide)
  · exact (hb1.grown hgrow (by have := hb1.size; omega) (fun k hk => (hown.lt k hk).1)).setCell (p := ⟨b, 1, none⟩) hB _
end Go.Proofs.YtlijmflikcjikaaDoor

/-
  (*strings.Builder).WriteRune at this program, by a walk of our own: copyCheck's road by panic is none here.
-/
namespace Go.Proofs.YtlijmflikcjikaaDoor
open Go.RowKit

def runeRen : Go.Shelf.Ren := ⟨fun | 242 => 89 | 278 => 92 | n => n, fun | 72 => 78 | 37 => 76 | 21 => 21 | 51 => 118 | 4 => 4 | 5 => 5 | 46 => 96 | n => n, fun | n => n⟩
theorem runeLays : Go.Proofs.Lays.n242 Tryd.prog runeRen := {
  mixed := by kernel_rfl
  f242 := Tryd.func89.trans (congrArg some (by kernel_rfl))
  f278 := Tryd.func92.trans (congrArg some (by kernel_rfl))
  t4 := Tryd.underlying4
  a4 := Tryd.isAgg4
  z4 := Tryd.sizeOf4
  v4 := Tryd.zeroValue4
  t5 := Tryd.underlying5
  a5 := Tryd.isAgg5
  z5 := Tryd.sizeOf5
  v5 := Tryd.zeroValue5
  t21 := Tryd.underlying21
  a21 := Tryd.isAgg21
  z21 := Tryd.sizeOf21
  v21 := Tryd.zeroValue21
  t37 := Tryd.underlying76
  a37 := Tryd.isAgg76
  z37 := Tryd.sizeOf76
  v37 := Tryd.zeroValue76
  t46 := Tryd.underlying96
  a46 := Tryd.isAgg96
  z46 := Tryd.sizeOf96
  v46 := Tryd.zeroValue96
  t51 := Tryd.underlying118
  a51 := Tryd.isAgg118
  z51 := Tryd.sizeOf118
  v51 := Tryd.zeroValue118 }
theorem runeExtra : Builder.Extra Tryd.prog runeRen := {
  sizeBuilder := by kernel_rfl
  liesBuilder := by kernel_rfl
  t5 := Tryd.underlying5
  a5 := Tryd.isAgg5
  z5 := Tryd.sizeOf5
  v5 := Tryd.zeroValue5
  infoByte := by kernel_rfl
  cellsByte := by kernel_rfl
  sizeByte := by kernel_rfl
  neB5 := by decide }

set_option maxHeartbeats 2000000 in
set_option maxRecDepth 100000 in
theorem bld_WriteRune (B b : Nat) (bs : List Value) (r : Int) (hr0 : -2147483648 ≤ r) (hr1 : r ≤ 2147483647) (w : World) (h : Lib.IsBuilderF 78 5 B b bs w) (hlen : bs.length + 4 ≤ 140737488355328) (hBw : B ≤ w.heap.size) :
    Calls Tryd.prog 81 #[.pointer (some ⟨b, 0, none⟩), .int .i32 r] w fun e w' => e = .returned (.tuple #[.int .i64 (Lib.runeCells r).length, .nilIface]) ∧ (Lib.BuilderAtF 78 5 B b (.pointer (some ⟨b, 0, none⟩)) (bs ++ Lib.runeCells r) w' ∧ Below B w w' ∧ Lib.OthersKept 5 (some b) w w') := by
  have hk4 := Lib.runeCells_le r
  go_enter Tryd.func81, Tryd.ntmps81
  go_wp2_with (go_at_call 54; refine (bld_copyCheck B b bs _ h).mono ?_)
  rintro e w1 ⟨rfl, h1, hb1, hk1⟩
  obtain ⟨hB, v, hbk, hown, hne⟩ := h1
  obtain ⟨ao, cap, rfl⟩ : ∃ ao cap, v = .slice ao bs.length cap := by
    rcases hown.2 with ⟨hv, h0⟩ | ⟨g, cap, cur, fz, hv, _⟩
    · exact ⟨none, 0, by rw [hv, h0]⟩
    · exact ⟨_, _, hv⟩
  have c0 : w1.cell? ⟨b, 0, none⟩ = some (.pointer (some ⟨b, 0, none⟩)) := by rw [Lib.cell_of_heap hbk]; rfl
  have c1 : w1.cell? ⟨b, 1, none⟩ = some (.slice ao bs.length cap) := by rw [Lib.cell_of_heap hbk]; rfl
  go_wp2_with (go_at_call 89; refine (Any.utf8_AppendRune_own runeLays runeExtra B _ bs.length bs r hr0 hr1 _ hown hlen (by have := hb1.size; omega)).mono ?_)
  rintro e w2 ⟨v', rfl, hown', o, hgrow⟩
  have hlt : b < w1.heap.size := by
    rcases Nat.lt_or_ge b w1.heap.size with h' | h'
    · exact h'
    · simp [Array.getElem?_eq_none h'] at hbk
  have hb2 : w2.heap[b]? = some (.cells #[.pointer (some ⟨b, 0, none⟩), .slice ao bs.length cap] 78 (0, 0)) := by
    rw [hgrow.block b (by simp; omega) (fun e => hne e.symm), Lib.alloc_old w1 _ b hlt]
    exact hbk
  have d0 : w2.cell? ⟨b, 0, none⟩ = some (.pointer (some ⟨b, 0, none⟩)) := by rw [Lib.cell_of_heap hb2]; rfl
  have d1 : w2.cell? ⟨b, 1, none⟩ = some (.slice ao bs.length cap) := by rw [Lib.cell_of_heap hb2]; rfl
  have f1 : w2.frozen? ⟨b, 1, none⟩ = false := Lib.frozen_of_heap hb2 1
  obtain ⟨g, cap', rfl⟩ : ∃ g cap', v' = .slice (some ⟨g, 0, none⟩) (bs.length + (Lib.runeCells r).length) cap' := by
    rcases hown'.2 with ⟨_, h0⟩ | ⟨g, cap', cur, fz, hv, _⟩
    · omega
    · exact ⟨g, cap', hv⟩
  go_wp2
  go_ret2
  refine ⟨?_, ?_, ?_, ((hk1.alloc _).grown hgrow (Lib.ownsRowF_kind (hown.alloc _))).setCell ⟨b, 1, none⟩ rfl _⟩
  · have e : ((bs.length : Int) + ((Lib.runeCells r).length : Int) - (bs.length : Int)) = ((Lib.runeCells r).length : Int) := by omega
    simp [e]
  · exact Lib.BuilderAtF.put (T := 78) (e := 5) hB hb2 (bs' := bs ++ Lib.runeCells r) (by have hq : w2.ownsRowF B 5 1 _ _ _ := hown'; simpa using hq) (by decide)
  · exact ((hb1.alloc (by have := hb1.size; omega) _).grown hgrow (by have := hb1.size; simp; omega) (fun k hk => (hown.lt k hk).1)).setCell (p := ⟨b, 1, none⟩) hB _
end Go.Proofs.YtlijmflikcjikaaDoor

namespace Go.Proofs.YtlijmflikcjikaaDoor
open Go.RowKit
set_option linter.unusedVariables false
set_option linter.unusedSimpArgs false

/-- A hexadecimal digit's value, and whether it is one. -/
def hexV (c : UInt8) : Int × Bool :=
  if 48 ≤ c.toNat ∧ c.toNat ≤ 57 then ((c.toNat : Int) - 48, true) else if 97 ≤ c.toNat ∧ c.toNat ≤ 102 then ((c.toNat : Int) - 97 + 10, true) else if 65 ≤ c.toNat ∧ c.toNat ≤ 70 then ((c.toNat : Int) - 65 + 10, true) else (0, false)
theorem hexV_range (c : UInt8) : 0 ≤ (hexV c).1 ∧ (hexV c).1 ≤ 15 := by
  unfold hexV
  (repeat' split) <;> (dsimp only) <;> omega
set_option maxHeartbeats 1000000 in
theorem hexValue_any (c : UInt8) (w : World) : Calls Tryd.prog 91 #[.int .u8 (c.toNat : Int)] w fun e w' => e = .returned (.tuple #[.int .i32 (hexV c).1, .bool (hexV c).2]) ∧ w = w' := by
  have h256 := c.toNat_lt
  have hx : ((c.toNat : Int) < 48 ∧ hexV c = (0, false)) ∨ (48 ≤ (c.toNat : Int) ∧ (c.toNat : Int) ≤ 57 ∧ hexV c = ((c.toNat : Int) - 48, true)) ∨ (58 ≤ (c.toNat : Int) ∧ (c.toNat : Int) ≤ 64 ∧ hexV c = (0, false)) ∨ (65 ≤ (c.toNat : Int) ∧ (c.toNat : Int) ≤ 70 ∧ hexV c = ((c.toNat : Int) - 65 + 10, true)) ∨ (71 ≤ (c.toNat : Int) ∧ (c.toNat : Int) ≤ 96 ∧ hexV c = (0, false)) ∨ (97 ≤ (c.toNat : Int) ∧ (c.toNat : Int) ≤ 102 ∧ hexV c = ((c.toNat : Int) - 97 + 10, true)) ∨ (103 ≤ (c.toNat : Int) ∧ hexV c = (0, false)) := by
    unfold hexV
    by_cases h1 : 48 ≤ c.toNat ∧ c.toNat ≤ 57
    · rw [if_pos h1]; right; left; exact ⟨by omega, by omega, rfl⟩
    · rw [if_neg h1]
      by_cases h2 : 97 ≤ c.toNat ∧ c.toNat ≤ 102
      · rw [if_pos h2]; right; right; right; right; right; left; exact ⟨by omega, by omega, rfl⟩
      · rw [if_neg h2]
        by_cases h3 : 65 ≤ c.toNat ∧ c.toNat ≤ 70
        · rw [if_pos h3]; right; right; right; left; exact ⟨by omega, by omega, rfl⟩
        · rw [if_neg h3]
          by_cases a1 : c.toNat < 48
          · left; exact ⟨by omega, rfl⟩
          · by_cases a2 : c.toNat ≤ 64
            · right; right; left; exact ⟨by omega, by omega, rfl⟩
            · by_cases a3 : c.toNat ≤ 96
              · right; right; right; right; left; exact ⟨by omega, by omega, rfl⟩
              · right; right; right; right; right; right; exact ⟨by omega, rfl⟩
  generalize hexV c = v at *
  rcases hx with ⟨h1, rfl⟩ | ⟨h1, h2, rfl⟩ | ⟨h1, h2, rfl⟩ | ⟨h1, h2, rfl⟩ | ⟨h1, h2, rfl⟩ | ⟨h1, h2, rfl⟩ | ⟨h1, rfl⟩
  all_goals
    go_enter Tryd.func91, Tryd.ntmps91
    go_wp2
    go_ret2
    exact ⟨rfl, rfl⟩

/-- The number that hexadecimal digits tell. -/
def hexN (l : List UInt8) : Int := l.foldl (fun n c => 16 * n + (hexV c).1) 0
theorem hexN_snoc (l : List UInt8) (c : UInt8) : hexN (l ++ [c]) = 16 * hexN l + (hexV c).1 := by
  unfold hexN
  rw [List.foldl_append]
  rfl
theorem hexN_range (l : List UInt8) : ∀ j, j ≤ l.length → 0 ≤ hexN (l.take j) ∧ hexN (l.take j) < ((16 ^ j : Nat) : Int)
  | 0, _ => ⟨by simp [hexN], by simp [hexN]⟩
  | j + 1, h => by
    have ih := hexN_range l j (by omega)
    have := hexV_range (l[j]'(by omega))
    rw [List.take_succ_eq_append_getElem (by omega), hexN_snoc, Nat.pow_succ, Int.natCast_mul]
    omega

theorem hexV_take_succ (l : List UInt8) (j : Nat) (hj : j < l.length) : hexN (l.take (j + 1)) = 16 * hexN (l.take j) + (hexV l[j]).1 := by
  rw [List.take_succ_eq_append_getElem hj, hexN_snoc]
theorem hexOk_take_succ (l : List UInt8) (j : Nat) (hj : j < l.length) : (l.take (j + 1)).all (fun c => (hexV c).2) = ((l.take j).all (fun c => (hexV c).2) && (hexV l[j]).2) := by
  rw [List.take_succ_eq_append_getElem hj, List.all_append]
  simp
theorem or_sixteen (n v : Int) (h0 : 0 ≤ n) (h1 : n < 16777216) (v0 : 0 ≤ v) (v1 : v < 16) : bits BinOp.or IntKind.i32 (n * 16) v = 16 * n + v := by
  rw [bits_join .i32 31 (by decide) wraps_i32 4 (n * 16) v (by omega) (by omega) (by omega) v0 (by omega) (by omega)]
  omega
/-- A sign's number, as it may be. -/
def runeOk (n : Int) : Int := if Lib.validRune n = true then n else 65533
/-- What hexadecimal digits behind two bytes tell, and how many bytes all have; 0: nothing. -/
def numV (l : List UInt8) (d : Nat) : Int × Nat := if 2 + d ≤ l.length ∧ ((l.drop 2).take d).all (fun c => (hexV c).2) = true then (runeOk (hexN ((l.drop 2).take d)), 2 + d) else (0, 0)

set_option maxHeartbeats 2000000 in
set_option maxRecDepth 100000 in
theorem numbered_any (s : ByteArray) (d : Nat) (hd : d ≤ 6) (w : World) (hs : s.size ≤ 1000000) : Calls Tryd.prog 88 #[.string s, .int .i64 d] w fun e w' => e = .returned (.tuple #[.int .i32 (numV s.data.toList d).1, .int .i64 (numV s.data.toList d).2]) ∧ w = w' := by
  by_cases hlen : (s.size : Int) < 2 + d
  · have hv : numV s.data.toList d = (0, 0) := by
      unfold numV
      rw [if_neg (by rw [size_data]; omega)]
    rw [hv]
    go_enter Tryd.func88, Tryd.ntmps88
    go_wp2
    go_ret2
    exact ⟨rfl, rfl⟩
  · have hql : ((s.data.toList.drop 2).take d).length = d := by rw [List.length_take, List.length_drop, size_data]; omega
    have hqa : ∀ j (_ : j < d) (hb : 2 + j < s.size), ((s.data.toList.drop 2).take d)[j]? = some (s[2 + j]'hb) := by
      intro j hj hb
      rw [List.getElem?_take_of_lt hj, List.getElem?_drop, List.getElem?_eq_getElem (by rw [size_data]; omega)]
      rfl
    have hnum : numV s.data.toList d = if ((s.data.toList.drop 2).take d).all (fun c => (hexV c).2) = true then (runeOk (hexN ((s.data.toList.drop 2).take d)), 2 + d) else (0, 0) := by
      unfold numV
      by_cases hall : ((s.data.toList.drop 2).take d).all (fun c => (hexV c).2) = true
      · rw [if_pos ⟨by rw [size_data]; omega, hall⟩, if_pos hall]
      · rw [if_neg (fun h => hall h.2), if_neg hall]
    generalize numV s.data.toList d = r at *
    generalize (s.data.toList.drop 2).take d = q at *
    have Hnum := Lib.hid hnum
    clear hnum
    have Hql := Lib.hid hql
    have Hqa := Lib.hid hqa
    clear hql hqa
    go_enter Tryd.func88, Tryd.ntmps88
    go_wp2
    go_loop [7, 18] (fun n i => ∃ (j : Nat) (z : Int), j ≤ d ∧ n = .int .i32 z ∧ i = .int .i64 j ∧ Hid (z = hexN (q.take j)) ∧ Hid ((q.take j).all (fun c => (hexV c).2) = true)) (fun _ i => d - (intOf i).toNat)
    case atStart => exact ⟨0, 0, Nat.zero_le _, rfl, rfl, rfl, rfl⟩
    case round =>
      obtain ⟨j, n, hj, rfl, rfl, hn, hok⟩ := hrel
      by_cases hlt : j < d
      · have hr := hexN_range q j (by rw [Hql.out]; omega)
        have hjl : j < q.length := by rw [Hql.out]; exact hlt
        have hq : q[j] = s[2 + j]'(by omega) := by
          have := Hqa.out j hlt (by omega)
          rw [List.getElem?_eq_getElem hjl] at this
          exact Option.some.inj this
        have h1 := hexV_take_succ q j hjl
        have h2 := hexOk_take_succ q j hjl
        rw [hq] at h1 h2
        rw [hok.out, Bool.true_and] at h2
        have hvr := hexV_range (s[2 + j]'(by omega))
        have hp : (16 ^ j : Nat) ≤ 16 ^ 5 := Nat.pow_le_pow_right (by decide) (by omega)
        have hr1 := hr.1
        have hr2 : hexN (q.take j) < 1048576 := by
          have : (16 ^ 5 : Nat) = 1048576 := by decide
          omega
        have hi0 : (0 : Int) ≤ 2 + (j : Int) := by omega
        have hi1 : 2 + (j : Int) < s.size := by omega
        have hi2 : (2 + (j : Int)).toNat = 2 + j := by omega
        have H1 := Lib.hid h1
        have H2 := Lib.hid h2
        have hv0 := hvr.1
        have hv1 := hvr.2
        clear hq hr hjl h1 h2 hvr hp
        have hcall := fun W => hexValue_any (s[2 + j]'(by omega)) W
        rw [← hn.out] at hr1 hr2
        generalize hx : hexV (s[2 + j]'(by omega)) = hv at *
        obtain ⟨v, ok⟩ := hv
        have Hx := Lib.hid hx
        clear hx
        dsimp only at hv0 hv1 hcall
        cases ok
        · go_wp2_with fail
          go_at_call 91
          refine (hcall _).mono ?_
          rintro e w2 ⟨rfl, rfl⟩
          go_wp2
          go_ret2
          have hall : ¬ q.all (fun c => (hexV c).2) = true := by
            intro h
            have h3 : (q.take (j + 1)).all (fun c => (hexV c).2) = true := List.all_eq_true.2 (fun c hc => List.all_eq_true.1 h c (List.mem_of_mem_take hc))
            rw [H2.out] at h3
            exact absurd h3 (by decide)
          have hr0 := Hnum.out
          rw [if_neg hall] at hr0
          rw [hr0]
          exact ⟨rfl, rfl⟩
        · go_wp2_with fail
          go_at_call 91
          refine (hcall _).mono ?_
          rintro e w2 ⟨rfl, rfl⟩
          have hor := or_sixteen n v hr1 (by omega) hv0 (by omega)
          go_wp2
          go_round
          case rel => exact ⟨j + 1, _, by omega, rfl, by go_num, by show _ = _; rw [H1.out, hn.out], H2.out⟩
          case measure => simp [intOf]; omega
      · obtain rfl : j = d := by omega
        have hqt : q.take j = q := List.take_of_length_le (by rw [Hql.out]; exact Nat.le_refl _)
        rw [hqt] at hok
        have hn' := hn.out
        rw [hqt] at hn'
        have hr := hexN_range q j (by rw [Hql.out]; exact Nat.le_refl _)
        rw [hqt, ← hn'] at hr
        have hr0 := Hnum.out
        rw [if_pos hok.out, ← hn'] at hr0
        unfold runeOk at hr0
        clear hqt hn' Hnum hok hn
        by_cases hv : Lib.validRune n = true
        · rw [if_pos hv] at hr0
          subst hr0
          go_wp2_with fail
          go_at_call 82
          refine (Tryd.utf8_ValidRune _ _).mono ?_
          rintro e w2 ⟨rfl, rfl⟩
          go_wp2
          go_ret2
          exact ⟨by simp, rfl⟩
        · rw [if_neg hv] at hr0
          subst hr0
          have hvf : Lib.validRune n = false := by simpa using hv
          go_wp2_with fail
          go_at_call 82
          refine (Tryd.utf8_ValidRune _ _).mono ?_
          rintro e w2 ⟨rfl, rfl⟩
          go_wp2
          go_ret2
          exact ⟨by simp, rfl⟩
end Go.Proofs.YtlijmflikcjikaaDoor

namespace Go.Proofs.YtlijmflikcjikaaDoor
open Go.RowKit
set_option linter.unusedVariables false
set_option linter.unusedSimpArgs false

/-- What Decode tells from place pos on. -/
def decFrom (s : ByteArray) : Nat → Nat → List UInt8
  | 0, _ => []
  | fuel + 1, pos => if pos < s.size then (if (Utf8.decode s pos).1 = 13 then [] else Lib.encodeRune (Utf8.decode s pos).1) ++ decFrom s fuel (pos + (Utf8.decode s pos).2) else []
def decAll (s : ByteArray) : List UInt8 := decFrom s s.size 0
theorem width_pos (s : ByteArray) (pos : Nat) (h : pos < s.size) : 1 ≤ (Utf8.decode s pos).2 := by
  by_cases ha : (s[pos]'h).toNat < 128
  · rw [decode_ascii s pos h ha]
    exact Nat.le_refl _
  · exact (decode_high s pos h (by omega)).2
theorem decFrom_end (s : ByteArray) (fuel pos : Nat) (h : ¬ pos < s.size) : decFrom s fuel pos = [] := by
  cases fuel with
  | zero => rfl
  | succ f => simp [decFrom, h]

theorem decFrom_length (s : ByteArray) : ∀ fuel pos, (decFrom s fuel pos).length ≤ 4 * (s.size - pos)
  | 0, _ => by simp [decFrom]
  | f + 1, pos => by
    unfold decFrom
    by_cases hp : pos < s.size
    · rw [if_pos hp, List.length_append]
      have ih := decFrom_length s f (pos + (Utf8.decode s pos).2)
      have hw := width_pos s pos hp
      have h4 : (if (Utf8.decode s pos).1 = 13 then [] else Lib.encodeRune (Utf8.decode s pos).1).length ≤ 4 := by
        split
        · simp
        · have := Lib.runeCells_le ((Utf8.decode s pos).1 : Int)
          rw [Lib.runeCells_length] at this
          exact this.2
      omega
    · rw [if_neg hp]; simp

end Go.Proofs.YtlijmflikcjikaaDoor

namespace Go.Proofs.YtlijmflikcjikaaDoor
open Go.RowKit
set_option linter.unusedVariables false
set_option linter.unusedSimpArgs false

/-- What a \ and what stands behind it tell, and how many bytes these have; 0: nothing. -/
def escV (l : List UInt8) : Int × Nat :=
  if l.length < 2 then (0, 0)
  else if l.getD 1 0 = 34 ∨ l.getD 1 0 = 92 then (((l.getD 1 0).toNat : Int), 2)
  else if l.getD 1 0 = 117 then numV l 4
  else if l.getD 1 0 = 85 then numV l 6
  else (0, 0)
theorem runeOk_range (n : Int) (h0 : 0 ≤ n) (h1 : n < 2147483648) : 0 ≤ runeOk n ∧ runeOk n < 2147483648 := by
  unfold runeOk
  split <;> omega
theorem numV_range (l : List UInt8) (d : Nat) (hd : d ≤ 6) : 0 ≤ (numV l d).1 ∧ (numV l d).1 < 2147483648 ∧ (numV l d).2 ≤ l.length := by
  unfold numV
  split
  · rename_i h
    have hl : ((l.drop 2).take d).length = d := by rw [List.length_take, List.length_drop]; omega
    have hr := hexN_range ((l.drop 2).take d) d (by omega)
    rw [List.take_of_length_le (by omega)] at hr
    have hp : (16 ^ d : Nat) ≤ 16 ^ 6 := Nat.pow_le_pow_right (by decide) hd
    have he : (16 ^ 6 : Nat) = 16777216 := by decide
    have := runeOk_range (hexN ((l.drop 2).take d)) hr.1 (by omega)
    exact ⟨this.1, this.2, h.1⟩
  · exact ⟨Int.le_refl _, by decide, Nat.zero_le _⟩
theorem escV_range (l : List UInt8) : 0 ≤ (escV l).1 ∧ (escV l).1 < 2147483648 ∧ (escV l).2 ≤ l.length := by
  unfold escV
  split
  · exact ⟨Int.le_refl _, by decide, Nat.zero_le _⟩
  · split
    · have := (l.getD 1 0).toNat_lt
      exact ⟨by dsimp only; omega, by dsimp only; omega, by dsimp only; omega⟩
    · split
      · exact numV_range l 4 (by decide)
      · split
        · exact numV_range l 6 (by decide)
        · exact ⟨Int.le_refl _, by decide, Nat.zero_le _⟩

set_option maxHeartbeats 1000000 in
theorem escaped_any (s : ByteArray) (w : World) (hs : s.size ≤ 1000000) : Calls Tryd.prog 80 #[.string s] w fun e w' => e = .returned (.tuple #[.int .i32 (escV s.data.toList).1, .int .i64 (escV s.data.toList).2]) ∧ w = w' := by
  by_cases h2 : s.size < 2
  · have hv : escV s.data.toList = (0, 0) := by unfold escV; rw [if_pos (by rw [size_data]; exact h2)]
    rw [hv]
    go_enter Tryd.func80, Tryd.ntmps80
    go_wp2
    go_ret2
    exact ⟨rfl, rfl⟩
  · have hlt : 1 < s.size := by omega
    have hg : s.data.toList.getD 1 0 = s[1] := by
      rw [List.getD_eq_getElem?_getD, List.getElem?_eq_getElem (by rw [size_data]; exact hlt), Option.getD_some]
      rfl
    have hv : escV s.data.toList = if s[1] = 34 ∨ s[1] = 92 then ((s[1].toNat : Int), 2) else if s[1] = 117 then numV s.data.toList 4 else if s[1] = 85 then numV s.data.toList 6 else (0, 0) := by
      unfold escV
      rw [if_neg (by rw [size_data]; exact h2), hg]
    rw [hv]
    clear hv hg
    have h256 := s[1].toNat_lt
    have inj : ∀ (b : UInt8), (s[1].toNat : Int) = (b.toNat : Int) → s[1] = b := fun b h => UInt8.toNat_inj.mp (by omega)
    by_cases a1 : s[1] = 34
    · have e1 : ((s[1].toNat : Int) == 34) = true := by rw [a1]; rfl
      rw [if_pos (Or.inl a1)]
      clear inj a1
      go_enter Tryd.func80, Tryd.ntmps80
      go_wp2
      go_ret2
      exact ⟨rfl, rfl⟩
    have e1 : ((s[1].toNat : Int) == 34) = false := by
      rw [beq_eq_false_iff_ne]; exact fun h => a1 (inj 34 h)
    by_cases a2 : s[1] = 92
    · have e2 : ((s[1].toNat : Int) == 92) = true := by rw [a2]; rfl
      rw [if_pos (Or.inr a2)]
      clear inj a1 a2
      go_enter Tryd.func80, Tryd.ntmps80
      go_wp2
      go_ret2
      exact ⟨rfl, rfl⟩
    have e2 : ((s[1].toNat : Int) == 92) = false := by
      rw [beq_eq_false_iff_ne]; exact fun h => a2 (inj 92 h)
    rw [if_neg (by rintro (h | h); exact a1 h; exact a2 h)]
    by_cases a3 : s[1] = 117
    · have e3 : ((s[1].toNat : Int) == 117) = true := by rw [a3]; rfl
      rw [if_pos a3]
      clear inj a1 a2 a3
      have hcall := fun W => numbered_any s 4 (by decide) W hs
      generalize numV s.data.toList 4 = r at *
      go_enter Tryd.func80, Tryd.ntmps80
      go_wp2_with fail
      go_at_call 88
      refine (hcall _).mono ?_
      rintro e w2 ⟨rfl, rfl⟩
      go_wp2
      go_ret2
      exact ⟨rfl, rfl⟩
    have e3 : ((s[1].toNat : Int) == 117) = false := by
      rw [beq_eq_false_iff_ne]; exact fun h => a3 (inj 117 h)
    rw [if_neg a3]
    by_cases a4 : s[1] = 85
    · have e4 : ((s[1].toNat : Int) == 85) = true := by rw [a4]; rfl
      rw [if_pos a4]
      clear inj a1 a2 a3 a4
      have hcall := fun W => numbered_any s 6 (by decide) W hs
      generalize numV s.data.toList 6 = r at *
      go_enter Tryd.func80, Tryd.ntmps80
      go_wp2_with fail
      go_at_call 88
      refine (hcall _).mono ?_
      rintro e w2 ⟨rfl, rfl⟩
      go_wp2
      go_ret2
      exact ⟨rfl, rfl⟩
    have e4 : ((s[1].toNat : Int) == 85) = false := by
      rw [beq_eq_false_iff_ne]; exact fun h => a4 (inj 85 h)
    rw [if_neg a4]
    clear inj a1 a2 a3 a4
    go_enter Tryd.func80, Tryd.ntmps80
    go_wp2
    go_ret2
    exact ⟨rfl, rfl⟩

/-- What Unquote reads from a place on. -/
def unqFrom (s : ByteArray) : Nat → Nat → Nat → List UInt8 → Option (List UInt8 × Nat)
  | 0, _, _, _ => none
  | f + 1, pos, next, acc =>
    if pos < s.size then
      if pos < next then unqFrom s f (pos + (Utf8.decode s pos).2) next acc
      else if (Utf8.decode s pos).1 = 34 then some (acc, pos + 1)
      else if (Utf8.decode s pos).1 = 10 then none
      else if (Utf8.decode s pos).1 = 92 then
        if (escV (s.data.toList.drop pos)).2 = 0 then none
        else unqFrom s f (pos + (Utf8.decode s pos).2) (pos + (escV (s.data.toList.drop pos)).2) (acc ++ Lib.encodeRune (escV (s.data.toList.drop pos)).1)
      else unqFrom s f (pos + (Utf8.decode s pos).2) next (acc ++ Lib.encodeRune (Utf8.decode s pos).1)
    else none
def unqAll (s : ByteArray) : Option (List UInt8 × Nat) := if Lib.hasPrefix s.data.toList [34] = true then unqFrom s s.size 0 1 [] else none
def unqVal : Option (List UInt8 × Nat) → Value
  | some (a, n) => .tuple #[.string ⟨a.toArray⟩, .int .i64 n, .bool true]
  | none => .tuple #[.string ⟨#[]⟩, .int .i64 0, .bool false]
end Go.Proofs.YtlijmflikcjikaaDoor

namespace Go.Proofs.YtlijmflikcjikaaDoor
open Go.RowKit
set_option linter.unusedVariables false
set_option linter.unusedSimpArgs false

theorem unqFrom_end (s : ByteArray) (f pos next : Nat) (acc : List UInt8) (h : ¬ pos < s.size) : unqFrom s f pos next acc = none := by
  cases f with
  | zero => rfl
  | succ f => rw [unqFrom, if_neg h]

set_option maxHeartbeats 8000000 in
set_option maxRecDepth 1000000 in
theorem unquote_any (s : ByteArray) (w : World) (hs : s.size ≤ 1000000) :
    Calls Tryd.prog 61 #[.string s] w fun e w' => e = .returned (unqVal (unqAll s)) ∧ Below w.heap.size w w' := by
  obtain ⟨r, hr⟩ : ∃ r, r = unqAll s := ⟨_, rfl⟩
  rw [← hr]
  unfold unqAll at hr
  have hpre := fun W => Tryd.strings_HasPrefix s ⟨#[34]⟩ W
  have e34 : (⟨#[34]⟩ : ByteArray).data.toList = [34] := rfl
  rw [e34] at hpre
  clear e34
  cases hp : Lib.hasPrefix s.data.toList [34]
  · rw [hp] at hpre hr
    rw [if_neg (by decide)] at hr
    subst hr
    go_enter Tryd.func61, Tryd.ntmps61
    go_wp2_with fail
    go_at_call 20
    refine (hpre _).mono ?_
    rintro e w2 ⟨rfl, hw⟩
    rw [hw]
    clear hw
    go_wp2
    go_ret3
    exact ⟨rfl, Below.refl _ _⟩
  rw [hp] at hpre hr
  rw [if_pos rfl] at hr
  have Hr := Lib.hid hr
  clear hr hp
  go_enter Tryd.func61, Tryd.ntmps61
  go_wp2_with fail
  go_at_call 20
  refine (hpre _).mono ?_
  rintro e w2 ⟨rfl, hw⟩
  rw [hw]
  clear hw hpre
  go_wp2
  go_loopw [6] (fun nx wr => ∃ (pos fuel next : Nat) (acc : List UInt8), nx = .int .i64 next ∧ Lib.IsBuilderF 78 5 w.heap.size w.heap.size (Lib.byteCells acc) wr ∧ wr.heap[w.heap.size + 1]? = some (.stringIter s pos) ∧ Below w.heap.size w wr ∧ Hid (unqFrom s fuel pos next acc = r) ∧ Hid (s.size ≤ pos + fuel) ∧ Hid (acc.length ≤ 4 * pos) ∧ Hid (next ≤ s.size + 1)) (fun _ wr => s.size - wr.iterPos (w.heap.size + 1))
  case atStart =>
    refine ⟨0, s.size, 1, [], rfl, (Lib.IsBuilderF.of (Lib.fresh_isBuilder 78 5 w)).alloc _, ?_, ((Below.refl _ w).alloc (Nat.le_refl _) _).alloc (by simp) _, Hr.out.symm, by show s.size ≤ 0 + s.size; omega, by show 0 ≤ _; omega, by show 1 ≤ _; omega⟩
    have := World.iter_heap (w.alloc (.cells #[.pointer none, .slice none 0 0] 78)) s 0
    simpa using this
  case round =>
    obtain ⟨pos, fuel, next, acc, rfl, hI, hit, hbw, Hacc, Hfu, Hal, Hnx⟩ := hrel
    have hsz : w.heap.size + 1 < wr.heap.size := (Array.getElem?_eq_some_iff.1 hit).1
    clear Hr
    by_cases hp : pos < s.size
    · have hnx : ∀ ty, (Instr.next (.pointer (some ⟨w.heap.size + 1, 0, none⟩)) true ty).run Tryd.prog wr = _ := fun ty => Lib.run_next_any_at wr (w.heap.size + 1) s pos ty hit hp
      have hwd := width_pos s pos hp
      have hd1 := decode_le s pos
      have hI2 := hI.iterAt hit (pos + (Utf8.decode s pos).2)
      have hit2 := Lib.iterAt_heap wr (w.heap.size + 1) s pos (pos + (Utf8.decode s pos).2) hit
      have hbw2 := Lib.below_iterAt hbw (k := w.heap.size + 1) (by omega) s (pos + (Utf8.decode s pos).2)
      have hsz2 : w.heap.size ≤ (wr.iterAt (w.heap.size + 1) s (pos + (Utf8.decode s pos).2)).heap.size := by rw [Lib.iterAt_size]; omega
      obtain ⟨f, rfl⟩ : ∃ f, fuel = f + 1 := ⟨fuel - 1, by have := Hfu.out; omega⟩
      have hstep := Hacc.out
      rw [unqFrom, if_pos hp] at hstep
      have Hit := Lib.hid hit
      have Hnn := Hnx.out
      clear Hacc hit hI
      by_cases hlt : pos < next
      · rw [if_pos hlt] at hstep
        have Hstep := Lib.hid hstep
        clear hstep
        have hlt' : (pos : Int) < next := by omega
        go_wp2
        go_roundw
        case rel => exact ⟨pos + (Utf8.decode s pos).2, f, next, acc, rfl, hI2, hit2, hbw2, Hstep.out, by have := Hfu.out; show s.size ≤ _; omega, by have := Hal.out; show _ ≤ _; omega, Hnx⟩
        case measure =>
          simp only [World.iterPos, hit2, Hit.out]
          omega
      rw [if_neg hlt] at hstep
      have hlt' : ¬ (pos : Int) < next := by omega
      by_cases h34 : (Utf8.decode s pos).1 = 34
      · rw [if_pos h34] at hstep
        subst hstep
        go_wp2_with fail
        go_at_call 37
        refine (Tryd.Builder_String_any_k w.heap.size w.heap.size acc _ hI2 hsz2).mono ?_
        rintro e W1 ⟨rfl, _, b1, _⟩
        go_wp2
        go_ret3
        exact ⟨rfl, hbw2.trans b1⟩
      rw [if_neg h34] at hstep
      by_cases h10 : (Utf8.decode s pos).1 = 10
      · rw [if_pos h10] at hstep
        subst hstep
        go_wp2
        go_ret3
        exact ⟨rfl, hbw2⟩
      rw [if_neg h10] at hstep
      by_cases h92 : (Utf8.decode s pos).1 = 92
      · rw [if_pos h92] at hstep
        have hes := escV_range (s.data.toList.drop pos)
        have hcall := fun W => escaped_any (s.extract pos s.size) W (by simp; omega)
        have hed := extract_drop s pos
        rw [hed] at hcall
        clear hed
        rw [List.length_drop, size_data] at hes
        generalize escV (s.data.toList.drop pos) = ev at *
        obtain ⟨sg, wd⟩ := ev
        dsimp only at hes hcall hstep
        obtain ⟨q0, q1, q2⟩ := hes
        by_cases hw0 : wd = 0
        · subst hw0
          rw [if_pos rfl] at hstep
          subst hstep
          go_wp2_with fail
          go_at_call 80
          refine (hcall _).mono ?_
          rintro e W1 ⟨rfl, rfl⟩
          go_wp2
          go_ret3
          exact ⟨rfl, hbw2⟩
        · rw [if_neg hw0] at hstep
          have Hstep := Lib.hid hstep
          clear hstep
          have hwb : ((wd : Int) == 0) = false := by rw [beq_eq_false_iff_ne]; omega
          clear hw0
          go_wp2_with fail
          go_at_call 80
          refine (hcall _).mono ?_
          rintro e W1 ⟨rfl, rfl⟩
          go_wp2_with fail
          go_at_call 81
          refine (bld_WriteRune w.heap.size w.heap.size _ _ (by omega) (by omega) _ hI2 (by rw [Lib.byteCells_length]; have := Hal.out; omega) hsz2).mono ?_
          rintro e W2 ⟨rfl, h1, b1, k1⟩
          go_wp2
          go_roundw
          case rel =>
            have hl4 := (Lib.runeCells_le sg).2
            rw [Lib.runeCells_length] at hl4
            refine ⟨pos + (Utf8.decode s pos).2, f, pos + wd, acc ++ Lib.encodeRune sg, by go_num, ?_, k1.iter hit2 (by omega), hbw2.trans b1, Hstep.out, by have := Hfu.out; show s.size ≤ _; omega, by have := Hal.out; show _ ≤ _; simp; omega, by show _ ≤ _; omega⟩
            rw [Lib.byteCells_append, Lib.byteCells_encodeRune]; exact Or.inr h1
          case measure =>
            simp only [World.iterPos, k1.iter hit2 (by omega), Hit.out]
            omega
      · rw [if_neg h92] at hstep
        have Hstep := Lib.hid hstep
        clear hstep
        go_wp2_with fail
        go_at_call 81
        refine (bld_WriteRune w.heap.size w.heap.size _ _ (by omega) (by omega) _ hI2 (by rw [Lib.byteCells_length]; have := Hal.out; omega) hsz2).mono ?_
        rintro e W2 ⟨rfl, h1, b1, k1⟩
        go_wp2
        go_roundw
        case rel =>
          have hl4 := (Lib.runeCells_le ((Utf8.decode s pos).1 : Int)).2
          rw [Lib.runeCells_length] at hl4
          refine ⟨pos + (Utf8.decode s pos).2, f, next, acc ++ Lib.encodeRune (Utf8.decode s pos).1, rfl, ?_, k1.iter hit2 (by omega), hbw2.trans b1, Hstep.out, by have := Hfu.out; show s.size ≤ _; omega, by have := Hal.out; show _ ≤ _; simp; omega, Hnx⟩
          rw [Lib.byteCells_append, Lib.byteCells_encodeRune]; exact Or.inr h1
        case measure =>
          simp only [World.iterPos, k1.iter hit2 (by omega), Hit.out]
          omega
    · have hnx : ∀ ty, (Instr.next (.pointer (some ⟨w.heap.size + 1, 0, none⟩)) true ty).run Tryd.prog wr = _ := fun ty => Lib.run_next_end_at wr (w.heap.size + 1) s pos ty hit hp
      have hstep := Hacc.out
      rw [unqFrom_end s fuel pos next acc hp] at hstep
      subst hstep
      go_wp2
      go_ret3
      exact ⟨rfl, hbw⟩
end Go.Proofs.YtlijmflikcjikaaDoor

/-
  Contracts of package scan: Number, Big, IsName.
-/
namespace Go.Proofs.YtlijmflikcjikaaDoor
open Go.RowKit

set_option maxHeartbeats 1000000 in
theorem number_any (s : ByteArray) (i : Int) (w : World) (hs : s.size ≤ 9223372036854775807) :
    Calls Tryd.prog 51 #[.string s, .int .i64 i] w fun e w' => e = .returned (.int .i64 (numI s.data.toList i)) ∧ Below w.heap.size w w' := by
  have hmf : ∀ (fn : Fn) (first cap : Array Value) (w : World), (Instr.makeFunc fn first cap).run Tryd.prog w = .ok (.func fn first cap) w := fun _ _ _ _ => rfl
  obtain ⟨a, ha⟩ : ∃ a, sgnI s.data.toList 45 i = a := ⟨_, rfl⟩
  obtain ⟨e1, he1⟩ : ∃ a1, behI dgB s.data.toList a = a1 := ⟨_, rfl⟩
  obtain ⟨b, hb⟩ : ∃ b, sgnI s.data.toList 46 e1 = b := ⟨_, rfl⟩
  obtain ⟨e2, he2⟩ : ∃ a2, behI dgB s.data.toList b = a2 := ⟨_, rfl⟩
  have hn : numI s.data.toList i = if a < e1 then if b < e2 then e2 else e1 else i := by
    unfold numI
    rw [ha, he1, hb, he2]
  have H1 : ∀ W p, W.cell? ⟨p, 0, none⟩ = some (.string s) → Calls Tryd.prog 69 #[.int .u8 45, .int .i64 i, .pointer (some ⟨p, 0, none⟩)] W fun e w' => e = .returned (.tuple #[.int .i64 e1, .bool (decide (a < e1))]) ∧ W = w' := by
    intro W p hc
    have h := num1_any s 45 i p W hs hc
    rw [ha, he1] at h
    exact h
  have H2 : ∀ W p, W.cell? ⟨p, 0, none⟩ = some (.string s) → Calls Tryd.prog 69 #[.int .u8 46, .int .i64 e1, .pointer (some ⟨p, 0, none⟩)] W fun e w' => e = .returned (.tuple #[.int .i64 e2, .bool (decide (b < e2))]) ∧ W = w' := by
    intro W p hc
    have h := num1_any s 46 e1 p W hs hc
    rw [hb, he2] at h
    exact h
  have HN := Lib.hid hn
  have K1 := Lib.hid H1
  have K2 := Lib.hid H2
  clear hn ha he1 hb he2 H1 H2
  by_cases h1 : a < e1
  · by_cases h2 : b < e2
    · have E := Lib.hid (show numI s.data.toList i = e2 by rw [HN.out, if_pos h1, if_pos h2])
      have d1 : decide (a < e1) = true := by simpa using h1
      have d2 : decide (b < e2) = true := by simpa using h2
      go_enter Tryd.func51, Tryd.ntmps51
      go_wp2_with fail
      go_at_call 69
      refine (K1.out _ _ (by simp)).mono ?_
      rintro e w' ⟨rfl, rfl⟩
      go_wp2_with fail
      go_at_call 69
      refine (K2.out _ _ (by simp)).mono ?_
      rintro e w' ⟨rfl, rfl⟩
      go_wp2_with fail
      go_ret
      exact ⟨ret_int E.out.symm, (Below.refl _ _).alloc (Nat.le_refl _) _⟩
    · have E := Lib.hid (show numI s.data.toList i = e1 by rw [HN.out, if_pos h1, if_neg h2])
      have d1 : decide (a < e1) = true := by simpa using h1
      have d2 : decide (b < e2) = false := by simpa using h2
      go_enter Tryd.func51, Tryd.ntmps51
      go_wp2_with fail
      go_at_call 69
      refine (K1.out _ _ (by simp)).mono ?_
      rintro e w' ⟨rfl, rfl⟩
      go_wp2_with fail
      go_at_call 69
      refine (K2.out _ _ (by simp)).mono ?_
      rintro e w' ⟨rfl, rfl⟩
      go_wp2_with fail
      go_ret
      exact ⟨ret_int E.out.symm, (Below.refl _ _).alloc (Nat.le_refl _) _⟩
  · have E := Lib.hid (show numI s.data.toList i = i by rw [HN.out, if_neg h1])
    have d1 : decide (a < e1) = false := by simpa using h1
    go_enter Tryd.func51, Tryd.ntmps51
    go_wp2_with fail
    go_at_call 69
    refine (K1.out _ _ (by simp)).mono ?_
    rintro e w' ⟨rfl, rfl⟩
    go_wp2_with fail
    go_ret
    exact ⟨ret_int E.out.symm, (Below.refl _ _).alloc (Nat.le_refl _) _⟩

def bigV (s : ByteArray) : Bool := !s.data.toList.isEmpty && (behI biB s.data.toList 0 == (s.size : Int))
theorem big_any (s : ByteArray) (w : World) (hs : s.size ≤ 9223372036854775807) :
    Calls Tryd.prog 48 #[.string s] w fun e w' => e = .returned (.bool (bigV s)) ∧ w = w' := by
  have hv : bigV s = (!s.toList.isEmpty && (behI biB s.data.toList 0 == (s.size : Int))) := by unfold bigV; rw [Lib.toList_data]
  have HV := Lib.hid hv
  clear hv
  go_enter Tryd.func48, Tryd.ntmps48
  go_wp2_with (go_at_call 21; refine (behind_bi _ _ _ hs).mono ?_; rintro e w' ⟨rfl, rfl⟩)
  all_goals
    go_ret
    exact ⟨ret_bool (by rw [HV.out] <;> simp [*]), rfl⟩
def isNameV (s : ByteArray) : Bool := !s.data.toList.isEmpty && (nameI s.data.toList 0 == (s.size : Int))
end Go.Proofs.YtlijmflikcjikaaDoor

/-
  Package expr: what is read, as a function of the text and the place.
-/
namespace Go.Proofs.YtlijmflikcjikaaDoor
open Go.RowKit
set_option linter.unusedVariables false

def mkB (l : List UInt8) : ByteArray := ⟨l.toArray⟩
def isAt (s : ByteArray) (i : Nat) (c : UInt8) : Bool := decide (i < s.size) && (at0 s.data.toList i == c)
theorem isAt_lt {s : ByteArray} {i : Nat} {c : UInt8} (h : isAt s i c = true) : i < s.size := by
  unfold isAt at h
  rw [Bool.and_eq_true, decide_eq_true_iff] at h
  exact h.1
def bl (s : ByteArray) (i : Nat) : Nat := behN blB s.data.toList i
def sp (s : ByteArray) (i : Nat) : Nat := behN spB s.data.toList i
def nm (s : ByteArray) (i : Nat) : Nat := if i < s.size ∧ leB (at0 s.data.toList i) = true then behN naB s.data.toList i else i
def nu (s : ByteArray) (i : Nat) : Nat := numN s.data.toList i
theorem bl_ge (s : ByteArray) (i : Nat) : i ≤ bl s i := behN_ge _ _ _
theorem sp_ge (s : ByteArray) (i : Nat) : i ≤ sp s i := behN_ge _ _ _
def E0 : ByteArray := ⟨#[]⟩
abbrev Res := Option (EX × Nat)
def quoS (s : ByteArray) (i : Nat) : Res := match unqAll (s.extract i s.size) with
  | some (t, n) => some (.mk 0 (mkB t) E0 E0 [] none [], i + n)
  | none => none
def varS (s : ByteArray) (i : Nat) : Res := if isAt s i 36 && decide (i + 1 < nm s (i + 1)) then some (.mk 2 E0 (s.extract (i + 1) (nm s (i + 1))) E0 [] none [], nm s (i + 1)) else none
def nestS (P : Nat → Res) (i : Nat) : Res := match P i with
  | some (e, j) => some (.mk 6 E0 E0 E0 [] (some e) [], j)
  | none => none
def refS (k : Int) (s : ByteArray) (i : Nat) : Res :=
  if nm s i = i then none
  else if isAt s (nm s i) 46 then
    (if nm s (nm s i + 1) = nm s i + 1 then none else some (.mk k E0 (s.extract i (nm s i)) (s.extract (nm s i + 1) (nm s (nm s i + 1))) [] none [], nm s (nm s i + 1)))
  else some (.mk k E0 (s.extract i (nm s i)) E0 [] none [], nm s i)
def terS (s : ByteArray) (i : Nat) : Res := if isAt s i 45 then refS 4 s (i + 1) else none
def nubS (s : ByteArray) (i : Nat) : Res := if nu s i = i then none else some (.mk 1 (s.extract i (nu s i)) E0 E0 [] none [], nu s i)
def headS (P : Nat → Res) (s : ByteArray) (i : Nat) : Res := (quoS s i).or ((varS s i).or ((nestS P i).or ((terS s i).or ((refS 3 s i).or (nubS s i)))))
def isFuncS : EX → Bool | .mk k _ n a _ _ _ => (k == 3) && emp a && bigV n
def isTermS : EX → Bool | .mk k _ _ _ _ _ _ => k == 4
def termAttr : EX → Bool | .mk k _ _ a _ _ _ => (k == 4) && !emp a
def opnE : EX → EX | .mk k t n a al i v => .mk (if k = 3 then 5 else k) t n a al i v
def withArgs : EX → List AR → EX | .mk k t n a _ i v, xs => .mk k t n a xs i v
def opnS (s : ByteArray) (e : EX) (i : Nat) : Bool × Nat :=
  if isFuncS e || isTermS e then (if isAt s (bl s i) 40 then (true, bl s i + 1) else (false, bl s i)) else (false, i)
def namS (s : ByteArray) (i : Nat) : Option (ByteArray × EX × Nat) :=
  if nm s i = i then none
  else if isAt s (bl s (nm s i)) 58 then
    (match (quoS s (bl s (bl s (nm s i) + 1))).or (nubS s (bl s (bl s (nm s i) + 1))) with
     | some (e, q) => some (s.extract i (nm s i), e, q)
     | none => none)
  else none
def argS (P : Nat → Res) (s : ByteArray) (i : Nat) : Option (ByteArray × EX × Nat) := match namS s i with
  | some x => some x
  | none => match headS P s i with
    | some (e, j) => some (E0, e, j)
    | none => none
def addOk (xs : List AR) (n : ByteArray) (e : EX) : Bool := if emp n then xs.all (fun x => emp (arName x)) && !termAttr e else !(xs.any fun x => decide (arName x = n))
/-- Arguments, behind so many of them; with a comma wanted, or not. -/
def argsS (P : Nat → Res) (s : ByteArray) (xs : List AR) (want : Bool) (i : Nat) : Option (List AR × Nat) :=
  if isAt s (bl s i) 41 then some (xs, bl s i + 1)
  else if want then
    if h : isAt s (bl s i) 44 = true then argsS P s xs false (bl s i + 1) else none
  else match argS P s (bl s i) with
    | none => none
    | some (n, e, j) =>
      if emp n && (opnS s e j).1 then
        if h : i < (opnS s e j).2 ∧ (opnS s e j).2 ≤ s.size then
          match argsS P s [] false (opnS s e j).2 with
          | none => none
          | some (xs', m) =>
            if h2 : i < m ∧ m ≤ s.size then
              if addOk xs E0 (withArgs (opnE e) xs') then argsS P s (xs ++ [.mk E0 (withArgs (opnE e) xs')]) true m else none
            else none
        else none
      else if h : i < (if emp n then (opnS s e j).2 else j) ∧ (if emp n then (opnS s e j).2 else j) ≤ s.size then
        if addOk xs n e then argsS P s (xs ++ [.mk n e]) true (if emp n then (opnS s e j).2 else j) else none
      else none
termination_by s.size - i
decreasing_by
  · have := bl_ge s i; have := isAt_lt h; omega
  · omega
  · omega
  · omega
def inlS (P : Nat → Res) (s : ByteArray) (i : Nat) : Res := match headS P s i with
  | none => none
  | some (e, j) =>
    if (opnS s e j).1 then
      match argsS P s [] false (opnS s e j).2 with
      | none => none
      | some (xs, m) => some (withArgs (opnE e) xs, m)
    else some (e, (opnS s e j).2)
def txB (c : UInt8) : Bool := !(c == 10 || c == 123 || c == 125)
def tx (s : ByteArray) (i : Nat) : Nat := behN txB s.data.toList i
def addT (s : ByteArray) (acc : List EL) (i j : Nat) : List EL := if i < j then acc ++ [.mk (s.extract i j) none] else acc
/-- A line's texts and places, behind so many of them. -/
def partsS (P : Nat → Res) (s : ByteArray) (acc : List EL) (i : Nat) : Option (List EL × Nat) :=
  if isAt s (tx s i) 123 then
    match P (tx s i) with
    | none => none
    | some (e, j) => if h : i < j ∧ j ≤ s.size then partsS P s (addT s acc i (tx s i) ++ [.mk E0 (some e)]) j else none
  else some (addT s acc i (tx s i), tx s i)
termination_by s.size - i
decreasing_by omega
/-- Line feeds, and lines of spaces alone: how many, where the last line begins, and its first sign behind spaces. -/
def nlS (s : ByteArray) (f fr i : Nat) : Nat × Nat × Nat := if h : isAt s i 10 = true then nlS s (f + 1) (i + 1) (sp s (i + 1)) else (f, fr, i)
termination_by s.size - i
decreasing_by have := sp_ge s (i + 1); have := isAt_lt h; omega
def stopB (c : UInt8) : Bool := c == 46 || c == 42 || c == 91 || c == 125
def nextS (s : ByteArray) (i : Nat) : Option (Nat × Nat × Nat) :=
  if (nlS s 0 i i).2.2 = (nlS s 0 i i).2.1 ∨ (nlS s 0 i i).2.2 = s.size ∨ stopB (at0 s.data.toList (nlS s 0 i i).2.2) = true then none
  else some ((nlS s 0 i i).1, (nlS s 0 i i).2.2 - (nlS s 0 i i).2.1, (nlS s 0 i i).2.2)
/-- A line: line feeds and spaces ahead of it, what stands in it. -/
structure LN where
  feeds : Nat
  spaces : Nat
  parts : List EL
def linesS (P : Nat → Res) (s : ByteArray) (acc : List LN) (f p : Nat) (i : Nat) : Option (List LN × Nat) :=
  match partsS P s [] i with
  | none => none
  | some (ps, j) => match nextS s j with
    | none => some (acc ++ [⟨f, p, ps⟩], j)
    | some (f', p', k) => if h : i < k ∧ k ≤ s.size then linesS P s (acc ++ [⟨f, p, ps⟩]) f' p' k else none
termination_by s.size - i
decreasing_by omega
def leastS : List LN → Nat
  | [] => 0
  | x :: r => r.foldl (fun m y => if y.spaces < m then y.spaces else m) x.spaces
/-- The elements so far, and the text that is being put together. -/
abbrev JS := List EL × List UInt8
def endS (b : JS) : List EL := if b.2 = [] then b.1 else b.1 ++ [.mk (mkB b.2) none]
def partJ (b : JS) : EL → JS
  | .mk t none => (b.1, b.2 ++ t.data.toList)
  | .mk t (some e) => (endS b ++ [.mk t (some e)], [])
def headJ (least : Nat) (b : JS) (x : LN) : JS := if b.1 = [] ∧ b.2 = [] then b else (b.1, b.2 ++ List.replicate x.feeds 10 ++ List.replicate (x.spaces - least) 32)
def lineJ (least : Nat) (b : JS) (x : LN) : JS := x.parts.foldl partJ (headJ least b x)
def trimR (l : List UInt8) : List UInt8 := (l.reverse.dropWhile (· == 32)).reverse
def joinS (ls : List LN) : List EL :=
  endS (let b := ls.foldl (lineJ (leastS ls.tail)) ([], []); (b.1, trimR b.2))
def patS (P : Nat → Res) (s : ByteArray) (i : Nat) : Option (List EL × Nat) := match linesS P s [] 0 0 (sp s i) with
  | none => none
  | some (ls, j) => some (joinS ls, j)
def keyE (s : ByteArray) (a : Nat) : Nat := if nm s a = a then nu s a else nm s a
def variS (P : Nat → Res) (s : ByteArray) (i : Nat) : Option (VA × Nat) :=
  if isAt s (if isAt s i 42 then i + 1 else i) 91 then
    if keyE s (bl s ((if isAt s i 42 then i + 1 else i) + 1)) = bl s ((if isAt s i 42 then i + 1 else i) + 1) then none
    else if isAt s (bl s (keyE s (bl s ((if isAt s i 42 then i + 1 else i) + 1)))) 93 then
      match patS P s (bl s (keyE s (bl s ((if isAt s i 42 then i + 1 else i) + 1))) + 1) with
      | none => none
      | some (l, j) => if isAt s j 10 && !l.isEmpty then some (.mk (s.extract (bl s ((if isAt s i 42 then i + 1 else i) + 1)) (keyE s (bl s ((if isAt s i 42 then i + 1 else i) + 1)))) (isAt s i 42) l, j) else none
    else none
  else none
def varsS (P : Nat → Res) (s : ByteArray) (acc : List VA) (i : Nat) : Option (List VA × Nat) :=
  if isAt s i 125 then (if acc.countP vaDflt = 1 then some (acc, i + 1) else none)
  else match variS P s i with
    | none => none
    | some (v, j) => if h : i < bl s j ∧ bl s j ≤ s.size then varsS P s (acc ++ [v]) (bl s j) else none
termination_by s.size - i
decreasing_by omega
def selS (P : Nat → Res) (s : ByteArray) (i : Nat) : Option (List VA × Nat) := if isAt s (sp s i) 10 then varsS P s [] (bl s (sp s i + 1)) else none
def mayAsk : EX → Bool | .mk k t n a al i v => decide (k = 0 ∨ k = 1 ∨ k = 2 ∨ k = 5) || termAttr (.mk k t n a al i v)
/-- A place, with so many braces yet to go. -/
def placeS (s : ByteArray) : Nat → Nat → Res
  | 0, _ => none
  | r + 1, i =>
    if isAt s i 123 then
      match inlS (placeS s r) s (bl s (i + 1)) with
      | none => none
      | some (e, j) =>
        if isAt s (bl s j) 125 then (if termAttr e then none else some (e, bl s j + 1))
        else if isAt s (bl s j) 45 && isAt s (bl s j + 1) 62 && mayAsk e then
          match selS (placeS s r) s (bl s j + 2) with
          | none => none
          | some (vs, m) => some (.mk 7 E0 E0 E0 [] (some e) vs, m)
        else none
    else none
/-- What is told of a place: if anything, it ends behind it, within the text. -/
def PosOk (s : ByteArray) (P : Nat → Res) : Prop := ∀ i e j, P i = some (e, j) → i < j ∧ j ≤ s.size
end Go.Proofs.YtlijmflikcjikaaDoor

/-
  Package expr: the reader's pass and take.
-/
namespace Go.Proofs.YtlijmflikcjikaaDoor
open Go.RowKit
set_option linter.unusedVariables false
set_option linter.unusedSimpArgs false

/-- A call of it enters it. -/
def Enters (N : FuncId) : Prop := ∀ (args : Array Value) (w : World), (callFunc N args).run Tryd.prog w = .ok (.enter N args) w
/-- It tells a place's end. -/
def EndFn (N : FuncId) (f : ByteArray → Nat → Nat) (s : ByteArray) : Prop := Enters N ∧ ∀ (i : Nat) (w : World), s.size ≤ 4000000 → i ≤ s.size → i ≤ f s i ∧ f s i ≤ s.size ∧ Calls Tryd.prog N #[.string s, .int .i64 (i : Nat)] w fun e w' => e = .returned (.int .i64 (f s i : Nat)) ∧ Below w.heap.size w w'
set_option maxHeartbeats 2000000 in
set_option maxRecDepth 100000 in
theorem pass_any {N : FuncId} {f : ByteArray → Nat → Nat} {rb : Nat} {s : ByteArray} {i : Nat} (hN : EndFn N f s) (w : World) (hr : Rd rb s i w) (hs : s.size ≤ 4000000) (hi : i ≤ s.size) :
    Calls Tryd.prog 10 #[pt rb, .func (.func N) #[] #[]] w fun e w' => e = .returned (.string (s.extract i (f s i))) ∧ Rd rb s (f s i) w' ∧ Kp rb w w' := by
  obtain ⟨hE, hC⟩ := hN
  obtain ⟨h1, h2, _⟩ := hC i w hs hi
  have hC2 := fun W => (hC i W hs hi).2.2
  have HC := Lib.hid hC2
  have c0 := hr.c0
  have c1 := hr.c1
  have f0 := hr.f 0
  have f1 := hr.f 1
  have hlt := hr.lt
  have HR := Lib.hid hr
  obtain ⟨j, hj⟩ : ∃ j, f s i = j := ⟨_, rfl⟩
  rw [hj] at h1 h2 HC ⊢
  have hi0 : (i : Int) ≤ 4000000 := by omega
  have hj0 : (j : Int) ≤ 4000000 := by omega
  have hij : (i : Int) ≤ (j : Int) := by omega
  have hjs : (j : Int) ≤ (s.size : Int) := by omega
  have hss : (s.size : Int) ≤ 4000000 := by omega
  clear hC hC2 hj hr
  unfold Enters at hE
  unfold pt
  go_enter Tryd.func10, Tryd.ntmps10
  go_wp2_with fail
  refine (HC.out _).mono ?_
  rintro e w1 ⟨rfl, hb⟩
  have hR1 := HR.out.later hb
  have d0 := hR1.c0
  have d1 := hR1.c1
  have g0 := hR1.f 0
  have g1 := hR1.f 1
  have hl1 := hR1.lt
  have HR1 := Lib.hid hR1
  have HK := Lib.hid (Kp.of_below hb (Nat.le_of_lt hlt))
  clear hR1 hb
  go_wp2
  go_region
  go_wp2
  go_ret
  exact ⟨rfl, HR1.out.set j, (HK.out.setCell 1 _).drew⟩
end Go.Proofs.YtlijmflikcjikaaDoor

/-
  Package expr: take; what a way of reading gives; number, variable, reference, term, message, quoted.
-/
namespace Go.Proofs.YtlijmflikcjikaaDoor
open Go.RowKit
set_option linter.unusedVariables false
set_option linter.unusedSimpArgs false

/-- What a way of reading gives: an expression, or none; then whatever expression. -/
def Got (rb : Nat) (s : ByteArray) (w : World) (r : Res) (e : Ending) (w' : World) : Prop :=
  Kp rb w w' ∧ ∃ (k : Int) (t n a : ByteArray) (A1 : Option Addr) (n1 c1 : Nat) (p : Option Addr) (A2 : Option Addr) (n2 c2 : Nat) (j : Nat),
    e = .returned (.tuple #[exV k t n a A1 n1 c1 p A2 n2 c2, .bool r.isSome]) ∧ Rd rb s j w' ∧ j ≤ s.size ∧
    ∀ x m, r = some (x, m) → m = j ∧ ExF w' (Since w.heap.size w') x ⟨.int .i64 k, .string t, .string n, .string a, .slice A1 n1 c1, .pointer p, .slice A2 n2 c2⟩
/-- An expression with nothing within. -/
theorem exF_flat (W : World) (F : Nat → Prop) (k : Int) (t n a : ByteArray) : ExF W F (.mk k t n a [] none []) ⟨.int .i64 k, .string t, .string n, .string a, .slice none 0 0, .pointer none, .slice none 0 0⟩ := by
  rw [ExF]
  exact ⟨rfl, rfl, rfl, rfl, LieN.nil _, by simp only [OF], ⟨none, 0, rfl, Nat.le_refl _, Nat.zero_le _, fun h => absurd h (by simp)⟩⟩
theorem isAt_prefix (s : ByteArray) (i : Nat) (c : UInt8) (hi : i ≤ s.size) : Lib.hasPrefix (s.extract i s.size).data.toList [c] = isAt s i c := by
  rw [extract_drop]
  unfold isAt
  by_cases h : i < s.size
  · have hl : i < s.data.toList.length := by rw [size_data]; exact h
    rw [List.drop_eq_getElem_cons hl, decide_eq_true h, Bool.true_and, at0_get _ _ hl]
    unfold Lib.hasPrefix
    rw [List.isPrefixOf, List.isPrefixOf, Bool.and_true, Bool.eq_iff_iff, beq_iff_eq, beq_iff_eq]
    exact eq_comm
  · rw [List.drop_eq_nil_of_le (by rw [size_data]; omega), decide_eq_false h]
    rfl
theorem rds_of {rb : Nat} {s : ByteArray} {i : Nat} {w W : World} (hr : Rd rb s i W) (hk : Kp rb w W) : W.cell? ⟨rb, 0, none⟩ = some (.string s) ∧ W.cell? ⟨rb, 1, none⟩ = some (.int .i64 (i : Nat)) ∧ rb + 1 ≤ W.heap.size ∧ Rd rb s i W ∧ Kp rb w W := ⟨hr.c0, hr.c1, hr.lt, hr, hk⟩
theorem Rd.drew {rb : Nat} {s : ByteArray} {i : Nat} {w : World} (h : Rd rb s i w) : Rd rb s i w.drew := h
theorem rds_later {rb : Nat} {s : ByteArray} {i : Nat} {w W W' : World} (h : W.cell? ⟨rb, 0, none⟩ = some (.string s) ∧ W.cell? ⟨rb, 1, none⟩ = some (.int .i64 (i : Nat)) ∧ rb + 1 ≤ W.heap.size ∧ Rd rb s i W ∧ Kp rb w W) (hb : Below W.heap.size W W') :
    W'.cell? ⟨rb, 0, none⟩ = some (.string s) ∧ W'.cell? ⟨rb, 1, none⟩ = some (.int .i64 (i : Nat)) ∧ rb + 1 ≤ W'.heap.size ∧ Rd rb s i W' ∧ Kp rb w W' :=
  rds_of (h.2.2.2.1.later hb) (h.2.2.2.2.trans (Kp.of_below hb (by have := h.2.2.1; omega)))
set_option maxHeartbeats 2000000 in
set_option maxRecDepth 100000 in
theorem take_any {rb : Nat} {s : ByteArray} {i : Nat} (c : UInt8) (w : World) (hr : Rd rb s i w) (hs : s.size ≤ 4000000) (hi : i ≤ s.size) :
    Calls Tryd.prog 9 #[pt rb, .string ⟨#[c]⟩] w fun e w' => e = .returned (.bool (isAt s i c)) ∧ Rd rb s (if isAt s i c then i + 1 else i) w' ∧ Kp rb w w' := by
  have hx := isAt_prefix s i c hi
  have hp := fun W => Tryd.strings_HasPrefix (s.extract i s.size) ⟨#[c]⟩ W
  rw [hx] at hp
  obtain ⟨b, hb⟩ : ∃ b, isAt s i c = b := ⟨_, rfl⟩
  have Hb := Lib.hid hb
  rw [hb] at hp ⊢
  have HP := Lib.hid hp
  have c0 := hr.c0
  have c1 := hr.c1
  have f0 := hr.f 0
  have f1 := hr.f 1
  have hlt := hr.lt
  have HR := Lib.hid hr
  have hi0 : (i : Int) ≤ 4000000 := by omega
  have hjs : (i : Int) ≤ (s.size : Int) := by omega
  have hss : (s.size : Int) ≤ 4000000 := by omega
  have hi1 : (0 : Int) ≤ (i : Int) := by omega
  clear hx hp hb hr
  unfold pt
  go_enter Tryd.func9, Tryd.ntmps9
  go_wp2_with fail
  go_region_held3 (fun w' => w'.cell? ⟨rb, 0, none⟩ = some (.string s) ∧ w'.cell? ⟨rb, 1, none⟩ = some (.int .i64 (i : Nat)) ∧ rb + 1 ≤ w'.heap.size ∧ Rd rb s i w' ∧ Kp rb w w')
    (first | (exact rds_later (by assumption) (by assumption)) | (exact rds_of HR.out.drew (Kp.refl _ _).drew) | go_keep)
    (first | (go_at_call 20; refine (HP.out _).mono ?_; rintro e w' ⟨rfl, rfl⟩))
  have d1 : w.drew.cell? ⟨rb, 1, none⟩ = some (.int .i64 (i : Nat)) := c1
  have g1 : w.drew.frozen? ⟨rb, 1, none⟩ = false := f1
  cases b
  · go_wp2
    go_ret
    exact ⟨rfl, HR.out.drew, (Kp.refl _ _).drew⟩
  · go_wp2
    go_ret
    exact ⟨rfl, HR.out.drew.set' (by omega), (Kp.refl _ _).drew.setCell 1 _⟩
/-- A function of the reader's, whatever it reads from: what it gives. -/
def WayTo (rb : Nat) (s : ByteArray) (N : FuncId) (args : Array Value) (f : Nat → Res) : Prop :=
  ∀ (i : Nat) (w : World), Rd rb s i w → i ≤ s.size → Calls Tryd.prog N args w (Got rb s w (f i))
theorem ext_empty (s : ByteArray) (i j : Nat) (hij : i ≤ j) (hj : j ≤ s.size) : (s.extract i j).toList.isEmpty = decide (j = i) := by
  rw [Lib.toList_data, Bool.eq_iff_iff, List.isEmpty_iff, decide_eq_true_iff, ← List.length_eq_zero_iff, size_data, ByteArray.size_extract]
  omega
theorem ext_nil (s : ByteArray) (i : Nat) : s.extract i i = E0 := by
  apply ByteArray.ext
  simp [E0]
theorem nm_ok (s : ByteArray) (i : Nat) (hi : i ≤ s.size) : i ≤ nm s i ∧ nm s i ≤ s.size := by
  unfold nm
  split
  · exact ⟨behN_ge _ _ _, by have := behN_le naB s.data.toList i (by rw [size_data]; exact hi); rw [size_data] at this; exact this⟩
  · exact ⟨Nat.le_refl _, hi⟩
theorem nameI_nm (s : ByteArray) (i : Nat) : nameI s.data.toList (i : Int) = (nm s i : Int) := by
  unfold nameI nm behI at0
  rw [Int.toNat_natCast, size_data]
  by_cases h : i < s.size ∧ leB (s.data.toList.getD i 0) = true
  · rw [if_pos h, if_pos ⟨by omega, by omega, h.2⟩, if_neg (by omega)]
  · rw [if_neg h, if_neg (fun x => h ⟨by omega, x.2.2⟩)]
theorem numN_ok (l : List UInt8) (i : Nat) (hi : i ≤ l.length) : i ≤ numN l i ∧ numN l i ≤ l.length := by
  have h := long_num l i hi
  rw [← h]
  have : ∀ k, k ≤ l.length → i ≤ longN lnumB l i k ∧ longN lnumB l i k ≤ l.length := by
    intro k
    induction k with
    | zero => intro _; exact ⟨Nat.le_refl _, hi⟩
    | succ k ih =>
      intro hk
      unfold longN
      split
      · next h => exact ⟨Nat.le_of_lt h.1, hk⟩
      · exact ih (by omega)
  exact this _ (Nat.le_refl _)
theorem nu_ok (s : ByteArray) (i : Nat) (hi : i ≤ s.size) : i ≤ nu s i ∧ nu s i ≤ s.size := by
  have := numN_ok s.data.toList i (by rw [size_data]; exact hi)
  rw [size_data] at this
  exact this
theorem endName {s : ByteArray} : EndFn 50 nm s := ⟨fun args w => by go_simp, fun i w hs hi => ⟨(nm_ok s i hi).1, (nm_ok s i hi).2, by
  rw [← nameI_nm]
  exact (name_any s i w (by omega)).mono (by rintro e w' ⟨rfl, rfl⟩; exact ⟨rfl, Below.refl _ _⟩)⟩⟩
theorem endNumber {s : ByteArray} : EndFn 51 nu s := ⟨fun args w => by go_simp, fun i w hs hi => ⟨(nu_ok s i hi).1, (nu_ok s i hi).2, by
  have := number_any s i w (by omega)
  rw [numI_nat] at this
  exact this⟩⟩
theorem endBlank {s : ByteArray} : EndFn 11 bl s := ⟨fun args w => by go_simp, fun i w hs hi => ⟨behN_ge _ _ _, by have := behN_le blB s.data.toList i (by rw [size_data]; exact hi); rw [size_data] at this; exact this, by
  have := blank_any s i w (by omega)
  unfold behI at this
  rw [if_neg (by omega), Int.toNat_natCast] at this
  exact this.mono (by rintro e w' ⟨rfl, rfl⟩; exact ⟨rfl, Below.refl _ _⟩)⟩⟩
theorem endSpaces {s : ByteArray} : EndFn 16 sp s := ⟨fun args w => by go_simp, fun i w hs hi => ⟨behN_ge _ _ _, by have := behN_le spB s.data.toList i (by rw [size_data]; exact hi); rw [size_data] at this; exact this, by
  have := spaces_any s i w (by omega)
  unfold behI at this
  rw [if_neg (by omega), Int.toNat_natCast] at this
  exact this.mono (by rintro e w' ⟨rfl, rfl⟩; exact ⟨rfl, Below.refl _ _⟩)⟩⟩
end Go.Proofs.YtlijmflikcjikaaDoor

/-
  Package expr: number, variable, reference, term, message, quoted.
-/
namespace Go.Proofs.YtlijmflikcjikaaDoor
open Go.RowKit
set_option linter.unusedVariables false
set_option linter.unusedSimpArgs false

theorem cells7 {w : World} {k : Nat} {x0 x1 x2 x3 x4 x5 x6 : Value} {t : TypeId} (h : BoxAt w k #[x0, x1, x2, x3, x4, x5, x6] t) :
    w.cell? ⟨k, 0, none⟩ = some x0 ∧ w.cell? ⟨k, 1, none⟩ = some x1 ∧ w.cell? ⟨k, 2, none⟩ = some x2 ∧ w.cell? ⟨k, 3, none⟩ = some x3 ∧ w.cell? ⟨k, 4, none⟩ = some x4 ∧ w.cell? ⟨k, 5, none⟩ = some x5 ∧ w.cell? ⟨k, 6, none⟩ = some x6 ∧
    w.frozen? ⟨k, 0, none⟩ = false ∧ w.frozen? ⟨k, 1, none⟩ = false ∧ w.frozen? ⟨k, 2, none⟩ = false ∧ w.frozen? ⟨k, 3, none⟩ = false ∧ w.frozen? ⟨k, 4, none⟩ = false ∧ w.frozen? ⟨k, 5, none⟩ = false ∧ w.frozen? ⟨k, 6, none⟩ = false :=
  ⟨h.cell 0, h.cell 1, h.cell 2, h.cell 3, h.cell 4, h.cell 5, h.cell 6, Lib.frozen_of_heap h 0, Lib.frozen_of_heap h 1, Lib.frozen_of_heap h 2, Lib.frozen_of_heap h 3, Lib.frozen_of_heap h 4, Lib.frozen_of_heap h 5, Lib.frozen_of_heap h 6⟩
theorem Kp.setNew {rb : Nat} {a w : World} (h : Kp rb a w) {b : Nat} (hb : a.heap.size ≤ b) (hr : rb < a.heap.size) (o : Nat) (v : Value) : Kp rb a (w.setCell ⟨b, o, none⟩ v) :=
  ⟨h.below.setCell (p := ⟨b, o, none⟩) (by show rb ≤ b; omega) v, fun k hk hn => (Below.heap_setCell w ⟨b, o, none⟩ v k (by show k ≠ b; omega)).trans (h.others k hk hn)⟩
theorem Rd.setOther {rb : Nat} {s : ByteArray} {i : Nat} {w : World} (h : Rd rb s i w) {b : Nat} (hb : rb ≠ b) (o : Nat) (v : Value) : Rd rb s i (w.setCell ⟨b, o, none⟩ v) := BoxAt.setOther h ⟨b, o, none⟩ v hb
/-- The result's cell is written. -/
def set7 (w : World) (b : Nat) (x0 x1 x2 x3 x4 x5 x6 : Value) : World := ((((((w.setCell ⟨b, 0, none⟩ x0).setCell ⟨b, 1, none⟩ x1).setCell ⟨b, 2, none⟩ x2).setCell ⟨b, 3, none⟩ x3).setCell ⟨b, 4, none⟩ x4).setCell ⟨b, 5, none⟩ x5).setCell ⟨b, 6, none⟩ x6
theorem set7_heap (w : World) (b : Nat) (x0 x1 x2 x3 x4 x5 x6 : Value) (k : Nat) (hk : k ≠ b) : (set7 w b x0 x1 x2 x3 x4 x5 x6).heap[k]? = w.heap[k]? := by
  unfold set7
  rw [Below.heap_setCell _ _ _ k hk, Below.heap_setCell _ _ _ k hk, Below.heap_setCell _ _ _ k hk, Below.heap_setCell _ _ _ k hk, Below.heap_setCell _ _ _ k hk, Below.heap_setCell _ _ _ k hk, Below.heap_setCell _ _ _ k hk]
theorem set7_size (w : World) (b : Nat) (x0 x1 x2 x3 x4 x5 x6 : Value) : (set7 w b x0 x1 x2 x3 x4 x5 x6).heap.size = w.heap.size := by
  unfold set7; simp
theorem Kp.set7 {rb : Nat} {a w : World} (h : Kp rb a w) {b : Nat} (hb : a.heap.size ≤ b) (hr : rb < a.heap.size) (x0 x1 x2 x3 x4 x5 x6 : Value) : Kp rb a (set7 w b x0 x1 x2 x3 x4 x5 x6) :=
  ((((((h.setNew hb hr 0 x0).setNew hb hr 1 x1).setNew hb hr 2 x2).setNew hb hr 3 x3).setNew hb hr 4 x4).setNew hb hr 5 x5).setNew hb hr 6 x6
theorem Rd.set7 {rb : Nat} {s : ByteArray} {i : Nat} {w : World} (h : Rd rb s i w) {b : Nat} (hb : rb ≠ b) (x0 x1 x2 x3 x4 x5 x6 : Value) : Rd rb s i (set7 w b x0 x1 x2 x3 x4 x5 x6) :=
  ((((((h.setOther hb 0 x0).setOther hb 1 x1).setOther hb 2 x2).setOther hb 3 x3).setOther hb 4 x4).setOther hb 5 x5).setOther hb 6 x6
/-- How a way of reading ends: the result's cell, at block b, is written. -/
theorem got_fin {rb : Nat} {s : ByteArray} {w w1 : World} {r : Res} {b : Nat} {k : Int} {t n a : ByteArray} {A1 : Option Addr} {n1 c1 : Nat} {p : Option Addr} {A2 : Option Addr} {n2 c2 : Nat} {j : Nat} {ok : Bool} {x0 x1 x2 x3 x4 x5 x6 : Value}
    (hK : Kp rb w w1) (hb : w.heap.size ≤ b) (hlt : rb < w.heap.size) (hR : Rd rb s j w1) (hj : j ≤ s.size) (hok : ok = r.isSome)
    (hx : ∀ x m, r = some (x, m) → m = j ∧ ExF w1 (fun q => Since w.heap.size w1 q ∧ q ≠ b) x ⟨.int .i64 k, .string t, .string n, .string a, .slice A1 n1 c1, .pointer p, .slice A2 n2 c2⟩) :
    Got rb s w r (.returned (.tuple #[exV k t n a A1 n1 c1 p A2 n2 c2, .bool ok])) (set7 w1 b x0 x1 x2 x3 x4 x5 x6) := by
  refine ⟨hK.set7 hb hlt _ _ _ _ _ _ _, k, t, n, a, A1, n1, c1, p, A2, n2, c2, j, by rw [hok], hR.set7 (by omega) _ _ _ _ _ _ _, hj, fun x m h => ?_⟩
  obtain ⟨h1, h2⟩ := hx x m h
  refine ⟨h1, ExF.carry (fun q hq => ⟨?_, set7_heap _ _ _ _ _ _ _ _ _ q hq.2⟩) _ _ h2⟩
  obtain ⟨⟨ha, hb⟩, _⟩ := hq
  exact ⟨ha, by rw [set7_size]; exact hb⟩
theorem box_set7 {w : World} {E : Nat} {x0 x1 x2 x3 x4 x5 x6 : Value} {t : TypeId} (h : BoxAt w E #[x0, x1, x2, x3, x4, x5, x6] t) (y0 y1 y2 y3 y4 y5 y6 : Value) :
    BoxAt (set7 w E y0 y1 y2 y3 y4 y5 y6) E #[y0, y1, y2, y3, y4, y5, y6] t := by
  unfold set7
  unfold BoxAt at h ⊢
  simp [World.setCell, Array.getElem?_modify, h]
set_option maxRecDepth 100000 in
theorem res7 {fn : Func} {A M : Nat} {tmps : Array Value} {w : World} {b : Nat} {x0 x1 x2 x3 x4 x5 x6 v : Value} {t : TypeId} (hres : fn.results = #[.cell A 28, .tmp M]) (ha : tmps.getD A undef = .pointer (some ⟨b, 0, none⟩)) (hm : tmps.getD M undef = v)
    (hb : BoxAt w b #[x0, x1, x2, x3, x4, x5, x6] t) : (results fn tmps).run Tryd.prog w = .ok (.tuple #[.agg #[x0, x1, x2, x3, x4, x5, x6], v]) w := by
  obtain ⟨q0, q1, q2, q3, q4, q5, q6, _⟩ := cells7 hb
  have ha' : tmps[A]?.getD undef = .pointer (some ⟨b, 0, none⟩) := by rw [← ha]; simp
  have hm' : tmps[M]?.getD undef = v := by rw [← hm]; simp
  simp [results, hres, ha', hm', go_sem, q0, q1, q2, q3, q4, q5, q6]
/-- A call ends whose result's cell, at block b, was written. -/
theorem end7 {fn : Func} {R : Ending → World → Prop} {a : Act} {w1 w2 : World} {A M b : Nat} {x0 x1 x2 x3 x4 x5 x6 y0 y1 y2 y3 y4 y5 y6 v : Value} {t : TypeId} (hres : fn.results = #[.cell A 28, .tmp M]) (hbox : BoxAt w1 b #[y0, y1, y2, y3, y4, y5, y6] t)
    (hw : w2 = set7 w1 b x0 x1 x2 x3 x4 x5 x6) (ha : a.tmps.getD A undef = .pointer (some ⟨b, 0, none⟩)) (hm : a.tmps.getD M undef = v) (hd : a.defers = []) (hR : R (.returned (.tuple #[.agg #[x0, x1, x2, x3, x4, x5, x6], v])) (set7 w1 b x0 x1 x2 x3 x4 x5 x6)) : bodyPost Tryd.prog fn R .ret a w2 := by
  subst hw
  exact bodyPost_ret (res7 hres ha hm (box_set7 hbox x0 x1 x2 x3 x4 x5 x6)) hd hR
theorem end7w {fn : Func} {R : Ending → World → Prop} {a : Act} {w2 : World} {A M b : Nat} {x0 x1 x2 x3 x4 x5 x6 v : Value} {t : TypeId} (hres : fn.results = #[.cell A 28, .tmp M]) (hbox : BoxAt w2 b #[x0, x1, x2, x3, x4, x5, x6] t)
    (ha : a.tmps.getD A undef = .pointer (some ⟨b, 0, none⟩)) (hm : a.tmps.getD M undef = v) (hd : a.defers = []) (hR : R (.returned (.tuple #[.agg #[x0, x1, x2, x3, x4, x5, x6], v])) w2) : bodyPost Tryd.prog fn R .ret a w2 :=
  bodyPost_ret (res7 hres ha hm hbox) hd hR
theorem got_end {rb : Nat} {s : ByteArray} {w w2 : World} {r : Res} {k : Int} {t n a : ByteArray} {A1 : Option Addr} {n1 c1 : Nat} {p : Option Addr} {A2 : Option Addr} {n2 c2 : Nat} {j : Nat} {ok : Bool}
    (hK : Kp rb w w2) (hR : Rd rb s j w2) (hj : j ≤ s.size) (hok : ok = r.isSome)
    (hx : ∀ x m, r = some (x, m) → m = j ∧ ExF w2 (Since w.heap.size w2) x ⟨.int .i64 k, .string t, .string n, .string a, .slice A1 n1 c1, .pointer p, .slice A2 n2 c2⟩) :
    Got rb s w r (.returned (.tuple #[exV k t n a A1 n1 c1 p A2 n2 c2, .bool ok])) w2 :=
  ⟨hK, k, t, n, a, A1, n1, c1, p, A2, n2, c2, j, by rw [hok], hR, hj, hx⟩
theorem BoxAt.drew {w : World} {k : Nat} {cs : Array Value} {t : TypeId} (h : BoxAt w k cs t) : BoxAt w.drew k cs t := h
set_option maxHeartbeats 2000000 in
set_option maxRecDepth 100000 in
theorem number_way {rb : Nat} {s : ByteArray} (hs : s.size ≤ 4000000) : WayTo rb s 47 #[pt rb] (nubS s) := by
  intro i w hr hi
  have hn := nu_ok s i hi
  have he := ext_empty s i (nu s i) hn.1 hn.2
  have hP := fun W (h : Rd rb s i W) => pass_any endNumber W h hs hi
  unfold nubS
  obtain ⟨j, hj⟩ : ∃ j, nu s i = j := ⟨_, rfl⟩
  rw [hj] at hn he hP ⊢
  have HP := Lib.hid hP
  have HR := Lib.hid hr
  have hlt := hr.lt
  obtain ⟨X, hX⟩ : ∃ X, s.extract i j = X := ⟨_, rfl⟩
  rw [hX] at he HP ⊢
  have HE := Lib.hid he
  have HX := Lib.hid hX
  clear hj hP hr he hX
  unfold pt at HP ⊢
  by_cases hji : j = i
  · have hx : X.toList.isEmpty = true := by rw [HE.out, decide_eq_true hji]
    rw [if_pos hji]
    go_enter Tryd.func47, Tryd.ntmps47
    go_wp2_with fail
    go_at_call 10
    refine (HP.out _ (HR.out.alloc _)).mono ?_
    rintro e w1 ⟨rfl, h1, h2⟩
    have H1 := Lib.hid h1
    have HK := Lib.hid (((Kp.refl rb w).alloc (Nat.le_of_lt hlt) _).trans h2)
    have hc := BoxAt.kp (BoxAt.new w #[.int .i64 0, .string ⟨#[]⟩, .string ⟨#[]⟩, .string ⟨#[]⟩, .slice none 0 0, .pointer none, .slice none 0 0] 28) h2 (by omega)
    have hl := hc.lt
    have HC := Lib.hid hc
    have q := cells7 hc
    obtain ⟨q0, q1, q2, q3, q4, q5, q6, p0, p1, p2, p3, p4, p5, p6⟩ := q
    clear h1 h2 hc
    go_wp2
    exact end7 Tryd.results47 HC.out rfl rfl rfl rfl (got_fin (b := w.heap.size) HK.out (Nat.le_refl _) hlt H1.out hn.2 rfl (fun x m h => by cases h))
  · have hx : X.toList.isEmpty = false := by rw [HE.out, decide_eq_false hji]
    rw [if_neg hji]
    go_enter Tryd.func47, Tryd.ntmps47
    go_wp2_with fail
    go_at_call 10
    refine (HP.out _ (HR.out.alloc _)).mono ?_
    rintro e w1 ⟨rfl, h1, h2⟩
    have H1 := Lib.hid h1
    have HK := Lib.hid (((Kp.refl rb w).alloc (Nat.le_of_lt hlt) _).trans h2)
    have hc := BoxAt.kp (BoxAt.new w #[.int .i64 0, .string ⟨#[]⟩, .string ⟨#[]⟩, .string ⟨#[]⟩, .slice none 0 0, .pointer none, .slice none 0 0] 28) h2 (by omega)
    have hl := hc.lt
    have HC := Lib.hid hc
    have q := cells7 hc
    obtain ⟨q0, q1, q2, q3, q4, q5, q6, p0, p1, p2, p3, p4, p5, p6⟩ := q
    clear h1 h2 hc
    go_wp2
    exact end7 Tryd.results47 HC.out rfl rfl rfl rfl (got_fin (b := w.heap.size) HK.out (Nat.le_refl _) hlt H1.out hn.2 rfl (fun x m h => by cases h; exact ⟨rfl, exF_flat _ _ _ _ _ _⟩))
end Go.Proofs.YtlijmflikcjikaaDoor
