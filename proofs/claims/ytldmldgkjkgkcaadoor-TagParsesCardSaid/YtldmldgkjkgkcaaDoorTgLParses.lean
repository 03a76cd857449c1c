/-
  TagParses: the law walked.
-/
import Derived.Test.YtldmldgkjkgkcaaDoorTgHead
import Derived.Test.YtldmldgkjkgkcaaDoorTgLaw5
namespace Go.Proofs.YtldmldgkjkgkcaaDoor
open Go.RowKit Go.Shelf
set_option linter.unusedVariables false
set_option linter.unusedSimpArgs false

/-- The law's Parse of a text that tells a tag; of one that tells none. -/
theorem lawY {s : ByteArray} {t : TagT} (w : World) (hs : s.size ≤ 100000) (ht : tagOf (splitH s.data.toList) = some t) :
    Calls Tryd.prog 9 #[.string s] w fun e W' => e = .returned (.tuple #[.string (mk t.text), .bool true]) ∧ Below w.heap.size w W' := by
  refine (lparse_any s w hs _ rfl).mono ?_
  rintro e W' ⟨hb, h, _⟩
  have : lawP (splitH s.data.toList) = some t.pieces := by rw [lawP_tag, ht]; rfl
  exact ⟨h _ this, hb⟩
theorem lawN {s : ByteArray} (w : World) (hs : s.size ≤ 100000) (ht : tagOf (splitH s.data.toList) = none) :
    Calls Tryd.prog 9 #[.string s] w fun e W' => e = .returned (.tuple #[.string ⟨#[]⟩, .bool false]) ∧ Below w.heap.size w W' := by
  refine (lparse_any s w hs _ rfl).mono ?_
  rintro e W' ⟨hb, _, h⟩
  have : lawP (splitH s.data.toList) = none := by rw [lawP_tag, ht]; rfl
  exact ⟨h this, hb⟩

set_option maxRecDepth 1000000 in
set_option maxHeartbeats 4000000 in
theorem parses_any (s : ByteArray) (hz : s.size ≤ 9223372036854775807) (w : World) (hM : MaxAt w) : Calls Tryd.prog 3 #[.string s] w fun e w' => e = .returned (.bool true) ∧ Below w.heap.size w w' := by
  have HM := Lib.hid hM
  clear hM
  by_cases hs : 100 < s.size
  · go_enter Tryd.func3, Tryd.ntmps3
    go_wp2_with fail
    go_at_call 7
    refine (head_any w HM.out).mono ?_
    rintro e w1 ⟨rfl, b1⟩
    go_wp2_with fail
    go_ret
    exact ⟨rfl, b1⟩
  · have hs5 : s.size ≤ 100000 := by omega
    cases ht : tagOf (splitH s.data.toList) with
    | none =>
      have HT := Lib.hid ht
      clear ht
      go_enter Tryd.func3, Tryd.ntmps3
      go_wp2_with fail
      go_at_call 7
      refine (head_any w HM.out).mono ?_
      rintro e w1 ⟨rfl, b1⟩
      have B1 := Lib.hid b1
      clear b1
      go_wp2_with fail
      go_at_call 8
      refine (ParseN.of hs5 (HM.out.on B1.out) HT.out).at_.mono ?_
      rintro e w2 ⟨rfl, b2⟩
      have B2 := Lib.hid (below_box1 (below_step B1.out b2) (.cells #[.string ⟨#[]⟩, .string ⟨#[]⟩, .string ⟨#[]⟩, .slice none 0 0] 25))
      have X2 := Lib.hid (Box4.new w2 (.string ⟨#[]⟩) (.string ⟨#[]⟩) (.string ⟨#[]⟩) (.slice none 0 0) 25)
      clear B1 b2
      go_upto_region 6 with fail
      generalize w2.heap.size = k2 at *
      generalize w2.alloc (.cells #[.string ⟨#[]⟩, .string ⟨#[]⟩, .string ⟨#[]⟩, .slice none 0 0] 25) = W2 at *
      go_wp2_with fail
      go_at_call 9
      refine (lawN W2 hs5 HT.out).mono ?_
      rintro e w3 ⟨rfl, b3⟩
      have B3 := Lib.hid (below_step B2.out b3)
      obtain ⟨x0, x1, x2, x3, _⟩ := X2.out.later b3 X2.out.2.2.2.2.2.2.2.2
      clear b3 B2 X2
      go_wp2_with fail
      go_ret
      exact ⟨rfl, B3.out⟩
    | some t =>
      have kt := TagT.Ok.of ht (by simp; omega)
      have KT := Lib.hid kt
      have HT := Lib.hid ht
      have HT2 := Lib.hid (show tagOf (splitH (mk t.text).data.toList) = some t from tagOf_text kt.good)
      have ht2 : (mk t.text).size ≤ 100000 := by rw [mk_size]; have := kt.text; omega
      clear ht kt
      go_enter Tryd.func3, Tryd.ntmps3
      go_wp2_with fail
      go_at_call 7
      refine (head_any w HM.out).mono ?_
      rintro e w1 ⟨rfl, b1⟩
      have B1 := Lib.hid b1
      clear b1
      go_wp2_with fail
      go_at_call 8
      refine (ParseY.of hs5 (HM.out.on B1.out) HT.out).at_.mono ?_
      rintro e w2 ⟨A1, c1, rfl, v1, b2⟩
      have B2 := Lib.hid (below_box1 (below_step B1.out b2) (tagCells t A1 c1))
      have T2 := Lib.hid (TagIn.new v1)
      clear B1 b2 v1
      go_upto_region 6 with fail
      generalize w2.heap.size = k2 at *
      generalize w2.alloc (tagCells t A1 c1) = W2 at *
      go_wp2_with fail
      go_at_call 9
      refine (lawY W2 hs5 HT.out).mono ?_
      rintro e w3 ⟨rfl, b3⟩
      have B3 := Lib.hid (below_step B2.out b3)
      have T3 := Lib.hid (T2.out.later b3)
      clear b3 B2 T2
      obtain ⟨⟨x0, x1, x2, x3, _⟩, _⟩ := T3.out
      go_wp2_with fail
      go_at_call 10
      refine (stringT KT.out T3.out.2).mono ?_
      rintro e w4 ⟨rfl, b4⟩
      have B4 := Lib.hid (below_step B3.out b4)
      have T4 := Lib.hid (T3.out.later b4)
      clear b4 B3 T3 x0 x1 x2 x3
      go_wp2_with fail
      go_at_call 8
      refine (ParseY.of ht2 (HM.out.on B4.out) HT2.out).at_.mono ?_
      rintro e w5 ⟨A2, c2, rfl, v2, b5⟩
      have B5 := Lib.hid (below_box1 (below_step B4.out b5) (tagCells t A2 c2))
      have T5 := Lib.hid ((T4.out.later b5).alloc (tagCells t A2 c2))
      have U5 := Lib.hid (TagIn.new v2)
      clear B4 T4 b5 v2
      go_upto_region 12 with fail
      generalize w5.heap.size = k5 at *
      generalize w5.alloc (tagCells t A2 c2) = W5 at *
      obtain ⟨⟨x0, x1, x2, x3, _⟩, _⟩ := T5.out
      go_wp2_with fail
      go_at_call 10
      refine (stringT KT.out T5.out.2).mono ?_
      rintro e w6 ⟨rfl, b6⟩
      have B6 := Lib.hid (below_step B5.out b6)
      have T6 := Lib.hid (T5.out.later b6)
      have U6 := Lib.hid (U5.out.later b6)
      clear b6 B5 T5 U5 x0 x1 x2 x3
      obtain ⟨⟨y0, y1, y2, y3, _⟩, _⟩ := U6.out
      go_wp2_with fail
      go_at_call 10
      refine (stringT KT.out U6.out.2).mono ?_
      rintro e w7 ⟨rfl, b7⟩
      have B7 := Lib.hid (below_step B6.out b7)
      obtain ⟨⟨z0, z1, z2, z3, _⟩, _⟩ := U6.out.later b7
      obtain ⟨⟨x0, x1, x2, x3, _⟩, _⟩ := T6.out.later b7
      clear b7 B6 T6 U6 y0 y1 y2 y3
      go_wp2_with fail
      go_ret
      exact ⟨rfl, B7.out⟩
end Go.Proofs.YtldmldgkjkgkcaaDoor
