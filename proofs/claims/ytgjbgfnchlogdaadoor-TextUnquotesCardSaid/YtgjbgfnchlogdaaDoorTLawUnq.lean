/-
  TextUnquotes: whatever text of signs: what stands between quotes at its beginning is what the statement's own Unquote reads sign by sign. Conditions: the program's own tables as its text lays them.
-/
import Derived.Test.YtgjbgfnchlogdaaDoorTLUnq
namespace Go.Proofs.YtgjbgfnchlogdaaDoor
open Go.RowKit
set_option linter.unusedVariables false
set_option linter.unusedSimpArgs false

set_option maxHeartbeats 4000000 in
set_option maxRecDepth 100000 in
theorem lawUnquotes (s : ByteArray) (w : World) (hT : TabU w) (hs : s.size ≤ 9223372036854775807) :
    Calls Tryd.prog 5 #[.string s] w fun e w' => e = .returned (.bool true) ∧ Below w.heap.size w w' := by
  go_enter Tryd.func5, Tryd.ntmps5
  go_wp2_with fail
  go_at_call 8
  refine (head_any _).mono ?_
  rintro e w1 ⟨rfl, b1⟩
  by_cases h300 : 300 < (s.size : Int)
  · go_wp2
    go_ret
    exact ⟨rfl, b1⟩
  have hT1 := hT.below b1
  have hTw := Lib.hid hT
  clear hT
  go_wp2_with fail
  go_at_call 13
  refine (signs_any s _ hT1 (by omega)).mono ?_
  rintro e w2 ⟨hse, b2⟩
  have B2 := b1.trans (b2.mono b1.size)
  rcases hse with ⟨hn, rfl⟩ | ⟨xs, v, hx, hxl, rfl, hown⟩
  · clear hn hT1
    go_wp2
    go_ret
    exact ⟨rfl, B2⟩
  have hL := fun W hT => lunquote_any s W hT (by omega) xs hx
  have hU := fun W => unquote_any s W (by omega)
  rw [unqAll_law s xs hx] at hU
  clear hown hx hxl hT1
  generalize lawUnqAll xs = R at *
  cases R with
  | none =>
    simp only [unqVal] at hU hL
    go_wp2_with fail
    go_at_call 14
    refine (hU _).mono ?_
    rintro e w3 ⟨rfl, b3⟩
    have B3 := B2.trans (b3.mono B2.size)
    have hT3 := hTw.out.below B3
    go_wp2_with fail
    go_at_call 15
    refine (hL _ hT3).mono ?_
    rintro e w4 ⟨rfl, b4⟩
    have B4 := B3.trans (b4.mono B3.size)
    go_wp2
    go_ret
    exact ⟨rfl, B4⟩
  | some r =>
    obtain ⟨a, n⟩ := r
    simp only [unqVal] at hU hL
    go_wp2_with fail
    go_at_call 14
    refine (hU _).mono ?_
    rintro e w3 ⟨rfl, b3⟩
    have B3 := B2.trans (b3.mono B2.size)
    have hT3 := hTw.out.below B3
    go_wp2_with fail
    go_at_call 15
    refine (hL _ hT3).mono ?_
    rintro e w4 ⟨rfl, b4⟩
    have B4 := B3.trans (b4.mono B3.size)
    go_wp2
    go_ret
    exact ⟨rfl, B4⟩
end Go.Proofs.YtgjbgfnchlogdaaDoor
