import Derived.Test.YtjgfijpgoffmlabDoorA10
namespace Go.Proofs.YtjgfijpgoffmlabDoor
open Go.RowKit

def GivesV (f : FuncId) (args : Array Value) (w : World) (v : Value) : Prop := Calls Tryd.prog f args w fun e w' => e = .returned v ∧ Below w.heap.size w w'

theorem parse25 (w : World) (h : w.ShapedOpen Tryd.prog) : Calls Tryd.prog 9 #[.string ⟨#[50, 46, 53]⟩] w fun e w' => e = .returned (.tuple #[.agg #[.bool false, .string ⟨#[50, 53]⟩, .int .i64 1], .bool true]) ∧ Below w.heap.size w w' := by
  refine (parse_any ⟨#[50, 46, 53]⟩ w h (by decide)).mono ?_
  rintro e w' ⟨he, hb⟩
  have hp : parseL [50, 46, 53] = some (false, [50, 53], 1) := by decide +kernel
  unfold ParseEnd at he
  rw [show (⟨#[50, 46, 53]⟩ : ByteArray).data.toList = [50, 46, 53] from rfl, hp] at he
  exact ⟨he, hb⟩
theorem parse35 (w : World) (h : w.ShapedOpen Tryd.prog) : Calls Tryd.prog 9 #[.string ⟨#[51, 46, 53]⟩] w fun e w' => e = .returned (.tuple #[.agg #[.bool false, .string ⟨#[51, 53]⟩, .int .i64 1], .bool true]) ∧ Below w.heap.size w w' := by
  refine (parse_any ⟨#[51, 46, 53]⟩ w h (by decide)).mono ?_
  rintro e w' ⟨he, hb⟩
  have hp : parseL [51, 46, 53] = some (false, [51, 53], 1) := by decide +kernel
  unfold ParseEnd at he
  rw [show (⟨#[51, 46, 53]⟩ : ByteArray).data.toList = [51, 46, 53] from rfl, hp] at he
  exact ⟨he, hb⟩
theorem round25 (w : World) : Calls Tryd.prog 20 #[.agg #[.bool false, .string ⟨#[50, 53]⟩, .int .i64 1], .int .i64 0] w fun e w' => e = .returned (.agg #[.bool false, .string ⟨#[50]⟩, .int .i64 0]) ∧ Below w.heap.size w w' := by
  refine (round_any false ⟨#[50, 53]⟩ 1 0 w (by decide) (by decide) (by decide) (by decide) (by decide)).mono ?_
  rintro e w' ⟨rfl, hb⟩
  have hr : roundL [50, 53] 1 0 = [50] := by decide +kernel
  exact ⟨by rw [show (⟨#[50, 53]⟩ : ByteArray).data.toList = [50, 53] from rfl, show (0 : Int).toNat = 0 from rfl, hr]; rfl, hb⟩
theorem round35 (w : World) : Calls Tryd.prog 20 #[.agg #[.bool false, .string ⟨#[51, 53]⟩, .int .i64 1], .int .i64 0] w fun e w' => e = .returned (.agg #[.bool false, .string ⟨#[52]⟩, .int .i64 0]) ∧ Below w.heap.size w w' := by
  refine (round_any false ⟨#[51, 53]⟩ 1 0 w (by decide) (by decide) (by decide) (by decide) (by decide)).mono ?_
  rintro e w' ⟨rfl, hb⟩
  have hr : roundL [51, 53] 1 0 = [52] := by decide +kernel
  exact ⟨by rw [show (⟨#[51, 53]⟩ : ByteArray).data.toList = [51, 53] from rfl, show (0 : Int).toNat = 0 from rfl, hr]; rfl, hb⟩
theorem text35 (w : World) : Calls Tryd.prog 11 #[.agg #[.bool false, .string ⟨#[51, 53]⟩, .int .i64 1]] w fun e w' => e = .returned (.string ⟨#[51, 46, 53]⟩) ∧ Below w.heap.size w w' := by
  refine (string_any false ⟨#[51, 53]⟩ 1 w (by decide) (by decide)).mono ?_
  rintro e w' ⟨rfl, hb⟩
  exact ⟨ret_str (by decide +kernel), hb⟩
theorem text2 (w : World) : Calls Tryd.prog 11 #[.agg #[.bool false, .string ⟨#[50]⟩, .int .i64 0]] w fun e w' => e = .returned (.string ⟨#[50]⟩) ∧ Below w.heap.size w w' := by
  refine (string_any false ⟨#[50]⟩ 0 w (by decide) (by decide)).mono ?_
  rintro e w' ⟨rfl, hb⟩
  exact ⟨ret_str (by decide +kernel), hb⟩
theorem text4 (w : World) : Calls Tryd.prog 11 #[.agg #[.bool false, .string ⟨#[52]⟩, .int .i64 0]] w fun e w' => e = .returned (.string ⟨#[52]⟩) ∧ Below w.heap.size w w' := by
  refine (string_any false ⟨#[52]⟩ 0 w (by decide) (by decide)).mono ?_
  rintro e w' ⟨rfl, hb⟩
  exact ⟨ret_str (by decide +kernel), hb⟩
theorem group7 (w : World) : Calls Tryd.prog 27 #[.string ⟨#[49, 50, 51, 52, 53, 54, 55]⟩, .string ⟨#[32]⟩] w fun e w' => e = .returned (.string ⟨#[49, 32, 50, 51, 52, 32, 53, 54, 55]⟩) ∧ Below w.heap.size w w' := by
  refine (group_any ⟨#[49, 50, 51, 52, 53, 54, 55]⟩ ⟨#[32]⟩ w (by decide)).mono ?_
  rintro e w' ⟨rfl, hb⟩
  exact ⟨ret_str (by decide +kernel), hb⟩

set_option maxHeartbeats 1000000 in
set_option maxRecDepth 100000 in
theorem head_any (w : World) (hsh : w.ShapedOpen Tryd.prog) : Calls Tryd.prog 8 #[] w fun e w' => e = .returned (.bool true) ∧ Below w.heap.size w w' := by
  go_enter Tryd.func8, Tryd.ntmps8
  go_wp2_with fail
  go_at_call 9
  refine (parse25 _ hsh).mono ?_
  rintro e w1 ⟨rfl, hb1⟩
  obtain ⟨hc1, hf1⟩ := bcell hb1
  go_wp2_with fail
  go_at_call 9
  refine (parse35 _ (shp_alloc (shp_below hsh hb1) _)).mono ?_
  rintro e w2 ⟨rfl, hb2⟩
  obtain ⟨hc2, hf2⟩ := bcell hb2
  have hz2 : w1.heap.size < w2.heap.size := by have := hb2.size; simp at this; omega
  go_wp2_with fail
  go_at_call 11
  refine (text35 _).mono ?_
  rintro e w3 ⟨rfl, hb3⟩
  obtain ⟨hc3, hf3⟩ := bcell hb3
  have hz3 : w2.heap.size < w3.heap.size := by have := hb3.size; simp at this; omega
  have hz3' : w1.heap.size < w3.heap.size := by omega
  go_wp2_with fail
  go_at_call 20
  refine (round25 _).mono ?_
  rintro e w4 ⟨rfl, hb4⟩
  obtain ⟨hc4, hf4⟩ := bcell hb4
  have hz4 : w2.heap.size < w4.heap.size := by have := hb4.size; omega
  go_wp2_with fail
  go_at_call 11
  refine (text2 _).mono ?_
  rintro e w5 ⟨rfl, hb5⟩
  obtain ⟨hc5, hf5⟩ := bcell hb5
  have hz5 : w2.heap.size < w5.heap.size := by have := hb5.size; omega
  go_wp2_with fail
  go_at_call 20
  refine (round35 _).mono ?_
  rintro e w6 ⟨rfl, hb6⟩
  obtain ⟨hc6, hf6⟩ := bcell hb6
  go_wp2_with fail
  go_at_call 11
  refine (text4 _).mono ?_
  rintro e w7 ⟨rfl, hb7⟩
  obtain ⟨hc7, hf7⟩ := bcell hb7
  go_wp2_with fail
  go_at_call 27
  refine (group7 _).mono ?_
  rintro e w8 ⟨rfl, hb8⟩
  obtain ⟨hc8, hf8⟩ := bcell hb8
  go_wp2_with fail
  go_ret
  have L := Nat.le_refl w.heap.size
  exact ⟨rfl, below_then (below_then (below_then (below_then (below_then (below_then (below_new (below_then (below_new hb1 L _) L hb2) L _) L hb3) L hb4) L hb5) L hb6) L hb7) L hb8⟩
end Go.Proofs.YtjgfijpgoffmlabDoor
