/-
  ScanPlaces: whatever text and place: the longest of each kind that stands there.
-/
import Derived.Test.YtpblmdginlkedabScLong
namespace Go.Proofs.Ytpblmdginlkedab
open Go.RowKit

set_option maxHeartbeats 1000000 in
theorem lawPlaces (s : ByteArray) (i : Int) (w : World) :
    Calls Try.prog 3 #[.string s, .int .i64 i] w fun e w' => e = .returned (.bool true) ∧ Below w.heap.size w w' := by
  by_cases h100 : (100 : Int) < s.size
  · go_enter Try.func3, Try.ntmps3
    go_wp2_with (go_at_call 6; refine (head_any _).mono ?_; rintro e w1 ⟨rfl, hb1⟩)
    go_ret
    exact ⟨rfl, hb1⟩
  have hs : s.size ≤ 1000 := by omega
  have a0 := fun W => spaces_any s i W (by omega)
  have b0 := fun W => longest_sp s i W hs
  rw [longI_all] at b0
  have a1 := fun W => blank_any s i W (by omega)
  have b1 := fun W => longest_bl s i W hs
  rw [longI_all] at b1
  have a2 := fun W => name_any s i W (by omega)
  have b2 := fun W => longest_nm s i W hs
  rw [← nameI_long] at b2
  have a3 := fun W => number_any s i W (by omega)
  have b3 := fun W => longest_nu s i W hs
  rw [← numI_long] at b3
  generalize behI spB s.data.toList i = r0 at *
  generalize behI blB s.data.toList i = r1 at *
  generalize nameI s.data.toList i = r2 at *
  generalize numI s.data.toList i = r3 at *
  have A0 := Lib.hid a0
  have A1 := Lib.hid a1
  have A2 := Lib.hid a2
  have A3 := Lib.hid a3
  have B0 := Lib.hid b0
  have B1 := Lib.hid b1
  have B2 := Lib.hid b2
  have B3 := Lib.hid b3
  clear a0 a1 a2 a3 b0 b1 b2 b3
  go_enter Try.func3, Try.ntmps3
  go_wp2_with fail
  go_at_call 6
  refine (head_any _).mono ?_
  rintro e w1 ⟨rfl, hb1⟩
  go_wp2_with fail
  go_at_call 7
  refine (A0.out _).mono ?_
  rintro e w' ⟨rfl, rfl⟩
  go_wp2_with fail
  go_at_call 8
  refine (B0.out _).mono ?_
  rintro e w' ⟨rfl, rfl⟩
  go_wp2_with fail
  go_at_call 9
  refine (A1.out _).mono ?_
  rintro e w' ⟨rfl, rfl⟩
  go_wp2_with fail
  go_at_call 8
  refine (B1.out _).mono ?_
  rintro e w' ⟨rfl, rfl⟩
  go_wp2_with fail
  go_at_call 10
  refine (A2.out _).mono ?_
  rintro e w' ⟨rfl, rfl⟩
  go_wp2_with fail
  go_at_call 8
  refine (B2.out _).mono ?_
  rintro e w' ⟨rfl, rfl⟩
  go_wp2_with fail
  go_at_call 11
  refine (A3.out _).mono ?_
  rintro e w2 ⟨rfl, hb2⟩
  go_wp2_with fail
  go_at_call 8
  refine (B3.out _).mono ?_
  rintro e w' ⟨rfl, rfl⟩
  go_wp2
  go_ret
  exact ⟨rfl, below_then hb1 (Nat.le_refl _) hb2⟩
end Go.Proofs.Ytpblmdginlkedab
