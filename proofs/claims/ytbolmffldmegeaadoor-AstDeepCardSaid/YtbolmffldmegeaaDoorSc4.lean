/-
  Contracts of package scan: Number, Big, IsName.
-/
import Derived.Test.YtbolmffldmegeaaDoorSc3
namespace Go.Proofs.YtbolmffldmegeaaDoor
open Go.RowKit

set_option maxHeartbeats 1000000 in
theorem number_any (s : ByteArray) (i : Int) (w : World) (hs : s.size ≤ 9223372036854775807) :
    Calls Tryd.prog 97 #[.string s, .int .i64 i] w fun e w' => e = .returned (.int .i64 (numI s.data.toList i)) ∧ Below w.heap.size w w' := by
  have hmf : ∀ (fn : Fn) (first cap : Array Value) (w : World), (Instr.makeFunc fn first cap).run Tryd.prog w = .ok (.func fn first cap) w := fun _ _ _ _ => rfl
  obtain ⟨a, ha⟩ : ∃ a, sgnI s.data.toList 45 i = a := ⟨_, rfl⟩
  obtain ⟨e1, he1⟩ : ∃ a1, behI dgB s.data.toList a = a1 := ⟨_, rfl⟩
  obtain ⟨b, hb⟩ : ∃ b, sgnI s.data.toList 46 e1 = b := ⟨_, rfl⟩
  obtain ⟨e2, he2⟩ : ∃ a2, behI dgB s.data.toList b = a2 := ⟨_, rfl⟩
  have hn : numI s.data.toList i = if a < e1 then if b < e2 then e2 else e1 else i := by
    unfold numI
    rw [ha, he1, hb, he2]
  have H1 : ∀ W p, W.cell? ⟨p, 0, none⟩ = some (.string s) → Calls Tryd.prog 102 #[.int .u8 45, .int .i64 i, .pointer (some ⟨p, 0, none⟩)] W fun e w' => e = .returned (.tuple #[.int .i64 e1, .bool (decide (a < e1))]) ∧ W = w' := by
    intro W p hc
    have h := num1_any s 45 i p W hs hc
    rw [ha, he1] at h
    exact h
  have H2 : ∀ W p, W.cell? ⟨p, 0, none⟩ = some (.string s) → Calls Tryd.prog 102 #[.int .u8 46, .int .i64 e1, .pointer (some ⟨p, 0, none⟩)] W fun e w' => e = .returned (.tuple #[.int .i64 e2, .bool (decide (b < e2))]) ∧ W = w' := by
    intro W p hc
    have h := num1_any s 46 e1 p W hs hc
    rw [hb, he2] at h
    exact h
  have HN := Lib.hid hn
  have K1 := Lib.hid H1
  have K2 := Lib.hid H2
  clear hn ha he1 hb he2 H1 H2
  by_cases h1 : a < e1
  · by_cases h2 : b < e2
    · have E := Lib.hid (show numI s.data.toList i = e2 by rw [HN.out, if_pos h1, if_pos h2])
      have d1 : decide (a < e1) = true := by simpa using h1
      have d2 : decide (b < e2) = true := by simpa using h2
      go_enter Tryd.func97, Tryd.ntmps97
      go_wp2_with fail
      go_at_call 102
      refine (K1.out _ _ (by simp)).mono ?_
      rintro e w' ⟨rfl, rfl⟩
      go_wp2_with fail
      go_at_call 102
      refine (K2.out _ _ (by simp)).mono ?_
      rintro e w' ⟨rfl, rfl⟩
      go_wp2_with fail
      go_ret
      exact ⟨ret_int E.out.symm, (Below.refl _ _).alloc (Nat.le_refl _) _⟩
    · have E := Lib.hid (show numI s.data.toList i = e1 by rw [HN.out, if_pos h1, if_neg h2])
      have d1 : decide (a < e1) = true := by simpa using h1
      have d2 : decide (b < e2) = false := by simpa using h2
      go_enter Tryd.func97, Tryd.ntmps97
      go_wp2_with fail
      go_at_call 102
      refine (K1.out _ _ (by simp)).mono ?_
      rintro e w' ⟨rfl, rfl⟩
      go_wp2_with fail
      go_at_call 102
      refine (K2.out _ _ (by simp)).mono ?_
      rintro e w' ⟨rfl, rfl⟩
      go_wp2_with fail
      go_ret
      exact ⟨ret_int E.out.symm, (Below.refl _ _).alloc (Nat.le_refl _) _⟩
  · have E := Lib.hid (show numI s.data.toList i = i by rw [HN.out, if_neg h1])
    have d1 : decide (a < e1) = false := by simpa using h1
    go_enter Tryd.func97, Tryd.ntmps97
    go_wp2_with fail
    go_at_call 102
    refine (K1.out _ _ (by simp)).mono ?_
    rintro e w' ⟨rfl, rfl⟩
    go_wp2_with fail
    go_ret
    exact ⟨ret_int E.out.symm, (Below.refl _ _).alloc (Nat.le_refl _) _⟩

def bigV (s : ByteArray) : Bool := !s.data.toList.isEmpty && (behI biB s.data.toList 0 == (s.size : Int))
theorem big_any (s : ByteArray) (w : World) (hs : s.size ≤ 9223372036854775807) :
    Calls Tryd.prog 84 #[.string s] w fun e w' => e = .returned (.bool (bigV s)) ∧ w = w' := by
  have hv : bigV s = (!s.toList.isEmpty && (behI biB s.data.toList 0 == (s.size : Int))) := by unfold bigV; rw [Lib.toList_data]
  have HV := Lib.hid hv
  clear hv
  go_enter Tryd.func84, Tryd.ntmps84
  go_wp2_with (go_at_call 58; refine (behind_bi _ _ _ hs).mono ?_; rintro e w' ⟨rfl, rfl⟩)
  all_goals
    go_ret
    exact ⟨ret_bool (by rw [HV.out] <;> simp [*]), rfl⟩
def isNameV (s : ByteArray) : Bool := !s.data.toList.isEmpty && (nameI s.data.toList 0 == (s.size : Int))
theorem isName_any (s : ByteArray) (w : World) (hs : s.size ≤ 9223372036854775807) :
    Calls Tryd.prog 25 #[.string s] w fun e w' => e = .returned (.bool (isNameV s)) ∧ w = w' := by
  have hv : isNameV s = (!s.toList.isEmpty && (nameI s.data.toList 0 == (s.size : Int))) := by unfold isNameV; rw [Lib.toList_data]
  have HV := Lib.hid hv
  clear hv
  go_enter Tryd.func25, Tryd.ntmps25
  go_wp2_with (go_at_call 39; refine (name_any _ _ _ hs).mono ?_; rintro e w' ⟨rfl, rfl⟩)
  all_goals
    go_ret
    exact ⟨ret_bool (by rw [HV.out] <;> simp [*]), rfl⟩
end Go.Proofs.YtbolmffldmegeaaDoor
