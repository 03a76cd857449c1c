/-
  Package plural: rules as functions: what a condition tells, and the conditions.
-/
import Derived.Test.YtglennfjeacpoaaGreatDoorA3
import Derived.Deep.QuietTactic
import Derived.BigQuiet
import Derived.Lib.TrimByte
namespace Go.Proofs.YtglennfjeacpoaaGreatDoor
open Go.RowKit
set_option linter.unusedVariables false

/-- A number as it is handed on. -/
def dv (n : Bool) (s : ByteArray) (k : Nat) : Value := .agg #[.bool n, .string s, .int .i64 k]
structure GoodD (s : ByteArray) (k : Nat) : Prop where
  le : s.size ≤ 100
  k : k ≤ s.size
  dig : s.data.toList.all digB = true
/-- A call of it enters it. -/
def Enters (N : FuncId) : Prop := ∀ (args : Array Value) (w : World), (callFunc N args).run Tryz.prog w = .ok (.enter N args) w
def CondC (N : FuncId) (caps : Array Value) (W : World) (p : ByteArray → Nat → Bool) : Prop :=
  ∀ W1, Below W.heap.size W W1 → ∀ n s k, GoodD s k → Calls Tryz.prog N (#[dv n s k] ++ caps) W1 fun e w' => e = .returned (.bool (p s k)) ∧ Below W1.heap.size W1 w'
/-- A function value that tells of a number whether p holds, now and later. -/
def CondV (fv : Value) (W : World) (p : ByteArray → Nat → Bool) : Prop := ∃ N caps, fv = .func (.func N) #[] caps ∧ Enters N ∧ CondC N caps W p
theorem CondV.later {fv : Value} {W W1 : World} {p : ByteArray → Nat → Bool} (h : CondV fv W p) (hb : Below W.heap.size W W1) : CondV fv W1 p := by
  obtain ⟨N, caps, rfl, he, hc⟩ := h
  exact ⟨N, caps, rfl, he, fun W2 hb2 => hc W2 (hb.trans (hb2.mono hb.size))⟩
theorem enters_of {N : FuncId} (h : Enters N) : Enters N := h

theorem hasScale_any (n : Bool) (s : ByteArray) (k : Nat) (w : World) : Calls Tryz.prog 187 #[dv n s k] w fun e w' => e = .returned (.bool ((k : Int) != 0)) ∧ Below w.heap.size w w' := by
  unfold dv
  go_enter Tryz.func187, Tryz.ntmps187
  go_wp2
  go_ret
  exact ⟨rfl, (Below.refl _ _).alloc (Nat.le_refl _) _⟩
theorem always_any (n : Bool) (s : ByteArray) (k : Nat) (w : World) : Calls Tryz.prog 188 #[dv n s k] w fun e w' => e = .returned (.bool true) ∧ Below w.heap.size w w' := by
  unfold dv
  go_enter Tryz.func188, Tryz.ntmps188
  go_wp2
  go_ret
  exact ⟨rfl, (Below.refl _ _).alloc (Nat.le_refl _) _⟩
theorem enters_not : Enters 217 := fun args w => by
  go_simp
theorem not1_any {fv : Value} {p : ByteArray → Nat → Bool} (b : Nat) (W : World) (hc : W.cell? ⟨b, 0, none⟩ = some fv) (hb : b < W.heap.size) (hf : CondV fv W p) :
    CondC 217 #[.pointer (some ⟨b, 0, none⟩)] W (fun s k => !p s k) := by
  intro W1 hb1 n s k hg
  obtain ⟨N, caps, rfl, he, hC⟩ := hf.later hb1
  have hc1 : W1.cell? ⟨b, 0, none⟩ = some (.func (.func N) #[] caps) := (hb1.cell (p := ⟨b, 0, none⟩) hb).trans hc
  have hCC := Lib.hid hC
  clear hC hf hc
  show Calls Tryz.prog 217 #[dv n s k, .pointer (some ⟨b, 0, none⟩)] W1 _
  have hb2 : b < W1.heap.size := Nat.lt_of_lt_of_le hb hb1.size
  unfold dv
  unfold Enters at he
  go_enter Tryz.func217, Tryz.ntmps217
  go_wp2_with fail
  refine (hCC.out _ ((Below.refl _ _).alloc (Nat.le_refl _) _) n s k hg).mono ?_
  rintro e w2 ⟨rfl, h2⟩
  go_wp2
  go_ret
  exact ⟨rfl, below_box h2⟩
theorem enters_both : Enters 220 := fun args w => by
  go_simp
set_option maxHeartbeats 1000000 in
theorem both1_any {fa fb : Value} {p q : ByteArray → Nat → Bool} (a b : Nat) (W : World) (hca : W.cell? ⟨a, 0, none⟩ = some fa) (hcb : W.cell? ⟨b, 0, none⟩ = some fb) (ha : a < W.heap.size) (hb : b < W.heap.size) (hfa : CondV fa W p) (hfb : CondV fb W q) :
    CondC 220 #[.pointer (some ⟨a, 0, none⟩), .pointer (some ⟨b, 0, none⟩)] W (fun s k => p s k && q s k) := by
  intro W1 hb1 n s k hg
  obtain ⟨N, caps, rfl, he, hC⟩ := hfa.later hb1
  obtain ⟨N', caps', rfl, he', hC'⟩ := hfb.later hb1
  have hc1 : W1.cell? ⟨a, 0, none⟩ = some (.func (.func N) #[] caps) := (hb1.cell (p := ⟨a, 0, none⟩) ha).trans hca
  have hc2 : W1.cell? ⟨b, 0, none⟩ = some (.func (.func N') #[] caps') := (hb1.cell (p := ⟨b, 0, none⟩) hb).trans hcb
  have hCC := Lib.hid hC
  have hCC' := Lib.hid hC'
  clear hC hC' hfa hfb hca hcb
  show Calls Tryz.prog 220 #[dv n s k, .pointer (some ⟨a, 0, none⟩), .pointer (some ⟨b, 0, none⟩)] W1 _
  have hb2 : b < W1.heap.size := Nat.lt_of_lt_of_le hb hb1.size
  have ha2 : a < W1.heap.size := Nat.lt_of_lt_of_le ha hb1.size
  unfold dv
  unfold Enters at he he'
  cases hp : p s k
  · have Hp := Lib.hid hp
    clear hp
    go_enter Tryz.func220, Tryz.ntmps220
    go_wp2_with fail
    refine (hCC.out _ ((Below.refl _ _).alloc (Nat.le_refl _) _) n s k hg).mono ?_
    rw [Hp.out]
    rintro e w2 ⟨rfl, h2⟩
    go_wp2
    go_ret
    exact ⟨ret_bool (by simp [Hp.out]), below_box h2⟩
  · have Hp := Lib.hid hp
    clear hp
    go_enter Tryz.func220, Tryz.ntmps220
    go_wp2_with fail
    refine (hCC.out _ ((Below.refl _ _).alloc (Nat.le_refl _) _) n s k hg).mono ?_
    rw [Hp.out]
    rintro e w2 ⟨rfl, h2⟩
    obtain ⟨hcc, hff⟩ := bcell h2
    have hb3 : b < W1.heap.size + 1 := by omega
    go_wp2_with fail
    refine (hCC'.out _ (below_box h2) n s k hg).mono ?_
    rintro e w3 ⟨rfl, h3⟩
    go_wp2
    go_ret
    exact ⟨ret_bool (by simp [Hp.out]), below_then (below_box h2) (Nat.le_refl _) h3⟩

/-- The digits ahead of the point. -/
def whB (s : ByteArray) (k : Nat) : ByteArray := s.extract 0 (s.size - k)
theorem whB_size (s : ByteArray) (k : Nat) : (whB s k).size = s.size - k := by unfold whB; rw [ByteArray.size_extract]; omega
theorem whB_all {s : ByteArray} {k : Nat} (h : s.data.toList.all digB = true) : (whB s k).data.toList.all digB = true := by
  unfold whB; rw [extract_take]; exact all_take h _
theorem whole_to (n : Bool) (s : ByteArray) (k : Nat) (w : World) (hg : GoodD s k) : Calls Tryz.prog 37 #[.agg #[.bool n, .string s, .int .i64 k]] w fun e w' => e = .returned (.string (whB s k)) ∧ Below w.heap.size w w' := by
  have := hg.le
  exact whole_any n s k w (by unfold maxLen; omega) hg.k
theorem enters_whole : Enters 218 := fun args w => by
  go_simp
/-- The digits ahead of the point without the noughts ahead of them. -/
def trW (s : ByteArray) (k : Nat) : ByteArray := ⟨(Lib.trimLeftB (whB s k).data.toList 48).toArray⟩
theorem trW_size (s : ByteArray) (k : Nat) : (trW s k).size ≤ s.size - k := by
  have h1 := size_mk (Lib.trimLeftB (whB s k).data.toList 48)
  have h2 : (Lib.trimLeftB (whB s k).data.toList 48).length ≤ (whB s k).data.toList.length := dropWhile_le _ _
  rw [size_data, whB_size] at h2
  unfold trW
  omega
set_option maxHeartbeats 1000000 in
theorem wholeIn1_any {fa : Value} {p : ByteArray → Nat → Bool} (a : Nat) (W : World) (hca : W.cell? ⟨a, 0, none⟩ = some fa) (ha : a < W.heap.size) (hfa : CondV fa W p) :
    CondC 218 #[.pointer (some ⟨a, 0, none⟩)] W (fun s k => decide ((trW s k).size ≤ 2) && p s k) := by
  intro W1 hb1 n s k hg
  obtain ⟨N, caps, rfl, he, hC⟩ := hfa.later hb1
  have hc1 : W1.cell? ⟨a, 0, none⟩ = some (.func (.func N) #[] caps) := (hb1.cell (p := ⟨a, 0, none⟩) ha).trans hca
  have hCC := Lib.hid hC
  clear hC hfa hca
  have hWh := fun W => whole_to n s k W hg
  have hTr := fun W => Tryz.strings_TrimLeft_one (whB s k) 48 (by decide) W
  have hsz := trW_size s k
  have := hg.le
  have hle : (trW s k).size ≤ 100 := by omega
  obtain ⟨T, hT⟩ : ∃ T, trW s k = T := ⟨_, rfl⟩
  have hT' := hT
  unfold trW at hT'
  rw [hT'] at hTr
  rw [hT] at hle
  generalize whB s k = H at *
  have HT := Lib.hid hT
  have HTr := Lib.hid hTr
  clear hsz hT hT' hTr
  show Calls Tryz.prog 218 #[dv n s k, .pointer (some ⟨a, 0, none⟩)] W1 _
  have ha2 : a < W1.heap.size := Nat.lt_of_lt_of_le ha hb1.size
  have ha3 : a < W1.heap.size + 1 := by omega
  unfold dv
  unfold Enters at he
  by_cases h2 : T.size ≤ 2
  · have hd : decide (T.size ≤ 2) = true := decide_eq_true h2
    have hd' : decide ((T.size : Int) ≤ 2) = true := decide_eq_true (by omega)
    have HW := Lib.hid hWh
    clear hWh
    go_enter Tryz.func218, Tryz.ntmps218
    go_wp2_with fail
    go_at_call 37
    refine (HW.out _).mono ?_
    rintro e w2 ⟨rfl, hw2⟩
    obtain ⟨hcc, hff⟩ := bcell hw2
    go_wp2_with fail
    go_at_call 93
    refine (HTr.out _).mono ?_
    rintro e w2' ⟨rfl, rfl⟩
    go_wp2_with fail
    refine (hCC.out _ (below_box hw2) n s k hg).mono ?_
    rintro e w3 ⟨rfl, h3⟩
    go_wp2
    go_ret
    exact ⟨ret_bool (by simp [HT.out, h2]), below_then (below_box hw2) (Nat.le_refl _) h3⟩
  · have hd : decide (T.size ≤ 2) = false := decide_eq_false h2
    have hd' : decide ((T.size : Int) ≤ 2) = false := decide_eq_false (by omega)
    have HW := Lib.hid hWh
    clear hWh
    go_enter Tryz.func218, Tryz.ntmps218
    go_wp2_with fail
    go_at_call 37
    refine (HW.out _).mono ?_
    rintro e w2 ⟨rfl, hw2⟩
    obtain ⟨hcc, hff⟩ := bcell hw2
    go_wp2_with fail
    go_at_call 93
    refine (HTr.out _).mono ?_
    rintro e w2' ⟨rfl, rfl⟩
    go_wp2
    go_ret
    exact ⟨ret_bool (by simp [HT.out, h2]), below_box hw2⟩
end Go.Proofs.YtglennfjeacpoaaGreatDoor
