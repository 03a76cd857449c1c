/-
  DecGroups: digits in groups are, group by group from the end, what the law reckons.
-/
import Derived.Test.YtggnmkagkdlgnacDoorA11
namespace Go.Proofs.YtggnmkagkdlgnacDoor
open Go.RowKit

theorem grp_step (l btw : List UInt8) (m : Nat) (hm : 0 < m) (hk : m + 3 ≤ l.length) (h3 : (l.length - (m + 3)) % 3 = 0) : grpTo l btw (m + 3) = grpTo l btw m ++ (btw ++ (l.drop m).take 3) := by
  have e0 := grpTo_yes l btw m hm (by omega)
  have e1 := grpTo_no l btw (m + 1) (by omega)
  have e2 := grpTo_no l btw (m + 2) (by omega)
  rw [show m + 3 = (m + 2) + 1 from rfl, e2, show m + 2 = (m + 1) + 1 from rfl, e1, e0]
  have t : (l.drop m).take 3 = [l.getD m 0, l.getD (m + 1) 0, l.getD (m + 2) 0] := by
    rw [List.drop_eq_getElem_cons (by omega), List.drop_eq_getElem_cons (by omega), List.drop_eq_getElem_cons (by omega)]
    simp only [List.take_succ_cons, List.take_zero]
    rw [getD_get l m (by omega), getD_get l (m + 1) (by omega), getD_get l (m + 2) (by omega)]
  rw [t]
  simp
theorem grp_small (l btw : List UInt8) : ∀ k, k ≤ 3 → k ≤ l.length → (l.length - k) % 3 = 0 → grpTo l btw k = l.take k := by
  have one : ∀ k, k ≤ l.length → (∀ j, j < k → ¬ (0 < j ∧ (l.length - j) % 3 = 0)) → grpTo l btw k = l.take k := by
    intro k
    induction k with
    | zero => intro _ _; simp [grpTo]
    | succ k ih =>
      intro hk hj
      rw [grpTo_no l btw k (hj k (by omega)), ih (by omega) (fun j h => hj j (by omega)), List.take_succ_eq_append_getElem (by omega), getD_get l k (by omega)]
  intro k h3 hk hm
  exact one k hk (fun j hj => by omega)

theorem digit_any (c : UInt8) (w : World) : Calls Tryd.prog 7 #[.int .u8 (c.toNat : Int)] w fun e w' => e = .returned (.bool (digB c)) ∧ w = w' := by
  by_cases h1 : (48 : Int) ≤ (c.toNat : Int)
  · go_enter Tryd.func7, Tryd.ntmps7
    go_wp2
    go_ret
    refine ⟨ret_bool ?_, rfl⟩
    rw [Bool.eq_iff_iff]
    simp [digB]
    omega
  · go_enter Tryd.func7, Tryd.ntmps7
    go_wp2
    go_ret
    refine ⟨ret_bool ?_, rfl⟩
    rw [Bool.eq_iff_iff]
    simp [digB]
    omega

def strLen : Value → Nat | .string b => b.size | _ => 0
def GroupTo (s t r : ByteArray) : Prop := ∀ W : World, Calls Tryd.prog 8 #[.string s, .string t] W fun e w' => e = .returned (.string r) ∧ Below W.heap.size W w'
theorem groupTo (s t : ByteArray) (h : s.size * (t.size + 1) ≤ 140737488355328) : GroupTo s t ⟨(grpTo s.data.toList t.data.toList s.size).toArray⟩ := fun W => group_any s t W h

theorem grp_rel (s t R T : ByteArray) (m : Nat) (hm : R.size = m + 3) (hpos : 0 < m) (ht : t.size ≤ 20) (hR : R.size ≤ s.size) (h3 : (s.size - R.size) % 3 = 0) (hRd : R.data.toList = s.data.toList.take R.size) (hT : T.size ≤ (s.size - R.size) * 24)
    (hg : grpTo s.data.toList t.data.toList s.size = grpTo s.data.toList t.data.toList R.size ++ T.data.toList) :
    (R.extract 0 m).size ≤ s.size ∧ (s.size - (R.extract 0 m).size) % 3 = 0 ∧ Hid ((R.extract 0 m).data.toList = s.data.toList.take (R.extract 0 m).size) ∧ (t ++ R.extract m (m + 3) ++ T).size ≤ (s.size - (R.extract 0 m).size) * 24 ∧
      Hid (grpTo s.data.toList t.data.toList s.size = grpTo s.data.toList t.data.toList (R.extract 0 m).size ++ (t ++ R.extract m (m + 3) ++ T).data.toList) := by
  have e1 : (R.extract 0 m).size = m := by rw [ByteArray.size_extract]; omega
  have e2 : (R.extract m (m + 3)).size = 3 := by rw [ByteArray.size_extract]; omega
  have e3 : (R.extract m (m + 3)).data.toList = (s.data.toList.drop m).take 3 := by
    rw [Lib.extract_data, hRd, hm, List.drop_take, List.take_take]
    congr 1
    omega
  rw [e1]
  refine ⟨by omega, by omega, ?_, ?_, ?_⟩
  · show _ = _
    rw [extract_take, hRd, List.take_take]
    congr 1
    omega
  · rw [ByteArray.size_append, ByteArray.size_append, e2]; omega
  · show _ = _
    rw [hg, hm, grp_step _ _ m hpos (by rw [size_data]; omega) (by rw [size_data]; omega), Joins.data_append, Joins.data_append, e3]
    simp

set_option maxHeartbeats 1000000 in
set_option maxRecDepth 100000 in
theorem lawGroups (s t : ByteArray) (w : World) (hsh : w.ShapedOpen Tryd.prog) (hms : s.size ≤ 9223372036854775807) (hmt : t.size ≤ 9223372036854775807) :
    Calls Tryd.prog 3 #[.string s, .string t] w fun e w' => e = .returned (.bool true) ∧ Below w.heap.size w w' := by
  by_cases hs : (100 : Int) < s.size
  · go_enter Tryd.func3, Tryd.ntmps3
    go_wp2_with (go_at_call 6; refine (head_any _ hsh).mono ?_; rintro e w1 ⟨rfl, hb1⟩)
    go_ret
    exact ⟨rfl, hb1⟩
  by_cases ht : (20 : Int) < t.size
  · go_enter Tryd.func3, Tryd.ntmps3
    go_wp2_with (go_at_call 6; refine (head_any _ hsh).mono ?_; rintro e w1 ⟨rfl, hb1⟩)
    go_ret
    exact ⟨rfl, hb1⟩
  have hs' : s.size ≤ 100 := by omega
  have ht' : t.size ≤ 20 := by omega
  have hmul : s.size * (t.size + 1) ≤ 140737488355328 := by
    have : s.size * (t.size + 1) ≤ 100 * 21 := Nat.mul_le_mul hs' (by omega)
    omega
  have Hg := groupTo s t hmul
  clear hmul
  go_enter Tryd.func3, Tryd.ntmps3
  go_wp2_with (go_at_call 6; refine (head_any _ hsh).mono ?_; rintro e w1 ⟨rfl, hb1⟩)
  go_loop [5] (fun i => ∃ k : Nat, k ≤ s.size ∧ i = .int .i64 k) (fun i => s.size - (intOf i).toNat)
  case atStart => exact ⟨0, Nat.zero_le _, rfl⟩
  case round =>
    obtain ⟨k, hk, rfl⟩ := hrel
    by_cases hlt : k < s.size
    · cases hd : digB s[k]
      · go_wp2_with (go_at_call 7; refine (digit_any s[k] _).mono ?_; rintro e w2 ⟨rfl, rfl⟩)
        go_ret
        exact ⟨rfl, hb1⟩
      · go_wp2_with (go_at_call 7; refine (digit_any s[k] _).mono ?_; rintro e w2 ⟨rfl, rfl⟩)
        go_round
        case rel => exact ⟨k + 1, by omega, by go_num⟩
        case measure => simp [intOf]; omega
    · clear hk
      go_wp2
      go_loop [6, 7] (fun want rest => ∃ R T : ByteArray, rest = .string R ∧ want = .string T ∧ R.size ≤ s.size ∧ (s.size - R.size) % 3 = 0 ∧ Hid (R.data.toList = s.data.toList.take R.size) ∧ T.size ≤ (s.size - R.size) * 24 ∧ Hid (grpTo s.data.toList t.data.toList s.size = grpTo s.data.toList t.data.toList R.size ++ T.data.toList)) (fun _ rest => strLen rest)
      case atStart => exact ⟨s, ByteArray.empty, rfl, rfl, Nat.le_refl _, by simp, by show _ = _; rw [← size_data, List.take_length], by simp, by show _ = _; simp⟩
      case round =>
        obtain ⟨R, T, rfl, rfl, hR, h3, hRd, hT, hg⟩ := hrel
        by_cases h : 3 < R.size
        · obtain ⟨m, hm⟩ : ∃ m, R.size = m + 3 := ⟨R.size - 3, by omega⟩
          have hi0 : (0 : Int) ≤ (R.size : Int) - 3 := by omega
          have hi1 : (R.size : Int) - 3 ≤ R.size := by omega
          have hi2 : (3 : Int) ≤ R.size := by omega
          have Hr := Lib.hid (grp_rel s t R T m hm (by omega) ht' hR h3 hRd hT hg)
          clear hRd hg
          go_wp2
          go_round
          case rel => exact ⟨_, _, rfl, rfl, Hr.out⟩
          case measure => simp only [strLen, ByteArray.size_extract]; omega
        · go_wp2_with (go_at_call 8; refine (Hg _).mono ?_; rintro e w2 ⟨rfl, hb2⟩)
          go_ret
          refine ⟨ret_bool ?_, below_then hb1 (Nat.le_refl _) hb2⟩
          rw [beq_iff_eq, hg, grp_small _ _ _ (by omega) (by rw [size_data]; exact hR) (by rw [size_data]; exact h3), ← hRd, Lib.toList_data, Joins.data_append]
end Go.Proofs.YtggnmkagkdlgnacDoor
