import Derived.Test.YtjgfijpgoffmlabDoorLawTrims
namespace Go.Proofs.YtjgfijpgoffmlabDoor
open Go.RowKit
set_option linter.unusedVariables false
set_option linter.unusedSimpArgs false

theorem rigTo (n : Bool) (s : ByteArray) (k : Nat) (hs : s.size ≤ 1000) (hk : k ≤ 1000) (h : decRightB s.data.toList (k : Int) = true) : RigTo n s k := by
  intro W
  have := right_any n s (k : Int) W (by unfold maxLen; omega) (by omega) (by omega)
  rw [h] at this
  exact this
theorem last_of (s : ByteArray) (h0 : 0 < s.size) (h : s.data.toList.getLast? ≠ some 48) : ((s[s.size - 1]'(by omega)).toNat : Int) ≠ 48 := by
  intro e
  apply h
  rw [List.getLast?_eq_getElem?, size_data, List.getElem?_eq_getElem (by rw [size_data]; omega)]
  have : s[s.size - 1]'(by omega) = 48 := UInt8.toNat_inj.mp (by show (s[s.size - 1]'(by omega)).toNat = 48; omega)
  exact congrArg some this

set_option maxHeartbeats 1000000 in
theorem lawTrims (n : Bool) (s : ByteArray) (sc x : Int) (w : World) (hsh : w.ShapedOpen Tryd.prog) (hs : s.size ≤ 9223372036854775807) (lo : -9223372036854775808 ≤ sc) (hi : sc ≤ 9223372036854775807) (hx0 : -9223372036854775808 ≤ x) (hx1 : x ≤ 9223372036854775807) :
    Calls Tryd.prog 6 #[.agg #[.bool n, .string s, .int .i64 sc], .int .i64 x] w fun e w' => e = .returned (.bool true) ∧ Below w.heap.size w w' := by
  by_cases hcase : ∃ k : Nat, sc = k ∧ Num s.data.toList k
  · obtain ⟨k, rfl, hN⟩ := hcase
    have h1 := hN.le
    have h2 := hN.lt
    rw [size_data] at h1 h2
    have hmx : max x 0 = ((x.toNat : Nat) : Int) := by omega
    have hpad := fun W => pad_any n s k x W (by omega) (by omega)
    have hpsz : (s ++ ⟨(List.replicate ((min x 40).toNat - k) 48).toArray⟩ : ByteArray).size ≤ 100 := by
      rw [← size_data]
      simp
      have := size_data s
      omega
    have hpl : (s ++ ⟨(List.replicate ((min x 40).toNat - k) 48).toArray⟩ : ByteArray).data.toList = s.data.toList ++ List.replicate ((min x 40).toNat - k) 48 := by simp
    have hpl2 : (s ++ ⟨(List.replicate ((min x 40).toNat - k) 48).toArray⟩ : ByteArray).size = s.size + ((min x 40).toNat - k) := by
      rw [← size_data, hpl, List.length_append, List.length_replicate, size_data]
    have hop : OfTo n (s ++ ⟨(List.replicate ((min x 40).toNat - k) 48).toArray⟩) (k + ((min x 40).toNat - k)) (fixF s.data.toList k) := fun W => by
      have := of_any n (s ++ ⟨(List.replicate ((min x 40).toNat - k) 48).toArray⟩) (k + ((min x 40).toNat - k)) W (by rw [hpl2]; omega) (by rw [hpl2]; omega) (by omega) (by
        rw [hpl, List.all_append, hN.digs, Bool.true_and, List.all_eq_true]
        intro c hc
        rw [(List.mem_replicate.1 hc).2]
        rfl)
      rw [hpl, fixF_pad] at this
      exact this
    have hrp : RigTo n (s ++ ⟨(List.replicate ((min x 40).toNat - k) 48).toArray⟩) (k + ((min x 40).toNat - k)) := rigTo _ _ _ (by omega) (by omega) (by rw [hpl]; exact pad_right _ _ _ hN)
    have hod : OfTo n s k (fixF s.data.toList k) := fun W => of_any n s k W (by omega) (by omega) (by omega) hN.digs
    have hpk : k + ((min x 40).toNat - k) = max k (min x.toNat 40) := by omega
    have htr := fun W => trim_any n s k x.toNat x W (by omega) (by omega) hmx
    by_cases hm : x.toNat < k
    · have hz := trimZ_le s.data.toList k x.toNat
      have htl : (s.extract 0 (s.size - trimZ s.data.toList k x.toNat)).data.toList = s.data.toList.take (s.data.toList.length - trimZ s.data.toList k x.toNat) := by rw [extract_take, size_data]
      have hts : (s.extract 0 (s.size - trimZ s.data.toList k x.toNat)).size = s.size - trimZ s.data.toList k x.toNat := by simp
      refine trims_core n s (s.extract 0 (s.size - trimZ s.data.toList k x.toNat)) _ k (k - trimZ s.data.toList k x.toNat) _ x.toNat (fixF s.data.toList k) x w hsh hx0 hx1 rfl hN (fun W => ?_) hpad hod (fun W => ?_) hop (rigTo _ _ _ (by rw [hts]; omega) (by omega) (by rw [htl]; exact trim_right _ _ _ hN hm)) hrp (by omega) (by omega) (fun h => ?_) (fun h => by omega) (by rw [hts]; omega) hpk
      · have := htr W
        rw [if_pos hm] at this
        exact this
      · have := of_any n (s.extract 0 (s.size - trimZ s.data.toList k x.toNat)) (k - trimZ s.data.toList k x.toNat) W (by rw [hts]; omega) (by rw [hts]; omega) (by omega) (by rw [htl]; exact all_take hN.digs _)
        rw [htl, trim_fix _ _ _ (by rw [size_data]; omega) hm] at this
        exact this
      · exact ⟨by rw [hts]; omega, last_of _ (by rw [hts]; omega) (by rw [htl]; exact trim_last _ _ _ (by rw [size_data]; omega) hm h)⟩
    · refine trims_core n s s _ k k _ x.toNat (fixF s.data.toList k) x w hsh hx0 hx1 rfl hN (fun W => ?_) hpad hod hod hop (rigTo _ _ _ (by omega) (by omega) ?_) hrp (by omega) (Nat.le_refl _) (fun h => absurd h hm) (fun _ => rfl) h1 hpk
      · have := htr W
        rw [if_neg hm] at this
        exact this
      · have := pad_right s.data.toList k 0 hN
        simpa using this
  · have hc := Lib.hid hcase
    clear hcase
    go_enter Tryd.func6, Tryd.ntmps6
    go_wp2_with fail
    go_at_call 8
    refine (head_any _ (shp_alloc hsh _)).mono ?_
    rintro e wh ⟨rfl, hbh⟩
    obtain ⟨hch, hfh⟩ := bcell hbh
    have yh : w.heap.size < wh.heap.size := by have := hbh.size; simp at this; omega
    go_wp2_with fail
    go_at_call 15
    refine (lawRight_any n s sc _ hs lo hi).mono ?_
    rintro e wr ⟨hr, hbr⟩
    rcases hr with rfl | ⟨k, rfl, hN, rfl⟩
    · go_wp2
      go_ret
      exact ⟨rfl, below_then (below_box hbh) (Nat.le_refl _) hbr⟩
    · exact absurd ⟨k, rfl, hN⟩ hc.out
end Go.Proofs.YtjgfijpgoffmlabDoor
