/-
  TextRights: whatever text: whether it is made of signs alone, without carriage returns; what is decoded is so, and decoded again it stays. Conditions: the program's own tables as its text lays them.
-/
import Derived.Test.YtgjbgfnchlogdaaDoorTMath2
namespace Go.Proofs.YtgjbgfnchlogdaaDoor
open Go.RowKit
set_option linter.unusedVariables false
set_option linter.unusedSimpArgs false

theorem bytes_new (w : World) (s : ByteArray) : Lib.Bytes (Lib.bytesWorld w 5 s) w.heap.size 0 s := fun i hi => by
  rw [Nat.zero_add, Lib.bytesWorld_cell w 5 s i hi, List.getD_eq_getElem?_getD, List.getElem?_eq_getElem (by rw [size_data]; exact hi)]
  rfl
theorem below_bytes {B : Nat} {w : World} (hB : B ≤ w.heap.size) (s : ByteArray) : Below B w (Lib.bytesWorld w 5 s) :=
  ⟨rfl, rfl, rfl, by rw [Lib.bytesWorld_size]; omega, fun k hk => Lib.bytesWorld_at_old w 5 s k (by omega)⟩
/-- Decode of a text's own bytes. -/
theorem decode_text (cap : Nat) (s : ByteArray) (W : World) (hs : s.size ≤ 100000) :
    Calls Tryd.prog 10 #[.slice (some ⟨W.heap.size, 0, none⟩) s.size cap] (Lib.bytesWorld W 5 s) fun e w' => e = .returned (.string ⟨(decB s.data.toList).toArray⟩) ∧ Below W.heap.size W w' := by
  have hb := below_bytes (w := W) (Nat.le_refl _) s
  have hl : W.heap.size < (Lib.bytesWorld W 5 s).heap.size := by rw [Lib.bytesWorld_size]; omega
  have h := decode_any (some ⟨W.heap.size, 0, none⟩) cap s (Lib.bytesWorld W 5 s) (by omega) (fun W' hW' => conv_bytes s W.heap.size cap W' (bytes_below (bytes_new W s) hl hW'))
  rw [decAll_eq] at h
  exact h.mono (fun e w' ⟨h1, h2⟩ => ⟨h1, hb.trans (h2.mono (by omega))⟩)

set_option maxHeartbeats 4000000 in
set_option maxRecDepth 100000 in
theorem lawRights (s : ByteArray) (w : World) (hT : TabU w) (hs : s.size ≤ 9223372036854775807) :
    Calls Tryd.prog 4 #[.string s] w fun e w' => e = .returned (.bool true) ∧ Below w.heap.size w w' := by
  have kb := fun (W : World) (x : ByteArray) => Lib.run_convert_string_bytes (P := Tryd.prog) W 9 22 5 x Tryd.underlying9 Tryd.underlying22 Tryd.underlying5
  go_enter Tryd.func4, Tryd.ntmps4
  go_wp2_with fail
  go_at_call 8
  refine (head_any _).mono ?_
  rintro e w1 ⟨rfl, b1⟩
  by_cases h300 : 300 < (s.size : Int)
  · go_wp2
    go_ret
    exact ⟨rfl, b1⟩
  have hT1 := Lib.hid (hT.below b1)
  have hTw := Lib.hid hT
  clear hT
  have hR := fun W => right_any s W (by omega)
  rw [rightAll_eq] at hR
  obtain ⟨d, hd⟩ : ∃ d : ByteArray, d = ⟨(decB s.data.toList).toArray⟩ := ⟨_, rfl⟩
  have hdl : d.data.toList = decB s.data.toList := by rw [hd]
  have hds : d.size ≤ 100000 := by
    rw [← size_data, hdl]
    have := decB_length s.data.toList _ (Nat.le_refl _)
    rw [size_data] at this
    omega
  have hdr : rightS d.data.toList = true := by rw [rightS_eq, hdl]; exact rightD_decB _ _ (Nat.le_refl _) _
  have hdd : decB d.data.toList = d.data.toList := by rw [hdl]; exact decB_idem _ _ (Nat.le_refl _)
  have hRd := fun W => right_any d W (by omega)
  rw [rightAll_eq, hdr] at hRd
  have hLd := fun W hT => lright_any d W hT hds
  rw [hdr] at hLd
  have hLs := fun W hT => lright_any s W hT (by omega)
  have hsame : rightS s.data.toList = true → d = s := fun h => by
    apply bytes_eq
    rw [hdl]
    rw [rightS_eq] at h
    exact decB_right _ _ (Nat.le_refl _) h
  have Hsame := Lib.hid hsame
  have Hd := Lib.hid hd
  have Hdd := Lib.hid hdd
  generalize rightS s.data.toList = R at *
  have hRR : (R != R) = false := bne_self_eq_false R
  clear hsame hd hdd hdr hdl
  go_wp2_with fail
  go_at_call 11
  refine (hR _).mono ?_
  rintro e w2 ⟨rfl, b2⟩
  have B2 := b1.trans (b2.mono b1.size)
  have hT2 := hTw.out.below B2
  go_wp2_with fail
  go_at_call 12
  refine (hLs _ hT2).mono ?_
  rintro e w3 ⟨rfl, b3⟩
  have B3 := B2.trans (b3.mono B2.size)
  clear hT2
  go_wp2_with fail
  go_at_call 10
  refine (decode_text _ s w3 (by omega)).mono ?_
  rw [← Hd.out]
  rintro e w4 ⟨rfl, b4⟩
  have B4 := B3.trans (b4.mono B3.size)
  have hT4 := hTw.out.below B4
  go_wp2_with fail
  go_at_call 12
  refine (hLd _ hT4).mono ?_
  rintro e w5 ⟨rfl, b5⟩
  have B5 := B4.trans (b5.mono B4.size)
  clear hT4
  go_wp2_with fail
  go_at_call 11
  refine (hRd _).mono ?_
  rintro e w6 ⟨rfl, b6⟩
  have B6 := B5.trans (b6.mono B5.size)
  go_wp2_with fail
  go_at_call 10
  refine (decode_text _ d w6 hds).mono ?_
  have hdx : (⟨(decB d.data.toList).toArray⟩ : ByteArray) = d := by
    rw [Hdd.out]
  rw [hdx]
  rintro e w7 ⟨rfl, b7⟩
  have B7 := B6.trans (b7.mono B6.size)
  clear hdx
  go_wp2_with fail
  go_at_call 11
  refine (hR _).mono ?_
  rintro e w8 ⟨rfl, b8⟩
  have B8 := B7.trans (b8.mono B7.size)
  cases R
  · go_wp2
    go_ret
    exact ⟨rfl, B8⟩
  · have hds' := Hsame.out rfl
    clear Hsame
    subst hds'
    go_wp2
    go_ret
    exact ⟨rfl, B8⟩
end Go.Proofs.YtgjbgfnchlogdaaDoor
