/-
  TextJoins: bytes side by side, cut where a sign begins, are decoded as the one and the other. Conditions: the program's own tables as its text lays them.
-/
import Derived.Test.YtgjbgfnchlogdaaDoorTJoin
namespace Go.Proofs.YtgjbgfnchlogdaaDoor
open Go.RowKit
set_option linter.unusedVariables false
set_option linter.unusedSimpArgs false

theorem decB_join (m : List UInt8) : ∀ (f : Nat) (l : List UInt8), l.length ≤ f → sigs f l ≠ none → decB (l ++ m) = decB l ++ decB m
  | 0, l, hk, _ => by
    have : l = [] := List.eq_nil_of_length_eq_zero (by omega)
    subst this
    rfl
  | f + 1, l, hk, h => by
    by_cases hne : l = []
    · subst hne; rfl
    · have hd := drop_len l hne
      have hw := decodeL_pos l
      rw [sigs_step f l hne] at h
      by_cases hbad : (Lib.decodeL l).1 = 65533 ∧ (Lib.decodeL l).2 ≤ 1
      · rw [if_pos hbad] at h; exact absurd rfl h
      · rw [if_neg hbad] at h
        have h' : sigs f (l.drop (Lib.decodeL l).2) ≠ none := by
          intro e; rw [e] at h; exact h rfl
        have ih := decB_join m f _ (by omega) h'
        have he := Lib.encode_decode l hne (fun e => hbad ⟨e.1, by omega⟩)
        have hl : l = Lib.encodeRune ((Lib.decodeL l).1 : Int) ++ l.drop (Lib.decodeL l).2 := by rw [he, List.take_append_drop]
        have hok := decodeL_ok l
        have e1 : decB (l ++ m) = decB (Lib.encodeRune ((Lib.decodeL l).1 : Int) ++ (l.drop (Lib.decodeL l).2 ++ m)) := by
          rw [← List.append_assoc, ← hl]
        rw [e1, decB_enc _ hok, ih, decB_step l hne, List.append_assoc]

set_option maxHeartbeats 4000000 in
set_option maxRecDepth 100000 in
theorem lawJoins (a : ByteArray) (A : Option Addr) (cap : Nat) (s : ByteArray) (w : World) (hT : TabU w) (ha : a.size ≤ 9223372036854775807) (hs : s.size ≤ 9223372036854775807) (hA : ArgB A s cap w)
    (hcv : ∀ W, Below w.heap.size w W → (convert 22 9 (.slice A s.size cap)).run Tryd.prog W = .ok (.string s) W) :
    Calls Tryd.prog 7 #[.string a, .slice A s.size cap] w fun e w' => e = .returned (.bool true) ∧ Below w.heap.size w w' := by
  have kb := fun (W : World) (x : ByteArray) => Lib.run_convert_string_bytes (P := Tryd.prog) W 9 22 5 x Tryd.underlying9 Tryd.underlying22 Tryd.underlying5
  have Hcv := Lib.hid hcv
  clear hcv
  go_enter Tryd.func7, Tryd.ntmps7
  go_wp2_with fail
  go_at_call 8
  refine (head_any _).mono ?_
  rintro e w1 ⟨rfl, b1⟩
  by_cases h300 : 300 < (a.size : Int)
  · go_wp2
    go_ret
    exact ⟨rfl, b1⟩
  by_cases k300 : 300 < (s.size : Int)
  · go_wp2
    go_ret
    exact ⟨rfl, b1⟩
  have hT1 := hT.below b1
  have hA1 := Lib.hid (hA.below b1)
  clear hT hA
  go_wp2_with fail
  go_at_call 13
  refine (signs_any a _ hT1 (by omega)).mono ?_
  rintro e w2 ⟨hse, b2⟩
  have B2 := b1.trans (b2.mono b1.size)
  rcases hse with ⟨hn, rfl⟩ | ⟨xs, v, hx, hxl, rfl, hown⟩
  · go_wp2
    go_ret
    exact ⟨rfl, B2⟩
  have hjoin : decB (a.data.toList ++ s.data.toList) = decB a.data.toList ++ decB s.data.toList := decB_join _ _ _ (Nat.le_refl _) (by unfold sigAll at hx; rw [hx]; exact fun h => by cases h)
  have Hjoin := Lib.hid hjoin
  have hA2 := hA1.out.below b2
  have HA2 := Lib.hid hA2
  have la := decB_length a.data.toList _ (Nat.le_refl _)
  have ls := decB_length s.data.toList _ (Nat.le_refl _)
  rw [size_data] at la ls
  clear hjoin hx hxl hown hT1 hA1 hA2 b1 b2
  go_wp2_with (at_builtin; refine wp_append_b rfl _ _ rfl w2 a s A cap rfl rfl HA2.out (by omega) (by omega) ?_)
  intro g cap' w3 hby hlt b3
  have B3 := B2.trans (b3.mono B2.size)
  have hsz : a.size + s.size = (a ++ s).size := (app_size a s).symm
  have hdec := decode_any (some ⟨g, 0, none⟩) cap' (a ++ s) w3 (by rw [← hsz]; omega) (fun W' hW' => conv_bytes (a ++ s) g cap' W' (bytes_below hby hlt hW'))
  rw [decAll_eq, app_data, Hjoin.out, ← hsz] at hdec
  have Hdec := Lib.hid hdec
  clear hdec hsz hby hlt
  go_wp2_with fail
  go_at_call 10
  refine Hdec.out.mono ?_
  rintro e w4 ⟨rfl, b4⟩
  have B4 := B3.trans (b4.mono B3.size)
  go_wp2_with fail
  go_at_call 10
  refine (decode_text _ a w4 (by omega)).mono ?_
  rintro e w5 ⟨rfl, b5⟩
  have B5 := B4.trans (b5.mono B4.size)
  go_wp2_with fail
  go_at_call 10
  refine (decode_any A cap s w5 (by omega) (fun W' hW' => Hcv.out W' (B5.trans (hW'.mono B5.size)))).mono ?_
  rw [decAll_eq]
  rintro e w6 ⟨rfl, b6⟩
  have B6 := B5.trans (b6.mono B5.size)
  have hcat : (⟨(decB a.data.toList).toArray⟩ : ByteArray) ++ ⟨(decB s.data.toList).toArray⟩ = ⟨(decB a.data.toList ++ decB s.data.toList).toArray⟩ := by
    apply bytes_eq
    rw [app_data]
  have z1 : ¬ 9223372036854775807 < ((⟨(decB a.data.toList).toArray⟩ : ByteArray).size + (⟨(decB s.data.toList).toArray⟩ : ByteArray).size) := by
    rw [size_mk, size_mk]; omega
  go_wp2
  go_ret
  exact ⟨rfl, B6⟩
end Go.Proofs.YtgjbgfnchlogdaaDoor
