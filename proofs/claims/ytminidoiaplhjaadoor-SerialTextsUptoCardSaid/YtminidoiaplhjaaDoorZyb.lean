/-
  Law 10: an expression that refers, with its arguments, as a text (by bin/gen_zyb.py).
-/
import Derived.Test.YtminidoiaplhjaaDoorZya
namespace Go.Proofs.YtminidoiaplhjaaDoor
open Go.RowKit
set_option linter.unusedVariables false
set_option linter.unusedSimpArgs false

theorem asTo_succ (m : Nat) (al : List AR) (j : Nat) (n : ByteArray) (e : EX) (h : al[j]? = some (.mk n e)) : asTo m al (j + 1) = asTo m al j ++ (nameG (j == 0) n ++ exT m e) := by rw [asTo, h]
theorem ar_sz : ∀ (l : List AR) (j : Nat) (n : ByteArray) (e : EX), l[j]? = some (.mk n e) → n.size + e.size ≤ sizeAs l
  | [], j, n, e, h => by simp at h
  | .mk n' e' :: r, 0, n, e, h => by
    simp at h
    obtain ⟨rfl, rfl⟩ := h
    rw [sizeAs]; omega
  | .mk n' e' :: r, j + 1, n, e, h => by
    have := ar_sz r j n e (by simpa using h)
    rw [sizeAs]; omega
set_option maxHeartbeats 4000000 in
set_option maxRecDepth 100000 in
theorem lexpr_ref {W0 : World} {m : Nat} (k : Int) (t n a : ByteArray) (al : List AR) (i : Option EX) (vs : List VA) (hk : k = 3 ∨ k = 4 ∨ k = 5) (hz : sizeAs al ≤ 4000000) (hE : ∀ (j : Nat) (nm : ByteArray) (e : EX), al[j]? = some (.mk nm e) → LiTo W0 m e) : LiTo W0 m (.mk k t n a al i vs) := by
  intro c w hx hW hn
  have hx' := hx
  obtain ⟨A1, c1, p, A2, c2, rfl, _, _⟩ := exAt_parts hx
  have hvl : LieAt (AsAt W0 al) (.slice A1 al.length c1) al.length := by
    rw [ExAt] at hx'
    exact hx'.2.2.2.2.1
  rw [exT] at hn ⊢
  unfold inlG at hn ⊢
  rw [if_neg (by omega), if_neg (by omega), if_neg (by omega), if_neg (by omega)] at hn ⊢
  have HB0 := Lib.hid ((Below.refl w.heap.size w).alloc (Nat.le_refl _) (.cells #[.int .i64 k, .string t, .string n, .string a, .slice A1 al.length c1, .pointer p, .slice A2 vs.length c2] 37))
  have C0 := Lib.hid (BoxAt.new w #[.int .i64 k, .string t, .string n, .string a, .slice A1 al.length c1, .pointer p, .slice A2 vs.length c2] 37)
  have HV := Lib.hid hvl
  have HE := Lib.hid hE
  have HZ := Lib.hid hz
  have HW := Lib.hid hW
  have HN := Lib.hid hn
  have hll := sizeAs_length al
  have hl0 : (al.length : Int) ≤ 4000000 := by omega
  obtain ⟨em, hem⟩ : ∃ g, emp a = g := ⟨_, rfl⟩
  have hem2 : a.toList.isEmpty = em := hem
  obtain ⟨bl, hbl⟩ : ∃ x, decide (al.length = 0) = x := ⟨_, rfl⟩
  have hbe : al.isEmpty = bl := by rw [← hbl]; cases al <;> simp
  have hbl2 : ((al.length : Int) == 0) = bl := by rw [← hbl]; cases al <;> simp <;> omega
  have HRg : Hid (refG k n a = (if k = 4 then [45] else []) ++ (n.data.toList ++ (if em = true then [] else 46 :: a.data.toList))) := by unfold Hid refG; rw [hem]
  rw [hbe, HRg.out] at HN ⊢
  dsimp only
  clear hx hx' hvl hE hz hW hn hll hem hbe HRg
  rcases hk with rfl | rfl | rfl
  · cases em
    · cases bl
      · rw [if_neg (by decide), if_neg (by simp), if_neg (by simp)] at HN ⊢
        have hsz := HN.out
        simp only [List.length_append, List.length_cons, List.length_nil, size_data] at hsz
        have g1 : ¬ 9223372036854775807 < n.size + 1 := by omega
        have g2 : ¬ 9223372036854775807 < n.size + 1 + a.size := by omega
        have g3 : ¬ 9223372036854775807 < n.size + 1 + a.size + 1 := by omega
        obtain ⟨RR, hRR⟩ : ∃ RR, ([] ++ (n.data.toList ++ (46 :: a.data.toList))) ++ ([40] : List UInt8) = RR := ⟨_, rfl⟩
        have HRl := Lib.hid (show RR.length + (asT m true al).length + 1 ≤ 140737488355328 by rw [← hRR]; simp only [List.length_append, List.length_cons, List.length_nil, size_data]; omega)
        have HRR := Lib.hid hRR
        clear hsz hRR
        go_enter Tryd.func32, Tryd.ntmps32
        go_wp2
        go_loopw [5, 62] (fun t5 t62 wr => ∃ (j : Nat) (S : ByteArray), t62 = .int .i64 j ∧ t5 = .string S ∧ j ≤ al.length ∧ Hid (S.data.toList = RR ++ asTo m al j) ∧ Hid (Below w.heap.size w wr)) (fun _ t62 _ => al.length - (intOf t62).toNat)
        case atStart => exact ⟨0, _, rfl, rfl, Nat.zero_le _, Lib.hid (by rw [← HRR.out, asTo]; simp), HB0⟩
        case round =>
          obtain ⟨j, S, rfl, rfl, hj, HS, HB⟩ := hrel
          have hj0 : (j : Int) ≤ 4000000 := by omega
          have hjn : (0 : Int) ≤ (j : Int) := by omega
          by_cases hlt : j < al.length
          · have d1 : decide ((j : Int) < (al.length : Int)) = true := decide_eq_true (by omega)
            have d2 : (j : Int) < (al.length : Int) := by omega
            obtain ⟨b, o, cc, hv, hb, hcs⟩ := args_get HV.out hlt
            cases hv
            obtain ⟨nm, e, he⟩ : ∃ nm e, al[j]? = some (.mk nm e) := by
              cases q : al[j] with
              | mk nm e => exact ⟨nm, e, by rw [List.getElem?_eq_getElem hlt, q]⟩
            obtain ⟨c0, c7, hc7, hx7⟩ := hcs j nm e he
            have hbel : Below W0.heap.size W0 wr := HW.out.trans (HB.out.mono HW.out.size)
            have hsh := ex_shape hx7
            obtain ⟨k2, t2, n3, a2, B1, m1, q1, p2, B2, m2, q2, rfl⟩ := hsh
            rw [← hbel.cell (p := ⟨b, o + j * 8, none⟩) hb] at c0
            obtain ⟨x0, x1, x2, x3, x4, x5, x6⟩ := hc7.under hb hbel
            dsimp only at x0 x1 x2 x3 x4 x5 x6
            have hbw : b < wr.heap.size := Nat.lt_of_lt_of_le hb hbel.size
            have hsu := asTo_succ m al j nm e he
            have hle := asTo_le m al (j + 1) hlt
            rw [hsu] at hle
            have hR := HRl.out
            have hsz : S.size = RR.length + (asTo m al j).length := by rw [← size_data, HS.out, List.length_append]
            simp only [List.length_append] at hle
            have hel : (exT m e).length ≤ 140737488355328 := by omega
            have hnl : (nameG (j == 0) nm).length = (if j = 0 then 0 else 2) + (if emp nm then 0 else nm.size + 2) := by
              unfold nameG
              by_cases h : j = 0
              · subst h; simp; split <;> simp
              · have : (j == 0) = false := by rw [beq_eq_false_iff_ne]; exact h
                rw [this, if_neg h]; simp; split <;> simp <;> omega
            rw [hnl] at hle
            obtain ⟨T, hT⟩ : ∃ T, exT m e = T := ⟨_, rfl⟩
            have hcall := HE.out j nm e he _ (wr.alloc (.cells #[.string nm, .int .i64 k2, .string t2, .string n3, .string a2, .slice B1 m1 q1, .pointer p2, .slice B2 m2 q2] 75)) hx7 (hbel.alloc hbel.size _) hel
            dsimp only at hcall
            rw [hT] at hcall hsu hle
            have HC := Lib.hid hcall
            obtain ⟨en, hen⟩ : ∃ g, emp nm = g := ⟨_, rfl⟩
            have hen2 : nm.toList.isEmpty = en := hen
            rw [hen] at hle
            have Hsu := Lib.hid (show asTo m al (j + 1) = asTo m al j ++ ((if j = 0 then [] else [44, 32]) ++ ((if en = true then [] else nm.data.toList ++ [58, 32]) ++ T)) by
              rw [hsu]
              unfold nameG
              rw [hen]
              by_cases h : j = 0
              · subst h; simp
              · have : (j == 0) = false := by rw [beq_eq_false_iff_ne]; exact h
                rw [this, if_neg h]; simp)
            have hTs := size_mk T
            clear hcs hc7 hx7 hbel he hsu hel hnl hcall hT hen
            by_cases hz : j = 0
            · have z1 : decide (0 < j) = false := decide_eq_false (by omega)
              have z2 : ¬ 0 < j := by omega
              rw [if_pos hz] at hle
              have Hs2 := Lib.hid (show asTo m al (j + 1) = asTo m al j ++ ((if en = true then [] else nm.data.toList ++ [58, 32]) ++ T) by rw [Hsu.out, if_pos hz]; rfl)
              clear hz Hsu
              cases en
              · rw [if_neg (by simp)] at hle
                have g1 : ¬ 9223372036854775807 < S.size + nm.size := by omega
                have g2 : ¬ 9223372036854775807 < S.size + nm.size + 2 := by omega
                have g3 : ¬ 9223372036854775807 < S.size + nm.size + 2 + (⟨T.toArray⟩ : ByteArray).size := by omega
                have g4 : ¬ 9223372036854775807 < S.size + nm.size + 2 + T.length := by omega
                clear hle hsz hTs hR
                go_wp2_with fail
                go_at_call 32
                refine HC.out.mono ?_
                rintro x w2 ⟨rfl, hb2⟩
                have HB2 := Lib.hid (HB.out.trans ((below_box hb2).mono HB.out.size))
                clear hb2
                go_wp2
                go_roundw
                case rel =>
                  refine ⟨j + 1, _, by go_num, rfl, hlt, Lib.hid ?_, HB2⟩
                  have h1 := HS.out
                  rw [Hs2.out, ← List.append_assoc RR, ← h1]
                  simp
                case measure => simp [intOf]; omega
              · rw [if_pos rfl] at hle
                have g3 : ¬ 9223372036854775807 < S.size + (⟨T.toArray⟩ : ByteArray).size := by omega
                have g4 : ¬ 9223372036854775807 < S.size + T.length := by omega
                clear hle hsz hTs hR
                go_wp2_with fail
                go_at_call 32
                refine HC.out.mono ?_
                rintro x w2 ⟨rfl, hb2⟩
                have HB2 := Lib.hid (HB.out.trans ((below_box hb2).mono HB.out.size))
                clear hb2
                go_wp2
                go_roundw
                case rel =>
                  refine ⟨j + 1, _, by go_num, rfl, hlt, Lib.hid ?_, HB2⟩
                  have h1 := HS.out
                  rw [Hs2.out, ← List.append_assoc RR, ← h1]
                  simp
                case measure => simp [intOf]; omega
            · have z1 : decide (0 < j) = true := decide_eq_true (by omega)
              have z2 : 0 < j := by omega
              rw [if_neg hz] at hle
              have Hs2 := Lib.hid (show asTo m al (j + 1) = asTo m al j ++ ([44, 32] ++ ((if en = true then [] else nm.data.toList ++ [58, 32]) ++ T)) by rw [Hsu.out, if_neg hz])
              clear hz Hsu
              have g0 : ¬ 9223372036854775807 < S.size + 2 := by omega
              cases en
              · rw [if_neg (by simp)] at hle
                have g1 : ¬ 9223372036854775807 < S.size + 2 + nm.size := by omega
                have g2 : ¬ 9223372036854775807 < S.size + 2 + nm.size + 2 := by omega
                have g3 : ¬ 9223372036854775807 < S.size + 2 + nm.size + 2 + (⟨T.toArray⟩ : ByteArray).size := by omega
                have g4 : ¬ 9223372036854775807 < S.size + 2 + nm.size + 2 + T.length := by omega
                clear hle hsz hTs hR
                go_wp2_with fail
                go_at_call 32
                refine HC.out.mono ?_
                rintro x w2 ⟨rfl, hb2⟩
                have HB2 := Lib.hid (HB.out.trans ((below_box hb2).mono HB.out.size))
                clear hb2
                go_wp2
                go_roundw
                case rel =>
                  refine ⟨j + 1, _, by go_num, rfl, hlt, Lib.hid ?_, HB2⟩
                  have h1 := HS.out
                  rw [Hs2.out, ← List.append_assoc RR, ← h1]
                  simp
                case measure => simp [intOf]; omega
              · rw [if_pos rfl] at hle
                have g3 : ¬ 9223372036854775807 < S.size + 2 + (⟨T.toArray⟩ : ByteArray).size := by omega
                have g4 : ¬ 9223372036854775807 < S.size + 2 + T.length := by omega
                clear hle hsz hTs hR
                go_wp2_with fail
                go_at_call 32
                refine HC.out.mono ?_
                rintro x w2 ⟨rfl, hb2⟩
                have HB2 := Lib.hid (HB.out.trans ((below_box hb2).mono HB.out.size))
                clear hb2
                go_wp2
                go_roundw
                case rel =>
                  refine ⟨j + 1, _, by go_num, rfl, hlt, Lib.hid ?_, HB2⟩
                  have h1 := HS.out
                  rw [Hs2.out, ← List.append_assoc RR, ← h1]
                  simp
                case measure => simp [intOf]; omega
          · obtain rfl : j = al.length := by omega
            have d1 : decide ((al.length : Int) < (al.length : Int)) = false := decide_eq_false (by omega)
            have hS := HS.out
            rw [asTo_end] at hS
            have hR := HRl.out
            have g5 : ¬ 9223372036854775807 < S.size + 1 := by
              have := congrArg List.length hS
              rw [size_data, List.length_append] at this
              omega
            have HS2 := Lib.hid hS
            clear hS hR
            go_wp2
            go_ret
            refine ⟨ret_str ?_, HB.out⟩
            apply bytes_eq
            have h1 := HS2.out
            have h2 := HRR.out
            simp only [ByteArray.data_append, Array.toList_append, List.append_assoc] at h1 h2 ⊢
            rw [h1, ← h2]
            simp
      · rw [if_neg (by decide), if_neg (by simp), if_pos ⟨by decide, rfl⟩] at HN ⊢
        have hsz := HN.out
        simp only [List.length_append, List.length_cons, List.length_nil, size_data] at hsz
        have g1 : ¬ 9223372036854775807 < n.size + 1 := by omega
        have g2 : ¬ 9223372036854775807 < n.size + 1 + a.size := by omega
        clear hsz
        go_enter Tryd.func32, Tryd.ntmps32
        go_wp2
        go_ret
        exact ⟨ret_str (by apply bytes_eq; simp), HB0.out⟩
    · cases bl
      · rw [if_neg (by decide), if_pos rfl, if_neg (by simp)] at HN ⊢
        have hsz := HN.out
        simp only [List.length_append, List.length_cons, List.length_nil, size_data] at hsz
        have g3 : ¬ 9223372036854775807 < n.size + 1 := by omega
        obtain ⟨RR, hRR⟩ : ∃ RR, ([] ++ (n.data.toList ++ ([]))) ++ ([40] : List UInt8) = RR := ⟨_, rfl⟩
        have HRl := Lib.hid (show RR.length + (asT m true al).length + 1 ≤ 140737488355328 by rw [← hRR]; simp only [List.length_append, List.length_cons, List.length_nil, size_data]; omega)
        have HRR := Lib.hid hRR
        clear hsz hRR
        go_enter Tryd.func32, Tryd.ntmps32
        go_wp2
        go_loopw [5, 62] (fun t5 t62 wr => ∃ (j : Nat) (S : ByteArray), t62 = .int .i64 j ∧ t5 = .string S ∧ j ≤ al.length ∧ Hid (S.data.toList = RR ++ asTo m al j) ∧ Hid (Below w.heap.size w wr)) (fun _ t62 _ => al.length - (intOf t62).toNat)
        case atStart => exact ⟨0, _, rfl, rfl, Nat.zero_le _, Lib.hid (by rw [← HRR.out, asTo]; simp), HB0⟩
        case round =>
          obtain ⟨j, S, rfl, rfl, hj, HS, HB⟩ := hrel
          have hj0 : (j : Int) ≤ 4000000 := by omega
          have hjn : (0 : Int) ≤ (j : Int) := by omega
          by_cases hlt : j < al.length
          · have d1 : decide ((j : Int) < (al.length : Int)) = true := decide_eq_true (by omega)
            have d2 : (j : Int) < (al.length : Int) := by omega
            obtain ⟨b, o, cc, hv, hb, hcs⟩ := args_get HV.out hlt
            cases hv
            obtain ⟨nm, e, he⟩ : ∃ nm e, al[j]? = some (.mk nm e) := by
              cases q : al[j] with
              | mk nm e => exact ⟨nm, e, by rw [List.getElem?_eq_getElem hlt, q]⟩
            obtain ⟨c0, c7, hc7, hx7⟩ := hcs j nm e he
            have hbel : Below W0.heap.size W0 wr := HW.out.trans (HB.out.mono HW.out.size)
            have hsh := ex_shape hx7
            obtain ⟨k2, t2, n3, a2, B1, m1, q1, p2, B2, m2, q2, rfl⟩ := hsh
            rw [← hbel.cell (p := ⟨b, o + j * 8, none⟩) hb] at c0
            obtain ⟨x0, x1, x2, x3, x4, x5, x6⟩ := hc7.under hb hbel
            dsimp only at x0 x1 x2 x3 x4 x5 x6
            have hbw : b < wr.heap.size := Nat.lt_of_lt_of_le hb hbel.size
            have hsu := asTo_succ m al j nm e he
            have hle := asTo_le m al (j + 1) hlt
            rw [hsu] at hle
            have hR := HRl.out
            have hsz : S.size = RR.length + (asTo m al j).length := by rw [← size_data, HS.out, List.length_append]
            simp only [List.length_append] at hle
            have hel : (exT m e).length ≤ 140737488355328 := by omega
            have hnl : (nameG (j == 0) nm).length = (if j = 0 then 0 else 2) + (if emp nm then 0 else nm.size + 2) := by
              unfold nameG
              by_cases h : j = 0
              · subst h; simp; split <;> simp
              · have : (j == 0) = false := by rw [beq_eq_false_iff_ne]; exact h
                rw [this, if_neg h]; simp; split <;> simp <;> omega
            rw [hnl] at hle
            obtain ⟨T, hT⟩ : ∃ T, exT m e = T := ⟨_, rfl⟩
            have hcall := HE.out j nm e he _ (wr.alloc (.cells #[.string nm, .int .i64 k2, .string t2, .string n3, .string a2, .slice B1 m1 q1, .pointer p2, .slice B2 m2 q2] 75)) hx7 (hbel.alloc hbel.size _) hel
            dsimp only at hcall
            rw [hT] at hcall hsu hle
            have HC := Lib.hid hcall
            obtain ⟨en, hen⟩ : ∃ g, emp nm = g := ⟨_, rfl⟩
            have hen2 : nm.toList.isEmpty = en := hen
            rw [hen] at hle
            have Hsu := Lib.hid (show asTo m al (j + 1) = asTo m al j ++ ((if j = 0 then [] else [44, 32]) ++ ((if en = true then [] else nm.data.toList ++ [58, 32]) ++ T)) by
              rw [hsu]
              unfold nameG
              rw [hen]
              by_cases h : j = 0
              · subst h; simp
              · have : (j == 0) = false := by rw [beq_eq_false_iff_ne]; exact h
                rw [this, if_neg h]; simp)
            have hTs := size_mk T
            clear hcs hc7 hx7 hbel he hsu hel hnl hcall hT hen
            by_cases hz : j = 0
            · have z1 : decide (0 < j) = false := decide_eq_false (by omega)
              have z2 : ¬ 0 < j := by omega
              rw [if_pos hz] at hle
              have Hs2 := Lib.hid (show asTo m al (j + 1) = asTo m al j ++ ((if en = true then [] else nm.data.toList ++ [58, 32]) ++ T) by rw [Hsu.out, if_pos hz]; rfl)
              clear hz Hsu
              cases en
              · rw [if_neg (by simp)] at hle
                have g1 : ¬ 9223372036854775807 < S.size + nm.size := by omega
                have g2 : ¬ 9223372036854775807 < S.size + nm.size + 2 := by omega
                have g3 : ¬ 9223372036854775807 < S.size + nm.size + 2 + (⟨T.toArray⟩ : ByteArray).size := by omega
                have g4 : ¬ 9223372036854775807 < S.size + nm.size + 2 + T.length := by omega
                clear hle hsz hTs hR
                go_wp2_with fail
                go_at_call 32
                refine HC.out.mono ?_
                rintro x w2 ⟨rfl, hb2⟩
                have HB2 := Lib.hid (HB.out.trans ((below_box hb2).mono HB.out.size))
                clear hb2
                go_wp2
                go_roundw
                case rel =>
                  refine ⟨j + 1, _, by go_num, rfl, hlt, Lib.hid ?_, HB2⟩
                  have h1 := HS.out
                  rw [Hs2.out, ← List.append_assoc RR, ← h1]
                  simp
                case measure => simp [intOf]; omega
              · rw [if_pos rfl] at hle
                have g3 : ¬ 9223372036854775807 < S.size + (⟨T.toArray⟩ : ByteArray).size := by omega
                have g4 : ¬ 9223372036854775807 < S.size + T.length := by omega
                clear hle hsz hTs hR
                go_wp2_with fail
                go_at_call 32
                refine HC.out.mono ?_
                rintro x w2 ⟨rfl, hb2⟩
                have HB2 := Lib.hid (HB.out.trans ((below_box hb2).mono HB.out.size))
                clear hb2
                go_wp2
                go_roundw
                case rel =>
                  refine ⟨j + 1, _, by go_num, rfl, hlt, Lib.hid ?_, HB2⟩
                  have h1 := HS.out
                  rw [Hs2.out, ← List.append_assoc RR, ← h1]
                  simp
                case measure => simp [intOf]; omega
            · have z1 : decide (0 < j) = true := decide_eq_true (by omega)
              have z2 : 0 < j := by omega
              rw [if_neg hz] at hle
              have Hs2 := Lib.hid (show asTo m al (j + 1) = asTo m al j ++ ([44, 32] ++ ((if en = true then [] else nm.data.toList ++ [58, 32]) ++ T)) by rw [Hsu.out, if_neg hz])
              clear hz Hsu
              have g0 : ¬ 9223372036854775807 < S.size + 2 := by omega
              cases en
              · rw [if_neg (by simp)] at hle
                have g1 : ¬ 9223372036854775807 < S.size + 2 + nm.size := by omega
                have g2 : ¬ 9223372036854775807 < S.size + 2 + nm.size + 2 := by omega
                have g3 : ¬ 9223372036854775807 < S.size + 2 + nm.size + 2 + (⟨T.toArray⟩ : ByteArray).size := by omega
                have g4 : ¬ 9223372036854775807 < S.size + 2 + nm.size + 2 + T.length := by omega
                clear hle hsz hTs hR
                go_wp2_with fail
                go_at_call 32
                refine HC.out.mono ?_
                rintro x w2 ⟨rfl, hb2⟩
                have HB2 := Lib.hid (HB.out.trans ((below_box hb2).mono HB.out.size))
                clear hb2
                go_wp2
                go_roundw
                case rel =>
                  refine ⟨j + 1, _, by go_num, rfl, hlt, Lib.hid ?_, HB2⟩
                  have h1 := HS.out
                  rw [Hs2.out, ← List.append_assoc RR, ← h1]
                  simp
                case measure => simp [intOf]; omega
              · rw [if_pos rfl] at hle
                have g3 : ¬ 9223372036854775807 < S.size + 2 + (⟨T.toArray⟩ : ByteArray).size := by omega
                have g4 : ¬ 9223372036854775807 < S.size + 2 + T.length := by omega
                clear hle hsz hTs hR
                go_wp2_with fail
                go_at_call 32
                refine HC.out.mono ?_
                rintro x w2 ⟨rfl, hb2⟩
                have HB2 := Lib.hid (HB.out.trans ((below_box hb2).mono HB.out.size))
                clear hb2
                go_wp2
                go_roundw
                case rel =>
                  refine ⟨j + 1, _, by go_num, rfl, hlt, Lib.hid ?_, HB2⟩
                  have h1 := HS.out
                  rw [Hs2.out, ← List.append_assoc RR, ← h1]
                  simp
                case measure => simp [intOf]; omega
          · obtain rfl : j = al.length := by omega
            have d1 : decide ((al.length : Int) < (al.length : Int)) = false := decide_eq_false (by omega)
            have hS := HS.out
            rw [asTo_end] at hS
            have hR := HRl.out
            have g5 : ¬ 9223372036854775807 < S.size + 1 := by
              have := congrArg List.length hS
              rw [size_data, List.length_append] at this
              omega
            have HS2 := Lib.hid hS
            clear hS hR
            go_wp2
            go_ret
            refine ⟨ret_str ?_, HB.out⟩
            apply bytes_eq
            have h1 := HS2.out
            have h2 := HRR.out
            simp only [ByteArray.data_append, Array.toList_append, List.append_assoc] at h1 h2 ⊢
            rw [h1, ← h2]
            simp
      · rw [if_neg (by decide), if_pos rfl, if_pos ⟨by decide, rfl⟩] at HN ⊢
        have hsz := HN.out
        simp only [List.length_append, List.length_cons, List.length_nil, size_data] at hsz
        clear hsz
        go_enter Tryd.func32, Tryd.ntmps32
        go_wp2
        go_ret
        exact ⟨ret_str (by apply bytes_eq; simp), HB0.out⟩
  · cases em
    · cases bl
      · rw [if_pos rfl, if_neg (by simp), if_neg (by simp)] at HN ⊢
        have hsz := HN.out
        simp only [List.length_append, List.length_cons, List.length_nil, size_data] at hsz
        have g0 : ¬ 9223372036854775807 < 1 + n.size := by omega
        have g1 : ¬ 9223372036854775807 < 1 + n.size + 1 := by omega
        have g2 : ¬ 9223372036854775807 < 1 + n.size + 1 + a.size := by omega
        have g3 : ¬ 9223372036854775807 < 1 + n.size + 1 + a.size + 1 := by omega
        obtain ⟨RR, hRR⟩ : ∃ RR, ([45] ++ (n.data.toList ++ (46 :: a.data.toList))) ++ ([40] : List UInt8) = RR := ⟨_, rfl⟩
        have HRl := Lib.hid (show RR.length + (asT m true al).length + 1 ≤ 140737488355328 by rw [← hRR]; simp only [List.length_append, List.length_cons, List.length_nil, size_data]; omega)
        have HRR := Lib.hid hRR
        clear hsz hRR
        go_enter Tryd.func32, Tryd.ntmps32
        go_wp2
        go_loopw [5, 62] (fun t5 t62 wr => ∃ (j : Nat) (S : ByteArray), t62 = .int .i64 j ∧ t5 = .string S ∧ j ≤ al.length ∧ Hid (S.data.toList = RR ++ asTo m al j) ∧ Hid (Below w.heap.size w wr)) (fun _ t62 _ => al.length - (intOf t62).toNat)
        case atStart => exact ⟨0, _, rfl, rfl, Nat.zero_le _, Lib.hid (by rw [← HRR.out, asTo]; simp), HB0⟩
        case round =>
          obtain ⟨j, S, rfl, rfl, hj, HS, HB⟩ := hrel
          have hj0 : (j : Int) ≤ 4000000 := by omega
          have hjn : (0 : Int) ≤ (j : Int) := by omega
          by_cases hlt : j < al.length
          · have d1 : decide ((j : Int) < (al.length : Int)) = true := decide_eq_true (by omega)
            have d2 : (j : Int) < (al.length : Int) := by omega
            obtain ⟨b, o, cc, hv, hb, hcs⟩ := args_get HV.out hlt
            cases hv
            obtain ⟨nm, e, he⟩ : ∃ nm e, al[j]? = some (.mk nm e) := by
              cases q : al[j] with
              | mk nm e => exact ⟨nm, e, by rw [List.getElem?_eq_getElem hlt, q]⟩
            obtain ⟨c0, c7, hc7, hx7⟩ := hcs j nm e he
            have hbel : Below W0.heap.size W0 wr := HW.out.trans (HB.out.mono HW.out.size)
            have hsh := ex_shape hx7
            obtain ⟨k2, t2, n3, a2, B1, m1, q1, p2, B2, m2, q2, rfl⟩ := hsh
            rw [← hbel.cell (p := ⟨b, o + j * 8, none⟩) hb] at c0
            obtain ⟨x0, x1, x2, x3, x4, x5, x6⟩ := hc7.under hb hbel
            dsimp only at x0 x1 x2 x3 x4 x5 x6
            have hbw : b < wr.heap.size := Nat.lt_of_lt_of_le hb hbel.size
            have hsu := asTo_succ m al j nm e he
            have hle := asTo_le m al (j + 1) hlt
            rw [hsu] at hle
            have hR := HRl.out
            have hsz : S.size = RR.length + (asTo m al j).length := by rw [← size_data, HS.out, List.length_append]
            simp only [List.length_append] at hle
            have hel : (exT m e).length ≤ 140737488355328 := by omega
            have hnl : (nameG (j == 0) nm).length = (if j = 0 then 0 else 2) + (if emp nm then 0 else nm.size + 2) := by
              unfold nameG
              by_cases h : j = 0
              · subst h; simp; split <;> simp
              · have : (j == 0) = false := by rw [beq_eq_false_iff_ne]; exact h
                rw [this, if_neg h]; simp; split <;> simp <;> omega
            rw [hnl] at hle
            obtain ⟨T, hT⟩ : ∃ T, exT m e = T := ⟨_, rfl⟩
            have hcall := HE.out j nm e he _ (wr.alloc (.cells #[.string nm, .int .i64 k2, .string t2, .string n3, .string a2, .slice B1 m1 q1, .pointer p2, .slice B2 m2 q2] 75)) hx7 (hbel.alloc hbel.size _) hel
            dsimp only at hcall
            rw [hT] at hcall hsu hle
            have HC := Lib.hid hcall
            obtain ⟨en, hen⟩ : ∃ g, emp nm = g := ⟨_, rfl⟩
            have hen2 : nm.toList.isEmpty = en := hen
            rw [hen] at hle
            have Hsu := Lib.hid (show asTo m al (j + 1) = asTo m al j ++ ((if j = 0 then [] else [44, 32]) ++ ((if en = true then [] else nm.data.toList ++ [58, 32]) ++ T)) by
              rw [hsu]
              unfold nameG
              rw [hen]
              by_cases h : j = 0
              · subst h; simp
              · have : (j == 0) = false := by rw [beq_eq_false_iff_ne]; exact h
                rw [this, if_neg h]; simp)
            have hTs := size_mk T
            clear hcs hc7 hx7 hbel he hsu hel hnl hcall hT hen
            by_cases hz : j = 0
            · have z1 : decide (0 < j) = false := decide_eq_false (by omega)
              have z2 : ¬ 0 < j := by omega
              rw [if_pos hz] at hle
              have Hs2 := Lib.hid (show asTo m al (j + 1) = asTo m al j ++ ((if en = true then [] else nm.data.toList ++ [58, 32]) ++ T) by rw [Hsu.out, if_pos hz]; rfl)
              clear hz Hsu
              cases en
              · rw [if_neg (by simp)] at hle
                have g1 : ¬ 9223372036854775807 < S.size + nm.size := by omega
                have g2 : ¬ 9223372036854775807 < S.size + nm.size + 2 := by omega
                have g3 : ¬ 9223372036854775807 < S.size + nm.size + 2 + (⟨T.toArray⟩ : ByteArray).size := by omega
                have g4 : ¬ 9223372036854775807 < S.size + nm.size + 2 + T.length := by omega
                clear hle hsz hTs hR
                go_wp2_with fail
                go_at_call 32
                refine HC.out.mono ?_
                rintro x w2 ⟨rfl, hb2⟩
                have HB2 := Lib.hid (HB.out.trans ((below_box hb2).mono HB.out.size))
                clear hb2
                go_wp2
                go_roundw
                case rel =>
                  refine ⟨j + 1, _, by go_num, rfl, hlt, Lib.hid ?_, HB2⟩
                  have h1 := HS.out
                  rw [Hs2.out, ← List.append_assoc RR, ← h1]
                  simp
                case measure => simp [intOf]; omega
              · rw [if_pos rfl] at hle
                have g3 : ¬ 9223372036854775807 < S.size + (⟨T.toArray⟩ : ByteArray).size := by omega
                have g4 : ¬ 9223372036854775807 < S.size + T.length := by omega
                clear hle hsz hTs hR
                go_wp2_with fail
                go_at_call 32
                refine HC.out.mono ?_
                rintro x w2 ⟨rfl, hb2⟩
                have HB2 := Lib.hid (HB.out.trans ((below_box hb2).mono HB.out.size))
                clear hb2
                go_wp2
                go_roundw
                case rel =>
                  refine ⟨j + 1, _, by go_num, rfl, hlt, Lib.hid ?_, HB2⟩
                  have h1 := HS.out
                  rw [Hs2.out, ← List.append_assoc RR, ← h1]
                  simp
                case measure => simp [intOf]; omega
            · have z1 : decide (0 < j) = true := decide_eq_true (by omega)
              have z2 : 0 < j := by omega
              rw [if_neg hz] at hle
              have Hs2 := Lib.hid (show asTo m al (j + 1) = asTo m al j ++ ([44, 32] ++ ((if en = true then [] else nm.data.toList ++ [58, 32]) ++ T)) by rw [Hsu.out, if_neg hz])
              clear hz Hsu
              have g0 : ¬ 9223372036854775807 < S.size + 2 := by omega
              cases en
              · rw [if_neg (by simp)] at hle
                have g1 : ¬ 9223372036854775807 < S.size + 2 + nm.size := by omega
                have g2 : ¬ 9223372036854775807 < S.size + 2 + nm.size + 2 := by omega
                have g3 : ¬ 9223372036854775807 < S.size + 2 + nm.size + 2 + (⟨T.toArray⟩ : ByteArray).size := by omega
                have g4 : ¬ 9223372036854775807 < S.size + 2 + nm.size + 2 + T.length := by omega
                clear hle hsz hTs hR
                go_wp2_with fail
                go_at_call 32
                refine HC.out.mono ?_
                rintro x w2 ⟨rfl, hb2⟩
                have HB2 := Lib.hid (HB.out.trans ((below_box hb2).mono HB.out.size))
                clear hb2
                go_wp2
                go_roundw
                case rel =>
                  refine ⟨j + 1, _, by go_num, rfl, hlt, Lib.hid ?_, HB2⟩
                  have h1 := HS.out
                  rw [Hs2.out, ← List.append_assoc RR, ← h1]
                  simp
                case measure => simp [intOf]; omega
              · rw [if_pos rfl] at hle
                have g3 : ¬ 9223372036854775807 < S.size + 2 + (⟨T.toArray⟩ : ByteArray).size := by omega
                have g4 : ¬ 9223372036854775807 < S.size + 2 + T.length := by omega
                clear hle hsz hTs hR
                go_wp2_with fail
                go_at_call 32
                refine HC.out.mono ?_
                rintro x w2 ⟨rfl, hb2⟩
                have HB2 := Lib.hid (HB.out.trans ((below_box hb2).mono HB.out.size))
                clear hb2
                go_wp2
                go_roundw
                case rel =>
                  refine ⟨j + 1, _, by go_num, rfl, hlt, Lib.hid ?_, HB2⟩
                  have h1 := HS.out
                  rw [Hs2.out, ← List.append_assoc RR, ← h1]
                  simp
                case measure => simp [intOf]; omega
          · obtain rfl : j = al.length := by omega
            have d1 : decide ((al.length : Int) < (al.length : Int)) = false := decide_eq_false (by omega)
            have hS := HS.out
            rw [asTo_end] at hS
            have hR := HRl.out
            have g5 : ¬ 9223372036854775807 < S.size + 1 := by
              have := congrArg List.length hS
              rw [size_data, List.length_append] at this
              omega
            have HS2 := Lib.hid hS
            clear hS hR
            go_wp2
            go_ret
            refine ⟨ret_str ?_, HB.out⟩
            apply bytes_eq
            have h1 := HS2.out
            have h2 := HRR.out
            simp only [ByteArray.data_append, Array.toList_append, List.append_assoc] at h1 h2 ⊢
            rw [h1, ← h2]
            simp
      · rw [if_pos rfl, if_neg (by simp), if_pos ⟨by decide, rfl⟩] at HN ⊢
        have hsz := HN.out
        simp only [List.length_append, List.length_cons, List.length_nil, size_data] at hsz
        have g0 : ¬ 9223372036854775807 < 1 + n.size := by omega
        have g1 : ¬ 9223372036854775807 < 1 + n.size + 1 := by omega
        have g2 : ¬ 9223372036854775807 < 1 + n.size + 1 + a.size := by omega
        clear hsz
        go_enter Tryd.func32, Tryd.ntmps32
        go_wp2
        go_ret
        exact ⟨ret_str (by apply bytes_eq; simp), HB0.out⟩
    · cases bl
      · rw [if_pos rfl, if_pos rfl, if_neg (by simp)] at HN ⊢
        have hsz := HN.out
        simp only [List.length_append, List.length_cons, List.length_nil, size_data] at hsz
        have g0 : ¬ 9223372036854775807 < 1 + n.size := by omega
        have g3 : ¬ 9223372036854775807 < 1 + n.size + 1 := by omega
        obtain ⟨RR, hRR⟩ : ∃ RR, ([45] ++ (n.data.toList ++ ([]))) ++ ([40] : List UInt8) = RR := ⟨_, rfl⟩
        have HRl := Lib.hid (show RR.length + (asT m true al).length + 1 ≤ 140737488355328 by rw [← hRR]; simp only [List.length_append, List.length_cons, List.length_nil, size_data]; omega)
        have HRR := Lib.hid hRR
        clear hsz hRR
        go_enter Tryd.func32, Tryd.ntmps32
        go_wp2
        go_loopw [5, 62] (fun t5 t62 wr => ∃ (j : Nat) (S : ByteArray), t62 = .int .i64 j ∧ t5 = .string S ∧ j ≤ al.length ∧ Hid (S.data.toList = RR ++ asTo m al j) ∧ Hid (Below w.heap.size w wr)) (fun _ t62 _ => al.length - (intOf t62).toNat)
        case atStart => exact ⟨0, _, rfl, rfl, Nat.zero_le _, Lib.hid (by rw [← HRR.out, asTo]; simp), HB0⟩
        case round =>
          obtain ⟨j, S, rfl, rfl, hj, HS, HB⟩ := hrel
          have hj0 : (j : Int) ≤ 4000000 := by omega
          have hjn : (0 : Int) ≤ (j : Int) := by omega
          by_cases hlt : j < al.length
          · have d1 : decide ((j : Int) < (al.length : Int)) = true := decide_eq_true (by omega)
            have d2 : (j : Int) < (al.length : Int) := by omega
            obtain ⟨b, o, cc, hv, hb, hcs⟩ := args_get HV.out hlt
            cases hv
            obtain ⟨nm, e, he⟩ : ∃ nm e, al[j]? = some (.mk nm e) := by
              cases q : al[j] with
              | mk nm e => exact ⟨nm, e, by rw [List.getElem?_eq_getElem hlt, q]⟩
            obtain ⟨c0, c7, hc7, hx7⟩ := hcs j nm e he
            have hbel : Below W0.heap.size W0 wr := HW.out.trans (HB.out.mono HW.out.size)
            have hsh := ex_shape hx7
            obtain ⟨k2, t2, n3, a2, B1, m1, q1, p2, B2, m2, q2, rfl⟩ := hsh
            rw [← hbel.cell (p := ⟨b, o + j * 8, none⟩) hb] at c0
            obtain ⟨x0, x1, x2, x3, x4, x5, x6⟩ := hc7.under hb hbel
            dsimp only at x0 x1 x2 x3 x4 x5 x6
            have hbw : b < wr.heap.size := Nat.lt_of_lt_of_le hb hbel.size
            have hsu := asTo_succ m al j nm e he
            have hle := asTo_le m al (j + 1) hlt
            rw [hsu] at hle
            have hR := HRl.out
            have hsz : S.size = RR.length + (asTo m al j).length := by rw [← size_data, HS.out, List.length_append]
            simp only [List.length_append] at hle
            have hel : (exT m e).length ≤ 140737488355328 := by omega
            have hnl : (nameG (j == 0) nm).length = (if j = 0 then 0 else 2) + (if emp nm then 0 else nm.size + 2) := by
              unfold nameG
              by_cases h : j = 0
              · subst h; simp; split <;> simp
              · have : (j == 0) = false := by rw [beq_eq_false_iff_ne]; exact h
                rw [this, if_neg h]; simp; split <;> simp <;> omega
            rw [hnl] at hle
            obtain ⟨T, hT⟩ : ∃ T, exT m e = T := ⟨_, rfl⟩
            have hcall := HE.out j nm e he _ (wr.alloc (.cells #[.string nm, .int .i64 k2, .string t2, .string n3, .string a2, .slice B1 m1 q1, .pointer p2, .slice B2 m2 q2] 75)) hx7 (hbel.alloc hbel.size _) hel
            dsimp only at hcall
            rw [hT] at hcall hsu hle
            have HC := Lib.hid hcall
            obtain ⟨en, hen⟩ : ∃ g, emp nm = g := ⟨_, rfl⟩
            have hen2 : nm.toList.isEmpty = en := hen
            rw [hen] at hle
            have Hsu := Lib.hid (show asTo m al (j + 1) = asTo m al j ++ ((if j = 0 then [] else [44, 32]) ++ ((if en = true then [] else nm.data.toList ++ [58, 32]) ++ T)) by
              rw [hsu]
              unfold nameG
              rw [hen]
              by_cases h : j = 0
              · subst h; simp
              · have : (j == 0) = false := by rw [beq_eq_false_iff_ne]; exact h
                rw [this, if_neg h]; simp)
            have hTs := size_mk T
            clear hcs hc7 hx7 hbel he hsu hel hnl hcall hT hen
            by_cases hz : j = 0
            · have z1 : decide (0 < j) = false := decide_eq_false (by omega)
              have z2 : ¬ 0 < j := by omega
              rw [if_pos hz] at hle
              have Hs2 := Lib.hid (show asTo m al (j + 1) = asTo m al j ++ ((if en = true then [] else nm.data.toList ++ [58, 32]) ++ T) by rw [Hsu.out, if_pos hz]; rfl)
              clear hz Hsu
              cases en
              · rw [if_neg (by simp)] at hle
                have g1 : ¬ 9223372036854775807 < S.size + nm.size := by omega
                have g2 : ¬ 9223372036854775807 < S.size + nm.size + 2 := by omega
                have g3 : ¬ 9223372036854775807 < S.size + nm.size + 2 + (⟨T.toArray⟩ : ByteArray).size := by omega
                have g4 : ¬ 9223372036854775807 < S.size + nm.size + 2 + T.length := by omega
                clear hle hsz hTs hR
                go_wp2_with fail
                go_at_call 32
                refine HC.out.mono ?_
                rintro x w2 ⟨rfl, hb2⟩
                have HB2 := Lib.hid (HB.out.trans ((below_box hb2).mono HB.out.size))
                clear hb2
                go_wp2
                go_roundw
                case rel =>
                  refine ⟨j + 1, _, by go_num, rfl, hlt, Lib.hid ?_, HB2⟩
                  have h1 := HS.out
                  rw [Hs2.out, ← List.append_assoc RR, ← h1]
                  simp
                case measure => simp [intOf]; omega
              · rw [if_pos rfl] at hle
                have g3 : ¬ 9223372036854775807 < S.size + (⟨T.toArray⟩ : ByteArray).size := by omega
                have g4 : ¬ 9223372036854775807 < S.size + T.length := by omega
                clear hle hsz hTs hR
                go_wp2_with fail
                go_at_call 32
                refine HC.out.mono ?_
                rintro x w2 ⟨rfl, hb2⟩
                have HB2 := Lib.hid (HB.out.trans ((below_box hb2).mono HB.out.size))
                clear hb2
                go_wp2
                go_roundw
                case rel =>
                  refine ⟨j + 1, _, by go_num, rfl, hlt, Lib.hid ?_, HB2⟩
                  have h1 := HS.out
                  rw [Hs2.out, ← List.append_assoc RR, ← h1]
                  simp
                case measure => simp [intOf]; omega
            · have z1 : decide (0 < j) = true := decide_eq_true (by omega)
              have z2 : 0 < j := by omega
              rw [if_neg hz] at hle
              have Hs2 := Lib.hid (show asTo m al (j + 1) = asTo m al j ++ ([44, 32] ++ ((if en = true then [] else nm.data.toList ++ [58, 32]) ++ T)) by rw [Hsu.out, if_neg hz])
              clear hz Hsu
              have g0 : ¬ 9223372036854775807 < S.size + 2 := by omega
              cases en
              · rw [if_neg (by simp)] at hle
                have g1 : ¬ 9223372036854775807 < S.size + 2 + nm.size := by omega
                have g2 : ¬ 9223372036854775807 < S.size + 2 + nm.size + 2 := by omega
                have g3 : ¬ 9223372036854775807 < S.size + 2 + nm.size + 2 + (⟨T.toArray⟩ : ByteArray).size := by omega
                have g4 : ¬ 9223372036854775807 < S.size + 2 + nm.size + 2 + T.length := by omega
                clear hle hsz hTs hR
                go_wp2_with fail
                go_at_call 32
                refine HC.out.mono ?_
                rintro x w2 ⟨rfl, hb2⟩
                have HB2 := Lib.hid (HB.out.trans ((below_box hb2).mono HB.out.size))
                clear hb2
                go_wp2
                go_roundw
                case rel =>
                  refine ⟨j + 1, _, by go_num, rfl, hlt, Lib.hid ?_, HB2⟩
                  have h1 := HS.out
                  rw [Hs2.out, ← List.append_assoc RR, ← h1]
                  simp
                case measure => simp [intOf]; omega
              · rw [if_pos rfl] at hle
                have g3 : ¬ 9223372036854775807 < S.size + 2 + (⟨T.toArray⟩ : ByteArray).size := by omega
                have g4 : ¬ 9223372036854775807 < S.size + 2 + T.length := by omega
                clear hle hsz hTs hR
                go_wp2_with fail
                go_at_call 32
                refine HC.out.mono ?_
                rintro x w2 ⟨rfl, hb2⟩
                have HB2 := Lib.hid (HB.out.trans ((below_box hb2).mono HB.out.size))
                clear hb2
                go_wp2
                go_roundw
                case rel =>
                  refine ⟨j + 1, _, by go_num, rfl, hlt, Lib.hid ?_, HB2⟩
                  have h1 := HS.out
                  rw [Hs2.out, ← List.append_assoc RR, ← h1]
                  simp
                case measure => simp [intOf]; omega
          · obtain rfl : j = al.length := by omega
            have d1 : decide ((al.length : Int) < (al.length : Int)) = false := decide_eq_false (by omega)
            have hS := HS.out
            rw [asTo_end] at hS
            have hR := HRl.out
            have g5 : ¬ 9223372036854775807 < S.size + 1 := by
              have := congrArg List.length hS
              rw [size_data, List.length_append] at this
              omega
            have HS2 := Lib.hid hS
            clear hS hR
            go_wp2
            go_ret
            refine ⟨ret_str ?_, HB.out⟩
            apply bytes_eq
            have h1 := HS2.out
            have h2 := HRR.out
            simp only [ByteArray.data_append, Array.toList_append, List.append_assoc] at h1 h2 ⊢
            rw [h1, ← h2]
            simp
      · rw [if_pos rfl, if_pos rfl, if_pos ⟨by decide, rfl⟩] at HN ⊢
        have hsz := HN.out
        simp only [List.length_append, List.length_cons, List.length_nil, size_data] at hsz
        have g0 : ¬ 9223372036854775807 < 1 + n.size := by omega
        clear hsz
        go_enter Tryd.func32, Tryd.ntmps32
        go_wp2
        go_ret
        exact ⟨ret_str (by apply bytes_eq; simp), HB0.out⟩
  · cases em
    · cases bl
      · rw [if_neg (by decide), if_neg (by simp), if_neg (by simp)] at HN ⊢
        have hsz := HN.out
        simp only [List.length_append, List.length_cons, List.length_nil, size_data] at hsz
        have g1 : ¬ 9223372036854775807 < n.size + 1 := by omega
        have g2 : ¬ 9223372036854775807 < n.size + 1 + a.size := by omega
        have g3 : ¬ 9223372036854775807 < n.size + 1 + a.size + 1 := by omega
        obtain ⟨RR, hRR⟩ : ∃ RR, ([] ++ (n.data.toList ++ (46 :: a.data.toList))) ++ ([40] : List UInt8) = RR := ⟨_, rfl⟩
        have HRl := Lib.hid (show RR.length + (asT m true al).length + 1 ≤ 140737488355328 by rw [← hRR]; simp only [List.length_append, List.length_cons, List.length_nil, size_data]; omega)
        have HRR := Lib.hid hRR
        clear hsz hRR
        go_enter Tryd.func32, Tryd.ntmps32
        go_wp2
        go_loopw [5, 62] (fun t5 t62 wr => ∃ (j : Nat) (S : ByteArray), t62 = .int .i64 j ∧ t5 = .string S ∧ j ≤ al.length ∧ Hid (S.data.toList = RR ++ asTo m al j) ∧ Hid (Below w.heap.size w wr)) (fun _ t62 _ => al.length - (intOf t62).toNat)
        case atStart => exact ⟨0, _, rfl, rfl, Nat.zero_le _, Lib.hid (by rw [← HRR.out, asTo]; simp), HB0⟩
        case round =>
          obtain ⟨j, S, rfl, rfl, hj, HS, HB⟩ := hrel
          have hj0 : (j : Int) ≤ 4000000 := by omega
          have hjn : (0 : Int) ≤ (j : Int) := by omega
          by_cases hlt : j < al.length
          · have d1 : decide ((j : Int) < (al.length : Int)) = true := decide_eq_true (by omega)
            have d2 : (j : Int) < (al.length : Int) := by omega
            obtain ⟨b, o, cc, hv, hb, hcs⟩ := args_get HV.out hlt
            cases hv
            obtain ⟨nm, e, he⟩ : ∃ nm e, al[j]? = some (.mk nm e) := by
              cases q : al[j] with
              | mk nm e => exact ⟨nm, e, by rw [List.getElem?_eq_getElem hlt, q]⟩
            obtain ⟨c0, c7, hc7, hx7⟩ := hcs j nm e he
            have hbel : Below W0.heap.size W0 wr := HW.out.trans (HB.out.mono HW.out.size)
            have hsh := ex_shape hx7
            obtain ⟨k2, t2, n3, a2, B1, m1, q1, p2, B2, m2, q2, rfl⟩ := hsh
            rw [← hbel.cell (p := ⟨b, o + j * 8, none⟩) hb] at c0
            obtain ⟨x0, x1, x2, x3, x4, x5, x6⟩ := hc7.under hb hbel
            dsimp only at x0 x1 x2 x3 x4 x5 x6
            have hbw : b < wr.heap.size := Nat.lt_of_lt_of_le hb hbel.size
            have hsu := asTo_succ m al j nm e he
            have hle := asTo_le m al (j + 1) hlt
            rw [hsu] at hle
            have hR := HRl.out
            have hsz : S.size = RR.length + (asTo m al j).length := by rw [← size_data, HS.out, List.length_append]
            simp only [List.length_append] at hle
            have hel : (exT m e).length ≤ 140737488355328 := by omega
            have hnl : (nameG (j == 0) nm).length = (if j = 0 then 0 else 2) + (if emp nm then 0 else nm.size + 2) := by
              unfold nameG
              by_cases h : j = 0
              · subst h; simp; split <;> simp
              · have : (j == 0) = false := by rw [beq_eq_false_iff_ne]; exact h
                rw [this, if_neg h]; simp; split <;> simp <;> omega
            rw [hnl] at hle
            obtain ⟨T, hT⟩ : ∃ T, exT m e = T := ⟨_, rfl⟩
            have hcall := HE.out j nm e he _ (wr.alloc (.cells #[.string nm, .int .i64 k2, .string t2, .string n3, .string a2, .slice B1 m1 q1, .pointer p2, .slice B2 m2 q2] 75)) hx7 (hbel.alloc hbel.size _) hel
            dsimp only at hcall
            rw [hT] at hcall hsu hle
            have HC := Lib.hid hcall
            obtain ⟨en, hen⟩ : ∃ g, emp nm = g := ⟨_, rfl⟩
            have hen2 : nm.toList.isEmpty = en := hen
            rw [hen] at hle
            have Hsu := Lib.hid (show asTo m al (j + 1) = asTo m al j ++ ((if j = 0 then [] else [44, 32]) ++ ((if en = true then [] else nm.data.toList ++ [58, 32]) ++ T)) by
              rw [hsu]
              unfold nameG
              rw [hen]
              by_cases h : j = 0
              · subst h; simp
              · have : (j == 0) = false := by rw [beq_eq_false_iff_ne]; exact h
                rw [this, if_neg h]; simp)
            have hTs := size_mk T
            clear hcs hc7 hx7 hbel he hsu hel hnl hcall hT hen
            by_cases hz : j = 0
            · have z1 : decide (0 < j) = false := decide_eq_false (by omega)
              have z2 : ¬ 0 < j := by omega
              rw [if_pos hz] at hle
              have Hs2 := Lib.hid (show asTo m al (j + 1) = asTo m al j ++ ((if en = true then [] else nm.data.toList ++ [58, 32]) ++ T) by rw [Hsu.out, if_pos hz]; rfl)
              clear hz Hsu
              cases en
              · rw [if_neg (by simp)] at hle
                have g1 : ¬ 9223372036854775807 < S.size + nm.size := by omega
                have g2 : ¬ 9223372036854775807 < S.size + nm.size + 2 := by omega
                have g3 : ¬ 9223372036854775807 < S.size + nm.size + 2 + (⟨T.toArray⟩ : ByteArray).size := by omega
                have g4 : ¬ 9223372036854775807 < S.size + nm.size + 2 + T.length := by omega
                clear hle hsz hTs hR
                go_wp2_with fail
                go_at_call 32
                refine HC.out.mono ?_
                rintro x w2 ⟨rfl, hb2⟩
                have HB2 := Lib.hid (HB.out.trans ((below_box hb2).mono HB.out.size))
                clear hb2
                go_wp2
                go_roundw
                case rel =>
                  refine ⟨j + 1, _, by go_num, rfl, hlt, Lib.hid ?_, HB2⟩
                  have h1 := HS.out
                  rw [Hs2.out, ← List.append_assoc RR, ← h1]
                  simp
                case measure => simp [intOf]; omega
              · rw [if_pos rfl] at hle
                have g3 : ¬ 9223372036854775807 < S.size + (⟨T.toArray⟩ : ByteArray).size := by omega
                have g4 : ¬ 9223372036854775807 < S.size + T.length := by omega
                clear hle hsz hTs hR
                go_wp2_with fail
                go_at_call 32
                refine HC.out.mono ?_
                rintro x w2 ⟨rfl, hb2⟩
                have HB2 := Lib.hid (HB.out.trans ((below_box hb2).mono HB.out.size))
                clear hb2
                go_wp2
                go_roundw
                case rel =>
                  refine ⟨j + 1, _, by go_num, rfl, hlt, Lib.hid ?_, HB2⟩
                  have h1 := HS.out
                  rw [Hs2.out, ← List.append_assoc RR, ← h1]
                  simp
                case measure => simp [intOf]; omega
            · have z1 : decide (0 < j) = true := decide_eq_true (by omega)
              have z2 : 0 < j := by omega
              rw [if_neg hz] at hle
              have Hs2 := Lib.hid (show asTo m al (j + 1) = asTo m al j ++ ([44, 32] ++ ((if en = true then [] else nm.data.toList ++ [58, 32]) ++ T)) by rw [Hsu.out, if_neg hz])
              clear hz Hsu
              have g0 : ¬ 9223372036854775807 < S.size + 2 := by omega
              cases en
              · rw [if_neg (by simp)] at hle
                have g1 : ¬ 9223372036854775807 < S.size + 2 + nm.size := by omega
                have g2 : ¬ 9223372036854775807 < S.size + 2 + nm.size + 2 := by omega
                have g3 : ¬ 9223372036854775807 < S.size + 2 + nm.size + 2 + (⟨T.toArray⟩ : ByteArray).size := by omega
                have g4 : ¬ 9223372036854775807 < S.size + 2 + nm.size + 2 + T.length := by omega
                clear hle hsz hTs hR
                go_wp2_with fail
                go_at_call 32
                refine HC.out.mono ?_
                rintro x w2 ⟨rfl, hb2⟩
                have HB2 := Lib.hid (HB.out.trans ((below_box hb2).mono HB.out.size))
                clear hb2
                go_wp2
                go_roundw
                case rel =>
                  refine ⟨j + 1, _, by go_num, rfl, hlt, Lib.hid ?_, HB2⟩
                  have h1 := HS.out
                  rw [Hs2.out, ← List.append_assoc RR, ← h1]
                  simp
                case measure => simp [intOf]; omega
              · rw [if_pos rfl] at hle
                have g3 : ¬ 9223372036854775807 < S.size + 2 + (⟨T.toArray⟩ : ByteArray).size := by omega
                have g4 : ¬ 9223372036854775807 < S.size + 2 + T.length := by omega
                clear hle hsz hTs hR
                go_wp2_with fail
                go_at_call 32
                refine HC.out.mono ?_
                rintro x w2 ⟨rfl, hb2⟩
                have HB2 := Lib.hid (HB.out.trans ((below_box hb2).mono HB.out.size))
                clear hb2
                go_wp2
                go_roundw
                case rel =>
                  refine ⟨j + 1, _, by go_num, rfl, hlt, Lib.hid ?_, HB2⟩
                  have h1 := HS.out
                  rw [Hs2.out, ← List.append_assoc RR, ← h1]
                  simp
                case measure => simp [intOf]; omega
          · obtain rfl : j = al.length := by omega
            have d1 : decide ((al.length : Int) < (al.length : Int)) = false := decide_eq_false (by omega)
            have hS := HS.out
            rw [asTo_end] at hS
            have hR := HRl.out
            have g5 : ¬ 9223372036854775807 < S.size + 1 := by
              have := congrArg List.length hS
              rw [size_data, List.length_append] at this
              omega
            have HS2 := Lib.hid hS
            clear hS hR
            go_wp2
            go_ret
            refine ⟨ret_str ?_, HB.out⟩
            apply bytes_eq
            have h1 := HS2.out
            have h2 := HRR.out
            simp only [ByteArray.data_append, Array.toList_append, List.append_assoc] at h1 h2 ⊢
            rw [h1, ← h2]
            simp
      · rw [if_neg (by decide), if_neg (by simp), if_neg (by simp)] at HN ⊢
        have hsz := HN.out
        simp only [List.length_append, List.length_cons, List.length_nil, size_data] at hsz
        have g1 : ¬ 9223372036854775807 < n.size + 1 := by omega
        have g2 : ¬ 9223372036854775807 < n.size + 1 + a.size := by omega
        have g3 : ¬ 9223372036854775807 < n.size + 1 + a.size + 1 := by omega
        obtain ⟨RR, hRR⟩ : ∃ RR, ([] ++ (n.data.toList ++ (46 :: a.data.toList))) ++ ([40] : List UInt8) = RR := ⟨_, rfl⟩
        have HRl := Lib.hid (show RR.length + (asT m true al).length + 1 ≤ 140737488355328 by rw [← hRR]; simp only [List.length_append, List.length_cons, List.length_nil, size_data]; omega)
        have HRR := Lib.hid hRR
        clear hsz hRR
        go_enter Tryd.func32, Tryd.ntmps32
        go_wp2
        go_loopw [5, 62] (fun t5 t62 wr => ∃ (j : Nat) (S : ByteArray), t62 = .int .i64 j ∧ t5 = .string S ∧ j ≤ al.length ∧ Hid (S.data.toList = RR ++ asTo m al j) ∧ Hid (Below w.heap.size w wr)) (fun _ t62 _ => al.length - (intOf t62).toNat)
        case atStart => exact ⟨0, _, rfl, rfl, Nat.zero_le _, Lib.hid (by rw [← HRR.out, asTo]; simp), HB0⟩
        case round =>
          obtain ⟨j, S, rfl, rfl, hj, HS, HB⟩ := hrel
          have hj0 : (j : Int) ≤ 4000000 := by omega
          have hjn : (0 : Int) ≤ (j : Int) := by omega
          by_cases hlt : j < al.length
          · have d1 : decide ((j : Int) < (al.length : Int)) = true := decide_eq_true (by omega)
            have d2 : (j : Int) < (al.length : Int) := by omega
            obtain ⟨b, o, cc, hv, hb, hcs⟩ := args_get HV.out hlt
            cases hv
            obtain ⟨nm, e, he⟩ : ∃ nm e, al[j]? = some (.mk nm e) := by
              cases q : al[j] with
              | mk nm e => exact ⟨nm, e, by rw [List.getElem?_eq_getElem hlt, q]⟩
            obtain ⟨c0, c7, hc7, hx7⟩ := hcs j nm e he
            have hbel : Below W0.heap.size W0 wr := HW.out.trans (HB.out.mono HW.out.size)
            have hsh := ex_shape hx7
            obtain ⟨k2, t2, n3, a2, B1, m1, q1, p2, B2, m2, q2, rfl⟩ := hsh
            rw [← hbel.cell (p := ⟨b, o + j * 8, none⟩) hb] at c0
            obtain ⟨x0, x1, x2, x3, x4, x5, x6⟩ := hc7.under hb hbel
            dsimp only at x0 x1 x2 x3 x4 x5 x6
            have hbw : b < wr.heap.size := Nat.lt_of_lt_of_le hb hbel.size
            have hsu := asTo_succ m al j nm e he
            have hle := asTo_le m al (j + 1) hlt
            rw [hsu] at hle
            have hR := HRl.out
            have hsz : S.size = RR.length + (asTo m al j).length := by rw [← size_data, HS.out, List.length_append]
            simp only [List.length_append] at hle
            have hel : (exT m e).length ≤ 140737488355328 := by omega
            have hnl : (nameG (j == 0) nm).length = (if j = 0 then 0 else 2) + (if emp nm then 0 else nm.size + 2) := by
              unfold nameG
              by_cases h : j = 0
              · subst h; simp; split <;> simp
              · have : (j == 0) = false := by rw [beq_eq_false_iff_ne]; exact h
                rw [this, if_neg h]; simp; split <;> simp <;> omega
            rw [hnl] at hle
            obtain ⟨T, hT⟩ : ∃ T, exT m e = T := ⟨_, rfl⟩
            have hcall := HE.out j nm e he _ (wr.alloc (.cells #[.string nm, .int .i64 k2, .string t2, .string n3, .string a2, .slice B1 m1 q1, .pointer p2, .slice B2 m2 q2] 75)) hx7 (hbel.alloc hbel.size _) hel
            dsimp only at hcall
            rw [hT] at hcall hsu hle
            have HC := Lib.hid hcall
            obtain ⟨en, hen⟩ : ∃ g, emp nm = g := ⟨_, rfl⟩
            have hen2 : nm.toList.isEmpty = en := hen
            rw [hen] at hle
            have Hsu := Lib.hid (show asTo m al (j + 1) = asTo m al j ++ ((if j = 0 then [] else [44, 32]) ++ ((if en = true then [] else nm.data.toList ++ [58, 32]) ++ T)) by
              rw [hsu]
              unfold nameG
              rw [hen]
              by_cases h : j = 0
              · subst h; simp
              · have : (j == 0) = false := by rw [beq_eq_false_iff_ne]; exact h
                rw [this, if_neg h]; simp)
            have hTs := size_mk T
            clear hcs hc7 hx7 hbel he hsu hel hnl hcall hT hen
            by_cases hz : j = 0
            · have z1 : decide (0 < j) = false := decide_eq_false (by omega)
              have z2 : ¬ 0 < j := by omega
              rw [if_pos hz] at hle
              have Hs2 := Lib.hid (show asTo m al (j + 1) = asTo m al j ++ ((if en = true then [] else nm.data.toList ++ [58, 32]) ++ T) by rw [Hsu.out, if_pos hz]; rfl)
              clear hz Hsu
              cases en
              · rw [if_neg (by simp)] at hle
                have g1 : ¬ 9223372036854775807 < S.size + nm.size := by omega
                have g2 : ¬ 9223372036854775807 < S.size + nm.size + 2 := by omega
                have g3 : ¬ 9223372036854775807 < S.size + nm.size + 2 + (⟨T.toArray⟩ : ByteArray).size := by omega
                have g4 : ¬ 9223372036854775807 < S.size + nm.size + 2 + T.length := by omega
                clear hle hsz hTs hR
                go_wp2_with fail
                go_at_call 32
                refine HC.out.mono ?_
                rintro x w2 ⟨rfl, hb2⟩
                have HB2 := Lib.hid (HB.out.trans ((below_box hb2).mono HB.out.size))
                clear hb2
                go_wp2
                go_roundw
                case rel =>
                  refine ⟨j + 1, _, by go_num, rfl, hlt, Lib.hid ?_, HB2⟩
                  have h1 := HS.out
                  rw [Hs2.out, ← List.append_assoc RR, ← h1]
                  simp
                case measure => simp [intOf]; omega
              · rw [if_pos rfl] at hle
                have g3 : ¬ 9223372036854775807 < S.size + (⟨T.toArray⟩ : ByteArray).size := by omega
                have g4 : ¬ 9223372036854775807 < S.size + T.length := by omega
                clear hle hsz hTs hR
                go_wp2_with fail
                go_at_call 32
                refine HC.out.mono ?_
                rintro x w2 ⟨rfl, hb2⟩
                have HB2 := Lib.hid (HB.out.trans ((below_box hb2).mono HB.out.size))
                clear hb2
                go_wp2
                go_roundw
                case rel =>
                  refine ⟨j + 1, _, by go_num, rfl, hlt, Lib.hid ?_, HB2⟩
                  have h1 := HS.out
                  rw [Hs2.out, ← List.append_assoc RR, ← h1]
                  simp
                case measure => simp [intOf]; omega
            · have z1 : decide (0 < j) = true := decide_eq_true (by omega)
              have z2 : 0 < j := by omega
              rw [if_neg hz] at hle
              have Hs2 := Lib.hid (show asTo m al (j + 1) = asTo m al j ++ ([44, 32] ++ ((if en = true then [] else nm.data.toList ++ [58, 32]) ++ T)) by rw [Hsu.out, if_neg hz])
              clear hz Hsu
              have g0 : ¬ 9223372036854775807 < S.size + 2 := by omega
              cases en
              · rw [if_neg (by simp)] at hle
                have g1 : ¬ 9223372036854775807 < S.size + 2 + nm.size := by omega
                have g2 : ¬ 9223372036854775807 < S.size + 2 + nm.size + 2 := by omega
                have g3 : ¬ 9223372036854775807 < S.size + 2 + nm.size + 2 + (⟨T.toArray⟩ : ByteArray).size := by omega
                have g4 : ¬ 9223372036854775807 < S.size + 2 + nm.size + 2 + T.length := by omega
                clear hle hsz hTs hR
                go_wp2_with fail
                go_at_call 32
                refine HC.out.mono ?_
                rintro x w2 ⟨rfl, hb2⟩
                have HB2 := Lib.hid (HB.out.trans ((below_box hb2).mono HB.out.size))
                clear hb2
                go_wp2
                go_roundw
                case rel =>
                  refine ⟨j + 1, _, by go_num, rfl, hlt, Lib.hid ?_, HB2⟩
                  have h1 := HS.out
                  rw [Hs2.out, ← List.append_assoc RR, ← h1]
                  simp
                case measure => simp [intOf]; omega
              · rw [if_pos rfl] at hle
                have g3 : ¬ 9223372036854775807 < S.size + 2 + (⟨T.toArray⟩ : ByteArray).size := by omega
                have g4 : ¬ 9223372036854775807 < S.size + 2 + T.length := by omega
                clear hle hsz hTs hR
                go_wp2_with fail
                go_at_call 32
                refine HC.out.mono ?_
                rintro x w2 ⟨rfl, hb2⟩
                have HB2 := Lib.hid (HB.out.trans ((below_box hb2).mono HB.out.size))
                clear hb2
                go_wp2
                go_roundw
                case rel =>
                  refine ⟨j + 1, _, by go_num, rfl, hlt, Lib.hid ?_, HB2⟩
                  have h1 := HS.out
                  rw [Hs2.out, ← List.append_assoc RR, ← h1]
                  simp
                case measure => simp [intOf]; omega
          · obtain rfl : j = al.length := by omega
            have d1 : decide ((al.length : Int) < (al.length : Int)) = false := decide_eq_false (by omega)
            have hS := HS.out
            rw [asTo_end] at hS
            have hR := HRl.out
            have g5 : ¬ 9223372036854775807 < S.size + 1 := by
              have := congrArg List.length hS
              rw [size_data, List.length_append] at this
              omega
            have HS2 := Lib.hid hS
            clear hS hR
            go_wp2
            go_ret
            refine ⟨ret_str ?_, HB.out⟩
            apply bytes_eq
            have h1 := HS2.out
            have h2 := HRR.out
            simp only [ByteArray.data_append, Array.toList_append, List.append_assoc] at h1 h2 ⊢
            rw [h1, ← h2]
            simp
    · cases bl
      · rw [if_neg (by decide), if_pos rfl, if_neg (by simp)] at HN ⊢
        have hsz := HN.out
        simp only [List.length_append, List.length_cons, List.length_nil, size_data] at hsz
        have g3 : ¬ 9223372036854775807 < n.size + 1 := by omega
        obtain ⟨RR, hRR⟩ : ∃ RR, ([] ++ (n.data.toList ++ ([]))) ++ ([40] : List UInt8) = RR := ⟨_, rfl⟩
        have HRl := Lib.hid (show RR.length + (asT m true al).length + 1 ≤ 140737488355328 by rw [← hRR]; simp only [List.length_append, List.length_cons, List.length_nil, size_data]; omega)
        have HRR := Lib.hid hRR
        clear hsz hRR
        go_enter Tryd.func32, Tryd.ntmps32
        go_wp2
        go_loopw [5, 62] (fun t5 t62 wr => ∃ (j : Nat) (S : ByteArray), t62 = .int .i64 j ∧ t5 = .string S ∧ j ≤ al.length ∧ Hid (S.data.toList = RR ++ asTo m al j) ∧ Hid (Below w.heap.size w wr)) (fun _ t62 _ => al.length - (intOf t62).toNat)
        case atStart => exact ⟨0, _, rfl, rfl, Nat.zero_le _, Lib.hid (by rw [← HRR.out, asTo]; simp), HB0⟩
        case round =>
          obtain ⟨j, S, rfl, rfl, hj, HS, HB⟩ := hrel
          have hj0 : (j : Int) ≤ 4000000 := by omega
          have hjn : (0 : Int) ≤ (j : Int) := by omega
          by_cases hlt : j < al.length
          · have d1 : decide ((j : Int) < (al.length : Int)) = true := decide_eq_true (by omega)
            have d2 : (j : Int) < (al.length : Int) := by omega
            obtain ⟨b, o, cc, hv, hb, hcs⟩ := args_get HV.out hlt
            cases hv
            obtain ⟨nm, e, he⟩ : ∃ nm e, al[j]? = some (.mk nm e) := by
              cases q : al[j] with
              | mk nm e => exact ⟨nm, e, by rw [List.getElem?_eq_getElem hlt, q]⟩
            obtain ⟨c0, c7, hc7, hx7⟩ := hcs j nm e he
            have hbel : Below W0.heap.size W0 wr := HW.out.trans (HB.out.mono HW.out.size)
            have hsh := ex_shape hx7
            obtain ⟨k2, t2, n3, a2, B1, m1, q1, p2, B2, m2, q2, rfl⟩ := hsh
            rw [← hbel.cell (p := ⟨b, o + j * 8, none⟩) hb] at c0
            obtain ⟨x0, x1, x2, x3, x4, x5, x6⟩ := hc7.under hb hbel
            dsimp only at x0 x1 x2 x3 x4 x5 x6
            have hbw : b < wr.heap.size := Nat.lt_of_lt_of_le hb hbel.size
            have hsu := asTo_succ m al j nm e he
            have hle := asTo_le m al (j + 1) hlt
            rw [hsu] at hle
            have hR := HRl.out
            have hsz : S.size = RR.length + (asTo m al j).length := by rw [← size_data, HS.out, List.length_append]
            simp only [List.length_append] at hle
            have hel : (exT m e).length ≤ 140737488355328 := by omega
            have hnl : (nameG (j == 0) nm).length = (if j = 0 then 0 else 2) + (if emp nm then 0 else nm.size + 2) := by
              unfold nameG
              by_cases h : j = 0
              · subst h; simp; split <;> simp
              · have : (j == 0) = false := by rw [beq_eq_false_iff_ne]; exact h
                rw [this, if_neg h]; simp; split <;> simp <;> omega
            rw [hnl] at hle
            obtain ⟨T, hT⟩ : ∃ T, exT m e = T := ⟨_, rfl⟩
            have hcall := HE.out j nm e he _ (wr.alloc (.cells #[.string nm, .int .i64 k2, .string t2, .string n3, .string a2, .slice B1 m1 q1, .pointer p2, .slice B2 m2 q2] 75)) hx7 (hbel.alloc hbel.size _) hel
            dsimp only at hcall
            rw [hT] at hcall hsu hle
            have HC := Lib.hid hcall
            obtain ⟨en, hen⟩ : ∃ g, emp nm = g := ⟨_, rfl⟩
            have hen2 : nm.toList.isEmpty = en := hen
            rw [hen] at hle
            have Hsu := Lib.hid (show asTo m al (j + 1) = asTo m al j ++ ((if j = 0 then [] else [44, 32]) ++ ((if en = true then [] else nm.data.toList ++ [58, 32]) ++ T)) by
              rw [hsu]
              unfold nameG
              rw [hen]
              by_cases h : j = 0
              · subst h; simp
              · have : (j == 0) = false := by rw [beq_eq_false_iff_ne]; exact h
                rw [this, if_neg h]; simp)
            have hTs := size_mk T
            clear hcs hc7 hx7 hbel he hsu hel hnl hcall hT hen
            by_cases hz : j = 0
            · have z1 : decide (0 < j) = false := decide_eq_false (by omega)
              have z2 : ¬ 0 < j := by omega
              rw [if_pos hz] at hle
              have Hs2 := Lib.hid (show asTo m al (j + 1) = asTo m al j ++ ((if en = true then [] else nm.data.toList ++ [58, 32]) ++ T) by rw [Hsu.out, if_pos hz]; rfl)
              clear hz Hsu
              cases en
              · rw [if_neg (by simp)] at hle
                have g1 : ¬ 9223372036854775807 < S.size + nm.size := by omega
                have g2 : ¬ 9223372036854775807 < S.size + nm.size + 2 := by omega
                have g3 : ¬ 9223372036854775807 < S.size + nm.size + 2 + (⟨T.toArray⟩ : ByteArray).size := by omega
                have g4 : ¬ 9223372036854775807 < S.size + nm.size + 2 + T.length := by omega
                clear hle hsz hTs hR
                go_wp2_with fail
                go_at_call 32
                refine HC.out.mono ?_
                rintro x w2 ⟨rfl, hb2⟩
                have HB2 := Lib.hid (HB.out.trans ((below_box hb2).mono HB.out.size))
                clear hb2
                go_wp2
                go_roundw
                case rel =>
                  refine ⟨j + 1, _, by go_num, rfl, hlt, Lib.hid ?_, HB2⟩
                  have h1 := HS.out
                  rw [Hs2.out, ← List.append_assoc RR, ← h1]
                  simp
                case measure => simp [intOf]; omega
              · rw [if_pos rfl] at hle
                have g3 : ¬ 9223372036854775807 < S.size + (⟨T.toArray⟩ : ByteArray).size := by omega
                have g4 : ¬ 9223372036854775807 < S.size + T.length := by omega
                clear hle hsz hTs hR
                go_wp2_with fail
                go_at_call 32
                refine HC.out.mono ?_
                rintro x w2 ⟨rfl, hb2⟩
                have HB2 := Lib.hid (HB.out.trans ((below_box hb2).mono HB.out.size))
                clear hb2
                go_wp2
                go_roundw
                case rel =>
                  refine ⟨j + 1, _, by go_num, rfl, hlt, Lib.hid ?_, HB2⟩
                  have h1 := HS.out
                  rw [Hs2.out, ← List.append_assoc RR, ← h1]
                  simp
                case measure => simp [intOf]; omega
            · have z1 : decide (0 < j) = true := decide_eq_true (by omega)
              have z2 : 0 < j := by omega
              rw [if_neg hz] at hle
              have Hs2 := Lib.hid (show asTo m al (j + 1) = asTo m al j ++ ([44, 32] ++ ((if en = true then [] else nm.data.toList ++ [58, 32]) ++ T)) by rw [Hsu.out, if_neg hz])
              clear hz Hsu
              have g0 : ¬ 9223372036854775807 < S.size + 2 := by omega
              cases en
              · rw [if_neg (by simp)] at hle
                have g1 : ¬ 9223372036854775807 < S.size + 2 + nm.size := by omega
                have g2 : ¬ 9223372036854775807 < S.size + 2 + nm.size + 2 := by omega
                have g3 : ¬ 9223372036854775807 < S.size + 2 + nm.size + 2 + (⟨T.toArray⟩ : ByteArray).size := by omega
                have g4 : ¬ 9223372036854775807 < S.size + 2 + nm.size + 2 + T.length := by omega
                clear hle hsz hTs hR
                go_wp2_with fail
                go_at_call 32
                refine HC.out.mono ?_
                rintro x w2 ⟨rfl, hb2⟩
                have HB2 := Lib.hid (HB.out.trans ((below_box hb2).mono HB.out.size))
                clear hb2
                go_wp2
                go_roundw
                case rel =>
                  refine ⟨j + 1, _, by go_num, rfl, hlt, Lib.hid ?_, HB2⟩
                  have h1 := HS.out
                  rw [Hs2.out, ← List.append_assoc RR, ← h1]
                  simp
                case measure => simp [intOf]; omega
              · rw [if_pos rfl] at hle
                have g3 : ¬ 9223372036854775807 < S.size + 2 + (⟨T.toArray⟩ : ByteArray).size := by omega
                have g4 : ¬ 9223372036854775807 < S.size + 2 + T.length := by omega
                clear hle hsz hTs hR
                go_wp2_with fail
                go_at_call 32
                refine HC.out.mono ?_
                rintro x w2 ⟨rfl, hb2⟩
                have HB2 := Lib.hid (HB.out.trans ((below_box hb2).mono HB.out.size))
                clear hb2
                go_wp2
                go_roundw
                case rel =>
                  refine ⟨j + 1, _, by go_num, rfl, hlt, Lib.hid ?_, HB2⟩
                  have h1 := HS.out
                  rw [Hs2.out, ← List.append_assoc RR, ← h1]
                  simp
                case measure => simp [intOf]; omega
          · obtain rfl : j = al.length := by omega
            have d1 : decide ((al.length : Int) < (al.length : Int)) = false := decide_eq_false (by omega)
            have hS := HS.out
            rw [asTo_end] at hS
            have hR := HRl.out
            have g5 : ¬ 9223372036854775807 < S.size + 1 := by
              have := congrArg List.length hS
              rw [size_data, List.length_append] at this
              omega
            have HS2 := Lib.hid hS
            clear hS hR
            go_wp2
            go_ret
            refine ⟨ret_str ?_, HB.out⟩
            apply bytes_eq
            have h1 := HS2.out
            have h2 := HRR.out
            simp only [ByteArray.data_append, Array.toList_append, List.append_assoc] at h1 h2 ⊢
            rw [h1, ← h2]
            simp
      · rw [if_neg (by decide), if_pos rfl, if_neg (by simp)] at HN ⊢
        have hsz := HN.out
        simp only [List.length_append, List.length_cons, List.length_nil, size_data] at hsz
        have g3 : ¬ 9223372036854775807 < n.size + 1 := by omega
        obtain ⟨RR, hRR⟩ : ∃ RR, ([] ++ (n.data.toList ++ ([]))) ++ ([40] : List UInt8) = RR := ⟨_, rfl⟩
        have HRl := Lib.hid (show RR.length + (asT m true al).length + 1 ≤ 140737488355328 by rw [← hRR]; simp only [List.length_append, List.length_cons, List.length_nil, size_data]; omega)
        have HRR := Lib.hid hRR
        clear hsz hRR
        go_enter Tryd.func32, Tryd.ntmps32
        go_wp2
        go_loopw [5, 62] (fun t5 t62 wr => ∃ (j : Nat) (S : ByteArray), t62 = .int .i64 j ∧ t5 = .string S ∧ j ≤ al.length ∧ Hid (S.data.toList = RR ++ asTo m al j) ∧ Hid (Below w.heap.size w wr)) (fun _ t62 _ => al.length - (intOf t62).toNat)
        case atStart => exact ⟨0, _, rfl, rfl, Nat.zero_le _, Lib.hid (by rw [← HRR.out, asTo]; simp), HB0⟩
        case round =>
          obtain ⟨j, S, rfl, rfl, hj, HS, HB⟩ := hrel
          have hj0 : (j : Int) ≤ 4000000 := by omega
          have hjn : (0 : Int) ≤ (j : Int) := by omega
          by_cases hlt : j < al.length
          · have d1 : decide ((j : Int) < (al.length : Int)) = true := decide_eq_true (by omega)
            have d2 : (j : Int) < (al.length : Int) := by omega
            obtain ⟨b, o, cc, hv, hb, hcs⟩ := args_get HV.out hlt
            cases hv
            obtain ⟨nm, e, he⟩ : ∃ nm e, al[j]? = some (.mk nm e) := by
              cases q : al[j] with
              | mk nm e => exact ⟨nm, e, by rw [List.getElem?_eq_getElem hlt, q]⟩
            obtain ⟨c0, c7, hc7, hx7⟩ := hcs j nm e he
            have hbel : Below W0.heap.size W0 wr := HW.out.trans (HB.out.mono HW.out.size)
            have hsh := ex_shape hx7
            obtain ⟨k2, t2, n3, a2, B1, m1, q1, p2, B2, m2, q2, rfl⟩ := hsh
            rw [← hbel.cell (p := ⟨b, o + j * 8, none⟩) hb] at c0
            obtain ⟨x0, x1, x2, x3, x4, x5, x6⟩ := hc7.under hb hbel
            dsimp only at x0 x1 x2 x3 x4 x5 x6
            have hbw : b < wr.heap.size := Nat.lt_of_lt_of_le hb hbel.size
            have hsu := asTo_succ m al j nm e he
            have hle := asTo_le m al (j + 1) hlt
            rw [hsu] at hle
            have hR := HRl.out
            have hsz : S.size = RR.length + (asTo m al j).length := by rw [← size_data, HS.out, List.length_append]
            simp only [List.length_append] at hle
            have hel : (exT m e).length ≤ 140737488355328 := by omega
            have hnl : (nameG (j == 0) nm).length = (if j = 0 then 0 else 2) + (if emp nm then 0 else nm.size + 2) := by
              unfold nameG
              by_cases h : j = 0
              · subst h; simp; split <;> simp
              · have : (j == 0) = false := by rw [beq_eq_false_iff_ne]; exact h
                rw [this, if_neg h]; simp; split <;> simp <;> omega
            rw [hnl] at hle
            obtain ⟨T, hT⟩ : ∃ T, exT m e = T := ⟨_, rfl⟩
            have hcall := HE.out j nm e he _ (wr.alloc (.cells #[.string nm, .int .i64 k2, .string t2, .string n3, .string a2, .slice B1 m1 q1, .pointer p2, .slice B2 m2 q2] 75)) hx7 (hbel.alloc hbel.size _) hel
            dsimp only at hcall
            rw [hT] at hcall hsu hle
            have HC := Lib.hid hcall
            obtain ⟨en, hen⟩ : ∃ g, emp nm = g := ⟨_, rfl⟩
            have hen2 : nm.toList.isEmpty = en := hen
            rw [hen] at hle
            have Hsu := Lib.hid (show asTo m al (j + 1) = asTo m al j ++ ((if j = 0 then [] else [44, 32]) ++ ((if en = true then [] else nm.data.toList ++ [58, 32]) ++ T)) by
              rw [hsu]
              unfold nameG
              rw [hen]
              by_cases h : j = 0
              · subst h; simp
              · have : (j == 0) = false := by rw [beq_eq_false_iff_ne]; exact h
                rw [this, if_neg h]; simp)
            have hTs := size_mk T
            clear hcs hc7 hx7 hbel he hsu hel hnl hcall hT hen
            by_cases hz : j = 0
            · have z1 : decide (0 < j) = false := decide_eq_false (by omega)
              have z2 : ¬ 0 < j := by omega
              rw [if_pos hz] at hle
              have Hs2 := Lib.hid (show asTo m al (j + 1) = asTo m al j ++ ((if en = true then [] else nm.data.toList ++ [58, 32]) ++ T) by rw [Hsu.out, if_pos hz]; rfl)
              clear hz Hsu
              cases en
              · rw [if_neg (by simp)] at hle
                have g1 : ¬ 9223372036854775807 < S.size + nm.size := by omega
                have g2 : ¬ 9223372036854775807 < S.size + nm.size + 2 := by omega
                have g3 : ¬ 9223372036854775807 < S.size + nm.size + 2 + (⟨T.toArray⟩ : ByteArray).size := by omega
                have g4 : ¬ 9223372036854775807 < S.size + nm.size + 2 + T.length := by omega
                clear hle hsz hTs hR
                go_wp2_with fail
                go_at_call 32
                refine HC.out.mono ?_
                rintro x w2 ⟨rfl, hb2⟩
                have HB2 := Lib.hid (HB.out.trans ((below_box hb2).mono HB.out.size))
                clear hb2
                go_wp2
                go_roundw
                case rel =>
                  refine ⟨j + 1, _, by go_num, rfl, hlt, Lib.hid ?_, HB2⟩
                  have h1 := HS.out
                  rw [Hs2.out, ← List.append_assoc RR, ← h1]
                  simp
                case measure => simp [intOf]; omega
              · rw [if_pos rfl] at hle
                have g3 : ¬ 9223372036854775807 < S.size + (⟨T.toArray⟩ : ByteArray).size := by omega
                have g4 : ¬ 9223372036854775807 < S.size + T.length := by omega
                clear hle hsz hTs hR
                go_wp2_with fail
                go_at_call 32
                refine HC.out.mono ?_
                rintro x w2 ⟨rfl, hb2⟩
                have HB2 := Lib.hid (HB.out.trans ((below_box hb2).mono HB.out.size))
                clear hb2
                go_wp2
                go_roundw
                case rel =>
                  refine ⟨j + 1, _, by go_num, rfl, hlt, Lib.hid ?_, HB2⟩
                  have h1 := HS.out
                  rw [Hs2.out, ← List.append_assoc RR, ← h1]
                  simp
                case measure => simp [intOf]; omega
            · have z1 : decide (0 < j) = true := decide_eq_true (by omega)
              have z2 : 0 < j := by omega
              rw [if_neg hz] at hle
              have Hs2 := Lib.hid (show asTo m al (j + 1) = asTo m al j ++ ([44, 32] ++ ((if en = true then [] else nm.data.toList ++ [58, 32]) ++ T)) by rw [Hsu.out, if_neg hz])
              clear hz Hsu
              have g0 : ¬ 9223372036854775807 < S.size + 2 := by omega
              cases en
              · rw [if_neg (by simp)] at hle
                have g1 : ¬ 9223372036854775807 < S.size + 2 + nm.size := by omega
                have g2 : ¬ 9223372036854775807 < S.size + 2 + nm.size + 2 := by omega
                have g3 : ¬ 9223372036854775807 < S.size + 2 + nm.size + 2 + (⟨T.toArray⟩ : ByteArray).size := by omega
                have g4 : ¬ 9223372036854775807 < S.size + 2 + nm.size + 2 + T.length := by omega
                clear hle hsz hTs hR
                go_wp2_with fail
                go_at_call 32
                refine HC.out.mono ?_
                rintro x w2 ⟨rfl, hb2⟩
                have HB2 := Lib.hid (HB.out.trans ((below_box hb2).mono HB.out.size))
                clear hb2
                go_wp2
                go_roundw
                case rel =>
                  refine ⟨j + 1, _, by go_num, rfl, hlt, Lib.hid ?_, HB2⟩
                  have h1 := HS.out
                  rw [Hs2.out, ← List.append_assoc RR, ← h1]
                  simp
                case measure => simp [intOf]; omega
              · rw [if_pos rfl] at hle
                have g3 : ¬ 9223372036854775807 < S.size + 2 + (⟨T.toArray⟩ : ByteArray).size := by omega
                have g4 : ¬ 9223372036854775807 < S.size + 2 + T.length := by omega
                clear hle hsz hTs hR
                go_wp2_with fail
                go_at_call 32
                refine HC.out.mono ?_
                rintro x w2 ⟨rfl, hb2⟩
                have HB2 := Lib.hid (HB.out.trans ((below_box hb2).mono HB.out.size))
                clear hb2
                go_wp2
                go_roundw
                case rel =>
                  refine ⟨j + 1, _, by go_num, rfl, hlt, Lib.hid ?_, HB2⟩
                  have h1 := HS.out
                  rw [Hs2.out, ← List.append_assoc RR, ← h1]
                  simp
                case measure => simp [intOf]; omega
          · obtain rfl : j = al.length := by omega
            have d1 : decide ((al.length : Int) < (al.length : Int)) = false := decide_eq_false (by omega)
            have hS := HS.out
            rw [asTo_end] at hS
            have hR := HRl.out
            have g5 : ¬ 9223372036854775807 < S.size + 1 := by
              have := congrArg List.length hS
              rw [size_data, List.length_append] at this
              omega
            have HS2 := Lib.hid hS
            clear hS hR
            go_wp2
            go_ret
            refine ⟨ret_str ?_, HB.out⟩
            apply bytes_eq
            have h1 := HS2.out
            have h2 := HRR.out
            simp only [ByteArray.data_append, Array.toList_append, List.append_assoc] at h1 h2 ⊢
            rw [h1, ← h2]
            simp
end Go.Proofs.YtminidoiaplhjaaDoor
