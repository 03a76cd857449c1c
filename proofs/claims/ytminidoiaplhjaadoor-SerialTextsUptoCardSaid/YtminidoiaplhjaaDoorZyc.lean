/-
  Law 10: a place as a text.
-/
import Derived.Test.YtminidoiaplhjaaDoorZyb
import Derived.Deep.RegionHeld3
namespace Go.Proofs.YtminidoiaplhjaaDoor
open Go.RowKit
set_option linter.unusedVariables false
set_option linter.unusedSimpArgs false

set_option maxHeartbeats 2000000 in
set_option maxRecDepth 100000 in
theorem lplace_inl {W0 : World} {m : Nat} (k : Int) (t n a : ByteArray) (al : List AR) (i : Option EX) (vs : List VA) (hk : k ≠ 7) (hI : LiTo W0 m (.mk k t n a al i vs)) : LpTo W0 m (.mk k t n a al i vs) := by
  intro c w hx hW hn
  rw [plT_plain m k t n a al i vs hk] at hn ⊢
  obtain ⟨T, hT⟩ : ∃ T, exT m (.mk k t n a al i vs) = T := ⟨_, rfl⟩
  have hc := hI c
  rw [hT] at hn ⊢
  have hx0 := hx
  obtain ⟨A1, c1, p, A2, c2, rfl, _, _⟩ := exAt_parts hx0
  have hcc := hc (w.alloc (.cells #[.int .i64 k, .string t, .string n, .string a, .slice A1 al.length c1, .pointer p, .slice A2 vs.length c2] 37)) hx (hW.alloc hW.size _) (by rw [hT]; simp at hn; omega)
  rw [hT] at hcc
  have HC := Lib.hid hcc
  have hne : (k != 7) = true := bne_iff_ne.2 hk
  have hTs := size_mk T
  have g1 : ¬ 9223372036854775807 < 2 + (⟨T.toArray⟩ : ByteArray).size := by simp at hn; omega
  have g2 : ¬ 9223372036854775807 < 2 + (⟨T.toArray⟩ : ByteArray).size + 2 := by simp at hn; omega
  have g3 : ¬ 9223372036854775807 < 2 + T.length := by simp at hn; omega
  have g4 : ¬ 9223372036854775807 < 2 + T.length + 2 := by simp at hn; omega
  clear hcc hc hn hI hW hx hT hTs hx0
  dsimp only at HC ⊢
  go_enter Tryd.func23, Tryd.ntmps23
  go_wp2_with fail
  go_at_call 32
  refine HC.out.mono ?_
  rintro x w2 ⟨rfl, h2⟩
  have HB := Lib.hid (below_box h2)
  clear h2
  go_wp2
  go_ret
  exact ⟨ret_str (by apply bytes_eq; simp), HB.out⟩
set_option maxHeartbeats 4000000 in
set_option maxRecDepth 100000 in
theorem lplace_sel {W0 : World} {m : Nat} (hm : m ≤ 4000000) (t n a : ByteArray) (al : List AR) (e : EX) (vs : List VA) (hvz : vs.length ≤ 4000000) (hI : LiTo W0 m e) (hV : ∀ (j : Nat) (k : ByteArray) (d : Bool) (l : List EL), vs[j]? = some (.mk k d l) → LaTo W0 (m + 8) l) : LpTo W0 m (.mk 7 t n a al (some e) vs) := by
  intro c w hx hW hn
  have hpl : plT m (.mk 7 t n a al (some e) vs) = [123, 32] ++ (exT m e ++ ([32, 45, 62] ++ (vsT m vs ++ (10 :: (sps m ++ [125]))))) := by
    rw [plT, if_pos rfl, exO]; rfl
  rw [hpl] at hn ⊢
  obtain ⟨A1, c1, p, A2, c2, rfl, ho, hvl⟩ := exAt_parts hx
  simp only [OAt] at ho
  obtain ⟨q', o', c', hp', hq', hc', hx'⟩ := ho
  cases hp'
  obtain ⟨T, hT⟩ : ∃ T, exT m e = T := ⟨_, rfl⟩
  have hci := hI c'
  rw [hT] at hn ⊢
  have hcc := hci (w.alloc (.cells #[.int .i64 7, .string t, .string n, .string a, .slice A1 al.length c1, .pointer (some ⟨q', o', none⟩), .slice A2 vs.length c2] 37)) hx' (hW.alloc hW.size _) (by rw [hT]; simp at hn; omega)
  rw [hT] at hcc
  obtain ⟨x0, x1, x2, x3, x4, x5, x6⟩ := hc'.under hq' (hW.alloc hW.size (.cells #[.int .i64 7, .string t, .string n, .string a, .slice A1 al.length c1, .pointer (some ⟨q', o', none⟩), .slice A2 vs.length c2] 37))
  have hlq : q' < (w.alloc (.cells #[.int .i64 7, .string t, .string n, .string a, .slice A1 al.length c1, .pointer (some ⟨q', o', none⟩), .slice A2 vs.length c2] 37)).heap.size := Nat.lt_of_lt_of_le hq' (hW.alloc hW.size _).size
  have hsh := ex_shape hx'
  obtain ⟨k2, t2, n3, a2, B1, m1, q1, p2, B2, m2, q2, rfl⟩ := hsh
  dsimp only at x0 x1 x2 x3 x4 x5 x6 hcc ⊢
  have C0 := Lib.hid (BoxAt.new w #[.int .i64 7, .string t, .string n, .string a, .slice A1 al.length c1, .pointer (some ⟨q', o', none⟩), .slice A2 vs.length c2] 37)
  have HC := Lib.hid hcc
  have HVl := Lib.hid hvl
  have HV := Lib.hid hV
  have HW := Lib.hid hW
  have hvz0 : (vs.length : Int) ≤ 4000000 := by omega
  have hm0 : (m : Int) ≤ 4000000 := by omega
  have hmw3 : IntKind.i64.wrap ((m : Int) + 3) = (m : Int) + 3 := IntWalk.i64_in _ (by omega)
  have hmw8 : IntKind.i64.wrap ((m : Int) + 8) = (m : Int) + 8 := IntWalk.i64_in _ (by omega)
  have hTs := size_mk T
  obtain ⟨RR, hRR⟩ : ∃ RR, ([123, 32] : List UInt8) ++ (T ++ [32, 45, 62]) = RR := ⟨_, rfl⟩
  have hne : [123, 32] ++ (T ++ ([32, 45, 62] ++ (vsT m vs ++ (10 :: (sps m ++ [125]))))) = RR ++ (vsT m vs ++ (10 :: (sps m ++ [125]))) := by rw [← hRR]; simp
  rw [hne] at hn ⊢
  have hRRl : RR.length = T.length + 5 := by rw [← hRR]; simp
  have HN := Lib.hid (show RR.length + ((vsT m vs).length + (m + 2)) ≤ 140737488355328 by simp [sps] at hn; omega)
  have g1 : ¬ 9223372036854775807 < 2 + (⟨T.toArray⟩ : ByteArray).size := by have := HN.out; omega
  have g2 : ¬ 9223372036854775807 < 2 + (⟨T.toArray⟩ : ByteArray).size + 3 := by have := HN.out; omega
  have g3 : ¬ 9223372036854775807 < 2 + T.length := by have := HN.out; omega
  have g4 : ¬ 9223372036854775807 < 2 + T.length + 3 := by have := HN.out; omega
  have HRR := Lib.hid hRR
  have hsp3 := fun W => lspaces (m + 3) (by omega) W
  rw [show ((m + 3 : Nat) : Int) = (m : Int) + 3 by omega] at hsp3
  have HS3 := Lib.hid hsp3
  have HSm := Lib.hid (fun W => lspaces m (by omega) W)
  clear hcc hci hn hI hW hx hT hTs hvl hV hc' hx' hpl hne hRRl hRR hsp3
  go_enter Tryd.func23, Tryd.ntmps23
  go_wp2_with fail
  go_at_call 32
  refine HC.out.mono ?_
  rintro x w2 ⟨rfl, h2⟩
  have C2 := Lib.hid (C0.out.later h2)
  have d6 : w2.cell? ⟨w.heap.size, 6, none⟩ = some (.slice A2 vs.length c2) := C2.out.cell 6
  have hlw := C2.out.lt
  have HB2 := Lib.hid (below_box h2)
  clear h2 x0 x1 x2 x3 x4 x5 x6 C0
  go_wp2
  go_loopw [5, 28] (fun t5 t28 wr => ∃ (j : Nat) (S : ByteArray), t28 = .int .i64 j ∧ t5 = .string S ∧ j ≤ vs.length ∧ Hid (S.data.toList = RR ++ vsT m (vs.take j)) ∧ Hid (Below w.heap.size w wr)) (fun _ t28 _ => vs.length - (intOf t28).toNat)
  case atStart => exact ⟨0, _, rfl, rfl, Nat.zero_le _, Lib.hid (by rw [← HRR.out, List.take_zero, vsT]; simp), HB2⟩
  case round =>
    clear d6 hlw C2 HB2 g1 g2 g3 g4
    obtain ⟨j, S, rfl, rfl, hj, HS, HB⟩ := hrel
    have hj0 : (j : Int) ≤ 4000000 := by omega
    have hsz : S.size = RR.length + (vsT m (vs.take j)).length := by rw [← size_data, HS.out, List.length_append]
    by_cases hlt : j < vs.length
    · have d1 : decide ((j : Int) < (vs.length : Int)) = true := decide_eq_true (by omega)
      have d2 : (j : Int) < (vs.length : Int) := by omega
      obtain ⟨eb, eo, cc, e, hb, k, d, l, u, hel, c0, c1', c2', hpt⟩ := va_at HVl.out hlt
      cases e
      have hpt' := hpt
      obtain ⟨A3, c3, rfl, _⟩ := hpt'
      have hbel : Below W0.heap.size W0 wr := HW.out.trans (HB.out.mono HW.out.size)
      rw [← hbel.cell (p := ⟨eb, eo + j * 3, none⟩) hb] at c0
      rw [← hbel.cell (p := ⟨eb, eo + j * 3 + 1, none⟩) hb] at c1'
      rw [← hbel.cell (p := ⟨eb, eo + j * 3 + 2, none⟩) hb] at c2'
      have hbw : eb < wr.heap.size := Nat.lt_of_lt_of_le hb hbel.size
      have hle := vsT_take_le m vs (j + 1)
      have htk := vsT_take m vs j _ hel
      rw [htk, List.length_append] at hle
      have hvl : (vaT m (.mk k d l)).length = 1 + (m + 3 + (1 + (1 + (k.size + (1 + (paT (m + 8) l).length))))) := by
        unfold vaT
        simp [sps]
        omega
      rw [hvl] at hle
      have hNN := HN.out
      obtain ⟨P, hP⟩ : ∃ P, paT (m + 8) l = P := ⟨_, rfl⟩
      have hla := fun W (g : Below W0.heap.size W0 W) => HV.out j k d l hel _ W hpt g (by rw [hP] at hle ⊢; omega)
      simp only [hP] at hla
      rw [hP] at hle
      rw [show ((m + 8 : Nat) : Int) = (m : Int) + 8 by omega] at hla
      have hPs := size_mk P
      have hmz := mgB_size (m + 3)
      have HT := Lib.hid (show vsT m (vs.take (j + 1)) = vsT m (vs.take j) ++ (10 :: (sps (m + 3) ++ ((if d then 42 else 32) :: 91 :: (k.data.toList ++ (93 :: P))))) by rw [htk, ← hP]; rfl)
      have g1 : ¬ 9223372036854775807 < S.size + 1 := by omega
      have g2 : ¬ 9223372036854775807 < S.size + 1 + (mgB (m + 3)).size := by omega
      have g3 : ¬ 9223372036854775807 < S.size + 1 + (mgB (m + 3)).size + 1 := by omega
      have g4 : ¬ 9223372036854775807 < S.size + 1 + (mgB (m + 3)).size + 1 + 1 := by omega
      have g5 : ¬ 9223372036854775807 < S.size + 1 + (mgB (m + 3)).size + 1 + 1 + k.size := by omega
      have g6 : ¬ 9223372036854775807 < S.size + 1 + (mgB (m + 3)).size + 1 + 1 + k.size + 1 := by omega
      have g7 : ¬ 9223372036854775807 < S.size + 1 + (mgB (m + 3)).size + 1 + 1 + k.size + 1 + (⟨P.toArray⟩ : ByteArray).size := by omega
      have g8 : ¬ 9223372036854775807 < S.size + 1 + (mgB (m + 3)).size + 1 + 1 + k.size + 1 + P.length := by omega
      have CB := Lib.hid (BoxAt.new wr #[.string k, .bool d, .slice A3 l.length c3] 73)
      have HBel := Lib.hid (hbel.alloc hbel.size (.cells #[.string k, .bool d, .slice A3 l.length c3] 73))
      have HLa := Lib.hid hla
      clear hel hpt hbel hle htk hvl hNN hP hla hPs hmz hsz
      have HKp : Hid (∀ W W', (W.cell? ⟨wr.heap.size, 0, none⟩ = some (.string k) ∧ W.cell? ⟨wr.heap.size, 2, none⟩ = some (.slice A3 l.length c3) ∧ wr.heap.size + 1 ≤ W.heap.size ∧ Below (wr.heap.size + 1) (wr.alloc (.cells #[.string k, .bool d, .slice A3 l.length c3] 73)) W) → Below W.heap.size W W' → (W'.cell? ⟨wr.heap.size, 0, none⟩ = some (.string k) ∧ W'.cell? ⟨wr.heap.size, 2, none⟩ = some (.slice A3 l.length c3) ∧ wr.heap.size + 1 ≤ W'.heap.size ∧ Below (wr.heap.size + 1) (wr.alloc (.cells #[.string k, .bool d, .slice A3 l.length c3] 73)) W')) := fun W W' ⟨h1, h2, h3, h4⟩ g =>
        ⟨(g.cell (p := ⟨wr.heap.size, 0, none⟩) h3).trans h1, (g.cell (p := ⟨wr.heap.size, 2, none⟩) h3).trans h2, Nat.le_trans h3 g.size, h4.trans (g.mono h3)⟩
      have HS0 := Lib.hid (show ((wr.alloc (.cells #[.string k, .bool d, .slice A3 l.length c3] 73)).drew.cell? ⟨wr.heap.size, 0, none⟩ = some (.string k) ∧ (wr.alloc (.cells #[.string k, .bool d, .slice A3 l.length c3] 73)).drew.cell? ⟨wr.heap.size, 2, none⟩ = some (.slice A3 l.length c3) ∧ wr.heap.size + 1 ≤ (wr.alloc (.cells #[.string k, .bool d, .slice A3 l.length c3] 73)).drew.heap.size ∧ Below (wr.heap.size + 1) (wr.alloc (.cells #[.string k, .bool d, .slice A3 l.length c3] 73)) (wr.alloc (.cells #[.string k, .bool d, .slice A3 l.length c3] 73)).drew) from
        ⟨CB.out.cell 0, CB.out.cell 2, CB.out.lt, (Below.refl _ _).drew⟩)
      have HLb := Lib.hid (fun W (h : W.cell? ⟨wr.heap.size, 0, none⟩ = some (.string k) ∧ W.cell? ⟨wr.heap.size, 2, none⟩ = some (.slice A3 l.length c3) ∧ wr.heap.size + 1 ≤ W.heap.size ∧ Below (wr.heap.size + 1) (wr.alloc (.cells #[.string k, .bool d, .slice A3 l.length c3] 73)) W) => HLa.out W (HBel.out.trans (h.2.2.2.mono (Nat.le_trans HW.out.size (Nat.le_trans HB.out.size (Nat.le_succ _))))))
      cases d
      · go_wp2
        go_region_held3 (fun w' => w'.cell? ⟨wr.heap.size, 0, none⟩ = some (.string k) ∧ w'.cell? ⟨wr.heap.size, 2, none⟩ = some (.slice A3 l.length c3) ∧ wr.heap.size + 1 ≤ w'.heap.size ∧ Below (wr.heap.size + 1) (wr.alloc (.cells #[.string k, .bool false, .slice A3 l.length c3] 73)) w')
          (first | (exact HKp.out _ _ (by assumption) (by assumption)) | (exact HS0.out) | assumption | go_keep)
          (first | (go_at_call 22; (with_reducible refine (HS3.out _).mono ?_); rintro e wa ⟨rfl, rfl⟩) | (go_at_call 14; (with_reducible refine (HLb.out _ (by assumption)).mono ?_); rintro e wb ⟨rfl, hbb⟩))
        rename_i hmE
        obtain ⟨_, _, hmS, hmB⟩ := hmE
        have HBE := Lib.hid ((HB.out.alloc HB.out.size (.cells #[.string k, .bool false, .slice A3 l.length c3] 73)).trans (hmB.mono (Nat.le_trans HB.out.size (Nat.le_succ _))))
        clear hmB
        go_wp2
        go_roundw
        case rel =>
          refine ⟨j + 1, _, by go_num, rfl, hlt, Lib.hid ?_, HBE⟩
          have h1 := HS.out
          rw [HT.out, ← List.append_assoc RR, ← h1]
          simp [mgB_data]
        case measure => simp [intOf]; omega
      · go_wp2
        go_region_held3 (fun w' => w'.cell? ⟨wr.heap.size, 0, none⟩ = some (.string k) ∧ w'.cell? ⟨wr.heap.size, 2, none⟩ = some (.slice A3 l.length c3) ∧ wr.heap.size + 1 ≤ w'.heap.size ∧ Below (wr.heap.size + 1) (wr.alloc (.cells #[.string k, .bool true, .slice A3 l.length c3] 73)) w')
          (first | (exact HKp.out _ _ (by assumption) (by assumption)) | (exact HS0.out) | assumption | go_keep)
          (first | (go_at_call 22; (with_reducible refine (HS3.out _).mono ?_); rintro e wa ⟨rfl, rfl⟩) | (go_at_call 14; (with_reducible refine (HLb.out _ (by assumption)).mono ?_); rintro e wb ⟨rfl, hbb⟩))
        rename_i hmE
        obtain ⟨_, _, hmS, hmB⟩ := hmE
        have HBE := Lib.hid ((HB.out.alloc HB.out.size (.cells #[.string k, .bool true, .slice A3 l.length c3] 73)).trans (hmB.mono (Nat.le_trans HB.out.size (Nat.le_succ _))))
        clear hmB
        go_wp2
        go_roundw
        case rel =>
          refine ⟨j + 1, _, by go_num, rfl, hlt, Lib.hid ?_, HBE⟩
          have h1 := HS.out
          rw [HT.out, ← List.append_assoc RR, ← h1]
          simp [mgB_data]
        case measure => simp [intOf]; omega
    · obtain rfl : j = vs.length := by omega
      have d1 : decide ((vs.length : Int) < (vs.length : Int)) = false := decide_eq_false (by omega)
      have hS := HS.out
      rw [List.take_of_length_le (Nat.le_refl _)] at hS hsz
      have hmz := mgB_size m
      have hNN := HN.out
      have g1 : ¬ 9223372036854775807 < S.size + 1 := by omega
      have g2 : ¬ 9223372036854775807 < S.size + 1 + (mgB m).size := by omega
      have g3 : ¬ 9223372036854775807 < S.size + 1 + (mgB m).size + 1 := by omega
      have HS2 := Lib.hid hS
      clear hS hsz hmz hNN
      go_wp2_with fail
      go_at_call 22
      refine (HSm.out _).mono ?_
      rintro e wa ⟨rfl, rfl⟩
      go_wp2
      go_ret
      refine ⟨ret_str ?_, HB.out⟩
      apply bytes_eq
      have h1 := HS2.out
      simp only [ByteArray.data_append, Array.toList_append, h1, mgB_data]
      simp
end Go.Proofs.YtminidoiaplhjaaDoor
