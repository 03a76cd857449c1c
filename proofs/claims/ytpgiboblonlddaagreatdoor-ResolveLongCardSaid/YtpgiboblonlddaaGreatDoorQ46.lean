/-
  Several texts put together (part 46): what the law and the program call, walked; their contracts.
-/
import Derived.Test.YtpgiboblonlddaaGreatDoorQ45
namespace Go.Proofs.YtpgiboblonlddaaGreatDoor
open Go.RowKit Go.ChangeMaps
set_option linter.unusedVariables false
set_option linter.unusedSimpArgs false
abbrev hLo : ByteArray := ⟨#[97, 32, 61, 32, 120, 123, 32, 36, 118, 32, 125, 121]⟩
abbrev eLo : EN := ⟨1, 0, E0, ⟨#[97]⟩, [.mk ⟨#[120]⟩ none, .mk E0 (some (.mk 2 E0 ⟨#[118]⟩ E0 [] none [])), .mk ⟨#[121]⟩ none], [], 0, 12⟩
theorem hLo_doc : docS hLo = [eLo] := by
  unfold docS
  rw [show (⟨(decAll hLo).toArray⟩ : ByteArray) = hLo by kernel_rfl]
  exact docF_ok (n := 40) (by kernel_rfl)
theorem and7 (x : Int) : ∃ j : Nat, j ≤ 7 ∧ bits BinOp.and IntKind.i64 x 7 = (j : Int) := by
  refine ⟨(BitVec.ofInt 64 x).toNat &&& 7, Nat.and_le_right, ?_⟩
  have h : (BitVec.ofInt 64 x).toNat &&& 7 ≤ 7 := Nat.and_le_right
  simp only [bits, BitVec.toNat_and]
  show IntKind.i64.wrap (((BitVec.ofInt 64 x).toNat &&& (BitVec.ofInt 64 7).toNat : Nat) : Int) = _
  rw [show (BitVec.ofInt 64 7).toNat = 7 by decide]
  generalize (BitVec.ofInt 64 x).toNat &&& 7 = y at *
  exact IntWalk.i64_in _ (by omega)
theorem err_lit (w : World) : ErAt (w.alloc (.cells #[.int .i64 9, .string ⟨#[63]⟩] 59)) (some ⟨w.heap.size, 0, none⟩) [(9, ⟨#[63]⟩)] := fun _ => by
  have hb : BoxAt (w.alloc (.cells #[.int .i64 9, .string ⟨#[63]⟩] 59)) w.heap.size #[.int .i64 9, .string ⟨#[63]⟩] 59 := BoxAt.new _ _ _
  refine ⟨_, rfl, hb.lt, fun j u hj => ?_⟩
  match j, hj with
  | 0, hj => simp [erC] at hj; subst hj; exact hb.cell 0
  | 1, hj => simp [erC] at hj; subst hj; exact hb.cell 1
theorem marks_set {w : World} {b m n : Nat} (o : Obj) (h : MarksAt w b false n) (hm : b ≠ m) : MarksAt (setBlock w m o) b false n := by
  obtain ⟨x, h1, h2⟩ := h
  exact ⟨x, (setBlock_ne o hm).trans h1, fun e => by cases e⟩
theorem below_set {B m : Nat} {w w' : World} (h : Below B w w') (o : Obj) (hm : B ≤ m) : Below B w (setBlock w' m o) :=
  ⟨h.os, h.tape, h.output, by simpa [setBlock] using h.size, fun k hk => (setBlock_ne o (by omega)).trans (h.block k hk)⟩
set_option maxHeartbeats 16000000 in
set_option maxRecDepth 100000 in
theorem long_f (n : Int) (w : World) : Calls Tryz.prog 5 #[.int .i64 n, .bool false] w fun e w' => e = .returned (.bool true) ∧ Below w.heap.size w w' := by
  obtain ⟨jj, hj7, hj⟩ := and7 n
  have hji : (jj : Int) ≤ 7 := by omega
  have hj0 : (0 : Int) ≤ (jj : Int) := by omega
  go_enter Tryz.func5, Tryz.ntmps5
  go_wp2_with fail
  go_at_call 8
  refine (head16_any _).mono ?_
  rintro e w1 ⟨rfl, hb1⟩
  have B1 := Lib.hid hb1
  clear hb1
  go_wp2
  obtain ⟨N, hN⟩ : ∃ N : Nat, N = 2496 + jj := ⟨_, rfl⟩
  have hNN : (2496 : Int) + (jj : Int) = (N : Int) := by omega
  have hNl : N ≤ 2503 := by omega
  rw [hNN]
  have hNi : (N : Int) ≤ 2503 := by omega
  clear hj hNN hN hj7 hji hj0
  go_loopw [6, 7] (fun t6 t7 wr => ∃ (i : Nat), t7 = .int .i64 i ∧ t6 = .string (repB [97] i) ∧ i ≤ N ∧ Hid (Below w.heap.size w wr)) (fun _ t7 _ => N - (intOf t7).toNat)
  case atStart => exact ⟨0, rfl, rfl, Nat.zero_le _, B1⟩
  case round =>
    obtain ⟨i, rfl, rfl, hi, HB⟩ := hrel
    have hi0 : (i : Int) ≤ 2503 := by omega
    by_cases hlt : i < N
    · have f1 : decide ((i : Int) < (N : Int)) = true := decide_eq_true (by omega)
      have hcat : ¬ 9223372036854775807 < (repB [97] i).size + 1 := by
        rw [repB_size]
        show ¬ 9223372036854775807 < i * 1 + 1
        omega
      go_wp2
      exact ⟨⟨i + 1, by go_num, by rw [← repB_succ], hlt, HB⟩, by simp [intOf]; omega⟩
    · obtain rfl : i = N := by omega
      have f1 : decide ((i : Int) < (i : Int)) = false := decide_eq_false (by omega)
      clear B1
      have hcn : Lib.runeCount (repB [97] i) = i := count_one i
      have hsz : (repB [97] i).size ≤ 5006 := by rw [repB_size]; show i * 1 ≤ 5006; omega
      generalize repB [97] i = s at *
      clear hi hlt
      have B1 := HB
      clear HB
      go_wp2_with fail
      go_at_call 10
      refine (english_any _).mono ?_
      rintro e w2 ⟨rfl, hb2⟩
      have B2 := Lib.hid (B1.out.trans (hb2.mono B1.out.size))
      have hcc := Lib.run_convert_bytes_const (P := Tryz.prog) w2 24 5 #[.int .u8 97, .int .u8 32, .int .u8 61, .int .u8 32, .int .u8 120, .int .u8 123, .int .u8 32, .int .u8 36, .int .u8 118, .int .u8 32, .int .u8 125, .int .u8 121] 12 12 Tryz.underlying24 Tryz.underlying5
      clear hb2 B1
      go_wp2_with fail
      go_at_call 9
      have hby := Lib.hid (lit_bytes w2 hLo #[.int .u8 97, .int .u8 32, .int .u8 61, .int .u8 32, .int .u8 120, .int .u8 123, .int .u8 32, .int .u8 36, .int .u8 118, .int .u8 32, .int .u8 125, .int .u8 121] (12, 13) (fun i hi => by
        have h4 : i < 12 := hi
        match i, h4 with
    | 0, _ => rfl
    | 1, _ => rfl
    | 2, _ => rfl
    | 3, _ => rfl
    | 4, _ => rfl
    | 5, _ => rfl
    | 6, _ => rfl
    | 7, _ => rfl
    | 8, _ => rfl
    | 9, _ => rfl
    | 10, _ => rfl
    | 11, _ => rfl
    | k + 12, h => exact absurd h (by omega)
))
      have HA1 := Lib.hid (B2.out.alloc B2.out.size (.cells #[.int .u8 97, .int .u8 32, .int .u8 61, .int .u8 32, .int .u8 120, .int .u8 123, .int .u8 32, .int .u8 36, .int .u8 118, .int .u8 32, .int .u8 125, .int .u8 121] 5 (12, 13)))
      have hVs : (w2.alloc (.cells #[.int .u8 97, .int .u8 32, .int .u8 61, .int .u8 32, .int .u8 120, .int .u8 123, .int .u8 32, .int .u8 36, .int .u8 118, .int .u8 32, .int .u8 125, .int .u8 121] 5 (12, 13))).heap.size = w2.heap.size + 1 := by simp
      generalize w2.alloc (.cells #[.int .u8 97, .int .u8 32, .int .u8 61, .int .u8 32, .int .u8 120, .int .u8 123, .int .u8 32, .int .u8 36, .int .u8 118, .int .u8 32, .int .u8 125, .int .u8 121] 5 (12, 13)) = V1 at *
      have hB2s := B2.out.size
      have HSr : SrcsAt (V1.alloc (.cells #[.slice (some ⟨w2.heap.size, 0, none⟩) 12 12, .bool false] 32)) (w2.heap.size + 1) [⟨some ⟨w2.heap.size, 0, none⟩, hLo, 12, false⟩] := by
        rw [← hVs]
        exact srcs_one V1 _ hLo 12 12 false rfl
      refine (build_any (w0 := V1) (w2.heap.size + 1) 1 [⟨some ⟨w2.heap.size, 0, none⟩, hLo, 12, false⟩] _ _ _ _ (by simp; omega) HSr (of_decide_eq_true (by kernel_rfl)) (by simp) (fun e he => by simp only [List.mem_singleton] at he; subst he; exact res_lit V1 V1 hLo w2.heap.size hby.out (by omega)) ((Below.refl _ _).alloc (Nat.le_refl _) _)).mono ?_
      rintro e w3 ⟨b, M, T, rfl, hb0, hbun, hf, hbel⟩
      obtain ⟨mb, tb, hB⟩ := hbun (by simp)
      have B3 := Lib.hid (HA1.out.trans (((Below.refl _ V1).alloc (Nat.le_refl _) _ |>.trans (hbel.mono (by simp))).mono (by omega)))
      have hBs3 := B3.out.size
      obtain ⟨vs, hv, hM, hT⟩ := fills_one hf
      rw [hLo_doc] at hv
      obtain ⟨⟨x1, A1, c1, D1, d1⟩, rfl, h1⟩ := one_of16 hv
      dsimp only at h1
      subst h1
      obtain rfl : M = [⟨eLo, A1, c1, D1, d1⟩] := hM.trans (by simp [putS, putL])
      obtain rfl : T = [] := hT.trans (by simp [putS, putL])
      have HB := Lib.hid hB
      clear hB hbun hf hv hM hT hbel HSr hby hcc HA1 B2
      have HOk := Lib.hid (fm_in (km := w3.heap.size) HB.out (fun e he => by
        simp only [List.mem_cons, List.not_mem_nil, or_false] at he
        subst he
        exact of_decide_eq_true (by kernel_rfl)) (Nat.le_refl _))
      have hmk := fun W => run_makeMap (P := Tryz.prog) 71 W
      go_wp2_with fail
      go_at_call 13
      refine (vstr_any s _).mono ?_
      rintro e w4 ⟨rfl, hb4⟩
      have hZ := (Below.refl w3.heap.size w3).alloc (Nat.le_refl _) (.cells #[.int .u32 0, .int .i32 0, .int .u32 0, .map none, .int .i64 0] 55)
      have HMk := Lib.hid (((marks_new0 w3).later ((Below.refl _ _).alloc (Nat.le_refl _) (.map #[] 0))).later (hb4.mono (by simp)))
      have HMp := Lib.hid ((MapAt.new (w3.alloc (.cells #[.int .u32 0, .int .i32 0, .int .u32 0, .map none, .int .i64 0] 55)) (w3.heap.size + 1) #[] 0 (by simp)).later (hb4.mono (by simp)))
      have B4 := Lib.hid ((hZ.alloc (by simp) (.map #[] 0)).trans (hb4.mono (by simp; omega)))
      have hU := run_put_new (t := 71) Tryz.underlying71 Tryz.underlying9 w4 (w3.heap.size + 1) #[] 0 HMp.out ⟨#[118]⟩ (strV s).v (by rfl)
      clear hb4 hZ hmk
      have hs4 := B4.out.size
      have HM5 := Lib.hid (marks_set (m := w3.heap.size + 1) (.map #[{ key := .string ⟨#[118]⟩, val := (strV s).v, born := 0 }] 1) HMk.out (by omega))
      have HP5 := Lib.hid (show MapAt (setBlock w4 (w3.heap.size + 1) (.map #[{ key := .string ⟨#[118]⟩, val := (strV s).v, born := 0 }] 1)) (w3.heap.size + 1) #[{ key := .string ⟨#[118]⟩, val := (strV s).v, born := 0 }] 1 from MapAt.set HMp.out _ 1)
      have B5 := Lib.hid (below_set B4.out (m := w3.heap.size + 1) (.map #[{ key := .string ⟨#[118]⟩, val := (strV s).v, born := 0 }] 1) (by omega))
      go_upto_region 14 with fail
      generalize setBlock w4 (w3.heap.size + 1) (.map #[{ key := .string ⟨#[118]⟩, val := (strV s).v, born := 0 }] 1) = w5 at *
      clear hU HMk HMp B4 hs4 hb0 HB
      by_cases hc : 2500 < i
      · have f2 : decide ((2500 : Int) < (i : Int)) = true := decide_eq_true (by omega)
        refine (format_yes HOk.out ⟨#[97]⟩ ⟨#[]⟩ (entE ⟨eLo, A1, c1, D1, d1⟩) (by kernel_rfl) (by kernel_rfl) (of_decide_eq_true (by kernel_rfl)) [(⟨#[118]⟩, strV s)] _ 0 1 false ⟨#[120, 123, 63, 125, 121]⟩ 1 0 [(9, ⟨#[63]⟩)] (fun wb ob => (long_spec _ rfl _ s 0 (by omega)).trans (if_pos (by rw [hcn]; exact hc))) _ B5.out HM5.out (.inr ⟨w3.heap.size + 1, 1, rfl, by omega, HP5.out⟩)).mono ?_
        rintro e w6 ⟨Ae, ce, rfl, hrow, _, hbl, _⟩
        have hb6 := B5.out.trans hbl
        have B6 := Lib.hid (B3.out.trans (hb6.mono hBs3))
        have HE1 := Lib.hid (ErAt.row hrow)
        clear hrow hbl hb6 B5 HM5 HP5 HOk B3
        dsimp only [List.length_cons, List.length_nil]
        go_wp2_with fail
        go_at_call 12
        refine (same16_any Ae (some ⟨w6.heap.size, 0, none⟩) ce 1 [(9, ⟨#[63]⟩)] _ (HE1.out.later ((Below.refl _ _).alloc (Nat.le_refl _) _)) (err_lit w6) (by simp)).mono ?_
        rintro e w7 ⟨rfl, hb7⟩
        have B7 := Lib.hid (B6.out.trans (((Below.refl _ w6).alloc (Nat.le_refl _) _ |>.trans (hb7.mono (by simp))).mono B6.out.size))
        clear hb7 B6 HE1
        go_wp2
        go_ret
        exact ⟨rfl, B7.out⟩
      · have f2 : decide ((2500 : Int) < (i : Int)) = false := decide_eq_false (by omega)
        have hcat1 : ¬ 9223372036854775807 < 1 + s.size := by omega
        have hcat2 : ¬ 9223372036854775807 < 1 + s.size + 1 := by omega
        have hT : (⟨(120 :: s.data.toList ++ [121]).toArray⟩ : ByteArray) = ⟨#[120]⟩ ++ s ++ ⟨#[121]⟩ := by
          apply bytes_eq
          rw [app_data, app_data]
          rfl
        refine (format_yes HOk.out ⟨#[97]⟩ ⟨#[]⟩ (entE ⟨eLo, A1, c1, D1, d1⟩) (by kernel_rfl) (by kernel_rfl) (of_decide_eq_true (by kernel_rfl)) [(⟨#[118]⟩, strV s)] _ 0 1 false (⟨#[120]⟩ ++ s ++ ⟨#[121]⟩) 1 0 [] (fun wb ob => (long_spec _ rfl _ s 0 (by omega)).trans ((if_neg (by rw [hcn]; exact hc)).trans (by rw [hT]))) _ B5.out HM5.out (.inr ⟨w3.heap.size + 1, 1, rfl, by omega, HP5.out⟩)).mono ?_
        rintro e w6 ⟨Ae, ce, rfl, hrow, _, hbl, _⟩
        have hb6 := B5.out.trans hbl
        have B6 := Lib.hid (B3.out.trans (hb6.mono hBs3))
        clear hrow hbl hb6 B5 HM5 HP5 HOk B3 hT
        have he : ((⟨#[120]⟩ ++ s ++ ⟨#[121]⟩ : ByteArray).toList == (⟨#[120]⟩ ++ s ++ ⟨#[121]⟩ : ByteArray).toList) = true := beq_self_eq_true _
        dsimp only [List.length_cons, List.length_nil]
        go_wp2
        go_ret
        exact ⟨rfl, B6.out⟩
set_option maxHeartbeats 16000000 in
set_option maxRecDepth 100000 in
theorem long_t (n : Int) (w : World) : Calls Tryz.prog 5 #[.int .i64 n, .bool true] w fun e w' => e = .returned (.bool true) ∧ Below w.heap.size w w' := by
  obtain ⟨jj, hj7, hj⟩ := and7 n
  have hji : (jj : Int) ≤ 7 := by omega
  have hj0 : (0 : Int) ≤ (jj : Int) := by omega
  go_enter Tryz.func5, Tryz.ntmps5
  go_wp2_with fail
  go_at_call 8
  refine (head16_any _).mono ?_
  rintro e w1 ⟨rfl, hb1⟩
  have B1 := Lib.hid hb1
  clear hb1
  go_wp2
  obtain ⟨N, hN⟩ : ∃ N : Nat, N = 2496 + jj := ⟨_, rfl⟩
  have hNN : (2496 : Int) + (jj : Int) = (N : Int) := by omega
  have hNl : N ≤ 2503 := by omega
  rw [hNN]
  have hNi : (N : Int) ≤ 2503 := by omega
  clear hj hNN hN hj7 hji hj0
  go_loopw [6, 7] (fun t6 t7 wr => ∃ (i : Nat), t7 = .int .i64 i ∧ t6 = .string (repB [195, 169] i) ∧ i ≤ N ∧ Hid (Below w.heap.size w wr)) (fun _ t7 _ => N - (intOf t7).toNat)
  case atStart => exact ⟨0, rfl, rfl, Nat.zero_le _, B1⟩
  case round =>
    obtain ⟨i, rfl, rfl, hi, HB⟩ := hrel
    have hi0 : (i : Int) ≤ 2503 := by omega
    by_cases hlt : i < N
    · have f1 : decide ((i : Int) < (N : Int)) = true := decide_eq_true (by omega)
      have hcat : ¬ 9223372036854775807 < (repB [195, 169] i).size + 2 := by
        rw [repB_size]
        show ¬ 9223372036854775807 < i * 2 + 2
        omega
      go_wp2
      exact ⟨⟨i + 1, by go_num, by rw [← repB_succ], hlt, HB⟩, by simp [intOf]; omega⟩
    · obtain rfl : i = N := by omega
      have f1 : decide ((i : Int) < (i : Int)) = false := decide_eq_false (by omega)
      clear B1
      have hcn : Lib.runeCount (repB [195, 169] i) = i := count_two i
      have hsz : (repB [195, 169] i).size ≤ 5006 := by rw [repB_size]; show i * 2 ≤ 5006; omega
      generalize repB [195, 169] i = s at *
      clear hi hlt
      have B1 := HB
      clear HB
      go_wp2_with fail
      go_at_call 10
      refine (english_any _).mono ?_
      rintro e w2 ⟨rfl, hb2⟩
      have B2 := Lib.hid (B1.out.trans (hb2.mono B1.out.size))
      have hcc := Lib.run_convert_bytes_const (P := Tryz.prog) w2 24 5 #[.int .u8 97, .int .u8 32, .int .u8 61, .int .u8 32, .int .u8 120, .int .u8 123, .int .u8 32, .int .u8 36, .int .u8 118, .int .u8 32, .int .u8 125, .int .u8 121] 12 12 Tryz.underlying24 Tryz.underlying5
      clear hb2 B1
      go_wp2_with fail
      go_at_call 9
      have hby := Lib.hid (lit_bytes w2 hLo #[.int .u8 97, .int .u8 32, .int .u8 61, .int .u8 32, .int .u8 120, .int .u8 123, .int .u8 32, .int .u8 36, .int .u8 118, .int .u8 32, .int .u8 125, .int .u8 121] (12, 13) (fun i hi => by
        have h4 : i < 12 := hi
        match i, h4 with
    | 0, _ => rfl
    | 1, _ => rfl
    | 2, _ => rfl
    | 3, _ => rfl
    | 4, _ => rfl
    | 5, _ => rfl
    | 6, _ => rfl
    | 7, _ => rfl
    | 8, _ => rfl
    | 9, _ => rfl
    | 10, _ => rfl
    | 11, _ => rfl
    | k + 12, h => exact absurd h (by omega)
))
      have HA1 := Lib.hid (B2.out.alloc B2.out.size (.cells #[.int .u8 97, .int .u8 32, .int .u8 61, .int .u8 32, .int .u8 120, .int .u8 123, .int .u8 32, .int .u8 36, .int .u8 118, .int .u8 32, .int .u8 125, .int .u8 121] 5 (12, 13)))
      have hVs : (w2.alloc (.cells #[.int .u8 97, .int .u8 32, .int .u8 61, .int .u8 32, .int .u8 120, .int .u8 123, .int .u8 32, .int .u8 36, .int .u8 118, .int .u8 32, .int .u8 125, .int .u8 121] 5 (12, 13))).heap.size = w2.heap.size + 1 := by simp
      generalize w2.alloc (.cells #[.int .u8 97, .int .u8 32, .int .u8 61, .int .u8 32, .int .u8 120, .int .u8 123, .int .u8 32, .int .u8 36, .int .u8 118, .int .u8 32, .int .u8 125, .int .u8 121] 5 (12, 13)) = V1 at *
      have hB2s := B2.out.size
      have HSr : SrcsAt (V1.alloc (.cells #[.slice (some ⟨w2.heap.size, 0, none⟩) 12 12, .bool false] 32)) (w2.heap.size + 1) [⟨some ⟨w2.heap.size, 0, none⟩, hLo, 12, false⟩] := by
        rw [← hVs]
        exact srcs_one V1 _ hLo 12 12 false rfl
      refine (build_any (w0 := V1) (w2.heap.size + 1) 1 [⟨some ⟨w2.heap.size, 0, none⟩, hLo, 12, false⟩] _ _ _ _ (by simp; omega) HSr (of_decide_eq_true (by kernel_rfl)) (by simp) (fun e he => by simp only [List.mem_singleton] at he; subst he; exact res_lit V1 V1 hLo w2.heap.size hby.out (by omega)) ((Below.refl _ _).alloc (Nat.le_refl _) _)).mono ?_
      rintro e w3 ⟨b, M, T, rfl, hb0, hbun, hf, hbel⟩
      obtain ⟨mb, tb, hB⟩ := hbun (by simp)
      have B3 := Lib.hid (HA1.out.trans (((Below.refl _ V1).alloc (Nat.le_refl _) _ |>.trans (hbel.mono (by simp))).mono (by omega)))
      have hBs3 := B3.out.size
      obtain ⟨vs, hv, hM, hT⟩ := fills_one hf
      rw [hLo_doc] at hv
      obtain ⟨⟨x1, A1, c1, D1, d1⟩, rfl, h1⟩ := one_of16 hv
      dsimp only at h1
      subst h1
      obtain rfl : M = [⟨eLo, A1, c1, D1, d1⟩] := hM.trans (by simp [putS, putL])
      obtain rfl : T = [] := hT.trans (by simp [putS, putL])
      have HB := Lib.hid hB
      clear hB hbun hf hv hM hT hbel HSr hby hcc HA1 B2
      have HOk := Lib.hid (fm_in (km := w3.heap.size) HB.out (fun e he => by
        simp only [List.mem_cons, List.not_mem_nil, or_false] at he
        subst he
        exact of_decide_eq_true (by kernel_rfl)) (Nat.le_refl _))
      have hmk := fun W => run_makeMap (P := Tryz.prog) 71 W
      go_wp2_with fail
      go_at_call 13
      refine (vstr_any s _).mono ?_
      rintro e w4 ⟨rfl, hb4⟩
      have hZ := (Below.refl w3.heap.size w3).alloc (Nat.le_refl _) (.cells #[.int .u32 0, .int .i32 0, .int .u32 0, .map none, .int .i64 0] 55)
      have HMk := Lib.hid (((marks_new0 w3).later ((Below.refl _ _).alloc (Nat.le_refl _) (.map #[] 0))).later (hb4.mono (by simp)))
      have HMp := Lib.hid ((MapAt.new (w3.alloc (.cells #[.int .u32 0, .int .i32 0, .int .u32 0, .map none, .int .i64 0] 55)) (w3.heap.size + 1) #[] 0 (by simp)).later (hb4.mono (by simp)))
      have B4 := Lib.hid ((hZ.alloc (by simp) (.map #[] 0)).trans (hb4.mono (by simp; omega)))
      have hU := run_put_new (t := 71) Tryz.underlying71 Tryz.underlying9 w4 (w3.heap.size + 1) #[] 0 HMp.out ⟨#[118]⟩ (strV s).v (by rfl)
      clear hb4 hZ hmk
      have hs4 := B4.out.size
      have HM5 := Lib.hid (marks_set (m := w3.heap.size + 1) (.map #[{ key := .string ⟨#[118]⟩, val := (strV s).v, born := 0 }] 1) HMk.out (by omega))
      have HP5 := Lib.hid (show MapAt (setBlock w4 (w3.heap.size + 1) (.map #[{ key := .string ⟨#[118]⟩, val := (strV s).v, born := 0 }] 1)) (w3.heap.size + 1) #[{ key := .string ⟨#[118]⟩, val := (strV s).v, born := 0 }] 1 from MapAt.set HMp.out _ 1)
      have B5 := Lib.hid (below_set B4.out (m := w3.heap.size + 1) (.map #[{ key := .string ⟨#[118]⟩, val := (strV s).v, born := 0 }] 1) (by omega))
      go_upto_region 14 with fail
      generalize setBlock w4 (w3.heap.size + 1) (.map #[{ key := .string ⟨#[118]⟩, val := (strV s).v, born := 0 }] 1) = w5 at *
      clear hU HMk HMp B4 hs4 hb0 HB
      by_cases hc : 2500 < i
      · have f2 : decide ((2500 : Int) < (i : Int)) = true := decide_eq_true (by omega)
        refine (format_yes HOk.out ⟨#[97]⟩ ⟨#[]⟩ (entE ⟨eLo, A1, c1, D1, d1⟩) (by kernel_rfl) (by kernel_rfl) (of_decide_eq_true (by kernel_rfl)) [(⟨#[118]⟩, strV s)] _ 0 1 false ⟨#[120, 123, 63, 125, 121]⟩ 1 0 [(9, ⟨#[63]⟩)] (fun wb ob => (long_spec _ rfl _ s 0 (by omega)).trans (if_pos (by rw [hcn]; exact hc))) _ B5.out HM5.out (.inr ⟨w3.heap.size + 1, 1, rfl, by omega, HP5.out⟩)).mono ?_
        rintro e w6 ⟨Ae, ce, rfl, hrow, _, hbl, _⟩
        have hb6 := B5.out.trans hbl
        have B6 := Lib.hid (B3.out.trans (hb6.mono hBs3))
        have HE1 := Lib.hid (ErAt.row hrow)
        clear hrow hbl hb6 B5 HM5 HP5 HOk B3
        dsimp only [List.length_cons, List.length_nil]
        go_wp2_with fail
        go_at_call 12
        refine (same16_any Ae (some ⟨w6.heap.size, 0, none⟩) ce 1 [(9, ⟨#[63]⟩)] _ (HE1.out.later ((Below.refl _ _).alloc (Nat.le_refl _) _)) (err_lit w6) (by simp)).mono ?_
        rintro e w7 ⟨rfl, hb7⟩
        have B7 := Lib.hid (B6.out.trans (((Below.refl _ w6).alloc (Nat.le_refl _) _ |>.trans (hb7.mono (by simp))).mono B6.out.size))
        clear hb7 B6 HE1
        go_wp2
        go_ret
        exact ⟨rfl, B7.out⟩
      · have f2 : decide ((2500 : Int) < (i : Int)) = false := decide_eq_false (by omega)
        have hcat1 : ¬ 9223372036854775807 < 1 + s.size := by omega
        have hcat2 : ¬ 9223372036854775807 < 1 + s.size + 1 := by omega
        have hT : (⟨(120 :: s.data.toList ++ [121]).toArray⟩ : ByteArray) = ⟨#[120]⟩ ++ s ++ ⟨#[121]⟩ := by
          apply bytes_eq
          rw [app_data, app_data]
          rfl
        refine (format_yes HOk.out ⟨#[97]⟩ ⟨#[]⟩ (entE ⟨eLo, A1, c1, D1, d1⟩) (by kernel_rfl) (by kernel_rfl) (of_decide_eq_true (by kernel_rfl)) [(⟨#[118]⟩, strV s)] _ 0 1 false (⟨#[120]⟩ ++ s ++ ⟨#[121]⟩) 1 0 [] (fun wb ob => (long_spec _ rfl _ s 0 (by omega)).trans ((if_neg (by rw [hcn]; exact hc)).trans (by rw [hT]))) _ B5.out HM5.out (.inr ⟨w3.heap.size + 1, 1, rfl, by omega, HP5.out⟩)).mono ?_
        rintro e w6 ⟨Ae, ce, rfl, hrow, _, hbl, _⟩
        have hb6 := B5.out.trans hbl
        have B6 := Lib.hid (B3.out.trans (hb6.mono hBs3))
        clear hrow hbl hb6 B5 HM5 HP5 HOk B3 hT
        have he : ((⟨#[120]⟩ ++ s ++ ⟨#[121]⟩ : ByteArray).toList == (⟨#[120]⟩ ++ s ++ ⟨#[121]⟩ : ByteArray).toList) = true := beq_self_eq_true _
        dsimp only [List.length_cons, List.length_nil]
        go_wp2
        go_ret
        exact ⟨rfl, B6.out⟩
theorem long_any (n : Int) (b : Bool) (w : World) : Calls Tryz.prog 5 #[.int .i64 n, .bool b] w fun e w' => e = .returned (.bool true) ∧ Below w.heap.size w w' := by
  cases b
  · exact long_f n w
  · exact long_t n w
end Go.Proofs.YtpgiboblonlddaaGreatDoor
