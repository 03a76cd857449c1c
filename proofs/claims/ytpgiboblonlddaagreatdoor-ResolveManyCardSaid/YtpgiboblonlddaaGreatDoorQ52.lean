/-
  Several texts put together (part 52): what the law and the program call, walked; their contracts.
-/
import Derived.Test.YtpgiboblonlddaaGreatDoorQ40
import Derived.Test.YtpgiboblonlddaaGreatDoorQ51
namespace Go.Proofs.YtpgiboblonlddaaGreatDoor
open Go.RowKit Go.ChangeMaps
set_option linter.unusedVariables false
set_option linter.unusedSimpArgs false
theorem many_snoc (b : Bool) : ∀ n, many b n ++ oneP b = many b (n + 1)
  | 0 => by simp [many]
  | n + 1 => by rw [many_succ b n, many_succ b (n + 1), ← many_snoc b n, List.append_assoc]
theorem manyL_snoc (b : Bool) (n : Nat) : mkB (manyL b n) ++ mkB (oneP b) = mkB (manyL b (n + 1)) := by
  apply bytes_eq
  rw [app_data, mkB_list, mkB_list, mkB_list]
  unfold manyL
  rw [List.append_assoc, many_snoc]
theorem many_length (b : Bool) : ∀ n, (many b n).length = n * (oneP b).length
  | 0 => by simp [many]
  | n + 1 => by rw [many_succ, List.length_append, many_length b n, Nat.succ_mul]; omega
theorem manyL_size (b : Bool) (n : Nat) : (mkB (manyL b n)).size = 5 + n * (oneP b).length := by
  rw [mkB_size]
  unfold manyL
  rw [List.length_append, many_length]
  rfl
theorem size_cons : ∀ (a : EL) (l : List EL), sizeEs (a :: l) = sizeEs [a] + sizeEs l
  | .mk t p, l => by
    rw [sizeEs, sizeEs, sizeEs]
    omega
theorem size_rep (e : EL) : ∀ n, sizeEs (List.replicate n e) = n * sizeEs [e]
  | 0 => by simp [sizeEs]
  | n + 1 => by rw [List.replicate_succ, Nat.succ_mul, ← size_rep e n, size_cons]; omega
theorem psM_size (b : Bool) (n : Nat) (hn : n ≤ 200) : sizeEs (psM b n) ≤ 4000000 := by
  have h1 : sizeEs (psM b n) = sizeEs [.mk ⟨#[120]⟩ none] + sizeEs (List.replicate n (.mk E0 (some (oneX b)))) := by
    unfold psM
    exact size_cons _ _
  have h2 : sizeEs [EL.mk E0 (some (oneX b))] ≤ 1000 := by cases b <;> decide
  have h3 : sizeEs [EL.mk ⟨#[120]⟩ none] ≤ 1000 := by decide
  rw [h1, size_rep]
  have h4 : n * sizeEs [EL.mk E0 (some (oneX b))] ≤ 200 * 1000 := Nat.mul_le_mul hn h2
  omega
theorem ent_many (b : Bool) (N : Nat) (A : Option Addr) (c : Nat) (D : Option Addr) (d : Nat) (T : List VE) : entB [⟨enM b N, A, c, D, d⟩] T false ⟨#[97]⟩ = some (entE ⟨enM b N, A, c, D, d⟩) := by
  unfold entB
  rw [if_neg (by decide), lookL, if_pos (by rfl)]
  rfl
theorem pat_many (b : Bool) (N : Nat) (A : Option Addr) (c : Nat) (D : Option Addr) (d : Nat) : (entE ⟨enM b N, A, c, D, d⟩).pat ⟨#[]⟩ = (true, psM b N) := by
  show attrF (psM b N) [] ⟨#[]⟩ = _
  unfold attrF
  rw [if_pos (by rfl), decide_eq_true (by unfold psM; simp)]
theorem fmt_one (b : Nat) : FmtAt b ⟨#[101, 110]⟩ (.agg #[.bool false, .string ⟨#[49]⟩, .int .i64 0]) (.agg #[.int .i64 1, .int .i64 0, .int .i64 3, .bool false, .bool false]) ⟨#[49]⟩ := by
  have h := fun W made c (hM : MarksAt W b made c) hc => format_any b c made ⟨#[101, 110]⟩ 1 0 3 false false false ⟨#[49]⟩ 0 W hM hc (by decide) (by decide) (by kernel_rfl) (by decide) (by decide) (by decide)
  have e : bL (fmtL false false (rndL (⟨#[49]⟩ : ByteArray).data.toList 0 0 3) (rndK (⟨#[49]⟩ : ByteArray).data.toList 0 0 3) 1 (sgn ⟨#[101, 110]⟩).1 (sgn ⟨#[101, 110]⟩).2) = ⟨#[49]⟩ := by kernel_rfl
  rw [e] at h
  exact h
theorem written_one (W : World) (hW : W.ShapedOpen Tryz.prog) : Calls Tryz.prog 32 #[.string ⟨#[49]⟩] W fun e w' => e = .returned oneV.v ∧ Below W.heap.size W w' :=
  written_yes ⟨#[49]⟩ ⟨#[49]⟩ false 0 0 3 W hW (parseYes (key := ⟨#[49]⟩) (d := [49]) (by kernel_rfl) (by decide)) (by decide) (by decide)
theorem strN_any (km : Nat) (v : VV) (t : ByteArray) (d : Nat) (hs : strN v = some (t, d)) (W : World) (made : Bool) (n : Nat) (hm : MarksAt W km made n) (hn : n ≤ 900) : Calls Tryz.prog 18 #[v.v, .pointer (some ⟨km, 0, none⟩), .string ⟨#[101, 110]⟩] W fun e w' => e = .returned (.string t) ∧ (∃ made', MarksAt w' km made' (n + d)) ∧ Kp km W w' := by
  unfold strN at hs
  split at hs
  · next h0 =>
    refine strT_any km _ v t d ?_ W made n hm
    unfold strT
    rw [if_pos h0]
    exact hs
  · split at hs
    · next h1 =>
      subst h1
      cases hs
      refine (stringN_any km made n false ⟨#[49]⟩ 0 1 0 3 false false ⟨#[101, 110]⟩ ⟨#[49]⟩ W hm (by omega) (fmt_one km)).mono ?_
      rintro e w' ⟨h1, h2, h3⟩
      exact ⟨h1, ⟨true, h2⟩, h3⟩
    · cases hs
theorem fm_num {w w0 : World} {b mb tb km : Nat} {sc rg : ByteArray} {M T : List VE} (hsh : w.ShapedOpen Tryz.prog) (hw : Below w.heap.size w w0) (hb : BunAt w0 b mb tb ⟨#[101, 110]⟩ sc rg M T) (hok : ∀ e, e ∈ M ∨ e ∈ T → sizeEs e.x.val + sizeTs e.x.ats ≤ 4000000) (hk : w0.heap.size ≤ km) : FmIn w0 b mb tb km ⟨#[101, 110]⟩ sc rg M T wriN strN :=
  { bun := hb, ok := hok, kmb := hk
    wris := fun t v W h hW => by
      unfold wriN at h
      split at h
      · next e =>
        subst e
        cases h
        exact written_one W (shp_below hsh (hw.trans (hW.mono hw.size)))
      · cases h
    strs := fun v t d h W made n hm hn _ => strN_any km v t d h W made n hm hn }
set_option maxHeartbeats 16000000 in
set_option maxRecDepth 100000 in
theorem many_f (n : Int) (w : World) (hsh : w.ShapedOpen Tryz.prog) : Calls Tryz.prog 4 #[.int .i64 n, .bool false] w fun e w' => e = .returned (.bool true) ∧ Below w.heap.size w w' := by
  obtain ⟨jj, hj7, hj⟩ := and7 n
  have hji : (jj : Int) ≤ 7 := by omega
  have hj0 : (0 : Int) ≤ (jj : Int) := by omega
  have HSh := Lib.hid hsh
  clear hsh
  go_enter Tryz.func4, Tryz.ntmps4
  go_wp2_with fail
  go_at_call 8
  refine (head16_any _).mono ?_
  rintro e w1 ⟨rfl, hb1⟩
  have B1 := Lib.hid hb1
  clear hb1
  go_wp2
  obtain ⟨N, hN⟩ : ∃ N : Nat, N = 96 + jj := ⟨_, rfl⟩
  have hNN : (96 : Int) + (jj : Int) = (N : Int) := by omega
  have hNl : N ≤ 103 := by omega
  have hNg : 96 ≤ N := by omega
  rw [hNN]
  have hNi : (N : Int) ≤ 103 := by omega
  have hNh : (96 : Int) ≤ (N : Int) := by omega
  clear hj hNN hN hj7 hji hj0
  go_loopw [5, 6] (fun t5 t6 wr => ∃ (i : Nat), t6 = .int .i64 i ∧ t5 = .string (mkB (manyL false i)) ∧ i ≤ N ∧ Hid (Below w.heap.size w wr)) (fun _ t6 _ => N - (intOf t6).toNat)
  case atStart => exact ⟨0, rfl, rfl, Nat.zero_le _, B1⟩
  case round =>
    obtain ⟨i, rfl, rfl, hi, HB⟩ := hrel
    have hi0 : (i : Int) ≤ 103 := by omega
    by_cases hlt : i < N
    · have f1 : decide ((i : Int) < (N : Int)) = true := decide_eq_true (by omega)
      have hcat : ¬ 9223372036854775807 < (mkB (manyL false i)).size + 5 := by
        rw [manyL_size]
        show ¬ 9223372036854775807 < 5 + i * 5 + 5
        omega
      have HNx := Lib.hid (show mkB (manyL false i) ++ ⟨#[123, 32, 49, 32, 125]⟩ = mkB (manyL false (i + 1)) from manyL_snoc false i)
      go_wp2
      rw [HNx.out]
      exact ⟨⟨i + 1, by go_num, rfl, hlt, HB⟩, by simp [intOf]; omega⟩
    · obtain rfl : N = i := by omega
      have f1 : decide ((N : Int) < (N : Int)) = false := decide_eq_false (by omega)
      clear B1 hlt hi
      have B1 := HB
      clear HB
      have hst : (mkB (manyL false N)).size ≤ 1000 := by rw [manyL_size]; show 5 + N * 5 ≤ 1000; omega
      have HDoc := Lib.hid (show docS (mkB (manyL false N)) = [enM false N] from by
        obtain ⟨k, rfl⟩ : ∃ k, N = k + 1 := ⟨N - 1, by omega⟩
        exact many_doc false k)
      generalize mkB (manyL false N) = s at *
      go_wp2_with fail
      go_at_call 10
      refine (english_any _).mono ?_
      rintro e w2 ⟨rfl, hb2⟩
      have B2 := Lib.hid (B1.out.trans (hb2.mono B1.out.size))
      have hcc := Lib.run_convert_string_bytes (P := Tryz.prog) w2 9 24 5 s Tryz.underlying9 Tryz.underlying24 Tryz.underlying5
      clear hb2 B1
      generalize grownCap w2 s.size 0 5 = cp at *
      go_wp2_with fail
      go_at_call 9
      have hby := Lib.hid (bytes_world w2 s)
      have HA1 := Lib.hid (B2.out.trans ((below_bytes w2 s).mono B2.out.size))
      have hVs : (Lib.bytesWorld w2 5 s).heap.size = w2.heap.size + 1 := Lib.bytesWorld_size _ _ _
      have hB2s := B2.out.size
      clear hcc
      generalize Lib.bytesWorld w2 5 s = V1 at *
      have HSr : SrcsAt (V1.alloc (.cells #[.slice (some ⟨w2.heap.size, 0, none⟩) s.size cp, .bool false] 32)) V1.heap.size [⟨some ⟨w2.heap.size, 0, none⟩, s, cp, false⟩] := srcs_one V1 _ s s.size cp false rfl
      refine (build_any (w0 := V1) V1.heap.size 1 [⟨some ⟨w2.heap.size, 0, none⟩, s, cp, false⟩] _ _ _ _ (by simp) HSr (by simp [totS]; omega) (by simp) (fun e he => by simp only [List.mem_singleton] at he; subst he; exact res_lit2 V1 V1 s w2.heap.size cp hby.out (by omega)) ((Below.refl _ _).alloc (Nat.le_refl _) _)).mono ?_
      rintro e w3 ⟨b, M, T, rfl, hb0, hbun, hfl, hbel⟩
      obtain ⟨mb, tb, hB⟩ := hbun (by simp)
      have B3 := Lib.hid (HA1.out.trans (((Below.refl _ V1).alloc (Nat.le_refl _) _ |>.trans (hbel.mono (by simp))).mono (by omega)))
      have hBs3 := B3.out.size
      obtain ⟨vs, hv, hM, hT⟩ := fills_one hfl
      rw [HDoc.out] at hv
      obtain ⟨⟨x1, A1, c1, D1, d1⟩, rfl, h1⟩ := one_of16 hv
      dsimp only at h1
      subst h1
      obtain rfl : M = [⟨enM false N, A1, c1, D1, d1⟩] := hM.trans (by simp [putS, putL, enM])
      obtain rfl : T = [] := hT.trans (by simp [putS, putL, enM])
      have HOk := Lib.hid (fm_num (km := w3.heap.size) HSh.out B3.out hB (fun e he => by
        simp only [List.mem_cons, List.not_mem_nil, or_false] at he
        subst he
        exact psM_size false N (by omega)) (Nat.le_refl _))
      clear hB hbun hfl hv hM hT hbel HSr hby HA1 B2 HDoc hb0
      by_cases hc : N ≤ 100
      · have HSt := Lib.hid (show stM false N = ⟨N, [], N⟩ from stM_lo false N hc)
        go_wp2_with fail
        go_at_call 11
        refine (format_yes HOk.out ⟨#[97]⟩ ⟨#[]⟩ (entE ⟨enM false N, A1, c1, D1, d1⟩) (ent_many _ _ _ _ _ _ _) (by rw [pat_many]) (of_decide_eq_true (by kernel_rfl)) [] (.map none) 0 2 false ⟨(wantM false N).toArray⟩ (N) (N) [] (fun wb ob => by
          rw [← HSt.out, pat_many]
          exact many_spec _ rfl rfl false N (by omega) _) _ ((Below.refl _ _).alloc (Nat.le_refl _) _) (marks_new0 w3) (.inl ⟨rfl, rfl⟩)).mono ?_
        rintro e w6 ⟨Ae, ce, rfl, hrow, _, hbl, _⟩
        have B6 := Lib.hid (B3.out.trans (((Below.refl _ w3).alloc (Nat.le_refl _) _ |>.trans hbl).mono hBs3))
        clear hrow hbl HOk B3 HSt
        dsimp only [List.length_cons, List.length_nil]
        go_wp2
        go_loopw [11, 12] (fun t11 t12 wr => ∃ (q : Nat), t12 = .int .i64 q ∧ t11 = .string ⟨(wantM false q).toArray⟩ ∧ q ≤ N ∧ Hid (Below w.heap.size w wr)) (fun _ t12 _ => N - (intOf t12).toNat)
        case atStart => exact ⟨0, rfl, rfl, Nat.zero_le _, B6⟩
        case round =>
          obtain ⟨q, rfl, rfl, hq, BW⟩ := hrel
          have hq0 : (q : Int) ≤ 200 := by omega
          have hqz : (⟨(wantM false q).toArray⟩ : ByteArray).size ≤ 1 + 3 * q := by rw [size_mk]; exact wantM_length false q
          by_cases hql : q < N
          · have f2 : decide ((q : Int) < (N : Int)) = true := decide_eq_true (by omega)
            by_cases h5 : q < 100
            · have f3 : decide ((100 : Int) ≤ (q : Int)) = false := decide_eq_false (by omega)
              have HNx := Lib.hid (show (⟨(wantM false q).toArray⟩ : ByteArray) ++ ⟨#[49]⟩ = ⟨(wantM false (q + 1)).toArray⟩ from by
                apply bytes_eq
                rw [app_data, wantM]
                unfold outM
                rw [if_pos (show q < limM false from h5)])
              generalize (⟨(wantM false q).toArray⟩ : ByteArray) = tt at *
              have hc1 : ¬ 9223372036854775807 < tt.size + 1 := by omega
              clear hqz
              go_wp2
              rw [HNx.out]
              exact ⟨⟨q + 1, by go_num, rfl, hql, BW⟩, by simp [intOf]; omega⟩
            · have f3 : decide ((100 : Int) ≤ (q : Int)) = true := decide_eq_true (by omega)
              have HNx := Lib.hid (show (⟨(wantM false q).toArray⟩ : ByteArray) ++ ⟨#[123, 63, 125]⟩ = ⟨(wantM false (q + 1)).toArray⟩ from by
                apply bytes_eq
                rw [app_data, wantM]
                unfold outM
                rw [if_neg (show ¬ q < limM false from h5)]
                rfl)
              generalize (⟨(wantM false q).toArray⟩ : ByteArray) = tt at *
              have hc1 : ¬ 9223372036854775807 < tt.size + 3 := by omega
              clear hqz
              go_wp2
              rw [HNx.out]
              exact ⟨⟨q + 1, by go_num, rfl, hql, BW⟩, by simp [intOf]; omega⟩
          · obtain rfl : q = N := by omega
            have f2 : decide ((q : Int) < (q : Int)) = false := decide_eq_false (by omega)
            generalize (⟨(wantM false q).toArray⟩ : ByteArray) = tt at *
            have he : (tt.toList == tt.toList) = true := beq_self_eq_true _
            have f4 : decide ((100 : Int) < (q : Int)) = false := decide_eq_false (by omega)
            go_wp2
            go_ret
            exact ⟨rfl, BW.out⟩
      · have HSt := Lib.hid (show stM false N = ⟨100 + (N - 100), [(8, ⟨#[63]⟩)], 100⟩ from stM_hi false N (by show 100 < N; omega))
        go_wp2_with fail
        go_at_call 11
        refine (format_yes HOk.out ⟨#[97]⟩ ⟨#[]⟩ (entE ⟨enM false N, A1, c1, D1, d1⟩) (ent_many _ _ _ _ _ _ _) (by rw [pat_many]) (of_decide_eq_true (by kernel_rfl)) [] (.map none) 0 2 false ⟨(wantM false N).toArray⟩ (100 + (N - 100)) (100) [(8, ⟨#[63]⟩)] (fun wb ob => by
          rw [← HSt.out, pat_many]
          exact many_spec _ rfl rfl false N (by omega) _) _ ((Below.refl _ _).alloc (Nat.le_refl _) _) (marks_new0 w3) (.inl ⟨rfl, rfl⟩)).mono ?_
        rintro e w6 ⟨Ae, ce, rfl, hrow, _, hbl, _⟩
        have B6 := Lib.hid (B3.out.trans (((Below.refl _ w3).alloc (Nat.le_refl _) _ |>.trans hbl).mono hBs3))
        have HE1 := Lib.hid (ErAt.row hrow)
        clear hrow hbl HOk B3 HSt
        dsimp only [List.length_cons, List.length_nil]
        go_wp2
        go_loopw [11, 12] (fun t11 t12 wr => ∃ (q : Nat), t12 = .int .i64 q ∧ t11 = .string ⟨(wantM false q).toArray⟩ ∧ q ≤ N ∧ Hid (Below w.heap.size w wr) ∧ Hid (ErAt wr Ae [(8, ⟨#[63]⟩)])) (fun _ t12 _ => N - (intOf t12).toNat)
        case atStart => exact ⟨0, rfl, rfl, Nat.zero_le _, B6, HE1⟩
        case round =>
          obtain ⟨q, rfl, rfl, hq, BW, HEW⟩ := hrel
          have hq0 : (q : Int) ≤ 200 := by omega
          have hqz : (⟨(wantM false q).toArray⟩ : ByteArray).size ≤ 1 + 3 * q := by rw [size_mk]; exact wantM_length false q
          by_cases hql : q < N
          · have f2 : decide ((q : Int) < (N : Int)) = true := decide_eq_true (by omega)
            by_cases h5 : q < 100
            · have f3 : decide ((100 : Int) ≤ (q : Int)) = false := decide_eq_false (by omega)
              have HNx := Lib.hid (show (⟨(wantM false q).toArray⟩ : ByteArray) ++ ⟨#[49]⟩ = ⟨(wantM false (q + 1)).toArray⟩ from by
                apply bytes_eq
                rw [app_data, wantM]
                unfold outM
                rw [if_pos (show q < limM false from h5)])
              generalize (⟨(wantM false q).toArray⟩ : ByteArray) = tt at *
              have hc1 : ¬ 9223372036854775807 < tt.size + 1 := by omega
              clear hqz
              go_wp2
              rw [HNx.out]
              exact ⟨⟨q + 1, by go_num, rfl, hql, BW, HEW⟩, by simp [intOf]; omega⟩
            · have f3 : decide ((100 : Int) ≤ (q : Int)) = true := decide_eq_true (by omega)
              have HNx := Lib.hid (show (⟨(wantM false q).toArray⟩ : ByteArray) ++ ⟨#[123, 63, 125]⟩ = ⟨(wantM false (q + 1)).toArray⟩ from by
                apply bytes_eq
                rw [app_data, wantM]
                unfold outM
                rw [if_neg (show ¬ q < limM false from h5)]
                rfl)
              generalize (⟨(wantM false q).toArray⟩ : ByteArray) = tt at *
              have hc1 : ¬ 9223372036854775807 < tt.size + 3 := by omega
              clear hqz
              go_wp2
              rw [HNx.out]
              exact ⟨⟨q + 1, by go_num, rfl, hql, BW, HEW⟩, by simp [intOf]; omega⟩
          · obtain rfl : q = N := by omega
            have f2 : decide ((q : Int) < (q : Int)) = false := decide_eq_false (by omega)
            generalize (⟨(wantM false q).toArray⟩ : ByteArray) = tt at *
            have he : (tt.toList == tt.toList) = true := beq_self_eq_true _
            have f4 : decide ((100 : Int) < (q : Int)) = true := decide_eq_true (by omega)
            go_wp2_with fail
            go_at_call 12
            refine (same16_any Ae (some ⟨wr.heap.size, 0, none⟩) ce 1 [(8, ⟨#[63]⟩)] _ (HEW.out.later ((Below.refl _ _).alloc (Nat.le_refl _) _)) (err_lit2 8 ⟨#[63]⟩ wr) (by simp)).mono ?_
            rintro e w7 ⟨rfl, hb7⟩
            have B7 := Lib.hid (BW.out.trans (((Below.refl _ wr).alloc (Nat.le_refl _) _ |>.trans (hb7.mono (by simp))).mono BW.out.size))
            clear hb7 BW HEW
            go_wp2
            go_ret
            exact ⟨rfl, B7.out⟩
set_option maxHeartbeats 16000000 in
set_option maxRecDepth 100000 in
theorem many_t (n : Int) (w : World) (hsh : w.ShapedOpen Tryz.prog) : Calls Tryz.prog 4 #[.int .i64 n, .bool true] w fun e w' => e = .returned (.bool true) ∧ Below w.heap.size w w' := by
  obtain ⟨jj, hj7, hj⟩ := and7 n
  have hji : (jj : Int) ≤ 7 := by omega
  have hj0 : (0 : Int) ≤ (jj : Int) := by omega
  have HSh := Lib.hid hsh
  clear hsh
  go_enter Tryz.func4, Tryz.ntmps4
  go_wp2_with fail
  go_at_call 8
  refine (head16_any _).mono ?_
  rintro e w1 ⟨rfl, hb1⟩
  have B1 := Lib.hid hb1
  clear hb1
  go_wp2
  obtain ⟨N, hN⟩ : ∃ N : Nat, N = 96 + jj := ⟨_, rfl⟩
  have hNN : (96 : Int) + (jj : Int) = (N : Int) := by omega
  have hNl : N ≤ 103 := by omega
  have hNg : 96 ≤ N := by omega
  rw [hNN]
  have hNi : (N : Int) ≤ 103 := by omega
  have hNh : (96 : Int) ≤ (N : Int) := by omega
  clear hj hNN hN hj7 hji hj0
  go_loopw [5, 6] (fun t5 t6 wr => ∃ (i : Nat), t6 = .int .i64 i ∧ t5 = .string (mkB (manyL true i)) ∧ i ≤ N ∧ Hid (Below w.heap.size w wr)) (fun _ t6 _ => N - (intOf t6).toNat)
  case atStart => exact ⟨0, rfl, rfl, Nat.zero_le _, B1⟩
  case round =>
    obtain ⟨i, rfl, rfl, hi, HB⟩ := hrel
    have hi0 : (i : Int) ≤ 103 := by omega
    by_cases hlt : i < N
    · have f1 : decide ((i : Int) < (N : Int)) = true := decide_eq_true (by omega)
      have hcat : ¬ 9223372036854775807 < (mkB (manyL true i)).size + 9 := by
        rw [manyL_size]
        show ¬ 9223372036854775807 < 5 + i * 9 + 9
        omega
      have HNx := Lib.hid (show mkB (manyL true i) ++ ⟨#[123, 32, 123, 32, 49, 32, 125, 32, 125]⟩ = mkB (manyL true (i + 1)) from manyL_snoc true i)
      go_wp2
      rw [HNx.out]
      exact ⟨⟨i + 1, by go_num, rfl, hlt, HB⟩, by simp [intOf]; omega⟩
    · obtain rfl : N = i := by omega
      have f1 : decide ((N : Int) < (N : Int)) = false := decide_eq_false (by omega)
      clear B1 hlt hi
      have B1 := HB
      clear HB
      have hst : (mkB (manyL true N)).size ≤ 1000 := by rw [manyL_size]; show 5 + N * 9 ≤ 1000; omega
      have HDoc := Lib.hid (show docS (mkB (manyL true N)) = [enM true N] from by
        obtain ⟨k, rfl⟩ : ∃ k, N = k + 1 := ⟨N - 1, by omega⟩
        exact many_doc true k)
      generalize mkB (manyL true N) = s at *
      go_wp2_with fail
      go_at_call 10
      refine (english_any _).mono ?_
      rintro e w2 ⟨rfl, hb2⟩
      have B2 := Lib.hid (B1.out.trans (hb2.mono B1.out.size))
      have hcc := Lib.run_convert_string_bytes (P := Tryz.prog) w2 9 24 5 s Tryz.underlying9 Tryz.underlying24 Tryz.underlying5
      clear hb2 B1
      generalize grownCap w2 s.size 0 5 = cp at *
      go_wp2_with fail
      go_at_call 9
      have hby := Lib.hid (bytes_world w2 s)
      have HA1 := Lib.hid (B2.out.trans ((below_bytes w2 s).mono B2.out.size))
      have hVs : (Lib.bytesWorld w2 5 s).heap.size = w2.heap.size + 1 := Lib.bytesWorld_size _ _ _
      have hB2s := B2.out.size
      clear hcc
      generalize Lib.bytesWorld w2 5 s = V1 at *
      have HSr : SrcsAt (V1.alloc (.cells #[.slice (some ⟨w2.heap.size, 0, none⟩) s.size cp, .bool false] 32)) V1.heap.size [⟨some ⟨w2.heap.size, 0, none⟩, s, cp, false⟩] := srcs_one V1 _ s s.size cp false rfl
      refine (build_any (w0 := V1) V1.heap.size 1 [⟨some ⟨w2.heap.size, 0, none⟩, s, cp, false⟩] _ _ _ _ (by simp) HSr (by simp [totS]; omega) (by simp) (fun e he => by simp only [List.mem_singleton] at he; subst he; exact res_lit2 V1 V1 s w2.heap.size cp hby.out (by omega)) ((Below.refl _ _).alloc (Nat.le_refl _) _)).mono ?_
      rintro e w3 ⟨b, M, T, rfl, hb0, hbun, hfl, hbel⟩
      obtain ⟨mb, tb, hB⟩ := hbun (by simp)
      have B3 := Lib.hid (HA1.out.trans (((Below.refl _ V1).alloc (Nat.le_refl _) _ |>.trans (hbel.mono (by simp))).mono (by omega)))
      have hBs3 := B3.out.size
      obtain ⟨vs, hv, hM, hT⟩ := fills_one hfl
      rw [HDoc.out] at hv
      obtain ⟨⟨x1, A1, c1, D1, d1⟩, rfl, h1⟩ := one_of16 hv
      dsimp only at h1
      subst h1
      obtain rfl : M = [⟨enM true N, A1, c1, D1, d1⟩] := hM.trans (by simp [putS, putL, enM])
      obtain rfl : T = [] := hT.trans (by simp [putS, putL, enM])
      have HOk := Lib.hid (fm_num (km := w3.heap.size) HSh.out B3.out hB (fun e he => by
        simp only [List.mem_cons, List.not_mem_nil, or_false] at he
        subst he
        exact psM_size true N (by omega)) (Nat.le_refl _))
      clear hB hbun hfl hv hM hT hbel HSr hby HA1 B2 HDoc hb0
      have HSt := Lib.hid (show stM true N = ⟨100 + (N - 50), [(8, ⟨#[63]⟩)], 50⟩ from stM_hi true N (by show 50 < N; omega))
      go_wp2_with fail
      go_at_call 11
      refine (format_yes HOk.out ⟨#[97]⟩ ⟨#[]⟩ (entE ⟨enM true N, A1, c1, D1, d1⟩) (ent_many _ _ _ _ _ _ _) (by rw [pat_many]) (of_decide_eq_true (by kernel_rfl)) [] (.map none) 0 2 false ⟨(wantM true N).toArray⟩ (100 + (N - 50)) (50) [(8, ⟨#[63]⟩)] (fun wb ob => by
        rw [← HSt.out, pat_many]
        exact many_spec _ rfl rfl true N (by omega) _) _ ((Below.refl _ _).alloc (Nat.le_refl _) _) (marks_new0 w3) (.inl ⟨rfl, rfl⟩)).mono ?_
      rintro e w6 ⟨Ae, ce, rfl, hrow, _, hbl, _⟩
      have B6 := Lib.hid (B3.out.trans (((Below.refl _ w3).alloc (Nat.le_refl _) _ |>.trans hbl).mono hBs3))
      have HE1 := Lib.hid (ErAt.row hrow)
      clear hrow hbl HOk B3 HSt
      dsimp only [List.length_cons, List.length_nil]
      go_wp2
      go_loopw [11, 12] (fun t11 t12 wr => ∃ (q : Nat), t12 = .int .i64 q ∧ t11 = .string ⟨(wantM true q).toArray⟩ ∧ q ≤ N ∧ Hid (Below w.heap.size w wr) ∧ Hid (ErAt wr Ae [(8, ⟨#[63]⟩)])) (fun _ t12 _ => N - (intOf t12).toNat)
      case atStart => exact ⟨0, rfl, rfl, Nat.zero_le _, B6, HE1⟩
      case round =>
        obtain ⟨q, rfl, rfl, hq, BW, HEW⟩ := hrel
        have hq0 : (q : Int) ≤ 200 := by omega
        have hqz : (⟨(wantM true q).toArray⟩ : ByteArray).size ≤ 1 + 3 * q := by rw [size_mk]; exact wantM_length true q
        by_cases hql : q < N
        · have f2 : decide ((q : Int) < (N : Int)) = true := decide_eq_true (by omega)
          by_cases h5 : q < 50
          · have f3 : decide ((50 : Int) ≤ (q : Int)) = false := decide_eq_false (by omega)
            have HNx := Lib.hid (show (⟨(wantM true q).toArray⟩ : ByteArray) ++ ⟨#[49]⟩ = ⟨(wantM true (q + 1)).toArray⟩ from by
              apply bytes_eq
              rw [app_data, wantM]
              unfold outM
              rw [if_pos (show q < limM true from h5)])
            generalize (⟨(wantM true q).toArray⟩ : ByteArray) = tt at *
            have hc1 : ¬ 9223372036854775807 < tt.size + 1 := by omega
            clear hqz
            go_wp2
            rw [HNx.out]
            exact ⟨⟨q + 1, by go_num, rfl, hql, BW, HEW⟩, by simp [intOf]; omega⟩
          · have f3 : decide ((50 : Int) ≤ (q : Int)) = true := decide_eq_true (by omega)
            have HNx := Lib.hid (show (⟨(wantM true q).toArray⟩ : ByteArray) ++ ⟨#[123, 63, 125]⟩ = ⟨(wantM true (q + 1)).toArray⟩ from by
              apply bytes_eq
              rw [app_data, wantM]
              unfold outM
              rw [if_neg (show ¬ q < limM true from h5)]
              rfl)
            generalize (⟨(wantM true q).toArray⟩ : ByteArray) = tt at *
            have hc1 : ¬ 9223372036854775807 < tt.size + 3 := by omega
            clear hqz
            go_wp2
            rw [HNx.out]
            exact ⟨⟨q + 1, by go_num, rfl, hql, BW, HEW⟩, by simp [intOf]; omega⟩
        · obtain rfl : q = N := by omega
          have f2 : decide ((q : Int) < (q : Int)) = false := decide_eq_false (by omega)
          generalize (⟨(wantM true q).toArray⟩ : ByteArray) = tt at *
          have he : (tt.toList == tt.toList) = true := beq_self_eq_true _
          go_wp2_with fail
          go_at_call 12
          refine (same16_any Ae (some ⟨wr.heap.size, 0, none⟩) ce 1 [(8, ⟨#[63]⟩)] _ (HEW.out.later ((Below.refl _ _).alloc (Nat.le_refl _) _)) (err_lit2 8 ⟨#[63]⟩ wr) (by simp)).mono ?_
          rintro e w7 ⟨rfl, hb7⟩
          have B7 := Lib.hid (BW.out.trans (((Below.refl _ wr).alloc (Nat.le_refl _) _ |>.trans (hb7.mono (by simp))).mono BW.out.size))
          clear hb7 BW HEW
          go_wp2
          go_ret
          exact ⟨rfl, B7.out⟩
theorem many_any (n : Int) (b : Bool) (w : World) (hsh : w.ShapedOpen Tryz.prog) : Calls Tryz.prog 4 #[.int .i64 n, .bool b] w fun e w' => e = .returned (.bool true) ∧ Below w.heap.size w w' := by
  cases b
  · exact many_f n w hsh
  · exact many_t n w hsh
end Go.Proofs.YtpgiboblonlddaaGreatDoor
