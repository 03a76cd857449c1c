/-
  The statement's Unquote: its walk (under way).
-/
import Derived.Test.YtgjbgfnchlogdaaDoorTMath7
import Derived.Test.YtgjbgfnchlogdaaDoorTEnc
import Derived.Test.YtgjbgfnchlogdaaDoorTLRight
import Derived.Test.YtgjbgfnchlogdaaDoorTLawQuotes
import Derived.Deep.CutBlock
namespace Go.Proofs.YtgjbgfnchlogdaaDoor
open Go.RowKit
set_option linter.unusedVariables false
set_option linter.unusedSimpArgs false

set_option maxHeartbeats 8000000 in
set_option maxRecDepth 1000000 in
theorem lunquote_any (s : ByteArray) (w : World) (hT : TabU w) (hs : s.size ≤ 300) (xs : List (List UInt8)) (hx : sigAll s.data.toList = some xs) :
    Calls Tryd.prog 15 #[.string s] w fun e w' => e = .returned (unqVal (lawUnqAll xs)) ∧ Below w.heap.size w w' := by
  obtain ⟨R, hR⟩ : ∃ R, lawUnqAll xs = R := ⟨_, rfl⟩
  rw [hR]
  have hne4 := sigs_ne _ _ xs hx
  have Hx := Lib.hid hx
  clear hx
  go_enter Tryd.func15, Tryd.ntmps15
  go_wp2_with fail
  go_at_call 13
  refine (signs_any s _ hT (by omega)).mono ?_
  rintro e w1 ⟨hse, b1⟩
  rcases hse with ⟨hn, rfl⟩ | ⟨xs', v, hx', hxl, rfl, hown⟩
  · rw [Hx.out] at hn; cases hn
  obtain rfl : xs = xs' := by have := Hx.out; rw [this] at hx'; exact Option.some.inj hx'
  rw [size_data] at hxl
  have Hne4 := Lib.hid hne4
  clear hx' Hx hT hne4
  cases xs with
  | nil =>
    subst hR
    rcases hown.2 with ⟨rfl, h0⟩ | ⟨g, cap, cur, fz, rfl, hbg, hg, hfz, hcap, hml, hcs, htk⟩
    · clear hown
      go_wp2
      go_ret3
      exact ⟨rfl, b1⟩
    · have h00 : (([] : List (List UInt8)).length) = 0 := rfl
      rw [h00]
      clear hown hbg hg hfz hcs htk hcap
      go_wp2
      go_ret3
      exact ⟨rfl, b1⟩
  | cons x ys =>
    rcases hown.2 with ⟨rfl, h0⟩ | ⟨g, cap, cur, fz, rfl, hbg, hg, hfz, hcap, hml, hcs, htk⟩
    · simp at h0
    have hcell : ∀ j q, (x :: ys)[j]? = some q → w1.cell? ⟨g, j, none⟩ = some (strV q) := by
      intro j q h
      have := hown.cells (g := g) rfl j (strV q) (by rw [List.getElem?_map, h]; rfl)
      rw [Addr.add_mid, Nat.zero_add] at this
      exact this
    have hglt : g < w1.heap.size := (Array.getElem?_eq_some_iff.1 hg).1
    have h0 : w1.cell? ⟨g, 0, none⟩ = some (.string (bytesV x)) := hcell 0 x rfl
    have Hcell := Lib.hid hcell
    clear hcell hown hg hbg hfz hcs htk
    rw [List.length_cons] at hxl hcap ⊢
    generalize hL : ys.length = L at *
    have HL := Lib.hid hL
    clear hL
    have hxq := bytesV_toList x
    have hL0 : ((L : Int) + 1 == 0) = false := by simp; omega
    rw [lawUnqAll] at hR
    have HR := Lib.hid hR
    clear hR
    cases h34 : (x == [34])
    · obtain rfl : R = none := by
        rw [← HR.out, if_neg]
        intro e
        rw [e] at h34
        simp at h34
      go_wp2
      go_ret3
      exact ⟨rfl, b1⟩
    · have HR2 : Hid (lawUnq ys.length ys 1 [] = R) := Lib.hid (by rw [← HR.out, if_pos (by simpa using h34)])
      clear HR
      have hxl1 : x.length = 1 := by
        have : x = [34] := by simpa using h34
        rw [this]; rfl
      go_wp2
      clear h0 h34 hxq
      go_loopw [7, 8, 9] (fun ac n i wr => ∃ (j pos f : Nat) (acc : List UInt8), 1 ≤ j ∧ j ≤ L + 1 ∧ i = .int .i64 j ∧ n = .int .i64 pos ∧ ac = .string (bytesV acc) ∧ pos ≤ 4 * j ∧ acc.length ≤ 4 * j ∧ L + 1 - j ≤ f ∧ Hid (lawUnq f ((x :: ys).drop j) pos acc = R) ∧ Hid (Below w1.heap.size w1 wr)) (fun _ _ i _ => L + 1 - (intOf i).toNat)
      case atStart => exact ⟨1, 1, ys.length, [], Nat.le_refl _, by omega, rfl, rfl, rfl, by decide, by decide, by rw [HL.out]; omega, Lib.hid (by rw [← HR2.out]; rfl), Below.refl _ _⟩
      case round =>
        obtain ⟨j, pos, f, acc, hj1, hj, rfl, rfl, rfl, hpos, hacl, hf, hU, Hbw⟩ := hrel
        by_cases hlt : j < L + 1
        · have hjl : j < (x :: ys).length := by rw [List.length_cons, HL.out]; exact hlt
          have hd1 : decide ((j : Int) < (L : Int) + 1) = true := by simp; omega
          have hc := Hcell.out j (x :: ys)[j] (List.getElem?_eq_getElem hjl)
          have hc' : wr.cell? ⟨g, j, none⟩ = some (strV (x :: ys)[j]) := by rw [(bcell Hbw.out).1 g j hglt]; exact hc
          have hq4 := Hne4.out _ (List.getElem_mem hjl)
          have hdr : (x :: ys).drop j = (x :: ys)[j] :: (x :: ys).drop (j + 1) := List.drop_eq_getElem_cons hjl
          have hv : strV (x :: ys)[j] = .string (bytesV (x :: ys)[j]) := rfl
          rw [hv] at hc'
          have hU2 := hU.out
          rw [hdr] at hU2
          generalize (x :: ys)[j] = q at *
          obtain ⟨f, rfl⟩ : ∃ f', f = f' + 1 := ⟨f - 1, by omega⟩
          rw [lawUnq.eq_def] at hU2
          dsimp only at hU2
          have HU := Lib.hid hU2
          clear hU2 hU hdr hv hc
          have hqs := bytesV_size q
          have hql := bytesV_toList q
          have hacs := bytesV_size acc
          cases hA : (q == [34])
          · cases hB : (q == [10])
            · cases hC : (q == [92])
              · have hR3 : Hid (lawUnq f ((x :: ys).drop (j + 1)) (pos + q.length) (acc ++ q) = R) := Lib.hid (by
                  have := HU.out
                  rw [if_neg (by simpa using hA), if_neg (by simpa using hB), if_neg (by simpa using hC)] at this
                  exact this)
                go_wp2
                go_round
                case rel =>
                  exact ⟨j + 1, pos + q.length, f, acc ++ q, by omega, by omega, by go_num, by go_num, by rw [bytesV_app], by omega, by rw [List.length_append]; omega, by omega, hR3, Hbw⟩
                case measure => simp [intOf]; omega
              · have hU3 := HU.out
                rw [if_neg (by simpa using hA), if_neg (by simpa using hB), if_pos (by simpa using hC)] at hU3
                by_cases hlt2 : j + 1 < L + 1
                · have hjl2 : j + 1 < (x :: ys).length := by rw [List.length_cons, HL.out]; exact hlt2
                  have hd2 : ((j : Int) + 1 == (L : Int) + 1) = false := by simp; omega
                  have hcy := Hcell.out (j + 1) (x :: ys)[j + 1] (List.getElem?_eq_getElem hjl2)
                  have hcy' : wr.cell? ⟨g, j + 1, none⟩ = some (strV (x :: ys)[j + 1]) := by rw [(bcell Hbw.out).1 g (j + 1) hglt]; exact hcy
                  have hy4 := Hne4.out _ (List.getElem_mem hjl2)
                  have hdr2 : (x :: ys).drop (j + 1) = (x :: ys)[j + 1] :: (x :: ys).drop (j + 2) := List.drop_eq_getElem_cons hjl2
                  have hv2 : strV (x :: ys)[j + 1] = .string (bytesV (x :: ys)[j + 1]) := rfl
                  rw [hv2] at hcy'
                  rw [hdr2] at hU3
                  dsimp only at hU3
                  generalize (x :: ys)[j + 1] = y at *
                  have HU3 := Lib.hid hU3
                  clear hU3 hcy hv2 hdr2 HU
                  have hys := bytesV_size y
                  have hyl := bytesV_toList y
                  cases hD : (y == [34])
                  · cases hE : (y == [92])
                    · have hn : ¬ (y = [34] ∨ y = [92]) := by
                        rintro (h | h)
                        · rw [h] at hD; simp at hD
                        · rw [h] at hE; simp at hE
                      cases hF : (y == [117])
                      · cases hG : (y == [85])
                        · obtain rfl : R = none := by
                            have := HU3.out
                            rw [if_neg hn, if_neg (by
                              rintro (h | h)
                              · rw [h] at hF; simp at hF
                              · rw [h] at hG; simp at hG)] at this
                            exact this.symm
                          clear hn
                          go_wp2
                          go_ret3
                          exact ⟨rfl, b1.trans (Hbw.out.mono b1.size)⟩
                        · have hU4 : (match lawDigits 6 ((x :: ys).drop (j + 2)) 0 with | none => none | some (v, zs) => lawUnq f zs (pos + q.length + y.length + 6) (acc ++ Lib.encodeRune (runeOk v))) = R := by
                            have := HU3.out
                            have hyy : y = [85] := by simpa using hG
                            rw [if_neg hn, if_pos (.inr hyy), if_neg (show ¬ y = [117] by rw [hyy]; decide)] at this
                            exact this
                          obtain ⟨D, hDD⟩ : ∃ D, lawDigits 6 ((x :: ys).drop (j + 2)) 0 = D := ⟨_, rfl⟩
                          rw [hDD] at hU4
                          have HD := Lib.hid hDD
                          have HU4 := Lib.hid hU4
                          have Hn := Lib.hid hn
                          clear hDD hU4 hn HU3
                          go_wp2
                          go_loopw [8, 9, 12, 13] (fun n i v k wr2 => ∃ (t i' n' : Nat) (vv : Int), t ≤ 6 ∧ i' = j + 1 + t ∧ i' ≤ L ∧ n' = pos + q.length + y.length + t ∧ k = .int .i64 t ∧ i = .int .i64 i' ∧ n = .int .i64 n' ∧ v = .int .i64 vv ∧ 0 ≤ vv ∧ vv < ((16 ^ t : Nat) : Int) ∧ Hid (lawDigits (6 - t) ((x :: ys).drop (i' + 1)) vv = D) ∧ Hid (Below w1.heap.size w1 wr2)) (fun _ _ _ k _ => 6 - (intOf k).toNat)
                          case atStart => exact ⟨0, j + 1, pos + q.length + y.length, 0, by omega, by omega, by omega, by omega, rfl, by go_num, by go_num, rfl, by decide, by decide, HD, Hbw⟩
                          case round =>
                            obtain ⟨t, i', n', vv, ht, hi', hiL, hn', rfl, rfl, rfl, rfl, hv0, hv1, hdd, Hbw2⟩ := hrel
                            have hnb : n' ≤ 4 * j + 20 := by omega
                            have Hi := Lib.hid hi'
                            have Hn' := Lib.hid hn'
                            clear hi' hn'
                            by_cases htd : t < 6
                            · obtain ⟨m, hm⟩ : ∃ m, 6 - t = m + 1 := ⟨6 - t - 1, by omega⟩
                              have hdd2 := hdd.out
                              rw [hm] at hdd2
                              by_cases hlz : i' + 1 < L + 1
                              · have hjz : i' + 1 < (x :: ys).length := by rw [List.length_cons, HL.out]; exact hlz
                                have hcz := Hcell.out (i' + 1) (x :: ys)[i' + 1] (List.getElem?_eq_getElem hjz)
                                have hcz' : wr.cell? ⟨g, i' + 1, none⟩ = some (strV (x :: ys)[i' + 1]) := by rw [(bcell Hbw2.out).1 g (i' + 1) hglt]; exact hcz
                                have hdrz : (x :: ys).drop (i' + 1) = (x :: ys)[i' + 1] :: (x :: ys).drop (i' + 1 + 1) := List.drop_eq_getElem_cons hjz
                                have hvz : strV (x :: ys)[i' + 1] = .string (bytesV (x :: ys)[i' + 1]) := rfl
                                rw [hvz] at hcz'
                                rw [hdrz, lawDigits] at hdd2
                                generalize (x :: ys)[i' + 1] = z at *
                                have hrz := digV_range z
                                have HDD2 := Lib.hid hdd2
                                clear hdd2 hcz hvz hdrz hdd
                                go_wp2_with fail
                                go_at_call 23
                                refine (number_any z _).mono ?_
                                rintro e w4 ⟨rfl, b4⟩
                                have B4 := Hbw2.out.trans (b4.mono Hbw2.out.size)
                                have hcz4 : w4.cell? ⟨g, i' + 1, none⟩ = some (.string (bytesV z)) := by rw [(bcell b4).1 g (i' + 1) (Nat.lt_of_lt_of_le hglt Hbw2.out.size)]; exact hcz'
                                have HB4 := Lib.hid B4
                                clear B4
                                by_cases hneg : digV z < 0
                                · obtain rfl : D = none := by
                                    have := HDD2.out
                                    rw [if_pos hneg] at this
                                    exact this.symm
                                  obtain rfl : R = none := HU4.out.symm
                                  go_wp2
                                  go_ret3
                                  exact ⟨rfl, b1.trans (HB4.out.mono b1.size)⟩
                                · have HDD3 : Hid (lawDigits m ((x :: ys).drop (i' + 1 + 1)) (16 * vv + digV z) = D) := Lib.hid (by
                                    have := HDD2.out
                                    rw [if_neg hneg] at this
                                    exact this)
                                  have hp24 : (16 ^ t : Nat) ≤ 16 ^ 5 := Nat.pow_le_pow_right (by decide) (by omega)
                                  have hp25 : (16 ^ 5 : Nat) = 1048576 := by decide
                                  have hvb : vv < 1048576 := by omega
                                  have hvb2 : 16 * vv + digV z < ((16 ^ (t + 1) : Nat) : Int) := by rw [Nat.pow_succ]; omega
                                  have hvb0 : 0 ≤ 16 * vv + digV z := by omega
                                  generalize hdz : digV z = dz at *
                                  have Hdz := Lib.hid hdz
                                  have Hvb2 := Lib.hid hvb2
                                  have Hv1 := Lib.hid hv1
                                  clear hdz hvb2 hv1 hp24 hp25
                                  go_wp2_with fail
                                  go_at_call 23
                                  refine (number_any z _).mono ?_
                                  rw [Hdz.out]
                                  rintro e w5 ⟨rfl, b5⟩
                                  have B5 := HB4.out.trans (b5.mono HB4.out.size)
                                  have HB5 := Lib.hid B5
                                  clear B5
                                  go_wp2
                                  go_round
                                  case rel => exact ⟨t + 1, i' + 1, n' + 1, 16 * vv + dz, by omega, by have := Hi.out; omega, by omega, by have := Hn'.out; omega, by go_num, by go_num, by go_num, rfl, hvb0, Hvb2.out, Lib.hid (by rw [show 6 - (t + 1) = m by omega]; exact HDD3.out), HB5⟩
                                  case measure => simp [intOf]; omega
                              · have hdrz : (x :: ys).drop (i' + 1) = [] := List.drop_eq_nil_of_le (by rw [List.length_cons, HL.out]; omega)
                                rw [hdrz] at hdd2
                                obtain rfl : D = none := hdd2.symm
                                obtain rfl : R = none := HU4.out.symm
                                obtain rfl : i' = L := by omega
                                clear hdd2 hdrz
                                go_wp2
                                go_ret3
                                exact ⟨rfl, b1.trans (Hbw2.out.mono b1.size)⟩
                            · obtain rfl : t = 6 := by omega
                              clear ht htd
                              have hp16 : (16 ^ 6 : Nat) = 16777216 := by decide
                              have hvm : vv < 16777216 := by omega
                              clear hv1 hp16
                              obtain ⟨en, hen⟩ : ∃ en, Lib.encodeRune (runeOk vv) = en := ⟨_, rfl⟩
                              have hen4 : en.length ≤ 4 := by rw [← hen]; exact enc_len9 _
                              have hens := bytesV_size en
                              have HE := Lib.hid hen
                              clear hen
                              have hR9 : Hid (lawUnq f ((x :: ys).drop (i' + 1)) n' (acc ++ en) = R) := Lib.hid (by
                                have h1 : D = some (vv, (x :: ys).drop (i' + 1)) := by rw [← hdd.out]; rfl
                                have h2 := HU4.out
                                rw [h1] at h2
                                rw [← HE.out, Hn'.out]
                                exact h2)
                              have hsum : (bytesV acc).size + (bytesV en).size ≤ 2000 := by rw [hacs, hens]; omega
                              have hsz : ¬ 9223372036854775807 < (bytesV acc ++ bytesV en).size := by rw [ByteArray.size_append]; omega
                              clear hsum
                              by_cases hbig : 1114111 < vv
                              · skip
                                have hu := enc_bad vv (.inl hbig)
                                rw [HE.out] at hu
                                go_wp2_with fail
                                go_round
                                case rel => exact ⟨i' + 1, n', f, acc ++ en, by omega, by omega, by go_num, rfl, by rw [bytesV_app], by have := Hi.out; have := Hn'.out; omega, by rw [List.length_append]; have := Hi.out; omega, by have := Hi.out; omega, hR9, Hbw2⟩
                                case measure => have := Hi.out; simp [intOf]; omega
                              · by_cases hsl : 55296 ≤ vv
                                · by_cases hsh : vv ≤ 57343
                                  · skip
                                    have hu := enc_bad vv (.inr ⟨hsl, hsh⟩)
                                    rw [HE.out] at hu
                                    go_wp2_with fail
                                    go_round
                                    case rel => exact ⟨i' + 1, n', f, acc ++ en, by omega, by omega, by go_num, rfl, by rw [bytesV_app], by have := Hi.out; have := Hn'.out; omega, by rw [List.length_append]; have := Hi.out; omega, by have := Hi.out; omega, hR9, Hbw2⟩
                                    case measure => have := Hi.out; simp [intOf]; omega
                                  · skip
                                    have hu := enc_ok vv hv0 (by omega) (by omega)
                                    rw [HE.out] at hu
                                    go_wp2_with fail
                                    go_round
                                    case rel => exact ⟨i' + 1, n', f, acc ++ en, by omega, by omega, by go_num, rfl, by rw [bytesV_app], by have := Hi.out; have := Hn'.out; omega, by rw [List.length_append]; have := Hi.out; omega, by have := Hi.out; omega, hR9, Hbw2⟩
                                    case measure => have := Hi.out; simp [intOf]; omega
                                · skip
                                  have hu := enc_ok vv hv0 (by omega) (by omega)
                                  rw [HE.out] at hu
                                  go_wp2_with fail
                                  go_round
                                  case rel => exact ⟨i' + 1, n', f, acc ++ en, by omega, by omega, by go_num, rfl, by rw [bytesV_app], by have := Hi.out; have := Hn'.out; omega, by rw [List.length_append]; have := Hi.out; omega, by have := Hi.out; omega, hR9, Hbw2⟩
                                  case measure => have := Hi.out; simp [intOf]; omega
                      · have hU4 : (match lawDigits 4 ((x :: ys).drop (j + 2)) 0 with | none => none | some (v, zs) => lawUnq f zs (pos + q.length + y.length + 4) (acc ++ Lib.encodeRune (runeOk v))) = R := by
                          have := HU3.out
                          have hyy : y = [117] := by simpa using hF
                          rw [if_neg hn, if_pos (.inl hyy), if_pos hyy] at this
                          exact this
                        obtain ⟨D, hDD⟩ : ∃ D, lawDigits 4 ((x :: ys).drop (j + 2)) 0 = D := ⟨_, rfl⟩
                        rw [hDD] at hU4
                        have HD := Lib.hid hDD
                        have HU4 := Lib.hid hU4
                        have Hn := Lib.hid hn
                        clear hDD hU4 hn HU3
                        go_wp2
                        go_loopw [8, 9, 12, 13] (fun n i v k wr2 => ∃ (t i' n' : Nat) (vv : Int), t ≤ 4 ∧ i' = j + 1 + t ∧ i' ≤ L ∧ n' = pos + q.length + y.length + t ∧ k = .int .i64 t ∧ i = .int .i64 i' ∧ n = .int .i64 n' ∧ v = .int .i64 vv ∧ 0 ≤ vv ∧ vv < ((16 ^ t : Nat) : Int) ∧ Hid (lawDigits (4 - t) ((x :: ys).drop (i' + 1)) vv = D) ∧ Hid (Below w1.heap.size w1 wr2)) (fun _ _ _ k _ => 4 - (intOf k).toNat)
                        case atStart => exact ⟨0, j + 1, pos + q.length + y.length, 0, by omega, by omega, by omega, by omega, rfl, by go_num, by go_num, rfl, by decide, by decide, HD, Hbw⟩
                        case round =>
                          obtain ⟨t, i', n', vv, ht, hi', hiL, hn', rfl, rfl, rfl, rfl, hv0, hv1, hdd, Hbw2⟩ := hrel
                          have hnb : n' ≤ 4 * j + 20 := by omega
                          have Hi := Lib.hid hi'
                          have Hn' := Lib.hid hn'
                          clear hi' hn'
                          by_cases htd : t < 4
                          · obtain ⟨m, hm⟩ : ∃ m, 4 - t = m + 1 := ⟨4 - t - 1, by omega⟩
                            have hdd2 := hdd.out
                            rw [hm] at hdd2
                            by_cases hlz : i' + 1 < L + 1
                            · have hjz : i' + 1 < (x :: ys).length := by rw [List.length_cons, HL.out]; exact hlz
                              have hcz := Hcell.out (i' + 1) (x :: ys)[i' + 1] (List.getElem?_eq_getElem hjz)
                              have hcz' : wr.cell? ⟨g, i' + 1, none⟩ = some (strV (x :: ys)[i' + 1]) := by rw [(bcell Hbw2.out).1 g (i' + 1) hglt]; exact hcz
                              have hdrz : (x :: ys).drop (i' + 1) = (x :: ys)[i' + 1] :: (x :: ys).drop (i' + 1 + 1) := List.drop_eq_getElem_cons hjz
                              have hvz : strV (x :: ys)[i' + 1] = .string (bytesV (x :: ys)[i' + 1]) := rfl
                              rw [hvz] at hcz'
                              rw [hdrz, lawDigits] at hdd2
                              generalize (x :: ys)[i' + 1] = z at *
                              have hrz := digV_range z
                              have HDD2 := Lib.hid hdd2
                              clear hdd2 hcz hvz hdrz hdd
                              go_wp2_with fail
                              go_at_call 23
                              refine (number_any z _).mono ?_
                              rintro e w4 ⟨rfl, b4⟩
                              have B4 := Hbw2.out.trans (b4.mono Hbw2.out.size)
                              have hcz4 : w4.cell? ⟨g, i' + 1, none⟩ = some (.string (bytesV z)) := by rw [(bcell b4).1 g (i' + 1) (Nat.lt_of_lt_of_le hglt Hbw2.out.size)]; exact hcz'
                              have HB4 := Lib.hid B4
                              clear B4
                              by_cases hneg : digV z < 0
                              · obtain rfl : D = none := by
                                  have := HDD2.out
                                  rw [if_pos hneg] at this
                                  exact this.symm
                                obtain rfl : R = none := HU4.out.symm
                                go_wp2
                                go_ret3
                                exact ⟨rfl, b1.trans (HB4.out.mono b1.size)⟩
                              · have HDD3 : Hid (lawDigits m ((x :: ys).drop (i' + 1 + 1)) (16 * vv + digV z) = D) := Lib.hid (by
                                  have := HDD2.out
                                  rw [if_neg hneg] at this
                                  exact this)
                                have hp24 : (16 ^ t : Nat) ≤ 16 ^ 5 := Nat.pow_le_pow_right (by decide) (by omega)
                                have hp25 : (16 ^ 5 : Nat) = 1048576 := by decide
                                have hvb : vv < 1048576 := by omega
                                have hvb2 : 16 * vv + digV z < ((16 ^ (t + 1) : Nat) : Int) := by rw [Nat.pow_succ]; omega
                                have hvb0 : 0 ≤ 16 * vv + digV z := by omega
                                generalize hdz : digV z = dz at *
                                have Hdz := Lib.hid hdz
                                have Hvb2 := Lib.hid hvb2
                                have Hv1 := Lib.hid hv1
                                clear hdz hvb2 hv1 hp24 hp25
                                go_wp2_with fail
                                go_at_call 23
                                refine (number_any z _).mono ?_
                                rw [Hdz.out]
                                rintro e w5 ⟨rfl, b5⟩
                                have B5 := HB4.out.trans (b5.mono HB4.out.size)
                                have HB5 := Lib.hid B5
                                clear B5
                                go_wp2
                                go_round
                                case rel => exact ⟨t + 1, i' + 1, n' + 1, 16 * vv + dz, by omega, by have := Hi.out; omega, by omega, by have := Hn'.out; omega, by go_num, by go_num, by go_num, rfl, hvb0, Hvb2.out, Lib.hid (by rw [show 4 - (t + 1) = m by omega]; exact HDD3.out), HB5⟩
                                case measure => simp [intOf]; omega
                            · have hdrz : (x :: ys).drop (i' + 1) = [] := List.drop_eq_nil_of_le (by rw [List.length_cons, HL.out]; omega)
                              rw [hdrz] at hdd2
                              obtain rfl : D = none := hdd2.symm
                              obtain rfl : R = none := HU4.out.symm
                              obtain rfl : i' = L := by omega
                              clear hdd2 hdrz
                              go_wp2
                              go_ret3
                              exact ⟨rfl, b1.trans (Hbw2.out.mono b1.size)⟩
                          · obtain rfl : t = 4 := by omega
                            clear ht htd
                            have hp16 : (16 ^ 4 : Nat) = 65536 := by decide
                            have hvm : vv < 65536 := by omega
                            clear hv1 hp16
                            obtain ⟨en, hen⟩ : ∃ en, Lib.encodeRune (runeOk vv) = en := ⟨_, rfl⟩
                            have hen4 : en.length ≤ 4 := by rw [← hen]; exact enc_len9 _
                            have hens := bytesV_size en
                            have HE := Lib.hid hen
                            clear hen
                            have hR9 : Hid (lawUnq f ((x :: ys).drop (i' + 1)) n' (acc ++ en) = R) := Lib.hid (by
                              have h1 : D = some (vv, (x :: ys).drop (i' + 1)) := by rw [← hdd.out]; rfl
                              have h2 := HU4.out
                              rw [h1] at h2
                              rw [← HE.out, Hn'.out]
                              exact h2)
                            have hsum : (bytesV acc).size + (bytesV en).size ≤ 2000 := by rw [hacs, hens]; omega
                            have hsz : ¬ 9223372036854775807 < (bytesV acc ++ bytesV en).size := by rw [ByteArray.size_append]; omega
                            clear hsum
                            by_cases hbig : 1114111 < vv
                            · exfalso; omega
                            · by_cases hsl : 55296 ≤ vv
                              · by_cases hsh : vv ≤ 57343
                                · skip
                                  have hu := enc_bad vv (.inr ⟨hsl, hsh⟩)
                                  rw [HE.out] at hu
                                  go_wp2_with fail
                                  go_round
                                  case rel => exact ⟨i' + 1, n', f, acc ++ en, by omega, by omega, by go_num, rfl, by rw [bytesV_app], by have := Hi.out; have := Hn'.out; omega, by rw [List.length_append]; have := Hi.out; omega, by have := Hi.out; omega, hR9, Hbw2⟩
                                  case measure => have := Hi.out; simp [intOf]; omega
                                · skip
                                  have hu := enc_ok vv hv0 (by omega) (by omega)
                                  rw [HE.out] at hu
                                  go_wp2_with fail
                                  go_round
                                  case rel => exact ⟨i' + 1, n', f, acc ++ en, by omega, by omega, by go_num, rfl, by rw [bytesV_app], by have := Hi.out; have := Hn'.out; omega, by rw [List.length_append]; have := Hi.out; omega, by have := Hi.out; omega, hR9, Hbw2⟩
                                  case measure => have := Hi.out; simp [intOf]; omega
                              · skip
                                have hu := enc_ok vv hv0 (by omega) (by omega)
                                rw [HE.out] at hu
                                go_wp2_with fail
                                go_round
                                case rel => exact ⟨i' + 1, n', f, acc ++ en, by omega, by omega, by go_num, rfl, by rw [bytesV_app], by have := Hi.out; have := Hn'.out; omega, by rw [List.length_append]; have := Hi.out; omega, by have := Hi.out; omega, hR9, Hbw2⟩
                                case measure => have := Hi.out; simp [intOf]; omega
                    · have hR4 : Hid (lawUnq f ((x :: ys).drop (j + 2)) (pos + q.length + y.length) (acc ++ y) = R) := Lib.hid (by
                        have := HU3.out
                        rw [if_pos (.inr (by simpa using hE))] at this
                        exact this)
                      go_wp2
                      go_round
                      case rel =>
                        exact ⟨j + 2, pos + q.length + y.length, f, acc ++ y, by omega, by omega, by go_num, by go_num, by rw [bytesV_app], by omega, by rw [List.length_append]; omega, by omega, hR4, Hbw⟩
                      case measure => simp [intOf]; omega
                  · have hR4 : Hid (lawUnq f ((x :: ys).drop (j + 2)) (pos + q.length + y.length) (acc ++ y) = R) := Lib.hid (by
                      have := HU3.out
                      rw [if_pos (.inl (by simpa using hD))] at this
                      exact this)
                    go_wp2
                    go_round
                    case rel =>
                      exact ⟨j + 2, pos + q.length + y.length, f, acc ++ y, by omega, by omega, by go_num, by go_num, by rw [bytesV_app], by omega, by rw [List.length_append]; omega, by omega, hR4, Hbw⟩
                    case measure => simp [intOf]; omega
                · obtain rfl : j = L := by omega
                  have hdr2 : (x :: ys).drop (j + 1) = [] := List.drop_eq_nil_of_le (by rw [List.length_cons, HL.out]; exact Nat.le_refl _)
                  rw [hdr2] at hU3
                  obtain rfl : R = none := hU3.symm
                  clear hU3 hdr2
                  go_wp2
                  go_ret3
                  exact ⟨rfl, b1.trans (Hbw.out.mono b1.size)⟩
            · obtain rfl : R = none := by
                have := HU.out
                rw [if_neg (by simpa using hA), if_pos (by simpa using hB)] at this
                exact this.symm
              go_wp2
              go_ret3
              exact ⟨rfl, b1.trans (Hbw.out.mono b1.size)⟩
          · obtain rfl : R = some (acc, pos + q.length) := by
              have := HU.out
              rw [if_pos (by simpa using hA)] at this
              exact this.symm
            go_wp2
            go_ret3
            exact ⟨rfl, b1.trans (Hbw.out.mono b1.size)⟩
        · obtain rfl : j = L + 1 := by omega
          have hdr : (x :: ys).drop (L + 1) = [] := List.drop_eq_nil_of_le (by rw [List.length_cons, HL.out]; exact Nat.le_refl _)
          obtain rfl : R = none := by
            have := hU.out
            rw [hdr, lawUnq_nil] at this
            exact this.symm
          go_wp2
          go_ret3
          exact ⟨rfl, b1.trans (Hbw.out.mono b1.size)⟩
end Go.Proofs.YtgjbgfnchlogdaaDoor
