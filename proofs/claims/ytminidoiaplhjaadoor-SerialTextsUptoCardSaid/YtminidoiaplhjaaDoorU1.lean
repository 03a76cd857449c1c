/-
  Several texts put together (part 1): what the law and the program call, walked; their contracts.
-/
import Derived.Test.YtminidoiaplhjaaDoorZyd
import Derived.Test.YtminidoiaplhjaaDoorZq
namespace Go.Proofs.YtminidoiaplhjaaDoor
open Go.RowKit
set_option linter.unusedVariables false
set_option linter.unusedSimpArgs false
theorem knotL {W0 : World} : ∀ (s : Nat) (e : EX), e.size ≤ s → ∀ m, m + 2 * e.size ≤ 4000000 → (gdI e = true → LiTo W0 m e) ∧ (gdP e = true → LpTo W0 m e) := by
  intro s
  induction s with
  | zero => intro e h; have := e.size_pos; omega
  | succ s ih =>
    intro e he m hm
    have hI : ∀ x : EX, x.size ≤ e.size → gdI x = true → LiTo W0 m x := by
      intro x
      obtain ⟨n, hn⟩ : ∃ n, x.size = n := ⟨_, rfl⟩
      induction n using Nat.strongRecOn generalizing x with
      | ind n ihn =>
        intro hx hg
        obtain ⟨k, t, nm, a, al, i, vs⟩ := x
        have hs := hn
        rw [EX.size] at hs
        obtain ⟨hk, h6, hal⟩ := gdI_kind hg
        by_cases hr : k = 3 ∨ k = 4 ∨ k = 5
        · refine lexpr_ref k t nm a al i vs hr (by omega) fun j n2 y hy => ?_
          have h1 := ar_sz al j n2 y hy
          exact ihn y.size (by omega) y rfl (by omega) (gdAs_get al j n2 y hal hy)
        · refine lexpr_simple k t nm a al i vs (by omega) hg (by omega) fun k6 z hz => ?_
          subst hz
          have hzz : sizeO (some z) = z.size := by rw [sizeO]
          obtain ⟨z', hz', hgz⟩ := h6 k6
          cases hz'
          exact (ih z (by omega) m (by omega)).2 hgz
    refine ⟨hI e (Nat.le_refl _), fun hg => ?_⟩
    obtain ⟨k, t, n, a, al, i, vs⟩ := e
    by_cases k7 : k = 7
    · subst k7
      obtain ⟨⟨x, rfl, hgx⟩, hgv⟩ := gdP_sel hg
      have hs := he
      rw [EX.size, sizeO] at hs
      rw [EX.size, sizeO] at hm
      have hvl := sizeVs_length vs
      refine lplace_sel (by omega) t n a al x vs (by omega) (hI x (by rw [EX.size, sizeO]; omega) hgx) fun j k' d l hel => ?_
      have h1 := szVs_get vs j k' d l hel
      have h3 := x.size_pos
      have h4 := sizeEs_length l
      have h5 : 0 < l.length := List.length_pos_iff.2 (gdVs_get vs j k' d l hgv hel).2
      refine lpat_law (by omega) l (by omega) fun j' t' z hz => ?_
      have h2 := szEs_place l j' t' z hz
      exact (ih z (by omega) (m + 8) (by omega)).2 (gdEs_get l j' t' z (gdVs_get vs j k' d l hgv hel).1 hz)
    · exact lplace_inl k t n a al i vs k7 (hI _ (Nat.le_refl _) (gdP_inl k7 hg))
theorem lpat_all {W0 : World} {m : Nat} (l : List EL) (hg : gdEs l = true) (hz : m + 2 * sizeEs l ≤ 4000000) : LaTo W0 m l := by
  refine lpat_law (by omega) l (by omega) fun j t z hzz => ?_
  have h2 := szEs_place l j t z hzz
  exact (knotL z.size z (Nat.le_refl _) m (by omega)).2 (gdEs_get l j t z hg hzz)
end Go.Proofs.YtminidoiaplhjaaDoor

namespace Go.Proofs.YtminidoiaplhjaaDoor
open Go.RowKit
set_option linter.unusedVariables false
set_option linter.unusedSimpArgs false
def comR (mk ln l : List UInt8) (i : Nat) : List UInt8 := if i ≤ l.length then comT mk ln (l.drop i) else []
theorem comR_zero (mk ln l : List UInt8) : comR mk ln l 0 = comT mk ln l := by unfold comR; rw [if_pos (Nat.zero_le _), List.drop_zero]
theorem comR_out (mk ln l : List UInt8) : comR mk ln l (l.length + 1) = [] := by unfold comR; rw [if_neg (by omega)]
theorem comR_end (mk ln l : List UInt8) : comR mk ln l l.length = comL mk ln ++ comR mk [] l (l.length + 1) := by
  rw [comR_out, List.append_nil]
  unfold comR
  rw [if_pos (Nat.le_refl _), List.drop_eq_nil_of_le (Nat.le_refl _), comT]
theorem comR_plain (mk ln l : List UInt8) (i : Nat) (c : UInt8) (h : l[i]? = some c) (hc : c ≠ 10) : comR mk ln l i = comR mk (ln ++ [c]) l (i + 1) := by
  obtain ⟨hl, _⟩ := List.getElem?_eq_some_iff.1 h
  unfold comR
  rw [if_pos (by omega), if_pos (by omega), drop_cons l i c h, comT, if_neg hc]
theorem comR_feed (mk ln l : List UInt8) (i : Nat) (h : l[i]? = some 10) : comR mk ln l i = comL mk ln ++ comR mk [] l (i + 1) := by
  obtain ⟨hl, _⟩ := List.getElem?_eq_some_iff.1 h
  unfold comR
  rw [if_pos (by omega), if_pos (by omega), drop_cons l i 10 h, comT, if_pos rfl]
set_option maxHeartbeats 8000000 in
set_option maxRecDepth 100000 in
theorem lcom_any (lv : Int) (hlv : lv = 1 ∨ lv = 2 ∨ lv = 3) (tx nm : ByteArray) (A : Option Addr) (n c : Nat) (A2 : Option Addr) (n2 c2 : Nat) (fr tu : Int) (hz : tx.size ≤ 4000000) (w : World)
    (hn : (comT (List.replicate lv.toNat 35) [] tx.data.toList).length ≤ 140737488355328) :
    Calls Tryd.prog 7 #[entV 0 lv tx nm (.slice A n c) (.slice A2 n2 c2) fr tu] w fun e w' => e = .returned (.string ⟨(comT (List.replicate lv.toNat 35) [] tx.data.toList).toArray⟩) ∧ Below w.heap.size w w' := by
  obtain ⟨mk, hmk⟩ : ∃ m, List.replicate lv.toNat (35 : UInt8) = m := ⟨_, rfl⟩
  rw [hmk] at hn ⊢
  obtain ⟨T, hT⟩ : ∃ T, comT mk [] tx.data.toList = T := ⟨_, rfl⟩
  rw [hT] at hn ⊢
  rw [← comR_zero] at hT
  have HMk := Lib.hid hmk
  have HT := Lib.hid hT
  have HN := Lib.hid hn
  have HLv := Lib.hid hlv
  have hz0 : (tx.size : Int) ≤ 4000000 := by omega
  have C0 := Lib.hid (BoxAt.new w #[.int .i64 0, .int .i64 lv, .string tx, .string nm, .slice A n c, .slice A2 n2 c2, .int .i64 fr, .int .i64 tu] 29)
  unfold entV
  clear hmk hT hn hlv
  go_enter Tryd.func7, Tryd.ntmps7
  go_wp2
  go_loopw [3, 4, 5] (fun t3 t4 t5 wr => ∃ (i : Nat) (S ln : ByteArray), t5 = .int .i64 i ∧ t3 = .string S ∧ t4 = .string ln ∧ i ≤ tx.size + 1 ∧ Hid (ln.size ≤ i) ∧ Hid (S.data.toList ++ comR mk ln.data.toList tx.data.toList i = T) ∧ Hid (Below (w.alloc (.cells #[.int .i64 0, .int .i64 lv, .string tx, .string nm, .slice A n c, .slice A2 n2 c2, .int .i64 fr, .int .i64 tu] 29)).heap.size (w.alloc (.cells #[.int .i64 0, .int .i64 lv, .string tx, .string nm, .slice A n c, .slice A2 n2 c2, .int .i64 fr, .int .i64 tu] 29)) wr)) (fun _ _ t5 _ => tx.size + 1 - (intOf t5).toNat)
  case atStart => exact ⟨0, ⟨#[]⟩, ⟨#[]⟩, rfl, rfl, rfl, Nat.zero_le _, Lib.hid (Nat.zero_le _), Lib.hid HT.out, Lib.hid (Below.refl _ _)⟩
  case round =>
    obtain ⟨i, S, ln, rfl, rfl, rfl, hi, HLn, HS, HB⟩ := hrel
    have hi0 : (i : Int) ≤ 4000001 := by omega
    have hin : (0 : Int) ≤ (i : Int) := by omega
    have C1 := Lib.hid (C0.out.later HB.out)
    have d1 : wr.cell? ⟨w.heap.size, 1, none⟩ = some (.int .i64 lv) := C1.out.cell 1
    have d2 : wr.cell? ⟨w.heap.size, 2, none⟩ = some (.string tx) := C1.out.cell 2
    have hlt := C1.out.lt
    have hSl := congrArg List.length HS.out
    rw [List.length_append, size_data] at hSl
    have hNN := HN.out
    have hLn := HLn.out
    by_cases hle : i ≤ tx.size
    · have b1 : decide ((i : Int) ≤ (tx.size : Int)) = true := decide_eq_true (by omega)
      have b2 : (i : Int) ≤ (tx.size : Int) := by omega
      obtain ⟨em, hem⟩ : ∃ g, ln.toList.isEmpty = g := ⟨_, rfl⟩
      have hem2 : ln.data.toList.isEmpty = em := by rw [← hem, Lib.toList_data]
      have HCl := Lib.hid (show comL mk ln.data.toList = mk ++ ((if em = true then [] else 32 :: ln.data.toList) ++ [10]) by unfold comL; rw [hem2])
      clear hem2
      by_cases hlt2 : i < tx.size
      · have b3 : decide ((i : Int) < (tx.size : Int)) = true := decide_eq_true (by omega)
        have b4 : (i : Int) < (tx.size : Int) := by omega
        have b5 : (i : Int) + 1 ≤ (tx.size : Int) := by omega
        have b6 : decide (i < tx.size) = true := decide_eq_true hlt2
        have hch : tx.data.toList[i]? = some tx[i] := by rw [List.getElem?_eq_getElem (by rw [size_data]; exact hlt2)]; rfl
        by_cases hc : tx[i] = 10
        · have x1 : ((tx[i].toNat : Int) != 10) = false := by rw [bne_eq_false_iff_eq, hc]; rfl
          have hf := comR_feed mk ln.data.toList tx.data.toList i (by rw [hch, hc])
          rw [hf, List.length_append, HCl.out] at hSl
          have HF := Lib.hid hf
          clear hf hch hc
          rcases HLv.out with rfl | rfl | rfl
          · cases em
            · have hm : mk = [35] := HMk.out.symm
              have hSz := hSl
              rw [if_neg (by decide), hm] at hSz
              simp only [List.length_append, List.length_cons, List.length_nil, size_data] at hSz
              have g1 : ¬ 9223372036854775807 < S.size + 1 := by omega
              have g2 : ¬ 9223372036854775807 < S.size + 1 + 1 := by omega
              have g3 : ¬ 9223372036854775807 < S.size + 1 + 1 + ln.size := by omega
              have g4 : ¬ 9223372036854775807 < S.size + 1 + 1 + ln.size + 1 := by omega
              have HM1 := Lib.hid hm
              clear hSz hSl hNN hLn hm C1
              go_wp2
              go_roundw
              case rel =>
                refine ⟨i + 1, _, ⟨#[]⟩, by first | rfl | go_num, rfl, rfl, by omega, Lib.hid (Nat.zero_le _), Lib.hid ?_, Lib.hid (HB.out.alloc HB.out.size _)⟩
                rw [← HS.out, HF.out, HCl.out, HM1.out]
                simp
              case measure => simp [intOf] <;> omega
            · have hm : mk = [35] := HMk.out.symm
              have hSz := hSl
              rw [if_pos rfl, hm] at hSz
              simp only [List.length_append, List.length_cons, List.length_nil, size_data] at hSz
              have g1 : ¬ 9223372036854775807 < S.size + 1 := by omega
              have g2 : ¬ 9223372036854775807 < S.size + 1 + 1 := by omega
              have g3 : ¬ 9223372036854775807 < S.size + 1 + 1 + ln.size := by omega
              have g4 : ¬ 9223372036854775807 < S.size + 1 + 1 + ln.size + 1 := by omega
              have HM1 := Lib.hid hm
              clear hSz hSl hNN hLn hm C1
              go_wp2
              go_roundw
              case rel =>
                refine ⟨i + 1, _, ⟨#[]⟩, by first | rfl | go_num, rfl, rfl, by omega, Lib.hid (Nat.zero_le _), Lib.hid ?_, Lib.hid (HB.out.alloc HB.out.size _)⟩
                rw [← HS.out, HF.out, HCl.out, HM1.out]
                simp
              case measure => simp [intOf] <;> omega
          · cases em
            · have hm : mk = [35, 35] := HMk.out.symm
              have hSz := hSl
              rw [if_neg (by decide), hm] at hSz
              simp only [List.length_append, List.length_cons, List.length_nil, size_data] at hSz
              have g1 : ¬ 9223372036854775807 < S.size + 2 := by omega
              have g2 : ¬ 9223372036854775807 < S.size + 2 + 1 := by omega
              have g3 : ¬ 9223372036854775807 < S.size + 2 + 1 + ln.size := by omega
              have g4 : ¬ 9223372036854775807 < S.size + 2 + 1 + ln.size + 1 := by omega
              have HM1 := Lib.hid hm
              clear hSz hSl hNN hLn hm C1
              go_wp2
              go_roundw
              case rel =>
                refine ⟨i + 1, _, ⟨#[]⟩, by first | rfl | go_num, rfl, rfl, by omega, Lib.hid (Nat.zero_le _), Lib.hid ?_, Lib.hid (HB.out.alloc HB.out.size _)⟩
                rw [← HS.out, HF.out, HCl.out, HM1.out]
                simp
              case measure => simp [intOf] <;> omega
            · have hm : mk = [35, 35] := HMk.out.symm
              have hSz := hSl
              rw [if_pos rfl, hm] at hSz
              simp only [List.length_append, List.length_cons, List.length_nil, size_data] at hSz
              have g1 : ¬ 9223372036854775807 < S.size + 2 := by omega
              have g2 : ¬ 9223372036854775807 < S.size + 2 + 1 := by omega
              have g3 : ¬ 9223372036854775807 < S.size + 2 + 1 + ln.size := by omega
              have g4 : ¬ 9223372036854775807 < S.size + 2 + 1 + ln.size + 1 := by omega
              have HM1 := Lib.hid hm
              clear hSz hSl hNN hLn hm C1
              go_wp2
              go_roundw
              case rel =>
                refine ⟨i + 1, _, ⟨#[]⟩, by first | rfl | go_num, rfl, rfl, by omega, Lib.hid (Nat.zero_le _), Lib.hid ?_, Lib.hid (HB.out.alloc HB.out.size _)⟩
                rw [← HS.out, HF.out, HCl.out, HM1.out]
                simp
              case measure => simp [intOf] <;> omega
          · cases em
            · have hm : mk = [35, 35, 35] := HMk.out.symm
              have hSz := hSl
              rw [if_neg (by decide), hm] at hSz
              simp only [List.length_append, List.length_cons, List.length_nil, size_data] at hSz
              have g1 : ¬ 9223372036854775807 < S.size + 3 := by omega
              have g2 : ¬ 9223372036854775807 < S.size + 3 + 1 := by omega
              have g3 : ¬ 9223372036854775807 < S.size + 3 + 1 + ln.size := by omega
              have g4 : ¬ 9223372036854775807 < S.size + 3 + 1 + ln.size + 1 := by omega
              have HM1 := Lib.hid hm
              clear hSz hSl hNN hLn hm C1
              go_wp2
              go_roundw
              case rel =>
                refine ⟨i + 1, _, ⟨#[]⟩, by first | rfl | go_num, rfl, rfl, by omega, Lib.hid (Nat.zero_le _), Lib.hid ?_, Lib.hid (HB.out.alloc HB.out.size _)⟩
                rw [← HS.out, HF.out, HCl.out, HM1.out]
                simp
              case measure => simp [intOf] <;> omega
            · have hm : mk = [35, 35, 35] := HMk.out.symm
              have hSz := hSl
              rw [if_pos rfl, hm] at hSz
              simp only [List.length_append, List.length_cons, List.length_nil, size_data] at hSz
              have g1 : ¬ 9223372036854775807 < S.size + 3 := by omega
              have g2 : ¬ 9223372036854775807 < S.size + 3 + 1 := by omega
              have g3 : ¬ 9223372036854775807 < S.size + 3 + 1 + ln.size := by omega
              have g4 : ¬ 9223372036854775807 < S.size + 3 + 1 + ln.size + 1 := by omega
              have HM1 := Lib.hid hm
              clear hSz hSl hNN hLn hm C1
              go_wp2
              go_roundw
              case rel =>
                refine ⟨i + 1, _, ⟨#[]⟩, by first | rfl | go_num, rfl, rfl, by omega, Lib.hid (Nat.zero_le _), Lib.hid ?_, Lib.hid (HB.out.alloc HB.out.size _)⟩
                rw [← HS.out, HF.out, HCl.out, HM1.out]
                simp
              case measure => simp [intOf] <;> omega
        · have x1 : ((tx[i].toNat : Int) != 10) = true := by
            rw [bne_iff_ne]
            intro h
            exact hc (UInt8.toNat_inj.1 (show tx[i].toNat = 10 by omega))
          have hf := comR_plain mk ln.data.toList tx.data.toList i _ hch hc
          have hxt := ext_one tx i hlt2
          have hxs : (tx.extract i (i + 1)).size = 1 := by rw [← size_data, hxt]; rfl
          have HF := Lib.hid hf
          have HXt := Lib.hid hxt
          have g1 : ¬ 9223372036854775807 < ln.size + (tx.extract i (i + 1)).size := by omega
          have g2 : ¬ 9223372036854775807 < ln.size + 1 := by omega
          clear hf hch hc hxt hSl hNN hLn C1
          go_wp2
          go_roundw
          case rel =>
            refine ⟨i + 1, S, _, by go_num, rfl, rfl, by omega, Lib.hid ?_, Lib.hid ?_, HB⟩
            · have := HLn.out
              rw [ByteArray.size_append, hxs]; omega
            · rw [← HS.out, HF.out]
              simp only [ByteArray.data_append, Array.toList_append, HXt.out]
          case measure => simp [intOf]; omega
      · obtain rfl : i = tx.size := by omega
        have b3 : decide ((tx.size : Int) < (tx.size : Int)) = false := decide_eq_false (by omega)
        have hf := comR_end mk ln.data.toList tx.data.toList
        rw [size_data] at hf
        rw [hf, List.length_append, HCl.out] at hSl
        have HF := Lib.hid hf
        clear hf
        rcases HLv.out with rfl | rfl | rfl
        · cases em
          · have hm : mk = [35] := HMk.out.symm
            have hSz := hSl
            rw [if_neg (by decide), hm] at hSz
            simp only [List.length_append, List.length_cons, List.length_nil, size_data] at hSz
            have g1 : ¬ 9223372036854775807 < S.size + 1 := by omega
            have g2 : ¬ 9223372036854775807 < S.size + 1 + 1 := by omega
            have g3 : ¬ 9223372036854775807 < S.size + 1 + 1 + ln.size := by omega
            have g4 : ¬ 9223372036854775807 < S.size + 1 + 1 + ln.size + 1 := by omega
            have HM1 := Lib.hid hm
            clear hSz hSl hNN hLn hm C1
            go_wp2
            go_roundw
            case rel =>
              refine ⟨tx.size + 1, _, ⟨#[]⟩, by first | rfl | go_num, rfl, rfl, by omega, Lib.hid (Nat.zero_le _), Lib.hid ?_, Lib.hid (HB.out.alloc HB.out.size _)⟩
              rw [← HS.out, HF.out, HCl.out, HM1.out]
              simp
            case measure => simp [intOf] <;> omega
          · have hm : mk = [35] := HMk.out.symm
            have hSz := hSl
            rw [if_pos rfl, hm] at hSz
            simp only [List.length_append, List.length_cons, List.length_nil, size_data] at hSz
            have g1 : ¬ 9223372036854775807 < S.size + 1 := by omega
            have g2 : ¬ 9223372036854775807 < S.size + 1 + 1 := by omega
            have g3 : ¬ 9223372036854775807 < S.size + 1 + 1 + ln.size := by omega
            have g4 : ¬ 9223372036854775807 < S.size + 1 + 1 + ln.size + 1 := by omega
            have HM1 := Lib.hid hm
            clear hSz hSl hNN hLn hm C1
            go_wp2
            go_roundw
            case rel =>
              refine ⟨tx.size + 1, _, ⟨#[]⟩, by first | rfl | go_num, rfl, rfl, by omega, Lib.hid (Nat.zero_le _), Lib.hid ?_, Lib.hid (HB.out.alloc HB.out.size _)⟩
              rw [← HS.out, HF.out, HCl.out, HM1.out]
              simp
            case measure => simp [intOf] <;> omega
        · cases em
          · have hm : mk = [35, 35] := HMk.out.symm
            have hSz := hSl
            rw [if_neg (by decide), hm] at hSz
            simp only [List.length_append, List.length_cons, List.length_nil, size_data] at hSz
            have g1 : ¬ 9223372036854775807 < S.size + 2 := by omega
            have g2 : ¬ 9223372036854775807 < S.size + 2 + 1 := by omega
            have g3 : ¬ 9223372036854775807 < S.size + 2 + 1 + ln.size := by omega
            have g4 : ¬ 9223372036854775807 < S.size + 2 + 1 + ln.size + 1 := by omega
            have HM1 := Lib.hid hm
            clear hSz hSl hNN hLn hm C1
            go_wp2
            go_roundw
            case rel =>
              refine ⟨tx.size + 1, _, ⟨#[]⟩, by first | rfl | go_num, rfl, rfl, by omega, Lib.hid (Nat.zero_le _), Lib.hid ?_, Lib.hid (HB.out.alloc HB.out.size _)⟩
              rw [← HS.out, HF.out, HCl.out, HM1.out]
              simp
            case measure => simp [intOf] <;> omega
          · have hm : mk = [35, 35] := HMk.out.symm
            have hSz := hSl
            rw [if_pos rfl, hm] at hSz
            simp only [List.length_append, List.length_cons, List.length_nil, size_data] at hSz
            have g1 : ¬ 9223372036854775807 < S.size + 2 := by omega
            have g2 : ¬ 9223372036854775807 < S.size + 2 + 1 := by omega
            have g3 : ¬ 9223372036854775807 < S.size + 2 + 1 + ln.size := by omega
            have g4 : ¬ 9223372036854775807 < S.size + 2 + 1 + ln.size + 1 := by omega
            have HM1 := Lib.hid hm
            clear hSz hSl hNN hLn hm C1
            go_wp2
            go_roundw
            case rel =>
              refine ⟨tx.size + 1, _, ⟨#[]⟩, by first | rfl | go_num, rfl, rfl, by omega, Lib.hid (Nat.zero_le _), Lib.hid ?_, Lib.hid (HB.out.alloc HB.out.size _)⟩
              rw [← HS.out, HF.out, HCl.out, HM1.out]
              simp
            case measure => simp [intOf] <;> omega
        · cases em
          · have hm : mk = [35, 35, 35] := HMk.out.symm
            have hSz := hSl
            rw [if_neg (by decide), hm] at hSz
            simp only [List.length_append, List.length_cons, List.length_nil, size_data] at hSz
            have g1 : ¬ 9223372036854775807 < S.size + 3 := by omega
            have g2 : ¬ 9223372036854775807 < S.size + 3 + 1 := by omega
            have g3 : ¬ 9223372036854775807 < S.size + 3 + 1 + ln.size := by omega
            have g4 : ¬ 9223372036854775807 < S.size + 3 + 1 + ln.size + 1 := by omega
            have HM1 := Lib.hid hm
            clear hSz hSl hNN hLn hm C1
            go_wp2
            go_roundw
            case rel =>
              refine ⟨tx.size + 1, _, ⟨#[]⟩, by first | rfl | go_num, rfl, rfl, by omega, Lib.hid (Nat.zero_le _), Lib.hid ?_, Lib.hid (HB.out.alloc HB.out.size _)⟩
              rw [← HS.out, HF.out, HCl.out, HM1.out]
              simp
            case measure => simp [intOf] <;> omega
          · have hm : mk = [35, 35, 35] := HMk.out.symm
            have hSz := hSl
            rw [if_pos rfl, hm] at hSz
            simp only [List.length_append, List.length_cons, List.length_nil, size_data] at hSz
            have g1 : ¬ 9223372036854775807 < S.size + 3 := by omega
            have g2 : ¬ 9223372036854775807 < S.size + 3 + 1 := by omega
            have g3 : ¬ 9223372036854775807 < S.size + 3 + 1 + ln.size := by omega
            have g4 : ¬ 9223372036854775807 < S.size + 3 + 1 + ln.size + 1 := by omega
            have HM1 := Lib.hid hm
            clear hSz hSl hNN hLn hm C1
            go_wp2
            go_roundw
            case rel =>
              refine ⟨tx.size + 1, _, ⟨#[]⟩, by first | rfl | go_num, rfl, rfl, by omega, Lib.hid (Nat.zero_le _), Lib.hid ?_, Lib.hid (HB.out.alloc HB.out.size _)⟩
              rw [← HS.out, HF.out, HCl.out, HM1.out]
              simp
            case measure => simp [intOf] <;> omega
    · obtain rfl : i = tx.size + 1 := by omega
      have b1 : decide (((tx.size + 1 : Nat) : Int) ≤ (tx.size : Int)) = false := decide_eq_false (by omega)
      have b2 : ¬ ((tx.size + 1 : Nat) : Int) ≤ (tx.size : Int) := by omega
      have b3 : decide ((tx.size : Int) + 1 ≤ (tx.size : Int)) = false := decide_eq_false (by omega)
      have hS := HS.out
      have hco := comR_out mk ln.data.toList tx.data.toList
      rw [size_data] at hco
      rw [hco, List.append_nil] at hS
      have HS2 := Lib.hid hS
      clear hS hSl hNN hLn C1 hco
      go_wp2
      go_ret
      exact ⟨ret_str (by apply bytes_eq; rw [HS2.out]), below_box HB.out⟩
end Go.Proofs.YtminidoiaplhjaaDoor

namespace Go.Proofs.YtminidoiaplhjaaDoor
open Go.RowKit
set_option linter.unusedVariables false
set_option linter.unusedSimpArgs false
def atY : AT → List UInt8
  | .mk n v => 10 :: 32 :: 32 :: 32 :: 32 :: 46 :: (n.data.toList ++ (32 :: 61 :: paT 8 v))
theorem atsT_app : ∀ a b : List AT, atsT (a ++ b) = atsT a ++ atsT b
  | [], b => by rw [atsT]; rfl
  | .mk n v :: r, b => by
    rw [List.cons_append, atsT, atsT, atsT_app r b]
    simp
theorem atsT_take (l : List AT) (j : Nat) (x : AT) (h : l[j]? = some x) : atsT (l.take (j + 1)) = atsT (l.take j) ++ atY x := by
  rw [take_snoc l j x h, atsT_app]
  obtain ⟨n, v⟩ := x
  rw [atsT, atsT, atY, List.append_nil]
theorem atsT_take_le (l : List AT) (j : Nat) : (atsT (l.take j)).length ≤ (atsT l).length := by
  have := atsT_app (l.take j) (l.drop j)
  rw [List.take_append_drop] at this
  rw [this, List.length_append]; omega
set_option maxHeartbeats 8000000 in
set_option maxRecDepth 100000 in
theorem lmes_any {W0 : World} (ty lv : Int) (hty : ty = 1 ∨ ty = 2) (tx nm : ByteArray) (val : List EL) (ats : List AT) (A : Option Addr) (c : Nat) (A2 : Option Addr) (c2 : Nat) (fr tu : Int) (hp : PatAt W0 val (.slice A val.length c)) (ha : LieAt (TsAt W0 ats) (.slice A2 ats.length c2) ats.length) (hg : gdEs val = true) (hgt : gdTs ats) (hz : 8 + 2 * (sizeEs val + sizeTs ats) ≤ 4000000) (w : World) (hW : Below W0.heap.size W0 w)
    (hn : ((if ty = 2 then [45] else []) ++ (nm.data.toList ++ (32 :: 61 :: ((if val.isEmpty then [] else paT 4 val) ++ (atsT ats ++ [10])))) : List UInt8).length ≤ 140737488355328) :
    Calls Tryd.prog 7 #[entV ty lv tx nm (.slice A val.length c) (.slice A2 ats.length c2) fr tu] w fun e w' => e = .returned (.string ⟨((if ty = 2 then [45] else []) ++ (nm.data.toList ++ (32 :: 61 :: ((if val.isEmpty then [] else paT 4 val) ++ (atsT ats ++ [10])))) : List UInt8).toArray⟩) ∧ Below w.heap.size w w' := by
  have htl := sizeTs_length ats
  have hl0 : (ats.length : Int) ≤ 4000000 := by omega
  have HP4 := Lib.hid (fun W (g : Below W0.heap.size W0 W) (hq : (paT 4 val).length ≤ 140737488355328) => lpat_all (m := 4) val hg (by omega) _ W hp g hq)
  have HP8 : Hid (∀ (j : Nat) (n : ByteArray) (p : List EL), ats[j]? = some (.mk n p) → LaTo W0 8 p) := fun j n p h => lpat_all p (hgt n p (List.mem_of_getElem? h)).2 (by have := szTs_get ats j n p h; omega)
  have HAt := Lib.hid ha
  have HW := Lib.hid hW
  have HB0 := Lib.hid ((Below.refl w.heap.size w).alloc (Nat.le_refl _) (.cells #[.int .i64 ty, .int .i64 lv, .string tx, .string nm, .slice A val.length c, .slice A2 ats.length c2, .int .i64 fr, .int .i64 tu] 29))
  have HWB := Lib.hid (hW.alloc hW.size (.cells #[.int .i64 ty, .int .i64 lv, .string tx, .string nm, .slice A val.length c, .slice A2 ats.length c2, .int .i64 fr, .int .i64 tu] 29))
  have C0 := Lib.hid (BoxAt.new w #[.int .i64 ty, .int .i64 lv, .string tx, .string nm, .slice A val.length c, .slice A2 ats.length c2, .int .i64 fr, .int .i64 tu] 29)
  unfold entV
  clear hp ha hg hgt hz hW htl
  rcases hty with rfl | rfl
  · rw [if_neg (by decide)] at hn ⊢
    by_cases hv : val = []
    · subst hv
      rw [show (([] : List EL).isEmpty) = true from rfl, if_pos rfl] at hn ⊢
      obtain ⟨RR, hRR⟩ : ∃ RR, ([] ++ (nm.data.toList ++ [32, 61]) : List UInt8) = RR := ⟨_, rfl⟩
      have hrl : RR.length = nm.size + 2 := by rw [← hRR]; simp
      have HN : Hid (RR.length + ((atsT ats).length + 1) ≤ 140737488355328) := by simp at hn; unfold Hid; omega
      have hNN := HN.out
      have g1 : ¬ 9223372036854775807 < nm.size + 2 := by omega
      have g2 : ¬ 9223372036854775807 < 1 + (nm.size + 2) := by omega
      have HRR := Lib.hid hRR
      have HBs := HB0
      clear hRR hrl hn hNN HP4
      go_enter Tryd.func7, Tryd.ntmps7
      go_wp2
      go_loopw [6, 80] (fun t6 t80 wr => ∃ (j : Nat) (S : ByteArray), t80 = .int .i64 j ∧ t6 = .string S ∧ j ≤ ats.length ∧ Hid (S.data.toList = RR ++ atsT (ats.take j)) ∧ Hid (Below w.heap.size w wr)) (fun _ t80 _ => ats.length - (intOf t80).toNat)
      case atStart => exact ⟨0, _, rfl, rfl, Nat.zero_le _, Lib.hid (by rw [← HRR.out, List.take_zero, atsT]; simp), HBs⟩
      case round =>
        clear HBs
        obtain ⟨j, S, rfl, rfl, hj, HS, HB⟩ := hrel
        have hj0 : (j : Int) ≤ 4000000 := by omega
        have hsz : S.size = RR.length + (atsT (ats.take j)).length := by rw [← size_data, HS.out, List.length_append]
        have hNN := HN.out
        by_cases hlt : j < ats.length
        · have d1 : decide ((j : Int) < (ats.length : Int)) = true := decide_eq_true (by omega)
          have d2 : (j : Int) < (ats.length : Int) := by omega
          obtain ⟨eb, eo, cc, e, hb, k, p, u, hel, c0, c1', hpt⟩ := at_at HAt.out hlt
          cases e
          have hpt' := hpt
          obtain ⟨A3, c3, rfl, _⟩ := hpt'
          have hbel : Below W0.heap.size W0 wr := HW.out.trans (HB.out.mono HW.out.size)
          rw [← hbel.cell (p := ⟨eb, eo + j * 2, none⟩) hb] at c0
          rw [← hbel.cell (p := ⟨eb, eo + j * 2 + 1, none⟩) hb] at c1'
          have hbw : eb < wr.heap.size := Nat.lt_of_lt_of_le hb hbel.size
          have hle := atsT_take_le ats (j + 1)
          have htk := atsT_take ats j _ hel
          rw [htk, List.length_append] at hle
          obtain ⟨P, hP⟩ : ∃ P, paT 8 p = P := ⟨_, rfl⟩
          have hvl : (atY (.mk k p)).length = 8 + k.size + P.length := by
            unfold atY
            dsimp only
            rw [hP]
            simp
            omega
          rw [hvl] at hle
          have hla := fun W (g : Below W0.heap.size W0 W) => HP8.out j k p hel _ W hpt g (by rw [hP]; omega)
          simp only [hP] at hla
          rw [show ((8 : Nat) : Int) = 8 from rfl] at hla
          have hPs := size_mk P
          have HT := Lib.hid (show atsT (ats.take (j + 1)) = atsT (ats.take j) ++ (10 :: 32 :: 32 :: 32 :: 32 :: 46 :: (k.data.toList ++ (32 :: 61 :: P))) by rw [htk, ← hP]; rfl)
          have g1 : ¬ 9223372036854775807 < S.size + 6 := by omega
          have g2 : ¬ 9223372036854775807 < S.size + 6 + k.size := by omega
          have g3 : ¬ 9223372036854775807 < S.size + 6 + k.size + 2 := by omega
          have g4 : ¬ 9223372036854775807 < S.size + 6 + k.size + 2 + (⟨P.toArray⟩ : ByteArray).size := by omega
          have g5 : ¬ 9223372036854775807 < S.size + 6 + k.size + 2 + P.length := by omega
          have CB := Lib.hid (BoxAt.new wr #[.string k, .slice A3 p.length c3] 52)
          have HBel := Lib.hid (hbel.alloc hbel.size (.cells #[.string k, .slice A3 p.length c3] 52))
          have HLa := Lib.hid hla
          clear hel hpt hbel hle htk hvl hP hla hPs hsz hNN
          have HKp : Hid (∀ W W', (W.cell? ⟨wr.heap.size, 0, none⟩ = some (.string k) ∧ W.cell? ⟨wr.heap.size, 1, none⟩ = some (.slice A3 p.length c3) ∧ wr.heap.size + 1 ≤ W.heap.size ∧ Below (wr.heap.size + 1) (wr.alloc (.cells #[.string k, .slice A3 p.length c3] 52)) W) → Below W.heap.size W W' → (W'.cell? ⟨wr.heap.size, 0, none⟩ = some (.string k) ∧ W'.cell? ⟨wr.heap.size, 1, none⟩ = some (.slice A3 p.length c3) ∧ wr.heap.size + 1 ≤ W'.heap.size ∧ Below (wr.heap.size + 1) (wr.alloc (.cells #[.string k, .slice A3 p.length c3] 52)) W')) := fun W W' ⟨h1, h2, h3, h4⟩ g =>
            ⟨(g.cell (p := ⟨wr.heap.size, 0, none⟩) h3).trans h1, (g.cell (p := ⟨wr.heap.size, 1, none⟩) h3).trans h2, Nat.le_trans h3 g.size, h4.trans (g.mono h3)⟩
          have HS0 := Lib.hid (show ((wr.alloc (.cells #[.string k, .slice A3 p.length c3] 52)).drew.cell? ⟨wr.heap.size, 0, none⟩ = some (.string k) ∧ (wr.alloc (.cells #[.string k, .slice A3 p.length c3] 52)).drew.cell? ⟨wr.heap.size, 1, none⟩ = some (.slice A3 p.length c3) ∧ wr.heap.size + 1 ≤ (wr.alloc (.cells #[.string k, .slice A3 p.length c3] 52)).drew.heap.size ∧ Below (wr.heap.size + 1) (wr.alloc (.cells #[.string k, .slice A3 p.length c3] 52)) (wr.alloc (.cells #[.string k, .slice A3 p.length c3] 52)).drew) from
            ⟨CB.out.cell 0, CB.out.cell 1, CB.out.lt, (Below.refl _ _).drew⟩)
          have HLb := Lib.hid (fun W (h : (W.cell? ⟨wr.heap.size, 0, none⟩ = some (.string k) ∧ W.cell? ⟨wr.heap.size, 1, none⟩ = some (.slice A3 p.length c3) ∧ wr.heap.size + 1 ≤ W.heap.size ∧ Below (wr.heap.size + 1) (wr.alloc (.cells #[.string k, .slice A3 p.length c3] 52)) W)) => HLa.out W (HBel.out.trans (h.2.2.2.mono (Nat.le_trans HW.out.size (Nat.le_trans HB.out.size (Nat.le_succ _))))))
          go_wp2
          go_region_held3 (fun w' => w'.cell? ⟨wr.heap.size, 0, none⟩ = some (.string k) ∧ w'.cell? ⟨wr.heap.size, 1, none⟩ = some (.slice A3 p.length c3) ∧ wr.heap.size + 1 ≤ w'.heap.size ∧ Below (wr.heap.size + 1) (wr.alloc (.cells #[.string k, .slice A3 p.length c3] 52)) w')
            (first | (exact HKp.out _ _ (by assumption) (by assumption)) | (exact HS0.out) | assumption | go_keep)
            (first | (go_at_call 14; (with_reducible refine (HLb.out _ (by assumption)).mono ?_); rintro e wb ⟨rfl, hbb⟩))
          rename_i hmE
          obtain ⟨_, _, hmS, hmB⟩ := hmE
          have HBE := Lib.hid ((HB.out.alloc HB.out.size (.cells #[.string k, .slice A3 p.length c3] 52)).trans (hmB.mono (Nat.le_trans HB.out.size (Nat.le_succ _))))
          clear hmB
          go_wp2
          go_roundw
          case rel =>
            refine ⟨j + 1, _, by go_num, rfl, hlt, Lib.hid ?_, HBE⟩
            have h1 := HS.out
            rw [HT.out, ← List.append_assoc RR, ← h1]
            simp
          case measure => simp [intOf]; omega
        · obtain rfl : j = ats.length := by omega
          have d1 : decide ((ats.length : Int) < (ats.length : Int)) = false := decide_eq_false (by omega)
          have hS := HS.out
          rw [List.take_of_length_le (Nat.le_refl _)] at hS hsz
          have g1 : ¬ 9223372036854775807 < S.size + 1 := by omega
          have HS2 := Lib.hid hS
          clear hS hsz hNN
          go_wp2
          go_ret
          refine ⟨ret_str ?_, HB.out⟩
          apply bytes_eq
          have h1 := HS2.out
          simp only [ByteArray.data_append, Array.toList_append, h1]
          rw [← HRR.out]
          simp
    · have hvi : val.isEmpty = false := by cases val with | nil => exact absurd rfl hv | cons x r => rfl
      have hvl : 0 < val.length := List.length_pos_iff.2 hv
      have v1 : (0 : Int) < (val.length : Int) := by omega
      have v2 : decide ((0 : Int) < (val.length : Int)) = true := decide_eq_true v1
      rw [hvi, if_neg (by decide)] at hn ⊢
      obtain ⟨Q, hQ⟩ : ∃ Q, paT 4 val = Q := ⟨_, rfl⟩
      rw [hQ] at hn ⊢
      obtain ⟨RR, hRR⟩ : ∃ RR, ([] ++ (nm.data.toList ++ (32 :: 61 :: Q)) : List UInt8) = RR := ⟨_, rfl⟩
      have hrl : RR.length = nm.size + 2 + Q.length := by rw [← hRR]; simp; omega
      have HN : Hid (RR.length + ((atsT ats).length + 1) ≤ 140737488355328) := by simp at hn; unfold Hid; omega
      have hNN := HN.out
      have hQs := size_mk Q
      have hcc := HP4.out _ HWB.out (by rw [hQ]; omega)
      rw [hQ] at hcc
      rw [show ((4 : Nat) : Int) = 4 from rfl] at hcc
      have HC := Lib.hid hcc
      have g1 : ¬ 9223372036854775807 < nm.size + 2 := by omega
      have g2 : ¬ 9223372036854775807 < 1 + (nm.size + 2) := by omega
      have g3 : ¬ 9223372036854775807 < nm.size + 2 + (⟨Q.toArray⟩ : ByteArray).size := by omega
      have g4 : ¬ 9223372036854775807 < nm.size + 2 + Q.length := by omega
      have HRR := Lib.hid hRR
      clear hRR hrl hn hNN hQ hcc hQs HP4 hvi
      go_enter Tryd.func7, Tryd.ntmps7
      go_wp2_with fail
      go_at_call 14
      refine HC.out.mono ?_
      rintro x w2 ⟨rfl, h2⟩
      have C2 := Lib.hid (C0.out.later h2)
      have d5 : w2.cell? ⟨w.heap.size, 5, none⟩ = some (.slice A2 ats.length c2) := C2.out.cell 5
      have hlw := C2.out.lt
      have HBs := Lib.hid (below_box h2)
      clear h2
      go_wp2
      go_loopw [6, 80] (fun t6 t80 wr => ∃ (j : Nat) (S : ByteArray), t80 = .int .i64 j ∧ t6 = .string S ∧ j ≤ ats.length ∧ Hid (S.data.toList = RR ++ atsT (ats.take j)) ∧ Hid (Below w.heap.size w wr)) (fun _ t80 _ => ats.length - (intOf t80).toNat)
      case atStart => exact ⟨0, _, rfl, rfl, Nat.zero_le _, Lib.hid (by rw [← HRR.out, List.take_zero, atsT]; simp), HBs⟩
      case round =>
        clear HBs
        obtain ⟨j, S, rfl, rfl, hj, HS, HB⟩ := hrel
        have hj0 : (j : Int) ≤ 4000000 := by omega
        have hsz : S.size = RR.length + (atsT (ats.take j)).length := by rw [← size_data, HS.out, List.length_append]
        have hNN := HN.out
        by_cases hlt : j < ats.length
        · have d1 : decide ((j : Int) < (ats.length : Int)) = true := decide_eq_true (by omega)
          have d2 : (j : Int) < (ats.length : Int) := by omega
          obtain ⟨eb, eo, cc, e, hb, k, p, u, hel, c0, c1', hpt⟩ := at_at HAt.out hlt
          cases e
          have hpt' := hpt
          obtain ⟨A3, c3, rfl, _⟩ := hpt'
          have hbel : Below W0.heap.size W0 wr := HW.out.trans (HB.out.mono HW.out.size)
          rw [← hbel.cell (p := ⟨eb, eo + j * 2, none⟩) hb] at c0
          rw [← hbel.cell (p := ⟨eb, eo + j * 2 + 1, none⟩) hb] at c1'
          have hbw : eb < wr.heap.size := Nat.lt_of_lt_of_le hb hbel.size
          have hle := atsT_take_le ats (j + 1)
          have htk := atsT_take ats j _ hel
          rw [htk, List.length_append] at hle
          obtain ⟨P, hP⟩ : ∃ P, paT 8 p = P := ⟨_, rfl⟩
          have hvl : (atY (.mk k p)).length = 8 + k.size + P.length := by
            unfold atY
            dsimp only
            rw [hP]
            simp
            omega
          rw [hvl] at hle
          have hla := fun W (g : Below W0.heap.size W0 W) => HP8.out j k p hel _ W hpt g (by rw [hP]; omega)
          simp only [hP] at hla
          rw [show ((8 : Nat) : Int) = 8 from rfl] at hla
          have hPs := size_mk P
          have HT := Lib.hid (show atsT (ats.take (j + 1)) = atsT (ats.take j) ++ (10 :: 32 :: 32 :: 32 :: 32 :: 46 :: (k.data.toList ++ (32 :: 61 :: P))) by rw [htk, ← hP]; rfl)
          have g1 : ¬ 9223372036854775807 < S.size + 6 := by omega
          have g2 : ¬ 9223372036854775807 < S.size + 6 + k.size := by omega
          have g3 : ¬ 9223372036854775807 < S.size + 6 + k.size + 2 := by omega
          have g4 : ¬ 9223372036854775807 < S.size + 6 + k.size + 2 + (⟨P.toArray⟩ : ByteArray).size := by omega
          have g5 : ¬ 9223372036854775807 < S.size + 6 + k.size + 2 + P.length := by omega
          have CB := Lib.hid (BoxAt.new wr #[.string k, .slice A3 p.length c3] 52)
          have HBel := Lib.hid (hbel.alloc hbel.size (.cells #[.string k, .slice A3 p.length c3] 52))
          have HLa := Lib.hid hla
          clear hel hpt hbel hle htk hvl hP hla hPs hsz hNN
          have HKp : Hid (∀ W W', (W.cell? ⟨wr.heap.size, 0, none⟩ = some (.string k) ∧ W.cell? ⟨wr.heap.size, 1, none⟩ = some (.slice A3 p.length c3) ∧ wr.heap.size + 1 ≤ W.heap.size ∧ Below (wr.heap.size + 1) (wr.alloc (.cells #[.string k, .slice A3 p.length c3] 52)) W) → Below W.heap.size W W' → (W'.cell? ⟨wr.heap.size, 0, none⟩ = some (.string k) ∧ W'.cell? ⟨wr.heap.size, 1, none⟩ = some (.slice A3 p.length c3) ∧ wr.heap.size + 1 ≤ W'.heap.size ∧ Below (wr.heap.size + 1) (wr.alloc (.cells #[.string k, .slice A3 p.length c3] 52)) W')) := fun W W' ⟨h1, h2, h3, h4⟩ g =>
            ⟨(g.cell (p := ⟨wr.heap.size, 0, none⟩) h3).trans h1, (g.cell (p := ⟨wr.heap.size, 1, none⟩) h3).trans h2, Nat.le_trans h3 g.size, h4.trans (g.mono h3)⟩
          have HS0 := Lib.hid (show ((wr.alloc (.cells #[.string k, .slice A3 p.length c3] 52)).drew.cell? ⟨wr.heap.size, 0, none⟩ = some (.string k) ∧ (wr.alloc (.cells #[.string k, .slice A3 p.length c3] 52)).drew.cell? ⟨wr.heap.size, 1, none⟩ = some (.slice A3 p.length c3) ∧ wr.heap.size + 1 ≤ (wr.alloc (.cells #[.string k, .slice A3 p.length c3] 52)).drew.heap.size ∧ Below (wr.heap.size + 1) (wr.alloc (.cells #[.string k, .slice A3 p.length c3] 52)) (wr.alloc (.cells #[.string k, .slice A3 p.length c3] 52)).drew) from
            ⟨CB.out.cell 0, CB.out.cell 1, CB.out.lt, (Below.refl _ _).drew⟩)
          have HLb := Lib.hid (fun W (h : (W.cell? ⟨wr.heap.size, 0, none⟩ = some (.string k) ∧ W.cell? ⟨wr.heap.size, 1, none⟩ = some (.slice A3 p.length c3) ∧ wr.heap.size + 1 ≤ W.heap.size ∧ Below (wr.heap.size + 1) (wr.alloc (.cells #[.string k, .slice A3 p.length c3] 52)) W)) => HLa.out W (HBel.out.trans (h.2.2.2.mono (Nat.le_trans HW.out.size (Nat.le_trans HB.out.size (Nat.le_succ _))))))
          go_wp2
          go_region_held3 (fun w' => w'.cell? ⟨wr.heap.size, 0, none⟩ = some (.string k) ∧ w'.cell? ⟨wr.heap.size, 1, none⟩ = some (.slice A3 p.length c3) ∧ wr.heap.size + 1 ≤ w'.heap.size ∧ Below (wr.heap.size + 1) (wr.alloc (.cells #[.string k, .slice A3 p.length c3] 52)) w')
            (first | (exact HKp.out _ _ (by assumption) (by assumption)) | (exact HS0.out) | assumption | go_keep)
            (first | (go_at_call 14; (with_reducible refine (HLb.out _ (by assumption)).mono ?_); rintro e wb ⟨rfl, hbb⟩))
          rename_i hmE
          obtain ⟨_, _, hmS, hmB⟩ := hmE
          have HBE := Lib.hid ((HB.out.alloc HB.out.size (.cells #[.string k, .slice A3 p.length c3] 52)).trans (hmB.mono (Nat.le_trans HB.out.size (Nat.le_succ _))))
          clear hmB
          go_wp2
          go_roundw
          case rel =>
            refine ⟨j + 1, _, by go_num, rfl, hlt, Lib.hid ?_, HBE⟩
            have h1 := HS.out
            rw [HT.out, ← List.append_assoc RR, ← h1]
            simp
          case measure => simp [intOf]; omega
        · obtain rfl : j = ats.length := by omega
          have d1 : decide ((ats.length : Int) < (ats.length : Int)) = false := decide_eq_false (by omega)
          have hS := HS.out
          rw [List.take_of_length_le (Nat.le_refl _)] at hS hsz
          have g1 : ¬ 9223372036854775807 < S.size + 1 := by omega
          have HS2 := Lib.hid hS
          clear hS hsz hNN
          go_wp2
          go_ret
          refine ⟨ret_str ?_, HB.out⟩
          apply bytes_eq
          have h1 := HS2.out
          simp only [ByteArray.data_append, Array.toList_append, h1]
          rw [← HRR.out]
          simp
  · rw [if_pos rfl] at hn ⊢
    by_cases hv : val = []
    · subst hv
      rw [show (([] : List EL).isEmpty) = true from rfl, if_pos rfl] at hn ⊢
      obtain ⟨RR, hRR⟩ : ∃ RR, ([45] ++ (nm.data.toList ++ [32, 61]) : List UInt8) = RR := ⟨_, rfl⟩
      have hrl : RR.length = 1 + (nm.size + 2) := by rw [← hRR]; simp; try omega
      have HN : Hid (RR.length + ((atsT ats).length + 1) ≤ 140737488355328) := by simp at hn; unfold Hid; omega
      have hNN := HN.out
      have g1 : ¬ 9223372036854775807 < nm.size + 2 := by omega
      have g2 : ¬ 9223372036854775807 < 1 + (nm.size + 2) := by omega
      have HRR := Lib.hid hRR
      have HBs := HB0
      clear hRR hrl hn hNN HP4
      go_enter Tryd.func7, Tryd.ntmps7
      go_wp2
      go_loopw [6, 80] (fun t6 t80 wr => ∃ (j : Nat) (S : ByteArray), t80 = .int .i64 j ∧ t6 = .string S ∧ j ≤ ats.length ∧ Hid (S.data.toList = RR ++ atsT (ats.take j)) ∧ Hid (Below w.heap.size w wr)) (fun _ t80 _ => ats.length - (intOf t80).toNat)
      case atStart => exact ⟨0, _, rfl, rfl, Nat.zero_le _, Lib.hid (by rw [← HRR.out, List.take_zero, atsT]; simp), HBs⟩
      case round =>
        clear HBs
        obtain ⟨j, S, rfl, rfl, hj, HS, HB⟩ := hrel
        have hj0 : (j : Int) ≤ 4000000 := by omega
        have hsz : S.size = RR.length + (atsT (ats.take j)).length := by rw [← size_data, HS.out, List.length_append]
        have hNN := HN.out
        by_cases hlt : j < ats.length
        · have d1 : decide ((j : Int) < (ats.length : Int)) = true := decide_eq_true (by omega)
          have d2 : (j : Int) < (ats.length : Int) := by omega
          obtain ⟨eb, eo, cc, e, hb, k, p, u, hel, c0, c1', hpt⟩ := at_at HAt.out hlt
          cases e
          have hpt' := hpt
          obtain ⟨A3, c3, rfl, _⟩ := hpt'
          have hbel : Below W0.heap.size W0 wr := HW.out.trans (HB.out.mono HW.out.size)
          rw [← hbel.cell (p := ⟨eb, eo + j * 2, none⟩) hb] at c0
          rw [← hbel.cell (p := ⟨eb, eo + j * 2 + 1, none⟩) hb] at c1'
          have hbw : eb < wr.heap.size := Nat.lt_of_lt_of_le hb hbel.size
          have hle := atsT_take_le ats (j + 1)
          have htk := atsT_take ats j _ hel
          rw [htk, List.length_append] at hle
          obtain ⟨P, hP⟩ : ∃ P, paT 8 p = P := ⟨_, rfl⟩
          have hvl : (atY (.mk k p)).length = 8 + k.size + P.length := by
            unfold atY
            dsimp only
            rw [hP]
            simp
            omega
          rw [hvl] at hle
          have hla := fun W (g : Below W0.heap.size W0 W) => HP8.out j k p hel _ W hpt g (by rw [hP]; omega)
          simp only [hP] at hla
          rw [show ((8 : Nat) : Int) = 8 from rfl] at hla
          have hPs := size_mk P
          have HT := Lib.hid (show atsT (ats.take (j + 1)) = atsT (ats.take j) ++ (10 :: 32 :: 32 :: 32 :: 32 :: 46 :: (k.data.toList ++ (32 :: 61 :: P))) by rw [htk, ← hP]; rfl)
          have g1 : ¬ 9223372036854775807 < S.size + 6 := by omega
          have g2 : ¬ 9223372036854775807 < S.size + 6 + k.size := by omega
          have g3 : ¬ 9223372036854775807 < S.size + 6 + k.size + 2 := by omega
          have g4 : ¬ 9223372036854775807 < S.size + 6 + k.size + 2 + (⟨P.toArray⟩ : ByteArray).size := by omega
          have g5 : ¬ 9223372036854775807 < S.size + 6 + k.size + 2 + P.length := by omega
          have CB := Lib.hid (BoxAt.new wr #[.string k, .slice A3 p.length c3] 52)
          have HBel := Lib.hid (hbel.alloc hbel.size (.cells #[.string k, .slice A3 p.length c3] 52))
          have HLa := Lib.hid hla
          clear hel hpt hbel hle htk hvl hP hla hPs hsz hNN
          have HKp : Hid (∀ W W', (W.cell? ⟨wr.heap.size, 0, none⟩ = some (.string k) ∧ W.cell? ⟨wr.heap.size, 1, none⟩ = some (.slice A3 p.length c3) ∧ wr.heap.size + 1 ≤ W.heap.size ∧ Below (wr.heap.size + 1) (wr.alloc (.cells #[.string k, .slice A3 p.length c3] 52)) W) → Below W.heap.size W W' → (W'.cell? ⟨wr.heap.size, 0, none⟩ = some (.string k) ∧ W'.cell? ⟨wr.heap.size, 1, none⟩ = some (.slice A3 p.length c3) ∧ wr.heap.size + 1 ≤ W'.heap.size ∧ Below (wr.heap.size + 1) (wr.alloc (.cells #[.string k, .slice A3 p.length c3] 52)) W')) := fun W W' ⟨h1, h2, h3, h4⟩ g =>
            ⟨(g.cell (p := ⟨wr.heap.size, 0, none⟩) h3).trans h1, (g.cell (p := ⟨wr.heap.size, 1, none⟩) h3).trans h2, Nat.le_trans h3 g.size, h4.trans (g.mono h3)⟩
          have HS0 := Lib.hid (show ((wr.alloc (.cells #[.string k, .slice A3 p.length c3] 52)).drew.cell? ⟨wr.heap.size, 0, none⟩ = some (.string k) ∧ (wr.alloc (.cells #[.string k, .slice A3 p.length c3] 52)).drew.cell? ⟨wr.heap.size, 1, none⟩ = some (.slice A3 p.length c3) ∧ wr.heap.size + 1 ≤ (wr.alloc (.cells #[.string k, .slice A3 p.length c3] 52)).drew.heap.size ∧ Below (wr.heap.size + 1) (wr.alloc (.cells #[.string k, .slice A3 p.length c3] 52)) (wr.alloc (.cells #[.string k, .slice A3 p.length c3] 52)).drew) from
            ⟨CB.out.cell 0, CB.out.cell 1, CB.out.lt, (Below.refl _ _).drew⟩)
          have HLb := Lib.hid (fun W (h : (W.cell? ⟨wr.heap.size, 0, none⟩ = some (.string k) ∧ W.cell? ⟨wr.heap.size, 1, none⟩ = some (.slice A3 p.length c3) ∧ wr.heap.size + 1 ≤ W.heap.size ∧ Below (wr.heap.size + 1) (wr.alloc (.cells #[.string k, .slice A3 p.length c3] 52)) W)) => HLa.out W (HBel.out.trans (h.2.2.2.mono (Nat.le_trans HW.out.size (Nat.le_trans HB.out.size (Nat.le_succ _))))))
          go_wp2
          go_region_held3 (fun w' => w'.cell? ⟨wr.heap.size, 0, none⟩ = some (.string k) ∧ w'.cell? ⟨wr.heap.size, 1, none⟩ = some (.slice A3 p.length c3) ∧ wr.heap.size + 1 ≤ w'.heap.size ∧ Below (wr.heap.size + 1) (wr.alloc (.cells #[.string k, .slice A3 p.length c3] 52)) w')
            (first | (exact HKp.out _ _ (by assumption) (by assumption)) | (exact HS0.out) | assumption | go_keep)
            (first | (go_at_call 14; (with_reducible refine (HLb.out _ (by assumption)).mono ?_); rintro e wb ⟨rfl, hbb⟩))
          rename_i hmE
          obtain ⟨_, _, hmS, hmB⟩ := hmE
          have HBE := Lib.hid ((HB.out.alloc HB.out.size (.cells #[.string k, .slice A3 p.length c3] 52)).trans (hmB.mono (Nat.le_trans HB.out.size (Nat.le_succ _))))
          clear hmB
          go_wp2
          go_roundw
          case rel =>
            refine ⟨j + 1, _, by go_num, rfl, hlt, Lib.hid ?_, HBE⟩
            have h1 := HS.out
            rw [HT.out, ← List.append_assoc RR, ← h1]
            simp
          case measure => simp [intOf]; omega
        · obtain rfl : j = ats.length := by omega
          have d1 : decide ((ats.length : Int) < (ats.length : Int)) = false := decide_eq_false (by omega)
          have hS := HS.out
          rw [List.take_of_length_le (Nat.le_refl _)] at hS hsz
          have g1 : ¬ 9223372036854775807 < S.size + 1 := by omega
          have HS2 := Lib.hid hS
          clear hS hsz hNN
          go_wp2
          go_ret
          refine ⟨ret_str ?_, HB.out⟩
          apply bytes_eq
          have h1 := HS2.out
          simp only [ByteArray.data_append, Array.toList_append, h1]
          rw [← HRR.out]
          simp
    · have hvi : val.isEmpty = false := by cases val with | nil => exact absurd rfl hv | cons x r => rfl
      have hvl : 0 < val.length := List.length_pos_iff.2 hv
      have v1 : (0 : Int) < (val.length : Int) := by omega
      have v2 : decide ((0 : Int) < (val.length : Int)) = true := decide_eq_true v1
      rw [hvi, if_neg (by decide)] at hn ⊢
      obtain ⟨Q, hQ⟩ : ∃ Q, paT 4 val = Q := ⟨_, rfl⟩
      rw [hQ] at hn ⊢
      obtain ⟨RR, hRR⟩ : ∃ RR, ([45] ++ (nm.data.toList ++ (32 :: 61 :: Q)) : List UInt8) = RR := ⟨_, rfl⟩
      have hrl : RR.length = 1 + (nm.size + 2) + Q.length := by rw [← hRR]; simp; omega
      have HN : Hid (RR.length + ((atsT ats).length + 1) ≤ 140737488355328) := by simp at hn; unfold Hid; omega
      have hNN := HN.out
      have hQs := size_mk Q
      have hcc := HP4.out _ HWB.out (by rw [hQ]; omega)
      rw [hQ] at hcc
      rw [show ((4 : Nat) : Int) = 4 from rfl] at hcc
      have HC := Lib.hid hcc
      have g1 : ¬ 9223372036854775807 < nm.size + 2 := by omega
      have g2 : ¬ 9223372036854775807 < 1 + (nm.size + 2) := by omega
      have g3 : ¬ 9223372036854775807 < 1 + (nm.size + 2) + (⟨Q.toArray⟩ : ByteArray).size := by omega
      have g4 : ¬ 9223372036854775807 < 1 + (nm.size + 2) + Q.length := by omega
      have HRR := Lib.hid hRR
      clear hRR hrl hn hNN hQ hcc hQs HP4 hvi
      go_enter Tryd.func7, Tryd.ntmps7
      go_wp2_with fail
      go_at_call 14
      refine HC.out.mono ?_
      rintro x w2 ⟨rfl, h2⟩
      have C2 := Lib.hid (C0.out.later h2)
      have d5 : w2.cell? ⟨w.heap.size, 5, none⟩ = some (.slice A2 ats.length c2) := C2.out.cell 5
      have hlw := C2.out.lt
      have HBs := Lib.hid (below_box h2)
      clear h2
      go_wp2
      go_loopw [6, 80] (fun t6 t80 wr => ∃ (j : Nat) (S : ByteArray), t80 = .int .i64 j ∧ t6 = .string S ∧ j ≤ ats.length ∧ Hid (S.data.toList = RR ++ atsT (ats.take j)) ∧ Hid (Below w.heap.size w wr)) (fun _ t80 _ => ats.length - (intOf t80).toNat)
      case atStart => exact ⟨0, _, rfl, rfl, Nat.zero_le _, Lib.hid (by rw [← HRR.out, List.take_zero, atsT]; simp), HBs⟩
      case round =>
        clear HBs
        obtain ⟨j, S, rfl, rfl, hj, HS, HB⟩ := hrel
        have hj0 : (j : Int) ≤ 4000000 := by omega
        have hsz : S.size = RR.length + (atsT (ats.take j)).length := by rw [← size_data, HS.out, List.length_append]
        have hNN := HN.out
        by_cases hlt : j < ats.length
        · have d1 : decide ((j : Int) < (ats.length : Int)) = true := decide_eq_true (by omega)
          have d2 : (j : Int) < (ats.length : Int) := by omega
          obtain ⟨eb, eo, cc, e, hb, k, p, u, hel, c0, c1', hpt⟩ := at_at HAt.out hlt
          cases e
          have hpt' := hpt
          obtain ⟨A3, c3, rfl, _⟩ := hpt'
          have hbel : Below W0.heap.size W0 wr := HW.out.trans (HB.out.mono HW.out.size)
          rw [← hbel.cell (p := ⟨eb, eo + j * 2, none⟩) hb] at c0
          rw [← hbel.cell (p := ⟨eb, eo + j * 2 + 1, none⟩) hb] at c1'
          have hbw : eb < wr.heap.size := Nat.lt_of_lt_of_le hb hbel.size
          have hle := atsT_take_le ats (j + 1)
          have htk := atsT_take ats j _ hel
          rw [htk, List.length_append] at hle
          obtain ⟨P, hP⟩ : ∃ P, paT 8 p = P := ⟨_, rfl⟩
          have hvl : (atY (.mk k p)).length = 8 + k.size + P.length := by
            unfold atY
            dsimp only
            rw [hP]
            simp
            omega
          rw [hvl] at hle
          have hla := fun W (g : Below W0.heap.size W0 W) => HP8.out j k p hel _ W hpt g (by rw [hP]; omega)
          simp only [hP] at hla
          rw [show ((8 : Nat) : Int) = 8 from rfl] at hla
          have hPs := size_mk P
          have HT := Lib.hid (show atsT (ats.take (j + 1)) = atsT (ats.take j) ++ (10 :: 32 :: 32 :: 32 :: 32 :: 46 :: (k.data.toList ++ (32 :: 61 :: P))) by rw [htk, ← hP]; rfl)
          have g1 : ¬ 9223372036854775807 < S.size + 6 := by omega
          have g2 : ¬ 9223372036854775807 < S.size + 6 + k.size := by omega
          have g3 : ¬ 9223372036854775807 < S.size + 6 + k.size + 2 := by omega
          have g4 : ¬ 9223372036854775807 < S.size + 6 + k.size + 2 + (⟨P.toArray⟩ : ByteArray).size := by omega
          have g5 : ¬ 9223372036854775807 < S.size + 6 + k.size + 2 + P.length := by omega
          have CB := Lib.hid (BoxAt.new wr #[.string k, .slice A3 p.length c3] 52)
          have HBel := Lib.hid (hbel.alloc hbel.size (.cells #[.string k, .slice A3 p.length c3] 52))
          have HLa := Lib.hid hla
          clear hel hpt hbel hle htk hvl hP hla hPs hsz hNN
          have HKp : Hid (∀ W W', (W.cell? ⟨wr.heap.size, 0, none⟩ = some (.string k) ∧ W.cell? ⟨wr.heap.size, 1, none⟩ = some (.slice A3 p.length c3) ∧ wr.heap.size + 1 ≤ W.heap.size ∧ Below (wr.heap.size + 1) (wr.alloc (.cells #[.string k, .slice A3 p.length c3] 52)) W) → Below W.heap.size W W' → (W'.cell? ⟨wr.heap.size, 0, none⟩ = some (.string k) ∧ W'.cell? ⟨wr.heap.size, 1, none⟩ = some (.slice A3 p.length c3) ∧ wr.heap.size + 1 ≤ W'.heap.size ∧ Below (wr.heap.size + 1) (wr.alloc (.cells #[.string k, .slice A3 p.length c3] 52)) W')) := fun W W' ⟨h1, h2, h3, h4⟩ g =>
            ⟨(g.cell (p := ⟨wr.heap.size, 0, none⟩) h3).trans h1, (g.cell (p := ⟨wr.heap.size, 1, none⟩) h3).trans h2, Nat.le_trans h3 g.size, h4.trans (g.mono h3)⟩
          have HS0 := Lib.hid (show ((wr.alloc (.cells #[.string k, .slice A3 p.length c3] 52)).drew.cell? ⟨wr.heap.size, 0, none⟩ = some (.string k) ∧ (wr.alloc (.cells #[.string k, .slice A3 p.length c3] 52)).drew.cell? ⟨wr.heap.size, 1, none⟩ = some (.slice A3 p.length c3) ∧ wr.heap.size + 1 ≤ (wr.alloc (.cells #[.string k, .slice A3 p.length c3] 52)).drew.heap.size ∧ Below (wr.heap.size + 1) (wr.alloc (.cells #[.string k, .slice A3 p.length c3] 52)) (wr.alloc (.cells #[.string k, .slice A3 p.length c3] 52)).drew) from
            ⟨CB.out.cell 0, CB.out.cell 1, CB.out.lt, (Below.refl _ _).drew⟩)
          have HLb := Lib.hid (fun W (h : (W.cell? ⟨wr.heap.size, 0, none⟩ = some (.string k) ∧ W.cell? ⟨wr.heap.size, 1, none⟩ = some (.slice A3 p.length c3) ∧ wr.heap.size + 1 ≤ W.heap.size ∧ Below (wr.heap.size + 1) (wr.alloc (.cells #[.string k, .slice A3 p.length c3] 52)) W)) => HLa.out W (HBel.out.trans (h.2.2.2.mono (Nat.le_trans HW.out.size (Nat.le_trans HB.out.size (Nat.le_succ _))))))
          go_wp2
          go_region_held3 (fun w' => w'.cell? ⟨wr.heap.size, 0, none⟩ = some (.string k) ∧ w'.cell? ⟨wr.heap.size, 1, none⟩ = some (.slice A3 p.length c3) ∧ wr.heap.size + 1 ≤ w'.heap.size ∧ Below (wr.heap.size + 1) (wr.alloc (.cells #[.string k, .slice A3 p.length c3] 52)) w')
            (first | (exact HKp.out _ _ (by assumption) (by assumption)) | (exact HS0.out) | assumption | go_keep)
            (first | (go_at_call 14; (with_reducible refine (HLb.out _ (by assumption)).mono ?_); rintro e wb ⟨rfl, hbb⟩))
          rename_i hmE
          obtain ⟨_, _, hmS, hmB⟩ := hmE
          have HBE := Lib.hid ((HB.out.alloc HB.out.size (.cells #[.string k, .slice A3 p.length c3] 52)).trans (hmB.mono (Nat.le_trans HB.out.size (Nat.le_succ _))))
          clear hmB
          go_wp2
          go_roundw
          case rel =>
            refine ⟨j + 1, _, by go_num, rfl, hlt, Lib.hid ?_, HBE⟩
            have h1 := HS.out
            rw [HT.out, ← List.append_assoc RR, ← h1]
            simp
          case measure => simp [intOf]; omega
        · obtain rfl : j = ats.length := by omega
          have d1 : decide ((ats.length : Int) < (ats.length : Int)) = false := decide_eq_false (by omega)
          have hS := HS.out
          rw [List.take_of_length_le (Nat.le_refl _)] at hS hsz
          have g1 : ¬ 9223372036854775807 < S.size + 1 := by omega
          have HS2 := Lib.hid hS
          clear hS hsz hNN
          go_wp2
          go_ret
          refine ⟨ret_str ?_, HB.out⟩
          apply bytes_eq
          have h1 := HS2.out
          simp only [ByteArray.data_append, Array.toList_append, h1]
          rw [← HRR.out]
          simp
end Go.Proofs.YtminidoiaplhjaaDoor

namespace Go.Proofs.YtminidoiaplhjaaDoor
open Go.RowKit
set_option linter.unusedVariables false
set_option linter.unusedSimpArgs false
theorem lent_any {W0 : World} (x : EV) (hx : x.At W0) (hf : x.fit) (h3 : x.ty ≠ 3) (hn : x.text.length ≤ 140737488355328) (w : World) (hW : Below W0.heap.size W0 w) :
    Calls Tryd.prog 7 #[x.v] w fun e w' => e = .returned (.string ⟨x.text.toArray⟩) ∧ Below w.heap.size w w' := by
  obtain ⟨ty, lv, tx, nm, val, ats, A, c, A2, c2, fr, tu⟩ := x
  obtain ⟨hp, ha, htz, hwz⟩ := hx
  unfold EV.text EV.v EV.fit entT at *
  dsimp only at *
  rw [if_neg h3] at hn ⊢
  rcases hf with ⟨rfl, h1, h4⟩ | ⟨hty, hg, hgt⟩ | h5
  · rw [if_pos rfl] at hn ⊢
    exact lcom_any lv (by omega) tx nm A val.length c A2 ats.length c2 fr tu htz w hn
  · rw [if_neg (by omega)] at hn ⊢
    exact lmes_any ty lv hty tx nm val ats A c A2 c2 fr tu hp ha hg hgt hwz w hW hn
  · exact absurd h5 h3
theorem CellsN.below {W0 W : World} {lb lo : Nat} {l : List EV} (h : CellsN W0 lb lo l) (hb : Below W0.heap.size W0 W) : CellsN W lb lo l :=
  ⟨Nat.lt_of_lt_of_le h.1 hb.size, fun j x hj i y hy => (hb.cell (p := ⟨lb, lo + j * 8 + i, none⟩) h.1).trans (h.2 j x hj i y hy)⟩
end Go.Proofs.YtminidoiaplhjaaDoor

namespace Go.Proofs.YtminidoiaplhjaaDoor
open Go.RowKit
set_option linter.unusedVariables false
set_option linter.unusedSimpArgs false
set_option maxHeartbeats 8000000 in
set_option maxRecDepth 100000 in
theorem lres_any {W0 : World} (l : List EV) (hl : l.length ≤ 4000000) (hall : ∀ x ∈ l, x.At W0 ∧ x.fit ∧ x.ty ≠ 3) (lb lo n : Nat) (A : Option Addr) (hA : 0 < l.length → A = some ⟨lb, lo, none⟩) (hcs : 0 < l.length → CellsN W0 lb lo l) (hn : (resT l).length ≤ 140737488355328) (w : World) (hW : Below W0.heap.size W0 w) :
    Calls Tryd.prog 9 #[.slice A l.length n] w fun e w' => e = .returned (.string ⟨(resT l).toArray⟩) ∧ Below w.heap.size w w' := by
  have HAll := Lib.hid hall
  have HCs := Lib.hid hcs
  have HW := Lib.hid hW
  have HN := Lib.hid hn
  have HAd := Lib.hid hA
  have hl0 : (l.length : Int) ≤ 4000000 := by omega
  clear hall hcs hW hn hA
  unfold resT at *
  go_enter Tryd.func9, Tryd.ntmps9
  go_wp2
  go_loopw [3, 8] (fun t3 t8 wr => ∃ (j : Nat) (S : ByteArray), t8 = .int .i64 j ∧ t3 = .string S ∧ j ≤ l.length ∧ Hid (S.data.toList = resN l j) ∧ Hid (Below w.heap.size w wr)) (fun _ t8 _ => l.length - (intOf t8).toNat)
  case atStart => exact ⟨0, ⟨#[]⟩, rfl, rfl, Nat.zero_le _, Lib.hid rfl, Lib.hid (Below.refl _ _)⟩
  case round =>
    obtain ⟨j, S, rfl, rfl, hj, HS, HB⟩ := hrel
    have hj0 : (j : Int) ≤ 4000000 := by omega
    have hjn : (0 : Int) ≤ (j : Int) := by omega
    by_cases hlt : j < l.length
    · have d1 : decide ((j : Int) < (l.length : Int)) = true := decide_eq_true (by omega)
      have d2 : (j : Int) < (l.length : Int) := by omega
      obtain ⟨y, hy⟩ : ∃ y, l[j]? = some y := ⟨_, List.getElem?_eq_getElem hlt⟩
      have ha := HAd.out (by omega)
      subst ha
      have hbel : Below W0.heap.size W0 wr := HW.out.trans (HB.out.mono HW.out.size)
      have hcw := (HCs.out (by omega)).below hbel
      obtain ⟨c0, c1, c2, c3, c4, c5, c6, c7⟩ := cells8 hcw hy
      have hlb := hcw.1
      have CB := Lib.hid (BoxAt.new wr #[.int .i64 y.ty, .int .i64 y.lv, .string y.tx, .string y.nm, .slice y.A y.val.length y.c, .slice y.A2 y.ats.length y.c2, .int .i64 y.fr, .int .i64 y.tu] 29)
      obtain ⟨hyA, hyF, hyT⟩ := HAll.out y (List.mem_of_getElem? hy)
      have hbal : Below W0.heap.size W0 (wr.alloc y.obj) := hbel.alloc hbel.size _
      have hrs := resN_succ l j
      rw [piece_some l j y hy] at hrs
      have hSz : S.size = (resN l j).length := by rw [← size_data, HS.out]
      have hlen : S.size + ((sepT l j y).length + y.text.length) ≤ 140737488355328 := by
        have h1 := resN_mono l (j + 1) (l.length - (j + 1))
        rw [show j + 1 + (l.length - (j + 1)) = l.length by omega, hrs, List.length_append, List.length_append] at h1
        have h2 := HN.out
        omega
      have HC := lent_any y hyA hyF hyT (by omega) ((wr.alloc y.obj).drew) hbal.drew
      obtain ⟨YT, hYT⟩ : ∃ t, y.text = t := ⟨_, rfl⟩
      rw [hYT] at HC hrs hlen
      have HC := Lib.hid HC
      have HBal := Lib.hid (show Below w.heap.size w (wr.alloc y.obj) from HB.out.alloc HB.out.size _)
      rw [← HS.out] at hrs
      have hYs := size_mk YT
      clear hyA hyF hyT hYT hSz
      by_cases hz : j = 0
      · have z1 : decide (0 < j) = false := decide_eq_false (by omega)
        have z2 : ¬ 0 < j := by omega
        have hs0 : sepT l j y = [] := by subst hz; rfl
        rw [hs0, List.nil_append] at hrs
        rw [hs0, List.length_nil, Nat.zero_add] at hlen
        have g1 : ¬ 9223372036854775807 < S.size + (⟨YT.toArray⟩ : ByteArray).size := by omega
        have g2 : ¬ 9223372036854775807 < S.size + YT.length := by omega
        have Hrs := Lib.hid hrs
        obtain ⟨yt, yl, yx, yn, yv, ya, yA, yc, yA2, yc2, yf, yu⟩ := y
        unfold EV.obj EV.v entV at *
        dsimp only at *
        clear hrs hlen hs0 hz hcw hbel hbal hy hYs
        go_wp2
        go_region
        go_wp2_with fail
        go_at_call 7
        refine HC.out.mono ?_
        rintro e w4 ⟨rfl, h4⟩
        have HB4 := Lib.hid (HBal.out.drew.trans (h4.mono (by have := HBal.out.drew.size; exact this)))
        clear h4
        go_wp2
        go_roundw
        case rel =>
          refine ⟨j + 1, _, by go_num, rfl, hlt, Lib.hid ?_, HB4⟩
          rw [Hrs.out]
          simp
        case measure => simp [intOf]; omega
      · have z1 : decide (0 < j) = true := decide_eq_true (by omega)
        have z2 : 0 < j := by omega
        obtain ⟨p, hp⟩ : ∃ p, j = p + 1 := ⟨j - 1, by omega⟩
        have hpj : (j : Int) - 1 = (p : Int) := by omega
        have hpl : p < l.length := by omega
        have hp0 : (0 : Int) ≤ (p : Int) := by omega
        have hwp : IntKind.i64.wrap (p : Int) = (p : Int) := IntWalk.i64_in _ (by omega)
        have hp1 : (p : Int) < (l.length : Int) := by omega
        have hp2 : decide ((p : Int) < (l.length : Int)) = true := decide_eq_true hp1
        obtain ⟨x, hx⟩ : ∃ x, l[p]? = some x := ⟨_, List.getElem?_eq_getElem hpl⟩
        have hsx : sepT l j y = if oneB x y then [10] else [] := by subst hp; unfold sepT; dsimp only; rw [hx]
        have hcs1 := (HCs.out (by omega)).below hbal
        obtain ⟨x0, x1, x2, x3, x4, x5, x6, x7⟩ := cells8 hcs1 hx
        have hlb1 := hcs1.1
        obtain ⟨o1, q1⟩ : ∃ o, (y.ty == 0) = o := ⟨_, rfl⟩
        obtain ⟨o2, q2⟩ : ∃ o, (x.ty == 0) = o := ⟨_, rfl⟩
        obtain ⟨o3, q3⟩ : ∃ o, (x.lv == y.lv) = o := ⟨_, rfl⟩
        have hob : oneB x y = (o2 && o1 && o3) := by unfold oneB; rw [q1, q2, q3]
        rw [hsx, hob] at hrs hlen
        clear x2 x3 x4 x5 x6 x7 hsx hob
        obtain ⟨yt, yl, yx, yn, yv, ya, yA, yc, yA2, yc2, yf, yu⟩ := y
        unfold EV.obj EV.v entV at *
        dsimp only at *
        clear hcw hbel hbal hy hp hcs1 hx hz
        cases o1
        · have hcd : (o2 && false && o3) = false := by cases o2 <;> rfl
          rw [hcd] at hrs hlen
          rw [if_neg (by decide), List.nil_append] at hrs
          rw [if_neg (by decide), List.length_nil, Nat.zero_add] at hlen
          have g1 : ¬ 9223372036854775807 < S.size + (⟨YT.toArray⟩ : ByteArray).size := by omega
          have g2 : ¬ 9223372036854775807 < S.size + YT.length := by omega
          have Hrs := Lib.hid hrs
          clear hrs hlen hcd hYs
          go_wp2
          go_region
          go_wp2_with fail
          go_at_call 7
          refine HC.out.mono ?_
          rintro e w4 ⟨rfl, h4⟩
          have HB4 := Lib.hid (HBal.out.drew.trans (h4.mono (by have := HBal.out.drew.size; exact this)))
          clear h4
          go_wp2
          go_roundw
          case rel =>
            refine ⟨j + 1, _, by go_num, rfl, hlt, Lib.hid ?_, HB4⟩
            rw [Hrs.out]
            simp
          case measure => simp [intOf]; omega
        · cases o2
          · have hcd : (false && true && o3) = false := rfl
            rw [hcd] at hrs hlen
            rw [if_neg (by decide), List.nil_append] at hrs
            rw [if_neg (by decide), List.length_nil, Nat.zero_add] at hlen
            have g1 : ¬ 9223372036854775807 < S.size + (⟨YT.toArray⟩ : ByteArray).size := by omega
            have g2 : ¬ 9223372036854775807 < S.size + YT.length := by omega
            have Hrs := Lib.hid hrs
            clear hrs hlen hcd hYs
            go_wp2
            go_region
            go_wp2_with fail
            go_at_call 7
            refine HC.out.mono ?_
            rintro e w4 ⟨rfl, h4⟩
            have HB4 := Lib.hid (HBal.out.drew.trans (h4.mono (by have := HBal.out.drew.size; exact this)))
            clear h4
            go_wp2
            go_roundw
            case rel =>
              refine ⟨j + 1, _, by go_num, rfl, hlt, Lib.hid ?_, HB4⟩
              rw [Hrs.out]
              simp
            case measure => simp [intOf]; omega
          · cases o3
            · have hcd : (true && true && false) = false := rfl
              rw [hcd] at hrs hlen
              rw [if_neg (by decide), List.nil_append] at hrs
              rw [if_neg (by decide), List.length_nil, Nat.zero_add] at hlen
              have g1 : ¬ 9223372036854775807 < S.size + (⟨YT.toArray⟩ : ByteArray).size := by omega
              have g2 : ¬ 9223372036854775807 < S.size + YT.length := by omega
              have Hrs := Lib.hid hrs
              clear hrs hlen hcd hYs
              go_wp2
              go_region
              go_wp2_with fail
              go_at_call 7
              refine HC.out.mono ?_
              rintro e w4 ⟨rfl, h4⟩
              have HB4 := Lib.hid (HBal.out.drew.trans (h4.mono (by have := HBal.out.drew.size; exact this)))
              clear h4
              go_wp2
              go_roundw
              case rel =>
                refine ⟨j + 1, _, by go_num, rfl, hlt, Lib.hid ?_, HB4⟩
                rw [Hrs.out]
                simp
              case measure => simp [intOf]; omega
            · have hcd : (true && true && true) = true := rfl
              rw [hcd] at hrs hlen
              rw [if_pos rfl] at hrs hlen
              have hlen2 : S.size + (1 + YT.length) ≤ 140737488355328 := hlen
              have g0 : ¬ 9223372036854775807 < S.size + 1 := by omega
              have g1 : ¬ 9223372036854775807 < S.size + 1 + (⟨YT.toArray⟩ : ByteArray).size := by omega
              have g2 : ¬ 9223372036854775807 < S.size + 1 + YT.length := by omega
              have Hrs := Lib.hid hrs
              clear hrs hlen hlen2 hcd hYs
              go_wp2
              go_region
              go_wp2_with fail
              go_at_call 7
              refine HC.out.mono ?_
              rintro e w4 ⟨rfl, h4⟩
              have HB4 := Lib.hid (HBal.out.drew.trans (h4.mono (by have := HBal.out.drew.size; exact this)))
              clear h4
              go_wp2
              go_roundw
              case rel =>
                refine ⟨j + 1, _, by go_num, rfl, hlt, Lib.hid ?_, HB4⟩
                rw [Hrs.out]
                simp
              case measure => simp [intOf]; omega
    · obtain rfl : j = l.length := by omega
      have d1 : decide ((l.length : Int) < (l.length : Int)) = false := decide_eq_false (by omega)
      go_wp2
      go_ret
      exact ⟨ret_str (by apply bytes_eq; rw [HS.out]), HB.out⟩
end Go.Proofs.YtminidoiaplhjaaDoor

namespace Go.Proofs.YtminidoiaplhjaaDoor
open Go.RowKit
set_option linter.unusedVariables false
set_option linter.unusedSimpArgs false
theorem right_fit (x : EV) (h : rightB x.ty x.lv x.tx x.nm x.val x.ats = true) : x.fit ∧ x.ty ≠ 3 := by
  unfold rightB at h
  unfold EV.fit
  split at h
  · next h0 =>
    unfold comB at h
    simp only [Bool.and_eq_true, decide_eq_true_eq] at h
    exact ⟨Or.inl ⟨h0, h.1.1.1.1.1, h.1.1.1.1.2⟩, by omega⟩
  · split at h
    · next h1 =>
      unfold msgB at h
      simp only [Bool.and_eq_true] at h
      refine ⟨Or.inr (Or.inl ⟨h1, patB_gd h.1.1.2, fun n v hm => ?_⟩), by omega⟩
      have h2 := List.all_eq_true.1 h.1.2 _ hm
      unfold attrOk at h2
      simp only [Bool.and_eq_true, Bool.not_eq_true', List.isEmpty_eq_false_iff] at h2
      exact ⟨h2.2.1, patB_gd h2.2.2⟩
    · cases h
set_option maxHeartbeats 4000000 in
set_option maxRecDepth 100000 in
theorem few_any {W0 : World} (hT : TabU W0) (l : List EV) (hl : l.length ≤ 4000000) (hall : ∀ x ∈ l, x.At W0 ∧ x.nm.size ≤ 4000000) (lb lo n : Nat) (A : Option Addr) (hA : 0 < l.length → A = some ⟨lb, lo, none⟩) (hcs : 0 < l.length → CellsN W0 lb lo l) (w : World) (hW : Below W0.heap.size W0 w) :
    Calls Tryd.prog 5 #[.slice A l.length n] w fun e w' => (∃ b, e = .returned (.bool b) ∧ (b = true → ∀ x ∈ l, x.fit ∧ x.ty ≠ 3)) ∧ Below w.heap.size w w' := by
  have HAll := Lib.hid hall
  have HCs := Lib.hid hcs
  have HW := Lib.hid hW
  have HAd := Lib.hid hA
  have HTab := Lib.hid hT
  have hl0 : (l.length : Int) ≤ 4000000 := by omega
  clear hall hcs hW hA hT
  go_enter Tryd.func5, Tryd.ntmps5
  go_wp2
  go_loopw [7] (fun t7 wr => ∃ j : Nat, t7 = .int .i64 j ∧ j ≤ l.length ∧ Hid (∀ x ∈ l.take j, x.fit ∧ x.ty ≠ 3) ∧ Hid (Below w.heap.size w wr)) (fun t7 _ => l.length - (intOf t7).toNat)
  case atStart => exact ⟨0, rfl, Nat.zero_le _, Lib.hid (fun x hx => by simp at hx), Lib.hid (Below.refl _ _)⟩
  case round =>
    obtain ⟨j, rfl, hj, HF, HB⟩ := hrel
    have hj0 : (j : Int) ≤ 4000000 := by omega
    by_cases hlt : j < l.length
    · have d1 : decide ((j : Int) < (l.length : Int)) = true := decide_eq_true (by omega)
      have d2 : (j : Int) < (l.length : Int) := by omega
      obtain ⟨y, hy⟩ : ∃ y, l[j]? = some y := ⟨_, List.getElem?_eq_getElem hlt⟩
      have ha := HAd.out (by omega)
      subst ha
      have hbel : Below W0.heap.size W0 wr := HW.out.trans (HB.out.mono HW.out.size)
      have hcw := (HCs.out (by omega)).below hbel
      obtain ⟨c0, c1, c2, c3, c4, c5, c6, c7⟩ := cells8 hcw hy
      have hlb := hcw.1
      have CB := Lib.hid (BoxAt.new wr #[.int .i64 y.ty, .int .i64 y.lv, .string y.tx, .string y.nm, .slice y.A y.val.length y.c, .slice y.A2 y.ats.length y.c2, .int .i64 y.fr, .int .i64 y.tu] 29)
      obtain ⟨⟨hp, hu, hz, hwz⟩, hnm⟩ := HAll.out y (List.mem_of_getElem? hy)
      have hbal : Below W0.heap.size W0 (wr.alloc y.obj) := hbel.alloc hbel.size _
      have HS := Lib.hid (small_any y.ty y.lv y.tx y.nm y.val y.ats _ _ y.fr y.tu hp hu (by omega) (wr.alloc y.obj) hbal)
      obtain ⟨r, hr⟩ : ∃ r, rightB y.ty y.lv y.tx y.nm y.val y.ats = r := ⟨_, rfl⟩
      have hri := fun W (g : Below W0.heap.size W0 W) => lright_any HTab.out y.ty y.lv y.tx y.nm y.val y.ats _ _ y.fr y.tu hp hu hnm hz (by omega) W g
      simp only [hr] at hri
      have HR := Lib.hid hri
      have HBel := Lib.hid hbal
      have HBal := Lib.hid (show Below w.heap.size w (wr.alloc y.obj) from HB.out.alloc HB.out.size _)
      have HFit : Hid (r = true → ∀ x ∈ l.take (j + 1), x.fit ∧ x.ty ≠ 3) := fun hrt x hx => by
        rw [take_snoc l j y hy] at hx
        rcases List.mem_append.1 hx with h | h
        · exact HF.out x h
        · rw [List.mem_singleton] at h
          subst h
          exact right_fit x (by rw [hr, hrt])
      have hzi : (y.tx.size : Int) ≤ 4000000 := by omega
      obtain ⟨yt, yl, yx, yn, yv, ya, yA, yc, yA2, yc2, yf, yu⟩ := y
      unfold EV.obj at *
      unfold entV at *
      dsimp only at *
      clear hri hr hp hu hwz hnm hbel hcw hy hbal
      go_wp2_with fail
      go_at_call 10
      refine HS.out.mono ?_
      rintro e w2 ⟨⟨b, rfl⟩, h2⟩
      have C2 := Lib.hid (CB.out.later h2)
      have HB2 := Lib.hid (HBal.out.trans (h2.mono HBal.out.size))
      have HC2 := Lib.hid (HR.out w2 (HBel.out.trans (h2.mono HBel.out.size)))
      have e0 : w2.cell? ⟨wr.heap.size, 0, none⟩ = some (.int .i64 yt) := C2.out.cell 0
      have e1 : w2.cell? ⟨wr.heap.size, 1, none⟩ = some (.int .i64 yl) := C2.out.cell 1
      have e2 : w2.cell? ⟨wr.heap.size, 2, none⟩ = some (.string yx) := C2.out.cell 2
      have e3 : w2.cell? ⟨wr.heap.size, 3, none⟩ = some (.string yn) := C2.out.cell 3
      have e4 : w2.cell? ⟨wr.heap.size, 4, none⟩ = some (.slice yA yv.length yc) := C2.out.cell 4
      have e5 : w2.cell? ⟨wr.heap.size, 5, none⟩ = some (.slice yA2 ya.length yc2) := C2.out.cell 5
      have e6 : w2.cell? ⟨wr.heap.size, 6, none⟩ = some (.int .i64 yf) := C2.out.cell 6
      have e7 : w2.cell? ⟨wr.heap.size, 7, none⟩ = some (.int .i64 yu) := C2.out.cell 7
      have hlw := C2.out.lt
      clear h2 HS
      cases b
      · go_wp2
        go_ret
        exact ⟨⟨false, rfl, fun h => by cases h⟩, HB2.out⟩
      · go_wp2_with fail
        go_at_call 11
        refine HC2.out.mono ?_
        rintro e w3 ⟨rfl, h3⟩
        have C3 := Lib.hid (C2.out.later h3)
        have HB3 := Lib.hid (HB2.out.trans (h3.mono HB2.out.size))
        have f2 : w3.cell? ⟨wr.heap.size, 2, none⟩ = some (.string yx) := C3.out.cell 2
        have hlw3 := C3.out.lt
        clear h3 e0 e1 e2 e3 e4 e5 e6 e7 hlw
        cases r
        · go_wp2
          go_ret
          exact ⟨⟨false, rfl, fun h => by cases h⟩, HB3.out⟩
        · by_cases hbig : (300 : Int) < (yx.size : Int)
          · have b1 : decide ((300 : Int) < (yx.size : Int)) = true := decide_eq_true hbig
            have b2 : decide (300 < yx.size) = true := decide_eq_true (by omega)
            have b3 : 300 < yx.size := by omega
            go_wp2
            go_ret
            exact ⟨⟨false, rfl, fun h => by cases h⟩, HB3.out⟩
          · have b1 : decide ((300 : Int) < (yx.size : Int)) = false := decide_eq_false hbig
            have b2 : decide (300 < yx.size) = false := decide_eq_false (by omega)
            have b3 : ¬ 300 < yx.size := by omega
            go_wp2
            go_roundw
            case rel => exact ⟨j + 1, by go_num, hlt, Lib.hid (HFit.out (by first | rfl | trivial | simp)), HB3⟩
            case measure => simp [intOf]; omega
    · obtain rfl : j = l.length := by omega
      have d1 : decide ((l.length : Int) < (l.length : Int)) = false := decide_eq_false (by omega)
      go_wp2
      go_ret
      refine ⟨⟨_, rfl, fun _ => ?_⟩, HB.out⟩
      have := HF.out
      rw [List.take_of_length_le (Nat.le_refl _)] at this
      exact this
end Go.Proofs.YtminidoiaplhjaaDoor
