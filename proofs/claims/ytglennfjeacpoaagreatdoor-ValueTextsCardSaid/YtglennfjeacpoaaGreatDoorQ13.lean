/-
  Several texts put together (part 13): what the law and the program call, walked; their contracts.
-/
import Derived.Test.YtglennfjeacpoaaGreatDoorQ10
import Derived.Deep.QuietTactic
import Derived.BigQuiet
import Derived.Lib.TrimByte
import Derived.Lib.OthersKept
import Derived.Laws.RangeString
namespace Go.Proofs.YtglennfjeacpoaaGreatDoor
open Go.RowKit
theorem digit_any (c : UInt8) (w : World) : Calls Tryz.prog 47 #[.int .u8 (c.toNat : Int)] w fun e w' => e = .returned (.bool (digB c)) ∧ w = w' := by
  by_cases h1 : (48 : Int) ≤ (c.toNat : Int)
  · go_enter Tryz.func47, Tryz.ntmps47
    go_wp2
    go_ret
    refine ⟨ret_bool ?_, rfl⟩
    rw [Bool.eq_iff_iff]
    simp [digB]
    omega
  · go_enter Tryz.func47, Tryz.ntmps47
    go_wp2
    go_ret
    refine ⟨ret_bool ?_, rfl⟩
    rw [Bool.eq_iff_iff]
    simp [digB]
    omega
def BodyEnd (n : Bool) (b : List UInt8) (e : Ending) : Prop :=
  match bodyL b with
  | some (d, k) => e = .returned (.tuple #[.agg #[.bool n, .string ⟨d.toArray⟩, .int .i64 k], .bool true])
  | none => e = .returned (.tuple #[.agg #[.bool false, .string ⟨#[]⟩, .int .i64 0], .bool false])
theorem BodyEnd.no {n : Bool} {b : List UInt8} (h : bodyL b = none) : BodyEnd n b (.returned (.tuple #[.agg #[.bool false, .string ⟨#[]⟩, .int .i64 0], .bool false])) := by
  unfold BodyEnd; rw [h]
theorem BodyEnd.yes {n : Bool} {b d : List UInt8} {k : Nat} (h : bodyL b = some (d, k)) : BodyEnd n b (.returned (.tuple #[.agg #[.bool n, .string ⟨d.toArray⟩, .int .i64 k], .bool true])) := by
  unfold BodyEnd; rw [h]
def strLen : Value → Nat | .string b => b.size | _ => 0
theorem St_digit_b {b : ByteArray} {D : ByteArray} {i : Nat} {p : Int} (h : St b.data.toList i D.data.toList p) (hi : i < b.size) (hd : digB b[i] = true) : St b.data.toList (i + 1) (D ++ b.extract i (i + 1)).data.toList p := by
  have e : (b.extract i (i + 1)).data.toList = [b[i]] := by
    rw [Lib.extract_data, List.drop_eq_getElem_cons (by rw [size_data]; exact hi)]
    simp
    rfl
  rw [Joins.data_append, e]
  exact St_digit h (by rw [size_data]; exact hi) hd
theorem head_cons (E : ByteArray) (h : 0 < E.size) : E.data.toList = E[0] :: (E.extract 1 E.size).data.toList := by
  rw [extract_drop]
  have := List.drop_eq_getElem_cons (l := E.data.toList) (i := 0) (by rw [size_data]; exact h)
  rw [List.drop_zero] at this
  exact this
theorem cons_len (E : ByteArray) (h : 0 < E.size) : (E.extract 1 E.size).data.toList.length + 1 = E.size := by
  rw [extract_drop, List.length_drop, size_data]; omega
theorem strip_step (E : ByteArray) (k : Nat) (h0 : 0 < E.size) (h : k < E.size) (h48 : E[0] = 48) : stripL k E.data.toList = stripL k (E.extract 1 E.size).data.toList := by
  conv => lhs; rw [head_cons E h0, stripL]
  rw [if_pos ⟨by rw [cons_len E h0]; exact h, h48⟩]
theorem strip_big (E : ByteArray) (k : Nat) (h0 : 0 < E.size) (h : E.size ≤ k) : stripL k E.data.toList = E.data.toList := by
  rw [head_cons E h0, stripL, if_neg (fun x => by have := x.1; rw [cons_len E h0] at this; omega)]
theorem strip_other (E : ByteArray) (k : Nat) (h0 : 0 < E.size) (h48 : ¬ E[0] = 48) : stripL k E.data.toList = E.data.toList := by
  rw [head_cons E h0, stripL, if_neg (fun x => h48 x.2)]
set_option maxHeartbeats 1000000 in
set_option maxRecDepth 100000 in
theorem refParse_pos (b : ByteArray) (w : World) (hs : b.size ≤ 100) (hn : b.size = 0 ∨ ∃ h : 0 < b.size, ¬ (b[0].toNat : Int) = 45) :
    Calls Tryz.prog 13 #[.string b] w fun e w' => BodyEnd false b.data.toList e ∧ Below w.heap.size w w' := by
  rcases hn with h0 | ⟨h0, h45⟩
  · have hl : b.data.toList = [] := List.eq_nil_of_length_eq_zero (by rw [size_data]; exact h0)
    have Hl := Lib.hid hl
    clear hl
    have hb0 : b = ByteArray.empty := bytes_eq (by rw [Hl.out]; rfl)
    subst hb0
    go_enter Tryz.func13, Tryz.ntmps13
    go_wp2
    go_loop [5, 6, 7] (fun d p i => d = .string ⟨#[]⟩ ∧ p = .int .i64 (-1) ∧ i = .int .i64 0) (fun _ _ _ => 0)
    case atStart => exact ⟨rfl, rfl, rfl⟩
    case round =>
      obtain ⟨rfl, rfl, rfl⟩ := hrel
      go_wp2
      exact bodyPost_ret (v := .tuple #[.agg #[.bool false, .string ⟨#[]⟩, .int .i64 0], .bool false]) (by simp [results, Tryz.results13, go_sem]) rfl ⟨BodyEnd.no (by decide), (Below.refl _ _).alloc (Nat.le_refl _) _⟩
  · have h45b : ((b[0].toNat : Int) == 45) = false := by rw [beq_eq_false_iff_ne]; exact h45
    have H45 := Lib.hid h45
    clear h45
    go_enter Tryz.func13, Tryz.ntmps13
    go_wp2
    go_loop [5, 6, 7] (fun d p i => ∃ (k : Nat) (D : ByteArray) (q : Int), k ≤ b.size ∧ i = .int .i64 k ∧ d = .string D ∧ p = .int .i64 q ∧ D.size ≤ k ∧ -1 ≤ q ∧ q < k ∧ Hid (St b.data.toList k D.data.toList q)) (fun _ _ i => b.size - (intOf i).toNat)
    case atStart => exact ⟨0, ByteArray.empty, -1, Nat.zero_le _, rfl, rfl, rfl, by simp, by omega, by omega, St_start _⟩
    case round =>
      obtain ⟨k, D, q, hk, rfl, rfl, rfl, hD, hq0, hq1, hSt⟩ := hrel
      by_cases hlt : k < b.size
      · cases hd : digB b[k]
        · have Hdl : Hid (digB (b.data.toList[k]'(by rw [size_data]; exact hlt)) = false) := hd
          by_cases h46 : (b[k].toNat : Int) = 46
          · have e46 : b[k] = 46 := UInt8.toNat_inj.mp (by show b[k].toNat = 46; omega)
            have E46 := Lib.hid e46
            clear e46
            have hb46 : ((b[k].toNat : Int) == 46) = true := by rw [beq_iff_eq]; exact h46
            clear h46
            by_cases hqn : q < 0
            · obtain rfl : q = -1 := by omega
              by_cases hk0 : (0 : Int) < (k : Int)
              · by_cases hk1 : (k : Int) + 1 < (b.size : Int)
                · have Hp := Lib.hid (St_point hSt.out (by rw [size_data]; omega) E46.out (by omega))
                  clear hSt
                  go_wp2_with (go_at_call 47; refine (digit_any b[k] _).mono ?_; rintro e w2 ⟨rfl, rfl⟩)
                  go_round
                  case rel => exact ⟨k + 1, D, k, by omega, by go_num, rfl, rfl, by omega, by omega, by omega, Hp.out⟩
                  case measure => simp [intOf]; omega
                · have Hbad := Lib.hid (St_bad hSt.out (by rw [size_data]; exact hlt) Hdl.out (by rintro ⟨_, _, _, h⟩; rw [size_data] at h; omega))
                  clear hSt
                  go_wp2_with (go_at_call 47; refine (digit_any b[k] _).mono ?_; rintro e w2 ⟨rfl, rfl⟩)
                  exact bodyPost_ret (v := .tuple #[.agg #[.bool false, .string ⟨#[]⟩, .int .i64 0], .bool false]) (by simp [results, Tryz.results13, go_sem]) rfl ⟨BodyEnd.no Hbad.out, (Below.refl _ _).alloc (Nat.le_refl _) _⟩
              · have Hbad := Lib.hid (St_bad hSt.out (by rw [size_data]; exact hlt) Hdl.out (by rintro ⟨_, _, h, _⟩; omega))
                clear hSt
                go_wp2_with (go_at_call 47; refine (digit_any b[k] _).mono ?_; rintro e w2 ⟨rfl, rfl⟩)
                exact bodyPost_ret (v := .tuple #[.agg #[.bool false, .string ⟨#[]⟩, .int .i64 0], .bool false]) (by simp [results, Tryz.results13, go_sem]) rfl ⟨BodyEnd.no Hbad.out, (Below.refl _ _).alloc (Nat.le_refl _) _⟩
            · have Hbad := Lib.hid (St_bad hSt.out (by rw [size_data]; exact hlt) Hdl.out (by rintro ⟨_, h, _⟩; omega))
              clear hSt
              go_wp2_with (go_at_call 47; refine (digit_any b[k] _).mono ?_; rintro e w2 ⟨rfl, rfl⟩)
              exact bodyPost_ret (v := .tuple #[.agg #[.bool false, .string ⟨#[]⟩, .int .i64 0], .bool false]) (by simp [results, Tryz.results13, go_sem]) rfl ⟨BodyEnd.no Hbad.out, (Below.refl _ _).alloc (Nat.le_refl _) _⟩
          · have Hbad := Lib.hid (St_bad hSt.out (by rw [size_data]; exact hlt) Hdl.out (by rintro ⟨h, _⟩; exact h46 (by have hx : b[k] = 46 := h; rw [hx]; rfl)))
            have hb46 : ((b[k].toNat : Int) == 46) = false := by rw [beq_eq_false_iff_ne]; exact h46
            clear hSt h46
            go_wp2_with (go_at_call 47; refine (digit_any b[k] _).mono ?_; rintro e w2 ⟨rfl, rfl⟩)
            exact bodyPost_ret (v := .tuple #[.agg #[.bool false, .string ⟨#[]⟩, .int .i64 0], .bool false]) (by simp [results, Tryz.results13, go_sem]) rfl ⟨BodyEnd.no Hbad.out, (Below.refl _ _).alloc (Nat.le_refl _) _⟩
        · have Hp := Lib.hid (St_digit_b hSt.out hlt hd)
          clear hSt
          have hz : (D ++ b.extract k (k + 1)).size = D.size + 1 := by rw [ByteArray.size_append, ByteArray.size_extract]; omega
          have Hz := Lib.hid hz
          clear hz
          go_wp2_with (go_at_call 47; refine (digit_any b[k] _).mono ?_; rintro e w2 ⟨rfl, rfl⟩)
          go_round
          case rel => exact ⟨k + 1, _, q, by omega, by go_num, rfl, rfl, by rw [Hz.out]; omega, by omega, by omega, Hp.out⟩
          case measure => simp [intOf]; omega
      · obtain rfl : k = b.size := by omega
        have hSt' : St b.data.toList b.data.toList.length D.data.toList q := by rw [size_data]; exact hSt.out
        by_cases hqp : 0 ≤ q
        · have hX0 : (0 : Int) ≤ (b.size : Int) - 1 - q := by have := St_sc hSt' hqp; rw [size_data] at this; omega
          obtain ⟨sc, hsc⟩ : ∃ sc : Nat, (sc : Int) = (b.size : Int) - 1 - q := ⟨((b.size : Int) - 1 - q).toNat, by omega⟩
          have hX1 : (b.size : Int) - 1 - q + 1 ≤ b.size + 1 := by have := St_len hSt' (Nat.le_refl _); rw [size_data] at this; omega
          have Hend := Lib.hid (St_end hSt' sc (by rw [size_data, hsc, if_pos hqp]))
          have Hsc := Lib.hid hsc
          have HSt := Lib.hid hSt'
          clear hsc hSt hSt'
          by_cases hD0 : D.size = 0
          · have hz : ((D.size : Int) == 0) = true := by rw [beq_iff_eq]; omega
            have Hno := Lib.hid (Hend.out.trans (if_neg (fun x => x.1 (List.eq_nil_of_length_eq_zero (by rw [size_data]; exact hD0)))))
            clear hD0
            go_wp2
            exact bodyPost_ret (v := .tuple #[.agg #[.bool false, .string ⟨#[]⟩, .int .i64 0], .bool false]) (by simp [results, Tryz.results13, go_sem]) rfl ⟨BodyEnd.no Hno.out, (Below.refl _ _).alloc (Nat.le_refl _) _⟩
          · have hz : ((D.size : Int) == 0) = false := by rw [beq_eq_false_iff_ne]; omega
            by_cases hD40 : (40 : Int) < D.size
            · have Hno := Lib.hid (Hend.out.trans (if_neg (fun x => by have := x.2; rw [size_data] at this; omega)))
              go_wp2
              exact bodyPost_ret (v := .tuple #[.agg #[.bool false, .string ⟨#[]⟩, .int .i64 0], .bool false]) (by simp [results, Tryz.results13, go_sem]) rfl ⟨BodyEnd.no Hno.out, (Below.refl _ _).alloc (Nat.le_refl _) _⟩
            · have Hyes := Lib.hid (Hend.out.trans (if_pos ⟨fun e => hD0 (by rw [← size_data, e]; rfl), by rw [size_data]; omega⟩))
              have hDpos : 0 < D.size := by omega
              clear hD0
              go_wp2
              go_loop [5] (fun d => ∃ E : ByteArray, d = .string E ∧ 0 < E.size ∧ E.size ≤ 40 ∧ Hid (stripL (sc + 1) E.data.toList = stripL (sc + 1) D.data.toList)) (fun d => strLen d)
              case atStart => exact ⟨D, rfl, hDpos, by omega, rfl⟩
              case round =>
                obtain ⟨E, rfl, hE0, hE1, hE⟩ := hrel
                by_cases hk : (b.size : Int) - 1 - q + 1 < (E.size : Int)
                · by_cases h48 : E[0] = 48
                  · have hb48 : ((E[0].toNat : Int) == 48) = true := by rw [h48]; rfl
                    have He : Hid (stripL (sc + 1) (E.extract 1 E.size).data.toList = stripL (sc + 1) D.data.toList) := by
                      show _ = _
                      rw [← strip_step E (sc + 1) hE0 (by have := Hsc.out; omega) h48]; exact hE
                    have Hk := Lib.hid hk
                    clear h48 hE
                    go_wp2
                    go_round
                    case rel => exact ⟨_, rfl, by rw [ByteArray.size_extract]; have := Hk.out; omega, by rw [ByteArray.size_extract]; omega, He⟩
                    case measure => simp only [strLen, ByteArray.size_extract]; omega
                  · have hb48 : ((E[0].toNat : Int) == 48) = false := by
                      rw [beq_eq_false_iff_ne]; intro e; exact h48 (UInt8.toNat_inj.mp (by show E[0].toNat = 48; omega))
                    have He : Hid (E.data.toList = stripL (sc + 1) D.data.toList) := by
                      show _ = _
                      rw [← strip_other E (sc + 1) hE0 h48]; exact hE
                    clear h48 hE
                    go_wp2
                    exact bodyPost_ret (v := .tuple #[.agg #[.bool false, .string E, .int .i64 ((b.size : Int) - 1 - q)], .bool true]) (by simp [results, Tryz.results13, go_sem]) rfl ⟨by have hy := Hyes.out; rw [← He.out] at hy; have := BodyEnd.yes (n := false) hy; rw [Hsc.out] at this; exact this, (Below.refl _ _).alloc (Nat.le_refl _) _⟩
                · have He : Hid (E.data.toList = stripL (sc + 1) D.data.toList) := by
                    show _ = _
                    rw [← strip_big E (sc + 1) hE0 (by have := Hsc.out; omega)]; exact hE
                  clear hE
                  go_wp2
                  exact bodyPost_ret (v := .tuple #[.agg #[.bool false, .string E, .int .i64 ((b.size : Int) - 1 - q)], .bool true]) (by simp [results, Tryz.results13, go_sem]) rfl ⟨by have hy := Hyes.out; rw [← He.out] at hy; have := BodyEnd.yes (n := false) hy; rw [Hsc.out] at this; exact this, (Below.refl _ _).alloc (Nat.le_refl _) _⟩
        · obtain ⟨sc, hsc⟩ : ∃ sc : Nat, (sc : Int) = 0 := ⟨0, rfl⟩
          have Hend := Lib.hid (St_end hSt' sc (by rw [hsc, if_neg hqp]))
          have Hsc := Lib.hid hsc
          have HSt := Lib.hid hSt'
          clear hsc hSt hSt'
          by_cases hD0 : D.size = 0
          · have hz : ((D.size : Int) == 0) = true := by rw [beq_iff_eq]; omega
            have Hno := Lib.hid (Hend.out.trans (if_neg (fun x => x.1 (List.eq_nil_of_length_eq_zero (by rw [size_data]; exact hD0)))))
            clear hD0
            go_wp2
            exact bodyPost_ret (v := .tuple #[.agg #[.bool false, .string ⟨#[]⟩, .int .i64 0], .bool false]) (by simp [results, Tryz.results13, go_sem]) rfl ⟨BodyEnd.no Hno.out, (Below.refl _ _).alloc (Nat.le_refl _) _⟩
          · have hz : ((D.size : Int) == 0) = false := by rw [beq_eq_false_iff_ne]; omega
            by_cases hD40 : (40 : Int) < D.size
            · have Hno := Lib.hid (Hend.out.trans (if_neg (fun x => by have := x.2; rw [size_data] at this; omega)))
              go_wp2
              exact bodyPost_ret (v := .tuple #[.agg #[.bool false, .string ⟨#[]⟩, .int .i64 0], .bool false]) (by simp [results, Tryz.results13, go_sem]) rfl ⟨BodyEnd.no Hno.out, (Below.refl _ _).alloc (Nat.le_refl _) _⟩
            · have Hyes := Lib.hid (Hend.out.trans (if_pos ⟨fun e => hD0 (by rw [← size_data, e]; rfl), by rw [size_data]; omega⟩))
              have hDpos : 0 < D.size := by omega
              clear hD0
              go_wp2
              go_loop [5] (fun d => ∃ E : ByteArray, d = .string E ∧ 0 < E.size ∧ E.size ≤ 40 ∧ Hid (stripL (sc + 1) E.data.toList = stripL (sc + 1) D.data.toList)) (fun d => strLen d)
              case atStart => exact ⟨D, rfl, hDpos, by omega, rfl⟩
              case round =>
                obtain ⟨E, rfl, hE0, hE1, hE⟩ := hrel
                by_cases hk : 0 + 1 < (E.size : Int)
                · by_cases h48 : E[0] = 48
                  · have hb48 : ((E[0].toNat : Int) == 48) = true := by rw [h48]; rfl
                    have He : Hid (stripL (sc + 1) (E.extract 1 E.size).data.toList = stripL (sc + 1) D.data.toList) := by
                      show _ = _
                      rw [← strip_step E (sc + 1) hE0 (by have := Hsc.out; omega) h48]; exact hE
                    have Hk := Lib.hid hk
                    clear h48 hE
                    go_wp2
                    go_round
                    case rel => exact ⟨_, rfl, by rw [ByteArray.size_extract]; have := Hk.out; omega, by rw [ByteArray.size_extract]; omega, He⟩
                    case measure => simp only [strLen, ByteArray.size_extract]; omega
                  · have hb48 : ((E[0].toNat : Int) == 48) = false := by
                      rw [beq_eq_false_iff_ne]; intro e; exact h48 (UInt8.toNat_inj.mp (by show E[0].toNat = 48; omega))
                    have He : Hid (E.data.toList = stripL (sc + 1) D.data.toList) := by
                      show _ = _
                      rw [← strip_other E (sc + 1) hE0 h48]; exact hE
                    clear h48 hE
                    go_wp2
                    exact bodyPost_ret (v := .tuple #[.agg #[.bool false, .string E, .int .i64 (0)], .bool true]) (by simp [results, Tryz.results13, go_sem]) rfl ⟨by have hy := Hyes.out; rw [← He.out] at hy; have := BodyEnd.yes (n := false) hy; rw [Hsc.out] at this; exact this, (Below.refl _ _).alloc (Nat.le_refl _) _⟩
                · have He : Hid (E.data.toList = stripL (sc + 1) D.data.toList) := by
                    show _ = _
                    rw [← strip_big E (sc + 1) hE0 (by have := Hsc.out; omega)]; exact hE
                  clear hE
                  go_wp2
                  exact bodyPost_ret (v := .tuple #[.agg #[.bool false, .string E, .int .i64 (0)], .bool true]) (by simp [results, Tryz.results13, go_sem]) rfl ⟨by have hy := Hyes.out; rw [← He.out] at hy; have := BodyEnd.yes (n := false) hy; rw [Hsc.out] at this; exact this, (Below.refl _ _).alloc (Nat.le_refl _) _⟩
set_option maxHeartbeats 1000000 in
set_option maxRecDepth 100000 in
theorem refParse_neg (s : ByteArray) (w : World) (hs : s.size ≤ 100) (h0 : 0 < s.size) (h45 : (s[0].toNat : Int) = 45) :
    Calls Tryz.prog 13 #[.string s] w fun e w' => BodyEnd true (s.extract 1 s.size).data.toList e ∧ Below w.heap.size w w' := by
  have h45b : ((s[0].toNat : Int) == 45) = true := by rw [beq_iff_eq]; exact h45
  have hbz : (s.extract 1 s.size).size ≤ 100 := by rw [ByteArray.size_extract]; omega
  have hi2 : (1 : Int) ≤ s.size := by omega
  clear h45
  generalize hbe : s.extract 1 s.size = b at hbz ⊢
  have Hbe := Lib.hid hbe
  clear hbe
  go_enter Tryz.func13, Tryz.ntmps13
  go_wp2
  rw [Hbe.out]
  go_loop [5, 6, 7] (fun d p i => ∃ (k : Nat) (D : ByteArray) (q : Int), k ≤ b.size ∧ i = .int .i64 k ∧ d = .string D ∧ p = .int .i64 q ∧ D.size ≤ k ∧ -1 ≤ q ∧ q < k ∧ Hid (St b.data.toList k D.data.toList q)) (fun _ _ i => b.size - (intOf i).toNat)
  case atStart => exact ⟨0, ByteArray.empty, -1, Nat.zero_le _, rfl, rfl, rfl, by simp, by omega, by omega, St_start _⟩
  case round =>
    obtain ⟨k, D, q, hk, rfl, rfl, rfl, hD, hq0, hq1, hSt⟩ := hrel
    by_cases hlt : k < b.size
    · cases hd : digB b[k]
      · have Hdl : Hid (digB (b.data.toList[k]'(by rw [size_data]; exact hlt)) = false) := hd
        by_cases h46 : (b[k].toNat : Int) = 46
        · have e46 : b[k] = 46 := UInt8.toNat_inj.mp (by show b[k].toNat = 46; omega)
          have E46 := Lib.hid e46
          clear e46
          have hb46 : ((b[k].toNat : Int) == 46) = true := by rw [beq_iff_eq]; exact h46
          clear h46
          by_cases hqn : q < 0
          · obtain rfl : q = -1 := by omega
            by_cases hk0 : (0 : Int) < (k : Int)
            · by_cases hk1 : (k : Int) + 1 < (b.size : Int)
              · have Hp := Lib.hid (St_point hSt.out (by rw [size_data]; omega) E46.out (by omega))
                clear hSt
                go_wp2_with (go_at_call 47; refine (digit_any b[k] _).mono ?_; rintro e w2 ⟨rfl, rfl⟩)
                go_round
                case rel => exact ⟨k + 1, D, k, by omega, by go_num, rfl, rfl, by omega, by omega, by omega, Hp.out⟩
                case measure => simp [intOf]; omega
              · have Hbad := Lib.hid (St_bad hSt.out (by rw [size_data]; exact hlt) Hdl.out (by rintro ⟨_, _, _, h⟩; rw [size_data] at h; omega))
                clear hSt
                go_wp2_with (go_at_call 47; refine (digit_any b[k] _).mono ?_; rintro e w2 ⟨rfl, rfl⟩)
                exact bodyPost_ret (v := .tuple #[.agg #[.bool false, .string ⟨#[]⟩, .int .i64 0], .bool false]) (by simp [results, Tryz.results13, go_sem]) rfl ⟨BodyEnd.no Hbad.out, (Below.refl _ _).alloc (Nat.le_refl _) _⟩
            · have Hbad := Lib.hid (St_bad hSt.out (by rw [size_data]; exact hlt) Hdl.out (by rintro ⟨_, _, h, _⟩; omega))
              clear hSt
              go_wp2_with (go_at_call 47; refine (digit_any b[k] _).mono ?_; rintro e w2 ⟨rfl, rfl⟩)
              exact bodyPost_ret (v := .tuple #[.agg #[.bool false, .string ⟨#[]⟩, .int .i64 0], .bool false]) (by simp [results, Tryz.results13, go_sem]) rfl ⟨BodyEnd.no Hbad.out, (Below.refl _ _).alloc (Nat.le_refl _) _⟩
          · have Hbad := Lib.hid (St_bad hSt.out (by rw [size_data]; exact hlt) Hdl.out (by rintro ⟨_, h, _⟩; omega))
            clear hSt
            go_wp2_with (go_at_call 47; refine (digit_any b[k] _).mono ?_; rintro e w2 ⟨rfl, rfl⟩)
            exact bodyPost_ret (v := .tuple #[.agg #[.bool false, .string ⟨#[]⟩, .int .i64 0], .bool false]) (by simp [results, Tryz.results13, go_sem]) rfl ⟨BodyEnd.no Hbad.out, (Below.refl _ _).alloc (Nat.le_refl _) _⟩
        · have Hbad := Lib.hid (St_bad hSt.out (by rw [size_data]; exact hlt) Hdl.out (by rintro ⟨h, _⟩; exact h46 (by have hx : b[k] = 46 := h; rw [hx]; rfl)))
          have hb46 : ((b[k].toNat : Int) == 46) = false := by rw [beq_eq_false_iff_ne]; exact h46
          clear hSt h46
          go_wp2_with (go_at_call 47; refine (digit_any b[k] _).mono ?_; rintro e w2 ⟨rfl, rfl⟩)
          exact bodyPost_ret (v := .tuple #[.agg #[.bool false, .string ⟨#[]⟩, .int .i64 0], .bool false]) (by simp [results, Tryz.results13, go_sem]) rfl ⟨BodyEnd.no Hbad.out, (Below.refl _ _).alloc (Nat.le_refl _) _⟩
      · have Hp := Lib.hid (St_digit_b hSt.out hlt hd)
        clear hSt
        have hz : (D ++ b.extract k (k + 1)).size = D.size + 1 := by rw [ByteArray.size_append, ByteArray.size_extract]; omega
        have Hz := Lib.hid hz
        clear hz
        go_wp2_with (go_at_call 47; refine (digit_any b[k] _).mono ?_; rintro e w2 ⟨rfl, rfl⟩)
        go_round
        case rel => exact ⟨k + 1, _, q, by omega, by go_num, rfl, rfl, by rw [Hz.out]; omega, by omega, by omega, Hp.out⟩
        case measure => simp [intOf]; omega
    · obtain rfl : k = b.size := by omega
      have hSt' : St b.data.toList b.data.toList.length D.data.toList q := by rw [size_data]; exact hSt.out
      by_cases hqp : 0 ≤ q
      · have hX0 : (0 : Int) ≤ (b.size : Int) - 1 - q := by have := St_sc hSt' hqp; rw [size_data] at this; omega
        obtain ⟨sc, hsc⟩ : ∃ sc : Nat, (sc : Int) = (b.size : Int) - 1 - q := ⟨((b.size : Int) - 1 - q).toNat, by omega⟩
        have hX1 : (b.size : Int) - 1 - q + 1 ≤ b.size + 1 := by have := St_len hSt' (Nat.le_refl _); rw [size_data] at this; omega
        have Hend := Lib.hid (St_end hSt' sc (by rw [size_data, hsc, if_pos hqp]))
        have Hsc := Lib.hid hsc
        have HSt := Lib.hid hSt'
        clear hsc hSt hSt'
        by_cases hD0 : D.size = 0
        · have hz : ((D.size : Int) == 0) = true := by rw [beq_iff_eq]; omega
          have Hno := Lib.hid (Hend.out.trans (if_neg (fun x => x.1 (List.eq_nil_of_length_eq_zero (by rw [size_data]; exact hD0)))))
          clear hD0
          go_wp2
          exact bodyPost_ret (v := .tuple #[.agg #[.bool false, .string ⟨#[]⟩, .int .i64 0], .bool false]) (by simp [results, Tryz.results13, go_sem]) rfl ⟨BodyEnd.no Hno.out, (Below.refl _ _).alloc (Nat.le_refl _) _⟩
        · have hz : ((D.size : Int) == 0) = false := by rw [beq_eq_false_iff_ne]; omega
          by_cases hD40 : (40 : Int) < D.size
          · have Hno := Lib.hid (Hend.out.trans (if_neg (fun x => by have := x.2; rw [size_data] at this; omega)))
            go_wp2
            exact bodyPost_ret (v := .tuple #[.agg #[.bool false, .string ⟨#[]⟩, .int .i64 0], .bool false]) (by simp [results, Tryz.results13, go_sem]) rfl ⟨BodyEnd.no Hno.out, (Below.refl _ _).alloc (Nat.le_refl _) _⟩
          · have Hyes := Lib.hid (Hend.out.trans (if_pos ⟨fun e => hD0 (by rw [← size_data, e]; rfl), by rw [size_data]; omega⟩))
            have hDpos : 0 < D.size := by omega
            clear hD0
            go_wp2
            go_loop [5] (fun d => ∃ E : ByteArray, d = .string E ∧ 0 < E.size ∧ E.size ≤ 40 ∧ Hid (stripL (sc + 1) E.data.toList = stripL (sc + 1) D.data.toList)) (fun d => strLen d)
            case atStart => exact ⟨D, rfl, hDpos, by omega, rfl⟩
            case round =>
              obtain ⟨E, rfl, hE0, hE1, hE⟩ := hrel
              by_cases hk : (b.size : Int) - 1 - q + 1 < (E.size : Int)
              · by_cases h48 : E[0] = 48
                · have hb48 : ((E[0].toNat : Int) == 48) = true := by rw [h48]; rfl
                  have He : Hid (stripL (sc + 1) (E.extract 1 E.size).data.toList = stripL (sc + 1) D.data.toList) := by
                    show _ = _
                    rw [← strip_step E (sc + 1) hE0 (by have := Hsc.out; omega) h48]; exact hE
                  have Hk := Lib.hid hk
                  clear h48 hE
                  go_wp2
                  go_round
                  case rel => exact ⟨_, rfl, by rw [ByteArray.size_extract]; have := Hk.out; omega, by rw [ByteArray.size_extract]; omega, He⟩
                  case measure => simp only [strLen, ByteArray.size_extract]; omega
                · have hb48 : ((E[0].toNat : Int) == 48) = false := by
                    rw [beq_eq_false_iff_ne]; intro e; exact h48 (UInt8.toNat_inj.mp (by show E[0].toNat = 48; omega))
                  have He : Hid (E.data.toList = stripL (sc + 1) D.data.toList) := by
                    show _ = _
                    rw [← strip_other E (sc + 1) hE0 h48]; exact hE
                  clear h48 hE
                  go_wp2
                  exact bodyPost_ret (v := .tuple #[.agg #[.bool true, .string E, .int .i64 ((b.size : Int) - 1 - q)], .bool true]) (by simp [results, Tryz.results13, go_sem]) rfl ⟨by have hy := Hyes.out; rw [← He.out] at hy; have := BodyEnd.yes (n := true) hy; rw [Hsc.out] at this; exact this, (Below.refl _ _).alloc (Nat.le_refl _) _⟩
              · have He : Hid (E.data.toList = stripL (sc + 1) D.data.toList) := by
                  show _ = _
                  rw [← strip_big E (sc + 1) hE0 (by have := Hsc.out; omega)]; exact hE
                clear hE
                go_wp2
                exact bodyPost_ret (v := .tuple #[.agg #[.bool true, .string E, .int .i64 ((b.size : Int) - 1 - q)], .bool true]) (by simp [results, Tryz.results13, go_sem]) rfl ⟨by have hy := Hyes.out; rw [← He.out] at hy; have := BodyEnd.yes (n := true) hy; rw [Hsc.out] at this; exact this, (Below.refl _ _).alloc (Nat.le_refl _) _⟩
      · obtain ⟨sc, hsc⟩ : ∃ sc : Nat, (sc : Int) = 0 := ⟨0, rfl⟩
        have Hend := Lib.hid (St_end hSt' sc (by rw [hsc, if_neg hqp]))
        have Hsc := Lib.hid hsc
        have HSt := Lib.hid hSt'
        clear hsc hSt hSt'
        by_cases hD0 : D.size = 0
        · have hz : ((D.size : Int) == 0) = true := by rw [beq_iff_eq]; omega
          have Hno := Lib.hid (Hend.out.trans (if_neg (fun x => x.1 (List.eq_nil_of_length_eq_zero (by rw [size_data]; exact hD0)))))
          clear hD0
          go_wp2
          exact bodyPost_ret (v := .tuple #[.agg #[.bool false, .string ⟨#[]⟩, .int .i64 0], .bool false]) (by simp [results, Tryz.results13, go_sem]) rfl ⟨BodyEnd.no Hno.out, (Below.refl _ _).alloc (Nat.le_refl _) _⟩
        · have hz : ((D.size : Int) == 0) = false := by rw [beq_eq_false_iff_ne]; omega
          by_cases hD40 : (40 : Int) < D.size
          · have Hno := Lib.hid (Hend.out.trans (if_neg (fun x => by have := x.2; rw [size_data] at this; omega)))
            go_wp2
            exact bodyPost_ret (v := .tuple #[.agg #[.bool false, .string ⟨#[]⟩, .int .i64 0], .bool false]) (by simp [results, Tryz.results13, go_sem]) rfl ⟨BodyEnd.no Hno.out, (Below.refl _ _).alloc (Nat.le_refl _) _⟩
          · have Hyes := Lib.hid (Hend.out.trans (if_pos ⟨fun e => hD0 (by rw [← size_data, e]; rfl), by rw [size_data]; omega⟩))
            have hDpos : 0 < D.size := by omega
            clear hD0
            go_wp2
            go_loop [5] (fun d => ∃ E : ByteArray, d = .string E ∧ 0 < E.size ∧ E.size ≤ 40 ∧ Hid (stripL (sc + 1) E.data.toList = stripL (sc + 1) D.data.toList)) (fun d => strLen d)
            case atStart => exact ⟨D, rfl, hDpos, by omega, rfl⟩
            case round =>
              obtain ⟨E, rfl, hE0, hE1, hE⟩ := hrel
              by_cases hk : 0 + 1 < (E.size : Int)
              · by_cases h48 : E[0] = 48
                · have hb48 : ((E[0].toNat : Int) == 48) = true := by rw [h48]; rfl
                  have He : Hid (stripL (sc + 1) (E.extract 1 E.size).data.toList = stripL (sc + 1) D.data.toList) := by
                    show _ = _
                    rw [← strip_step E (sc + 1) hE0 (by have := Hsc.out; omega) h48]; exact hE
                  have Hk := Lib.hid hk
                  clear h48 hE
                  go_wp2
                  go_round
                  case rel => exact ⟨_, rfl, by rw [ByteArray.size_extract]; have := Hk.out; omega, by rw [ByteArray.size_extract]; omega, He⟩
                  case measure => simp only [strLen, ByteArray.size_extract]; omega
                · have hb48 : ((E[0].toNat : Int) == 48) = false := by
                    rw [beq_eq_false_iff_ne]; intro e; exact h48 (UInt8.toNat_inj.mp (by show E[0].toNat = 48; omega))
                  have He : Hid (E.data.toList = stripL (sc + 1) D.data.toList) := by
                    show _ = _
                    rw [← strip_other E (sc + 1) hE0 h48]; exact hE
                  clear h48 hE
                  go_wp2
                  exact bodyPost_ret (v := .tuple #[.agg #[.bool true, .string E, .int .i64 (0)], .bool true]) (by simp [results, Tryz.results13, go_sem]) rfl ⟨by have hy := Hyes.out; rw [← He.out] at hy; have := BodyEnd.yes (n := true) hy; rw [Hsc.out] at this; exact this, (Below.refl _ _).alloc (Nat.le_refl _) _⟩
              · have He : Hid (E.data.toList = stripL (sc + 1) D.data.toList) := by
                  show _ = _
                  rw [← strip_big E (sc + 1) hE0 (by have := Hsc.out; omega)]; exact hE
                clear hE
                go_wp2
                exact bodyPost_ret (v := .tuple #[.agg #[.bool true, .string E, .int .i64 (0)], .bool true]) (by simp [results, Tryz.results13, go_sem]) rfl ⟨by have hy := Hyes.out; rw [← He.out] at hy; have := BodyEnd.yes (n := true) hy; rw [Hsc.out] at this; exact this, (Below.refl _ _).alloc (Nat.le_refl _) _⟩
end Go.Proofs.YtglennfjeacpoaaGreatDoor

namespace Go.Proofs.YtglennfjeacpoaaGreatDoor
open Go.RowKit
theorem strip_all {k : Nat} : ∀ {l : List UInt8}, l.all digB = true → (stripL k l).all digB = true
  | [], _ => rfl
  | c :: l, h => by
    rw [stripL]
    split
    · rw [List.all_cons, Bool.and_eq_true] at h
      exact strip_all h.2
    · exact h
theorem strip_length {k : Nat} : ∀ {l : List UInt8}, (stripL k l).length ≤ l.length ∧ (k ≤ l.length → k ≤ (stripL k l).length)
  | [] => ⟨Nat.le_refl _, fun h => h⟩
  | c :: l => by
    have ih := strip_length (k := k) (l := l)
    rw [stripL]
    split
    · rename_i h
      exact ⟨by simp only [List.length_cons]; omega, fun _ => ih.2 (by omega)⟩
    · exact ⟨Nat.le_refl _, fun h => h⟩
theorem strip_head {k : Nat} : ∀ {l : List UInt8}, k ≤ l.length → (stripL k l).length = k ∨ (stripL k l).head? ≠ some 48
  | [], h => Or.inl (by rw [stripL]; have : k = 0 := by simpa using h
                        rw [this]; rfl)
  | c :: l, h => by
    rw [stripL]
    split
    · rename_i h'
      exact strip_head (by omega)
    · rename_i h'
      by_cases hc : c = 48
      · refine Or.inl ?_
        have : ¬ k < l.length + 1 := fun x => h' ⟨x, hc⟩
        simp only [List.length_cons] at h ⊢
        omega
      · exact Or.inr (by rw [List.head?_cons]; intro e; exact hc (Option.some.inj e))
theorem strip_same {k : Nat} {l : List UInt8} (h : l.length ≤ k ∨ l.head? ≠ some 48) : stripL k l = l := by
  cases l with
  | nil => rfl
  | cons c l =>
    rw [stripL, if_neg]
    rintro ⟨h1, rfl⟩
    rcases h with h | h
    · simp only [List.length_cons] at h; omega
    · exact h rfl
structure Told (d : List UInt8) (k : Nat) : Prop where
  digs : d.all digB = true
  le : d.length ≤ 40
  lt : k < d.length
  head : d.length = k + 1 ∨ d.head? ≠ some 48
theorem told_of_strip {l : List UInt8} {k : Nat} (h : l.all digB = true) (h40 : l.length ≤ 40) (hk : k < l.length) : Told (stripL (k + 1) l) k :=
  ⟨strip_all h, Nat.le_trans strip_length.1 h40, strip_length.2 hk, strip_head hk⟩
theorem digsB_parts {l : List UInt8} (h : digsB l = true) : l.all digB = true ∧ l ≠ [] := by
  unfold digsB at h
  rw [Bool.and_eq_true] at h
  refine ⟨h.1, ?_⟩
  intro e
  rw [e] at h
  exact absurd h.2 (by decide)
theorem cut_second (l : List UInt8) (p : List UInt8) (h : (Lib.cut l p).2.2 = false) : (Lib.cut l p).2.1 = [] := by
  unfold Lib.cut at h ⊢
  split at h
  · cases h
  · rename_i h'; rw [if_neg h']
theorem told_of_body {b d : List UInt8} {k : Nat} (h : bodyL b = some (d, k)) : Told d k := by
  unfold bodyL at h
  simp only at h
  split at h
  · rename_i hc
    obtain ⟨h1, h2, h3⟩ := hc
    obtain ⟨ha, hne⟩ := digsB_parts h1
    have hb : (Lib.cut b [46]).2.1.all digB = true := by
      cases hh : (Lib.cut b [46]).2.2
      · rw [cut_second b [46] hh]; rfl
      · exact (digsB_parts (h2 hh)).1
    injection h with h
    injection h with hd hk
    rw [← strip_whole _ _ hne] at hd
    subst hd hk
    refine told_of_strip (by rw [List.all_append, ha, hb]; rfl) (by rw [List.length_append]; exact h3) ?_
    rw [List.length_append]
    have : 0 < (Lib.cut b [46]).1.length := List.length_pos_iff.2 hne
    omega
  · cases h
def textL (d : List UInt8) (k : Nat) : List UInt8 := if k = 0 then d else d.take (d.length - k) ++ 46 :: d.drop (d.length - k)
theorem body_text {d : List UInt8} {k : Nat} (h : Told d k) : bodyL (textL d k) = some (d, k) := by
  have hs : stripL (k + 1) d = d := strip_same (by
    rcases h.head with h | h
    · exact Or.inl (by omega)
    · exact Or.inr h)
  have hlt := h.lt
  unfold textL
  by_cases hk : k = 0
  · subst hk
    rw [if_pos rfl, bodyL_plain h.digs, if_pos ⟨by intro e; rw [e] at hlt; simp at hlt, h.le⟩, hs]
  · rw [if_neg hk]
    have h1 : (d.take (d.length - k)).all digB = true := List.all_eq_true.2 fun c hc => List.all_eq_true.1 h.digs c (List.mem_of_mem_take hc)
    have h2 : (d.drop (d.length - k)).all digB = true := List.all_eq_true.2 fun c hc => List.all_eq_true.1 h.digs c (List.mem_of_mem_drop hc)
    have l2 : (d.drop (d.length - k)).length = k := by rw [List.length_drop]; omega
    have h3 : d.take (d.length - k) ≠ [] := by intro e; have := congrArg List.length e; rw [List.length_take, List.length_nil] at this; omega
    have h4 : d.drop (d.length - k) ≠ [] := by intro e; rw [e] at l2; exact hk l2.symm
    rw [bodyL_point h1 h2 h3 h4, List.take_append_drop, l2, hs, if_pos h.le]
theorem text_head {d : List UInt8} {k : Nat} (h : Told d k) : ∃ c l, textL d k = c :: l ∧ digB c = true := by
  have hlt := h.lt
  have hd := h.digs
  cases d with
  | nil => simp at hlt
  | cons c l =>
    rw [List.all_cons, Bool.and_eq_true] at hd
    unfold textL
    split
    · exact ⟨c, l, rfl, hd.1⟩
    · simp only [List.length_cons] at hlt ⊢
      rw [show l.length + 1 - k = (l.length - k) + 1 by omega, List.take_succ_cons]
      exact ⟨c, _, rfl, hd.1⟩
theorem strB_data (n : Bool) (s : ByteArray) (k : Nat) : (strB n s k).data.toList = (if n then [45] else []) ++ textL s.data.toList k := by
  unfold strB textL
  by_cases hk : k = 0
  · subst hk
    cases n <;> simp
  · cases n <;> simp [hk] <;> rw [List.take_of_length_le (by rw [List.length_drop, size_data]; exact Nat.le_refl _)]
theorem parse_back {n : Bool} {d : List UInt8} {k : Nat} (h : Told d k) : parseL ((if n then [45] else []) ++ textL d k) = some (n, d, k) := by
  obtain ⟨c, l, e, hc⟩ := text_head h
  have hc45 : ((45 : UInt8) == c) = false := by
    rw [beq_eq_false_iff_ne]; intro e; rw [← e] at hc; exact absurd hc (by decide)
  have hp : Lib.hasPrefix ((if n then [45] else []) ++ textL d k) [45] = n := by
    cases n
    · simp [Lib.hasPrefix, e, List.isPrefixOf, hc45]
    · simp [Lib.hasPrefix, List.isPrefixOf]
  have ht : Lib.trimPrefix ((if n then [45] else []) ++ textL d k) [45] = textL d k := by
    unfold Lib.trimPrefix
    rw [hp]
    cases n <;> simp
  rw [parseL_body, hp, ht, body_text h]
  rfl
theorem right_told {d : List UInt8} {k : Nat} (h : Told d k) : decRightB d k = true := by
  have hlt := h.lt
  have hd : digsB d = true := by
    unfold digsB; rw [h.digs]
    cases d with
    | nil => simp at hlt
    | cons => rfl
  unfold decRightB
  rw [hd]
  have e1 : decide ((0 : Int) ≤ (k : Int)) = true := by rw [decide_eq_true_eq]; omega
  have e2 : decide ((k : Int) < (d.length : Int)) = true := by rw [decide_eq_true_eq]; omega
  rw [e1, e2]
  rcases h.head with h | h
  · have e3 : decide ((d.length : Int) - k = 1) = true := by rw [decide_eq_true_eq]; omega
    rw [e3]; simp
  · have e3 : (d.head? == some 48) = false := by rw [beq_eq_false_iff_ne]; exact h
    rw [e3]; rfl
def parseVal : Option (Bool × List UInt8 × Nat) → Value
  | some (n, d, k) => .tuple #[.agg #[.bool n, .string ⟨d.toArray⟩, .int .i64 k], .bool true]
  | none => .tuple #[.agg #[.bool false, .string ⟨#[]⟩, .int .i64 0], .bool false]
theorem parse_val (s : ByteArray) (w : World) (hsh : w.ShapedOpen Tryz.prog) (hs : s.size < 4294967281) :
    Calls Tryz.prog 49 #[.string s] w fun e w' => e = .returned (parseVal (parseL s.data.toList)) ∧ Below w.heap.size w w' := by
  refine (parse_any s w hsh hs).mono ?_
  rintro e w' ⟨he, hb⟩
  refine ⟨?_, hb⟩
  unfold ParseEnd at he
  cases h : parseL s.data.toList with
  | none => rw [h] at he; exact he
  | some x => obtain ⟨n, d, k⟩ := x; rw [h] at he; exact he
theorem body_val {n : Bool} {b : List UInt8} {e : Ending} (h : BodyEnd n b e) : e = .returned (parseVal ((bodyL b).map fun x => (n, x.1, x.2))) := by
  unfold BodyEnd at h
  cases hb : bodyL b with
  | none => rw [hb] at h; exact h
  | some x => obtain ⟨d, k⟩ := x; rw [hb] at h; exact h
theorem ref_val (s : ByteArray) (w : World) (hs : s.size ≤ 100) :
    Calls Tryz.prog 13 #[.string s] w fun e w' => e = .returned (parseVal (parseL s.data.toList)) ∧ Below w.heap.size w w' := by
  by_cases h : ∃ h : 0 < s.size, (s[0].toNat : Int) = 45
  · obtain ⟨h0, h45⟩ := h
    refine (refParse_neg s w hs h0 h45).mono ?_
    rintro e w' ⟨he, hb⟩
    refine ⟨?_, hb⟩
    rw [body_val he, parseL_body]
    have h0' : s[0] = 45 := UInt8.toNat_inj.mp (by show s[0].toNat = 45; omega)
    have hc := head_cons s h0
    rw [h0'] at hc
    have hp : Lib.hasPrefix s.data.toList [45] = true := by rw [hc]; simp [Lib.hasPrefix, List.isPrefixOf]
    have ht : Lib.trimPrefix s.data.toList [45] = (s.extract 1 s.size).data.toList := by
      unfold Lib.trimPrefix
      rw [hp, if_pos rfl, extract_drop]; rfl
    rw [hp, ht]
  · have hn : s.size = 0 ∨ ∃ h : 0 < s.size, ¬ (s[0].toNat : Int) = 45 := by
      rcases Nat.eq_zero_or_pos s.size with h0 | h0
      · exact Or.inl h0
      · exact Or.inr ⟨h0, fun x => h ⟨h0, x⟩⟩
    refine (refParse_pos s w hs hn).mono ?_
    rintro e w' ⟨he, hb⟩
    refine ⟨?_, hb⟩
    rw [body_val he, parseL_body]
    have hp : Lib.hasPrefix s.data.toList [45] = false := by
      rcases Nat.eq_zero_or_pos s.size with h0 | h0
      · have : s.data.toList = [] := List.eq_nil_of_length_eq_zero (by rw [size_data]; exact h0)
        rw [this]; rfl
      · rw [head_cons s h0]
        have : ((45 : UInt8) == s[0]) = false := by
          rw [beq_eq_false_iff_ne]; intro e; exact h ⟨h0, by rw [← e]; rfl⟩
        simp [Lib.hasPrefix, List.isPrefixOf, this]
    have ht : Lib.trimPrefix s.data.toList [45] = s.data.toList := by
      unfold Lib.trimPrefix
      rw [hp]; rfl
    rw [hp, ht]
end Go.Proofs.YtglennfjeacpoaaGreatDoor

namespace Go.Proofs.YtglennfjeacpoaaGreatDoor
open Go.RowKit
set_option linter.unusedVariables false
def dv (n : Bool) (s : ByteArray) (k : Nat) : Value := .agg #[.bool n, .string s, .int .i64 k]
structure GoodD (s : ByteArray) (k : Nat) : Prop where
  le : s.size ≤ 100
  k : k ≤ s.size
  dig : s.data.toList.all digB = true
def Enters (N : FuncId) : Prop := ∀ (args : Array Value) (w : World), (callFunc N args).run Tryz.prog w = .ok (.enter N args) w
def CondC (N : FuncId) (caps : Array Value) (W : World) (p : ByteArray → Nat → Bool) : Prop :=
  ∀ W1, Below W.heap.size W W1 → ∀ n s k, GoodD s k → Calls Tryz.prog N (#[dv n s k] ++ caps) W1 fun e w' => e = .returned (.bool (p s k)) ∧ Below W1.heap.size W1 w'
def CondV (fv : Value) (W : World) (p : ByteArray → Nat → Bool) : Prop := ∃ N caps, fv = .func (.func N) #[] caps ∧ Enters N ∧ CondC N caps W p
theorem CondV.later {fv : Value} {W W1 : World} {p : ByteArray → Nat → Bool} (h : CondV fv W p) (hb : Below W.heap.size W W1) : CondV fv W1 p := by
  obtain ⟨N, caps, rfl, he, hc⟩ := h
  exact ⟨N, caps, rfl, he, fun W2 hb2 => hc W2 (hb.trans (hb2.mono hb.size))⟩
theorem enters_of {N : FuncId} (h : Enters N) : Enters N := h
theorem hasScale_any (n : Bool) (s : ByteArray) (k : Nat) (w : World) : Calls Tryz.prog 187 #[dv n s k] w fun e w' => e = .returned (.bool ((k : Int) != 0)) ∧ Below w.heap.size w w' := by
  unfold dv
  go_enter Tryz.func187, Tryz.ntmps187
  go_wp2
  go_ret
  exact ⟨rfl, (Below.refl _ _).alloc (Nat.le_refl _) _⟩
theorem always_any (n : Bool) (s : ByteArray) (k : Nat) (w : World) : Calls Tryz.prog 188 #[dv n s k] w fun e w' => e = .returned (.bool true) ∧ Below w.heap.size w w' := by
  unfold dv
  go_enter Tryz.func188, Tryz.ntmps188
  go_wp2
  go_ret
  exact ⟨rfl, (Below.refl _ _).alloc (Nat.le_refl _) _⟩
theorem enters_not : Enters 217 := fun args w => by
  go_simp
theorem not1_any {fv : Value} {p : ByteArray → Nat → Bool} (b : Nat) (W : World) (hc : W.cell? ⟨b, 0, none⟩ = some fv) (hb : b < W.heap.size) (hf : CondV fv W p) :
    CondC 217 #[.pointer (some ⟨b, 0, none⟩)] W (fun s k => !p s k) := by
  intro W1 hb1 n s k hg
  obtain ⟨N, caps, rfl, he, hC⟩ := hf.later hb1
  have hc1 : W1.cell? ⟨b, 0, none⟩ = some (.func (.func N) #[] caps) := (hb1.cell (p := ⟨b, 0, none⟩) hb).trans hc
  have hCC := Lib.hid hC
  clear hC hf hc
  show Calls Tryz.prog 217 #[dv n s k, .pointer (some ⟨b, 0, none⟩)] W1 _
  have hb2 : b < W1.heap.size := Nat.lt_of_lt_of_le hb hb1.size
  unfold dv
  unfold Enters at he
  go_enter Tryz.func217, Tryz.ntmps217
  go_wp2_with fail
  refine (hCC.out _ ((Below.refl _ _).alloc (Nat.le_refl _) _) n s k hg).mono ?_
  rintro e w2 ⟨rfl, h2⟩
  go_wp2
  go_ret
  exact ⟨rfl, below_box h2⟩
theorem enters_both : Enters 220 := fun args w => by
  go_simp
set_option maxHeartbeats 1000000 in
theorem both1_any {fa fb : Value} {p q : ByteArray → Nat → Bool} (a b : Nat) (W : World) (hca : W.cell? ⟨a, 0, none⟩ = some fa) (hcb : W.cell? ⟨b, 0, none⟩ = some fb) (ha : a < W.heap.size) (hb : b < W.heap.size) (hfa : CondV fa W p) (hfb : CondV fb W q) :
    CondC 220 #[.pointer (some ⟨a, 0, none⟩), .pointer (some ⟨b, 0, none⟩)] W (fun s k => p s k && q s k) := by
  intro W1 hb1 n s k hg
  obtain ⟨N, caps, rfl, he, hC⟩ := hfa.later hb1
  obtain ⟨N', caps', rfl, he', hC'⟩ := hfb.later hb1
  have hc1 : W1.cell? ⟨a, 0, none⟩ = some (.func (.func N) #[] caps) := (hb1.cell (p := ⟨a, 0, none⟩) ha).trans hca
  have hc2 : W1.cell? ⟨b, 0, none⟩ = some (.func (.func N') #[] caps') := (hb1.cell (p := ⟨b, 0, none⟩) hb).trans hcb
  have hCC := Lib.hid hC
  have hCC' := Lib.hid hC'
  clear hC hC' hfa hfb hca hcb
  show Calls Tryz.prog 220 #[dv n s k, .pointer (some ⟨a, 0, none⟩), .pointer (some ⟨b, 0, none⟩)] W1 _
  have hb2 : b < W1.heap.size := Nat.lt_of_lt_of_le hb hb1.size
  have ha2 : a < W1.heap.size := Nat.lt_of_lt_of_le ha hb1.size
  unfold dv
  unfold Enters at he he'
  cases hp : p s k
  · have Hp := Lib.hid hp
    clear hp
    go_enter Tryz.func220, Tryz.ntmps220
    go_wp2_with fail
    refine (hCC.out _ ((Below.refl _ _).alloc (Nat.le_refl _) _) n s k hg).mono ?_
    rw [Hp.out]
    rintro e w2 ⟨rfl, h2⟩
    go_wp2
    go_ret
    exact ⟨ret_bool (by simp [Hp.out]), below_box h2⟩
  · have Hp := Lib.hid hp
    clear hp
    go_enter Tryz.func220, Tryz.ntmps220
    go_wp2_with fail
    refine (hCC.out _ ((Below.refl _ _).alloc (Nat.le_refl _) _) n s k hg).mono ?_
    rw [Hp.out]
    rintro e w2 ⟨rfl, h2⟩
    obtain ⟨hcc, hff⟩ := bcell h2
    have hb3 : b < W1.heap.size + 1 := by omega
    go_wp2_with fail
    refine (hCC'.out _ (below_box h2) n s k hg).mono ?_
    rintro e w3 ⟨rfl, h3⟩
    go_wp2
    go_ret
    exact ⟨ret_bool (by simp [Hp.out]), below_then (below_box h2) (Nat.le_refl _) h3⟩
def whB (s : ByteArray) (k : Nat) : ByteArray := s.extract 0 (s.size - k)
theorem whB_size (s : ByteArray) (k : Nat) : (whB s k).size = s.size - k := by unfold whB; rw [ByteArray.size_extract]; omega
theorem whB_all {s : ByteArray} {k : Nat} (h : s.data.toList.all digB = true) : (whB s k).data.toList.all digB = true := by
  unfold whB; rw [extract_take]; exact all_take h _
theorem whole_to (n : Bool) (s : ByteArray) (k : Nat) (w : World) (hg : GoodD s k) : Calls Tryz.prog 37 #[.agg #[.bool n, .string s, .int .i64 k]] w fun e w' => e = .returned (.string (whB s k)) ∧ Below w.heap.size w w' := by
  have := hg.le
  exact whole_any n s k w (by unfold maxLen; omega) hg.k
theorem enters_whole : Enters 218 := fun args w => by
  go_simp
def trW (s : ByteArray) (k : Nat) : ByteArray := ⟨(Lib.trimLeftB (whB s k).data.toList 48).toArray⟩
theorem trW_size (s : ByteArray) (k : Nat) : (trW s k).size ≤ s.size - k := by
  have h1 := size_mk (Lib.trimLeftB (whB s k).data.toList 48)
  have h2 : (Lib.trimLeftB (whB s k).data.toList 48).length ≤ (whB s k).data.toList.length := dropWhile_le _ _
  rw [size_data, whB_size] at h2
  unfold trW
  omega
set_option maxHeartbeats 1000000 in
theorem wholeIn1_any {fa : Value} {p : ByteArray → Nat → Bool} (a : Nat) (W : World) (hca : W.cell? ⟨a, 0, none⟩ = some fa) (ha : a < W.heap.size) (hfa : CondV fa W p) :
    CondC 218 #[.pointer (some ⟨a, 0, none⟩)] W (fun s k => decide ((trW s k).size ≤ 2) && p s k) := by
  intro W1 hb1 n s k hg
  obtain ⟨N, caps, rfl, he, hC⟩ := hfa.later hb1
  have hc1 : W1.cell? ⟨a, 0, none⟩ = some (.func (.func N) #[] caps) := (hb1.cell (p := ⟨a, 0, none⟩) ha).trans hca
  have hCC := Lib.hid hC
  clear hC hfa hca
  have hWh := fun W => whole_to n s k W hg
  have hTr := fun W => Tryz.strings_TrimLeft_one (whB s k) 48 (by decide) W
  have hsz := trW_size s k
  have := hg.le
  have hle : (trW s k).size ≤ 100 := by omega
  obtain ⟨T, hT⟩ : ∃ T, trW s k = T := ⟨_, rfl⟩
  have hT' := hT
  unfold trW at hT'
  rw [hT'] at hTr
  rw [hT] at hle
  generalize whB s k = H at *
  have HT := Lib.hid hT
  have HTr := Lib.hid hTr
  clear hsz hT hT' hTr
  show Calls Tryz.prog 218 #[dv n s k, .pointer (some ⟨a, 0, none⟩)] W1 _
  have ha2 : a < W1.heap.size := Nat.lt_of_lt_of_le ha hb1.size
  have ha3 : a < W1.heap.size + 1 := by omega
  unfold dv
  unfold Enters at he
  by_cases h2 : T.size ≤ 2
  · have hd : decide (T.size ≤ 2) = true := decide_eq_true h2
    have hd' : decide ((T.size : Int) ≤ 2) = true := decide_eq_true (by omega)
    have HW := Lib.hid hWh
    clear hWh
    go_enter Tryz.func218, Tryz.ntmps218
    go_wp2_with fail
    go_at_call 37
    refine (HW.out _).mono ?_
    rintro e w2 ⟨rfl, hw2⟩
    obtain ⟨hcc, hff⟩ := bcell hw2
    go_wp2_with fail
    go_at_call 93
    refine (HTr.out _).mono ?_
    rintro e w2' ⟨rfl, rfl⟩
    go_wp2_with fail
    refine (hCC.out _ (below_box hw2) n s k hg).mono ?_
    rintro e w3 ⟨rfl, h3⟩
    go_wp2
    go_ret
    exact ⟨ret_bool (by simp [HT.out, h2]), below_then (below_box hw2) (Nat.le_refl _) h3⟩
  · have hd : decide (T.size ≤ 2) = false := decide_eq_false h2
    have hd' : decide ((T.size : Int) ≤ 2) = false := decide_eq_false (by omega)
    have HW := Lib.hid hWh
    clear hWh
    go_enter Tryz.func218, Tryz.ntmps218
    go_wp2_with fail
    go_at_call 37
    refine (HW.out _).mono ?_
    rintro e w2 ⟨rfl, hw2⟩
    obtain ⟨hcc, hff⟩ := bcell hw2
    go_wp2_with fail
    go_at_call 93
    refine (HTr.out _).mono ?_
    rintro e w2' ⟨rfl, rfl⟩
    go_wp2
    go_ret
    exact ⟨ret_bool (by simp [HT.out, h2]), below_box hw2⟩
end Go.Proofs.YtglennfjeacpoaaGreatDoor

namespace Go.Proofs.YtglennfjeacpoaaGreatDoor
open Go.RowKit
set_option linter.unusedVariables false
def valL (l : List UInt8) : Int := l.foldl (fun a c => 10 * a + ((c.toNat : Int) - 48)) 0
theorem valL_snoc (l : List UInt8) (c : UInt8) : valL (l ++ [c]) = 10 * valL l + ((c.toNat : Int) - 48) := by
  unfold valL; rw [List.foldl_append]; rfl
theorem valL_bd : ∀ (n : Nat) (l : List UInt8), l.length = n → l.all digB = true → 0 ≤ valL l ∧ valL l < ((10 ^ n : Nat) : Int)
  | 0, l, h, _ => by
    rw [List.eq_nil_of_length_eq_zero h]
    exact ⟨by decide, by decide⟩
  | n + 1, l, h, hd => by
    have hne : l ≠ [] := fun e => by rw [e] at h; cases h
    obtain ⟨m, c, rfl⟩ : ∃ m c, l = m ++ [c] := ⟨l.dropLast, l.getLast hne, (List.dropLast_concat_getLast hne).symm⟩
    rw [List.all_append, Bool.and_eq_true] at hd
    have ih := valL_bd n m (by simpa using h) hd.1
    have hc : digB c = true := by simpa using hd.2
    have := dig_le hc
    rw [valL_snoc, Nat.pow_succ]
    omega
def lastL (c : Nat) (l : List UInt8) : List UInt8 := l.drop (l.length - c)
def pLast (c : Nat) (lo hi : Int) (s : ByteArray) (k : Nat) : Bool := decide (lo ≤ valL (lastL c (whB s k).data.toList)) && decide (valL (lastL c (whB s k).data.toList) ≤ hi)
theorem enters_last : Enters 219 := fun args w => by
  go_simp
theorem iter_step (T : ByteArray) (pos : Nat) (hlt : pos < T.size) (hd : T.data.toList.all digB = true) : digB T[pos] = true := by
  have h3 := all_take_succ T pos hlt
  rw [all_take hd, all_take hd, Bool.true_and] at h3
  exact h3.symm
set_option maxHeartbeats 2000000 in
theorem lastIn1_any (c : Nat) (lo hi : Int) (b1 b2 b3 : Nat) (W : World) (hc0 : 1 ≤ c) (hc2 : c ≤ 2) (h1 : W.cell? ⟨b1, 0, none⟩ = some (.int .i64 c)) (h2 : W.cell? ⟨b2, 0, none⟩ = some (.int .i64 lo)) (h3 : W.cell? ⟨b3, 0, none⟩ = some (.int .i64 hi))
    (k1 : b1 < W.heap.size) (k2 : b2 < W.heap.size) (k3 : b3 < W.heap.size) :
    CondC 219 #[.pointer (some ⟨b1, 0, none⟩), .pointer (some ⟨b2, 0, none⟩), .pointer (some ⟨b3, 0, none⟩)] W (pLast c lo hi) := by
  intro W1 hb1 n s k hg
  have q1 : W1.cell? ⟨b1, 0, none⟩ = some (.int .i64 c) := (hb1.cell (p := ⟨b1, 0, none⟩) k1).trans h1
  have q2 : W1.cell? ⟨b2, 0, none⟩ = some (.int .i64 lo) := (hb1.cell (p := ⟨b2, 0, none⟩) k2).trans h2
  have q3 : W1.cell? ⟨b3, 0, none⟩ = some (.int .i64 hi) := (hb1.cell (p := ⟨b3, 0, none⟩) k3).trans h3
  have l1 : b1 < W1.heap.size := Nat.lt_of_lt_of_le k1 hb1.size
  have l2 : b2 < W1.heap.size := Nat.lt_of_lt_of_le k2 hb1.size
  have l3 : b3 < W1.heap.size := Nat.lt_of_lt_of_le k3 hb1.size
  clear h1 h2 h3 k1 k2 k3 hb1
  have hWh := fun W => whole_to n s k W hg
  have hsz := whB_size s k
  have hall := whB_all (s := s) (k := k) hg.dig
  have := hg.le
  have hle : (whB s k).size ≤ 100 := by omega
  obtain ⟨H, hH⟩ : ∃ H, whB s k = H := ⟨_, rfl⟩
  have hp : pLast c lo hi s k = (decide (lo ≤ valL (lastL c H.data.toList)) && decide (valL (lastL c H.data.toList) ≤ hi)) := by unfold pLast; rw [hH]
  rw [hp]
  rw [hH] at hWh hle hall
  have HW := Lib.hid hWh
  clear hsz hH hp hWh hg
  obtain ⟨a, ha⟩ : ∃ a, a = H.size - c := ⟨_, rfl⟩
  obtain ⟨T, hT⟩ : ∃ T, H.extract a H.size = T := ⟨_, rfl⟩
  have hTs : T.size ≤ 2 := by rw [← hT, ByteArray.size_extract]; omega
  have hTl : lastL c H.data.toList = T.data.toList := by unfold lastL; rw [← hT, extract_drop, size_data, ha]
  have hTd : T.data.toList.all digB = true := by rw [← hT, extract_drop]; exact List.all_eq_true.2 fun x hx => List.all_eq_true.1 hall x (List.mem_of_mem_drop hx)
  rw [hTl]
  have HTd := Lib.hid hTd
  have HT := Lib.hid hT
  clear hTl hTd hall
  show Calls Tryz.prog 219 #[dv n s k, .pointer (some ⟨b1, 0, none⟩), .pointer (some ⟨b2, 0, none⟩), .pointer (some ⟨b3, 0, none⟩)] W1 _
  have hex : H.extract (max ((H.size : Int) - (c : Int)) 0).toNat H.size = T := by
    rw [show (max ((H.size : Int) - (c : Int)) 0).toNat = a by omega]
    exact HT.out
  have hm0 : (0 : Int) ≤ max ((H.size : Int) - (c : Int)) 0 := by omega
  have hm1 : max ((H.size : Int) - (c : Int)) 0 ≤ (H.size : Int) := by omega
  clear hT ha HT
  unfold dv
  go_enter Tryz.func219, Tryz.ntmps219
  go_wp2_with fail
  go_at_call 37
  refine (HW.out _).mono ?_
  rintro e w2 ⟨rfl, hw2⟩
  obtain ⟨hcc, hff⟩ := bcell hw2
  have hz2 := below_box hw2
  have Hz2 := Lib.hid hz2
  have hsz2 := hz2.size
  have lz1 : b1 < W1.heap.size + 1 := by omega
  have q1' : w2.cell? ⟨b1, 0, none⟩ = some (.int .i64 c) := (hz2.cell (p := ⟨b1, 0, none⟩) l1).trans q1
  have q2' : w2.cell? ⟨b2, 0, none⟩ = some (.int .i64 lo) := (hz2.cell (p := ⟨b2, 0, none⟩) l2).trans q2
  have q3' : w2.cell? ⟨b3, 0, none⟩ = some (.int .i64 hi) := (hz2.cell (p := ⟨b3, 0, none⟩) l3).trans q3
  clear hz2 hw2
  go_wp2_with fail
  go_loopw [7, 9] (fun v _ wr => ∃ pos : Nat, v = .int .i64 (valL (T.data.toList.take pos)) ∧ pos ≤ T.size ∧ wr.heap[w2.heap.size]? = some (.stringIter T pos) ∧ Hid (Below w2.heap.size w2 wr)) (fun _ _ wr => T.size - wr.iterPos w2.heap.size)
  case atStart =>
    exact ⟨0, rfl, Nat.zero_le _, World.iter_heap w2 T 0, Lib.hid ((Below.refl _ w2).alloc (Nat.le_refl _) _)⟩
  case round =>
    obtain ⟨pos, rfl, hpos, hit, hbw⟩ := hrel
    have hsz : w2.heap.size < wr.heap.size := (Array.getElem?_eq_some_iff.1 hit).1
    have hvb := valL_bd pos (T.data.toList.take pos) (by rw [List.length_take, size_data]; omega) (all_take HTd.out pos)
    by_cases hp : pos < T.size
    · have hdg := dig_le (iter_step T pos hp HTd.out)
      have hnx : ∀ ty, (Instr.next (.pointer (some ⟨w2.heap.size, 0, none⟩)) true ty).run Tryz.prog wr = _ := fun ty => Lib.run_next_ascii_at wr w2.heap.size T pos ty hit hp (by omega)
      have hit2 := Lib.iterAt_heap wr w2.heap.size T pos (pos + 1) hit
      have hbw2 := Lib.hid (Lib.below_iterAt hbw.out (k := w2.heap.size) (by omega) T (pos + 1))
      have hv9 : valL (T.data.toList.take pos) ≤ 9 := by
        have h1 : pos = 0 ∨ pos = 1 := by omega
        rcases h1 with rfl | rfl
        · have := hvb.2; simp at this; omega
        · have := hvb.2; simp at this; omega
      have hv0 := hvb.1
      have hsn := valL_snoc (T.data.toList.take pos) T[pos]
      rw [← take_succ T pos hp] at hsn
      have Hsn := Lib.hid hsn
      have Hit := Lib.hid hit
      have d0 : (48 : Int) ≤ (T[pos].toNat : Int) := by omega
      have d1 : (T[pos].toNat : Int) ≤ 57 := by omega
      clear hsn hvb hdg hit
      go_wp2
      go_roundw
      case rel => exact ⟨pos + 1, by rw [Hsn.out], by omega, hit2, hbw2⟩
      case measure =>
        simp only [World.iterPos, hit2, Hit.out]
        omega
    · obtain rfl : pos = T.size := by omega
      have hnx : ∀ ty, (Instr.next (.pointer (some ⟨w2.heap.size, 0, none⟩)) true ty).run Tryz.prog wr = _ := fun ty => Lib.run_next_end_at wr w2.heap.size T T.size ty hit hp
      have e0 : T.data.toList.take T.size = T.data.toList := by rw [← size_data, List.take_length]
      rw [e0]
      have hB := hbw.out
      have q2'' : wr.cell? ⟨b2, 0, none⟩ = some (.int .i64 lo) := (hB.cell (p := ⟨b2, 0, none⟩) (Nat.lt_of_lt_of_le l2 hsz2)).trans q2'
      have q3'' : wr.cell? ⟨b3, 0, none⟩ = some (.int .i64 hi) := (hB.cell (p := ⟨b3, 0, none⟩) (Nat.lt_of_lt_of_le l3 hsz2)).trans q3'
      generalize hV : valL T.data.toList = V at *
      have HV := Lib.hid hV
      clear hB e0 hvb hV
      by_cases hlo : lo ≤ V
      · have h1 : decide (lo ≤ V) = true := decide_eq_true hlo
        go_wp2
        go_ret
        exact ⟨ret_bool (by rw [HV.out]; simp [hlo]), Hz2.out.trans (hbw.out.mono hsz2)⟩
      · have h1 : decide (lo ≤ V) = false := decide_eq_false hlo
        go_wp2
        go_ret
        exact ⟨ret_bool (by rw [HV.out]; simp; omega), Hz2.out.trans (hbw.out.mono hsz2)⟩
def pWhole (s : ByteArray) (k : Nat) : Bool := (Lib.trimB (s.data.toList.drop (s.size - k)) 48).isEmpty
theorem isWhole_any (n : Bool) (s : ByteArray) (k : Nat) (w : World) (hg : GoodD s k) : Calls Tryz.prog 183 #[dv n s k] w fun e w' => e = .returned (.bool (pWhole s k)) ∧ Below w.heap.size w w' := by
  have := hg.le
  have hP := fun W => part_any n s k W (by unfold maxLen; omega) hg.k
  have hsz : (s.extract (s.size - k) s.size).size ≤ 100 := by rw [ByteArray.size_extract]; omega
  have hd : (s.extract (s.size - k) s.size).data.toList = s.data.toList.drop (s.size - k) := extract_drop _ _
  generalize s.extract (s.size - k) s.size = Q at *
  have HP := Lib.hid hP
  have Hd := Lib.hid hd
  clear hP hd hg
  unfold dv
  go_enter Tryz.func183, Tryz.ntmps183
  go_wp2_with fail
  go_at_call 40
  refine (HP.out _).mono ?_
  rintro e w2 ⟨rfl, hw2⟩
  go_wp2_with (go_at_call 80; refine (Tryz.strings_Trim_one Q 48 (by decide) _ (by omega)).mono ?_; rintro e w1 ⟨rfl, hw1⟩)
  go_ret
  refine ⟨ret_bool ?_, ?_⟩
  · unfold pWhole
    rw [← Hd.out]
  · rcases hw1 with rfl | rfl
    · exact below_box hw2
    · exact (below_box hw2).drew
end Go.Proofs.YtglennfjeacpoaaGreatDoor
