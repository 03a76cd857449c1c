import Derived.Test.YtnkijpjknbelfaaDoorParseMath
namespace Go.Proofs.YtnkijpjknbelfaaDoor
open Go.RowKit

theorem digit_anyP (c : UInt8) (w : World) : Calls Tryd.prog 46 #[.int .u8 (c.toNat : Int)] w fun e w' => e = .returned (.bool (digB c)) ∧ w = w' := by
  by_cases h1 : (48 : Int) ≤ (c.toNat : Int)
  · go_enter Tryd.func46, Tryd.ntmps46
    go_wp2
    go_ret
    refine ⟨ret_bool ?_, rfl⟩
    rw [Bool.eq_iff_iff]
    simp [digB]
    omega
  · go_enter Tryd.func46, Tryd.ntmps46
    go_wp2
    go_ret
    refine ⟨ret_bool ?_, rfl⟩
    rw [Bool.eq_iff_iff]
    simp [digB]
    omega

def BodyEnd (n : Bool) (b : List UInt8) (e : Ending) : Prop :=
  match bodyL b with
  | some (d, k) => e = .returned (.tuple #[.agg #[.bool n, .string ⟨d.toArray⟩, .int .i64 k], .bool true])
  | none => e = .returned (.tuple #[.agg #[.bool false, .string ⟨#[]⟩, .int .i64 0], .bool false])
theorem BodyEnd.no {n : Bool} {b : List UInt8} (h : bodyL b = none) : BodyEnd n b (.returned (.tuple #[.agg #[.bool false, .string ⟨#[]⟩, .int .i64 0], .bool false])) := by
  unfold BodyEnd; rw [h]
theorem BodyEnd.yes {n : Bool} {b d : List UInt8} {k : Nat} (h : bodyL b = some (d, k)) : BodyEnd n b (.returned (.tuple #[.agg #[.bool n, .string ⟨d.toArray⟩, .int .i64 k], .bool true])) := by
  unfold BodyEnd; rw [h]
def strLen : Value → Nat | .string b => b.size | _ => 0
theorem St_digit_b {b : ByteArray} {D : ByteArray} {i : Nat} {p : Int} (h : St b.data.toList i D.data.toList p) (hi : i < b.size) (hd : digB b[i] = true) : St b.data.toList (i + 1) (D ++ b.extract i (i + 1)).data.toList p := by
  have e : (b.extract i (i + 1)).data.toList = [b[i]] := by
    rw [Lib.extract_data, List.drop_eq_getElem_cons (by rw [size_data]; exact hi)]
    simp
    rfl
  rw [Joins.data_append, e]
  exact St_digit h (by rw [size_data]; exact hi) hd

theorem head_cons (E : ByteArray) (h : 0 < E.size) : E.data.toList = E[0] :: (E.extract 1 E.size).data.toList := by
  rw [extract_drop]
  have := List.drop_eq_getElem_cons (l := E.data.toList) (i := 0) (by rw [size_data]; exact h)
  rw [List.drop_zero] at this
  exact this
theorem cons_len (E : ByteArray) (h : 0 < E.size) : (E.extract 1 E.size).data.toList.length + 1 = E.size := by
  rw [extract_drop, List.length_drop, size_data]; omega
theorem strip_step (E : ByteArray) (k : Nat) (h0 : 0 < E.size) (h : k < E.size) (h48 : E[0] = 48) : stripL k E.data.toList = stripL k (E.extract 1 E.size).data.toList := by
  conv => lhs; rw [head_cons E h0, stripL]
  rw [if_pos ⟨by rw [cons_len E h0]; exact h, h48⟩]
theorem strip_big (E : ByteArray) (k : Nat) (h0 : 0 < E.size) (h : E.size ≤ k) : stripL k E.data.toList = E.data.toList := by
  rw [head_cons E h0, stripL, if_neg (fun x => by have := x.1; rw [cons_len E h0] at this; omega)]
theorem strip_other (E : ByteArray) (k : Nat) (h0 : 0 < E.size) (h48 : ¬ E[0] = 48) : stripL k E.data.toList = E.data.toList := by
  rw [head_cons E h0, stripL, if_neg (fun x => h48 x.2)]

set_option maxHeartbeats 1000000 in
set_option maxRecDepth 100000 in
theorem refParse_pos (b : ByteArray) (w : World) (hs : b.size ≤ 100000) (hn : b.size = 0 ∨ ∃ h : 0 < b.size, ¬ (b[0].toNat : Int) = 45) :
    Calls Tryd.prog 30 #[.string b] w fun e w' => BodyEnd false b.data.toList e ∧ Below w.heap.size w w' := by
  rcases hn with h0 | ⟨h0, h45⟩
  · have hl : b.data.toList = [] := List.eq_nil_of_length_eq_zero (by rw [size_data]; exact h0)
    have Hl := Lib.hid hl
    clear hl
    have hb0 : b = ByteArray.empty := bytes_eq (by rw [Hl.out]; rfl)
    subst hb0
    go_enter Tryd.func30, Tryd.ntmps30
    go_wp2
    go_loop [5, 6, 7] (fun d p i => d = .string ⟨#[]⟩ ∧ p = .int .i64 (-1) ∧ i = .int .i64 0) (fun _ _ _ => 0)
    case atStart => exact ⟨rfl, rfl, rfl⟩
    case round =>
      obtain ⟨rfl, rfl, rfl⟩ := hrel
      go_wp2
      exact bodyPost_ret (v := .tuple #[.agg #[.bool false, .string ⟨#[]⟩, .int .i64 0], .bool false]) (by simp [results, Tryd.results30, go_sem]) rfl ⟨BodyEnd.no (by decide), (Below.refl _ _).alloc (Nat.le_refl _) _⟩
  · have h45b : ((b[0].toNat : Int) == 45) = false := by rw [beq_eq_false_iff_ne]; exact h45
    have H45 := Lib.hid h45
    clear h45
    go_enter Tryd.func30, Tryd.ntmps30
    go_wp2
    go_loop [5, 6, 7] (fun d p i => ∃ (k : Nat) (D : ByteArray) (q : Int), k ≤ b.size ∧ i = .int .i64 k ∧ d = .string D ∧ p = .int .i64 q ∧ D.size ≤ k ∧ -1 ≤ q ∧ q < k ∧ Hid (St b.data.toList k D.data.toList q)) (fun _ _ i => b.size - (intOf i).toNat)
    case atStart => exact ⟨0, ByteArray.empty, -1, Nat.zero_le _, rfl, rfl, rfl, by simp, by omega, by omega, St_start _⟩
    case round =>
      obtain ⟨k, D, q, hk, rfl, rfl, rfl, hD, hq0, hq1, hSt⟩ := hrel
      by_cases hlt : k < b.size
      · cases hd : digB b[k]
        · have Hdl : Hid (digB (b.data.toList[k]'(by rw [size_data]; exact hlt)) = false) := hd
          by_cases h46 : (b[k].toNat : Int) = 46
          · have e46 : b[k] = 46 := UInt8.toNat_inj.mp (by show b[k].toNat = 46; omega)
            have E46 := Lib.hid e46
            clear e46
            have hb46 : ((b[k].toNat : Int) == 46) = true := by rw [beq_iff_eq]; exact h46
            clear h46
            by_cases hqn : q < 0
            · obtain rfl : q = -1 := by omega
              by_cases hk0 : (0 : Int) < (k : Int)
              · by_cases hk1 : (k : Int) + 1 < (b.size : Int)
                · have Hp := Lib.hid (St_point hSt.out (by rw [size_data]; omega) E46.out (by omega))
                  clear hSt
                  go_wp2_with (go_at_call 46; refine (digit_anyP b[k] _).mono ?_; rintro e w2 ⟨rfl, rfl⟩)
                  go_round
                  case rel => exact ⟨k + 1, D, k, by omega, by go_num, rfl, rfl, by omega, by omega, by omega, Hp.out⟩
                  case measure => simp [intOf]; omega
                · have Hbad := Lib.hid (St_bad hSt.out (by rw [size_data]; exact hlt) Hdl.out (by rintro ⟨_, _, _, h⟩; rw [size_data] at h; omega))
                  clear hSt
                  go_wp2_with (go_at_call 46; refine (digit_anyP b[k] _).mono ?_; rintro e w2 ⟨rfl, rfl⟩)
                  exact bodyPost_ret (v := .tuple #[.agg #[.bool false, .string ⟨#[]⟩, .int .i64 0], .bool false]) (by simp [results, Tryd.results30, go_sem]) rfl ⟨BodyEnd.no Hbad.out, (Below.refl _ _).alloc (Nat.le_refl _) _⟩
              · have Hbad := Lib.hid (St_bad hSt.out (by rw [size_data]; exact hlt) Hdl.out (by rintro ⟨_, _, h, _⟩; omega))
                clear hSt
                go_wp2_with (go_at_call 46; refine (digit_anyP b[k] _).mono ?_; rintro e w2 ⟨rfl, rfl⟩)
                exact bodyPost_ret (v := .tuple #[.agg #[.bool false, .string ⟨#[]⟩, .int .i64 0], .bool false]) (by simp [results, Tryd.results30, go_sem]) rfl ⟨BodyEnd.no Hbad.out, (Below.refl _ _).alloc (Nat.le_refl _) _⟩
            · have Hbad := Lib.hid (St_bad hSt.out (by rw [size_data]; exact hlt) Hdl.out (by rintro ⟨_, h, _⟩; omega))
              clear hSt
              go_wp2_with (go_at_call 46; refine (digit_anyP b[k] _).mono ?_; rintro e w2 ⟨rfl, rfl⟩)
              exact bodyPost_ret (v := .tuple #[.agg #[.bool false, .string ⟨#[]⟩, .int .i64 0], .bool false]) (by simp [results, Tryd.results30, go_sem]) rfl ⟨BodyEnd.no Hbad.out, (Below.refl _ _).alloc (Nat.le_refl _) _⟩
          · have Hbad := Lib.hid (St_bad hSt.out (by rw [size_data]; exact hlt) Hdl.out (by rintro ⟨h, _⟩; exact h46 (by have hx : b[k] = 46 := h; rw [hx]; rfl)))
            have hb46 : ((b[k].toNat : Int) == 46) = false := by rw [beq_eq_false_iff_ne]; exact h46
            clear hSt h46
            go_wp2_with (go_at_call 46; refine (digit_anyP b[k] _).mono ?_; rintro e w2 ⟨rfl, rfl⟩)
            exact bodyPost_ret (v := .tuple #[.agg #[.bool false, .string ⟨#[]⟩, .int .i64 0], .bool false]) (by simp [results, Tryd.results30, go_sem]) rfl ⟨BodyEnd.no Hbad.out, (Below.refl _ _).alloc (Nat.le_refl _) _⟩
        · have Hp := Lib.hid (St_digit_b hSt.out hlt hd)
          clear hSt
          have hz : (D ++ b.extract k (k + 1)).size = D.size + 1 := by rw [ByteArray.size_append, ByteArray.size_extract]; omega
          have Hz := Lib.hid hz
          clear hz
          go_wp2_with (go_at_call 46; refine (digit_anyP b[k] _).mono ?_; rintro e w2 ⟨rfl, rfl⟩)
          go_round
          case rel => exact ⟨k + 1, _, q, by omega, by go_num, rfl, rfl, by rw [Hz.out]; omega, by omega, by omega, Hp.out⟩
          case measure => simp [intOf]; omega
      · obtain rfl : k = b.size := by omega
        have hSt' : St b.data.toList b.data.toList.length D.data.toList q := by rw [size_data]; exact hSt.out
        by_cases hqp : 0 ≤ q
        · have hX0 : (0 : Int) ≤ (b.size : Int) - 1 - q := by have := St_sc hSt' hqp; rw [size_data] at this; omega
          obtain ⟨sc, hsc⟩ : ∃ sc : Nat, (sc : Int) = (b.size : Int) - 1 - q := ⟨((b.size : Int) - 1 - q).toNat, by omega⟩
          have hX1 : (b.size : Int) - 1 - q + 1 ≤ b.size + 1 := by have := St_len hSt' (Nat.le_refl _); rw [size_data] at this; omega
          have Hend := Lib.hid (St_end hSt' sc (by rw [size_data, hsc, if_pos hqp]))
          have Hsc := Lib.hid hsc
          have HSt := Lib.hid hSt'
          clear hsc hSt hSt'
          by_cases hD0 : D.size = 0
          · have hz : ((D.size : Int) == 0) = true := by rw [beq_iff_eq]; omega
            have Hno := Lib.hid (Hend.out.trans (if_neg (fun x => x.1 (List.eq_nil_of_length_eq_zero (by rw [size_data]; exact hD0)))))
            clear hD0
            go_wp2
            exact bodyPost_ret (v := .tuple #[.agg #[.bool false, .string ⟨#[]⟩, .int .i64 0], .bool false]) (by simp [results, Tryd.results30, go_sem]) rfl ⟨BodyEnd.no Hno.out, (Below.refl _ _).alloc (Nat.le_refl _) _⟩
          · have hz : ((D.size : Int) == 0) = false := by rw [beq_eq_false_iff_ne]; omega
            by_cases hD40 : (40 : Int) < D.size
            · have Hno := Lib.hid (Hend.out.trans (if_neg (fun x => by have := x.2; rw [size_data] at this; omega)))
              go_wp2
              exact bodyPost_ret (v := .tuple #[.agg #[.bool false, .string ⟨#[]⟩, .int .i64 0], .bool false]) (by simp [results, Tryd.results30, go_sem]) rfl ⟨BodyEnd.no Hno.out, (Below.refl _ _).alloc (Nat.le_refl _) _⟩
            · have Hyes := Lib.hid (Hend.out.trans (if_pos ⟨fun e => hD0 (by rw [← size_data, e]; rfl), by rw [size_data]; omega⟩))
              have hDpos : 0 < D.size := by omega
              clear hD0
              go_wp2
              go_loop [5] (fun d => ∃ E : ByteArray, d = .string E ∧ 0 < E.size ∧ E.size ≤ 40 ∧ Hid (stripL (sc + 1) E.data.toList = stripL (sc + 1) D.data.toList)) (fun d => strLen d)
              case atStart => exact ⟨D, rfl, hDpos, by omega, rfl⟩
              case round =>
                obtain ⟨E, rfl, hE0, hE1, hE⟩ := hrel
                by_cases hk : (b.size : Int) - 1 - q + 1 < (E.size : Int)
                · by_cases h48 : E[0] = 48
                  · have hb48 : ((E[0].toNat : Int) == 48) = true := by rw [h48]; rfl
                    have He : Hid (stripL (sc + 1) (E.extract 1 E.size).data.toList = stripL (sc + 1) D.data.toList) := by
                      show _ = _
                      rw [← strip_step E (sc + 1) hE0 (by have := Hsc.out; omega) h48]; exact hE
                    have Hk := Lib.hid hk
                    clear h48 hE
                    go_wp2
                    go_round
                    case rel => exact ⟨_, rfl, by rw [ByteArray.size_extract]; have := Hk.out; omega, by rw [ByteArray.size_extract]; omega, He⟩
                    case measure => simp only [strLen, ByteArray.size_extract]; omega
                  · have hb48 : ((E[0].toNat : Int) == 48) = false := by
                      rw [beq_eq_false_iff_ne]; intro e; exact h48 (UInt8.toNat_inj.mp (by show E[0].toNat = 48; omega))
                    have He : Hid (E.data.toList = stripL (sc + 1) D.data.toList) := by
                      show _ = _
                      rw [← strip_other E (sc + 1) hE0 h48]; exact hE
                    clear h48 hE
                    go_wp2
                    exact bodyPost_ret (v := .tuple #[.agg #[.bool false, .string E, .int .i64 ((b.size : Int) - 1 - q)], .bool true]) (by simp [results, Tryd.results30, go_sem]) rfl ⟨by have hy := Hyes.out; rw [← He.out] at hy; have := BodyEnd.yes (n := false) hy; rw [Hsc.out] at this; exact this, (Below.refl _ _).alloc (Nat.le_refl _) _⟩
                · have He : Hid (E.data.toList = stripL (sc + 1) D.data.toList) := by
                    show _ = _
                    rw [← strip_big E (sc + 1) hE0 (by have := Hsc.out; omega)]; exact hE
                  clear hE
                  go_wp2
                  exact bodyPost_ret (v := .tuple #[.agg #[.bool false, .string E, .int .i64 ((b.size : Int) - 1 - q)], .bool true]) (by simp [results, Tryd.results30, go_sem]) rfl ⟨by have hy := Hyes.out; rw [← He.out] at hy; have := BodyEnd.yes (n := false) hy; rw [Hsc.out] at this; exact this, (Below.refl _ _).alloc (Nat.le_refl _) _⟩
        · obtain ⟨sc, hsc⟩ : ∃ sc : Nat, (sc : Int) = 0 := ⟨0, rfl⟩
          have Hend := Lib.hid (St_end hSt' sc (by rw [hsc, if_neg hqp]))
          have Hsc := Lib.hid hsc
          have HSt := Lib.hid hSt'
          clear hsc hSt hSt'
          by_cases hD0 : D.size = 0
          · have hz : ((D.size : Int) == 0) = true := by rw [beq_iff_eq]; omega
            have Hno := Lib.hid (Hend.out.trans (if_neg (fun x => x.1 (List.eq_nil_of_length_eq_zero (by rw [size_data]; exact hD0)))))
            clear hD0
            go_wp2
            exact bodyPost_ret (v := .tuple #[.agg #[.bool false, .string ⟨#[]⟩, .int .i64 0], .bool false]) (by simp [results, Tryd.results30, go_sem]) rfl ⟨BodyEnd.no Hno.out, (Below.refl _ _).alloc (Nat.le_refl _) _⟩
          · have hz : ((D.size : Int) == 0) = false := by rw [beq_eq_false_iff_ne]; omega
            by_cases hD40 : (40 : Int) < D.size
            · have Hno := Lib.hid (Hend.out.trans (if_neg (fun x => by have := x.2; rw [size_data] at this; omega)))
              go_wp2
              exact bodyPost_ret (v := .tuple #[.agg #[.bool false, .string ⟨#[]⟩, .int .i64 0], .bool false]) (by simp [results, Tryd.results30, go_sem]) rfl ⟨BodyEnd.no Hno.out, (Below.refl _ _).alloc (Nat.le_refl _) _⟩
            · have Hyes := Lib.hid (Hend.out.trans (if_pos ⟨fun e => hD0 (by rw [← size_data, e]; rfl), by rw [size_data]; omega⟩))
              have hDpos : 0 < D.size := by omega
              clear hD0
              go_wp2
              go_loop [5] (fun d => ∃ E : ByteArray, d = .string E ∧ 0 < E.size ∧ E.size ≤ 40 ∧ Hid (stripL (sc + 1) E.data.toList = stripL (sc + 1) D.data.toList)) (fun d => strLen d)
              case atStart => exact ⟨D, rfl, hDpos, by omega, rfl⟩
              case round =>
                obtain ⟨E, rfl, hE0, hE1, hE⟩ := hrel
                by_cases hk : 0 + 1 < (E.size : Int)
                · by_cases h48 : E[0] = 48
                  · have hb48 : ((E[0].toNat : Int) == 48) = true := by rw [h48]; rfl
                    have He : Hid (stripL (sc + 1) (E.extract 1 E.size).data.toList = stripL (sc + 1) D.data.toList) := by
                      show _ = _
                      rw [← strip_step E (sc + 1) hE0 (by have := Hsc.out; omega) h48]; exact hE
                    have Hk := Lib.hid hk
                    clear h48 hE
                    go_wp2
                    go_round
                    case rel => exact ⟨_, rfl, by rw [ByteArray.size_extract]; have := Hk.out; omega, by rw [ByteArray.size_extract]; omega, He⟩
                    case measure => simp only [strLen, ByteArray.size_extract]; omega
                  · have hb48 : ((E[0].toNat : Int) == 48) = false := by
                      rw [beq_eq_false_iff_ne]; intro e; exact h48 (UInt8.toNat_inj.mp (by show E[0].toNat = 48; omega))
                    have He : Hid (E.data.toList = stripL (sc + 1) D.data.toList) := by
                      show _ = _
                      rw [← strip_other E (sc + 1) hE0 h48]; exact hE
                    clear h48 hE
                    go_wp2
                    exact bodyPost_ret (v := .tuple #[.agg #[.bool false, .string E, .int .i64 (0)], .bool true]) (by simp [results, Tryd.results30, go_sem]) rfl ⟨by have hy := Hyes.out; rw [← He.out] at hy; have := BodyEnd.yes (n := false) hy; rw [Hsc.out] at this; exact this, (Below.refl _ _).alloc (Nat.le_refl _) _⟩
                · have He : Hid (E.data.toList = stripL (sc + 1) D.data.toList) := by
                    show _ = _
                    rw [← strip_big E (sc + 1) hE0 (by have := Hsc.out; omega)]; exact hE
                  clear hE
                  go_wp2
                  exact bodyPost_ret (v := .tuple #[.agg #[.bool false, .string E, .int .i64 (0)], .bool true]) (by simp [results, Tryd.results30, go_sem]) rfl ⟨by have hy := Hyes.out; rw [← He.out] at hy; have := BodyEnd.yes (n := false) hy; rw [Hsc.out] at this; exact this, (Below.refl _ _).alloc (Nat.le_refl _) _⟩

set_option maxHeartbeats 1000000 in
set_option maxRecDepth 100000 in
theorem refParse_neg (s : ByteArray) (w : World) (hs : s.size ≤ 100000) (h0 : 0 < s.size) (h45 : (s[0].toNat : Int) = 45) :
    Calls Tryd.prog 30 #[.string s] w fun e w' => BodyEnd true (s.extract 1 s.size).data.toList e ∧ Below w.heap.size w w' := by
  have h45b : ((s[0].toNat : Int) == 45) = true := by rw [beq_iff_eq]; exact h45
  have hbz : (s.extract 1 s.size).size ≤ 100000 := by rw [ByteArray.size_extract]; omega
  have hi2 : (1 : Int) ≤ s.size := by omega
  clear h45
  generalize hbe : s.extract 1 s.size = b at hbz ⊢
  have Hbe := Lib.hid hbe
  clear hbe
  go_enter Tryd.func30, Tryd.ntmps30
  go_wp2
  rw [Hbe.out]
  go_loop [5, 6, 7] (fun d p i => ∃ (k : Nat) (D : ByteArray) (q : Int), k ≤ b.size ∧ i = .int .i64 k ∧ d = .string D ∧ p = .int .i64 q ∧ D.size ≤ k ∧ -1 ≤ q ∧ q < k ∧ Hid (St b.data.toList k D.data.toList q)) (fun _ _ i => b.size - (intOf i).toNat)
  case atStart => exact ⟨0, ByteArray.empty, -1, Nat.zero_le _, rfl, rfl, rfl, by simp, by omega, by omega, St_start _⟩
  case round =>
    obtain ⟨k, D, q, hk, rfl, rfl, rfl, hD, hq0, hq1, hSt⟩ := hrel
    by_cases hlt : k < b.size
    · cases hd : digB b[k]
      · have Hdl : Hid (digB (b.data.toList[k]'(by rw [size_data]; exact hlt)) = false) := hd
        by_cases h46 : (b[k].toNat : Int) = 46
        · have e46 : b[k] = 46 := UInt8.toNat_inj.mp (by show b[k].toNat = 46; omega)
          have E46 := Lib.hid e46
          clear e46
          have hb46 : ((b[k].toNat : Int) == 46) = true := by rw [beq_iff_eq]; exact h46
          clear h46
          by_cases hqn : q < 0
          · obtain rfl : q = -1 := by omega
            by_cases hk0 : (0 : Int) < (k : Int)
            · by_cases hk1 : (k : Int) + 1 < (b.size : Int)
              · have Hp := Lib.hid (St_point hSt.out (by rw [size_data]; omega) E46.out (by omega))
                clear hSt
                go_wp2_with (go_at_call 46; refine (digit_anyP b[k] _).mono ?_; rintro e w2 ⟨rfl, rfl⟩)
                go_round
                case rel => exact ⟨k + 1, D, k, by omega, by go_num, rfl, rfl, by omega, by omega, by omega, Hp.out⟩
                case measure => simp [intOf]; omega
              · have Hbad := Lib.hid (St_bad hSt.out (by rw [size_data]; exact hlt) Hdl.out (by rintro ⟨_, _, _, h⟩; rw [size_data] at h; omega))
                clear hSt
                go_wp2_with (go_at_call 46; refine (digit_anyP b[k] _).mono ?_; rintro e w2 ⟨rfl, rfl⟩)
                exact bodyPost_ret (v := .tuple #[.agg #[.bool false, .string ⟨#[]⟩, .int .i64 0], .bool false]) (by simp [results, Tryd.results30, go_sem]) rfl ⟨BodyEnd.no Hbad.out, (Below.refl _ _).alloc (Nat.le_refl _) _⟩
            · have Hbad := Lib.hid (St_bad hSt.out (by rw [size_data]; exact hlt) Hdl.out (by rintro ⟨_, _, h, _⟩; omega))
              clear hSt
              go_wp2_with (go_at_call 46; refine (digit_anyP b[k] _).mono ?_; rintro e w2 ⟨rfl, rfl⟩)
              exact bodyPost_ret (v := .tuple #[.agg #[.bool false, .string ⟨#[]⟩, .int .i64 0], .bool false]) (by simp [results, Tryd.results30, go_sem]) rfl ⟨BodyEnd.no Hbad.out, (Below.refl _ _).alloc (Nat.le_refl _) _⟩
          · have Hbad := Lib.hid (St_bad hSt.out (by rw [size_data]; exact hlt) Hdl.out (by rintro ⟨_, h, _⟩; omega))
            clear hSt
            go_wp2_with (go_at_call 46; refine (digit_anyP b[k] _).mono ?_; rintro e w2 ⟨rfl, rfl⟩)
            exact bodyPost_ret (v := .tuple #[.agg #[.bool false, .string ⟨#[]⟩, .int .i64 0], .bool false]) (by simp [results, Tryd.results30, go_sem]) rfl ⟨BodyEnd.no Hbad.out, (Below.refl _ _).alloc (Nat.le_refl _) _⟩
        · have Hbad := Lib.hid (St_bad hSt.out (by rw [size_data]; exact hlt) Hdl.out (by rintro ⟨h, _⟩; exact h46 (by have hx : b[k] = 46 := h; rw [hx]; rfl)))
          have hb46 : ((b[k].toNat : Int) == 46) = false := by rw [beq_eq_false_iff_ne]; exact h46
          clear hSt h46
          go_wp2_with (go_at_call 46; refine (digit_anyP b[k] _).mono ?_; rintro e w2 ⟨rfl, rfl⟩)
          exact bodyPost_ret (v := .tuple #[.agg #[.bool false, .string ⟨#[]⟩, .int .i64 0], .bool false]) (by simp [results, Tryd.results30, go_sem]) rfl ⟨BodyEnd.no Hbad.out, (Below.refl _ _).alloc (Nat.le_refl _) _⟩
      · have Hp := Lib.hid (St_digit_b hSt.out hlt hd)
        clear hSt
        have hz : (D ++ b.extract k (k + 1)).size = D.size + 1 := by rw [ByteArray.size_append, ByteArray.size_extract]; omega
        have Hz := Lib.hid hz
        clear hz
        go_wp2_with (go_at_call 46; refine (digit_anyP b[k] _).mono ?_; rintro e w2 ⟨rfl, rfl⟩)
        go_round
        case rel => exact ⟨k + 1, _, q, by omega, by go_num, rfl, rfl, by rw [Hz.out]; omega, by omega, by omega, Hp.out⟩
        case measure => simp [intOf]; omega
    · obtain rfl : k = b.size := by omega
      have hSt' : St b.data.toList b.data.toList.length D.data.toList q := by rw [size_data]; exact hSt.out
      by_cases hqp : 0 ≤ q
      · have hX0 : (0 : Int) ≤ (b.size : Int) - 1 - q := by have := St_sc hSt' hqp; rw [size_data] at this; omega
        obtain ⟨sc, hsc⟩ : ∃ sc : Nat, (sc : Int) = (b.size : Int) - 1 - q := ⟨((b.size : Int) - 1 - q).toNat, by omega⟩
        have hX1 : (b.size : Int) - 1 - q + 1 ≤ b.size + 1 := by have := St_len hSt' (Nat.le_refl _); rw [size_data] at this; omega
        have Hend := Lib.hid (St_end hSt' sc (by rw [size_data, hsc, if_pos hqp]))
        have Hsc := Lib.hid hsc
        have HSt := Lib.hid hSt'
        clear hsc hSt hSt'
        by_cases hD0 : D.size = 0
        · have hz : ((D.size : Int) == 0) = true := by rw [beq_iff_eq]; omega
          have Hno := Lib.hid (Hend.out.trans (if_neg (fun x => x.1 (List.eq_nil_of_length_eq_zero (by rw [size_data]; exact hD0)))))
          clear hD0
          go_wp2
          exact bodyPost_ret (v := .tuple #[.agg #[.bool false, .string ⟨#[]⟩, .int .i64 0], .bool false]) (by simp [results, Tryd.results30, go_sem]) rfl ⟨BodyEnd.no Hno.out, (Below.refl _ _).alloc (Nat.le_refl _) _⟩
        · have hz : ((D.size : Int) == 0) = false := by rw [beq_eq_false_iff_ne]; omega
          by_cases hD40 : (40 : Int) < D.size
          · have Hno := Lib.hid (Hend.out.trans (if_neg (fun x => by have := x.2; rw [size_data] at this; omega)))
            go_wp2
            exact bodyPost_ret (v := .tuple #[.agg #[.bool false, .string ⟨#[]⟩, .int .i64 0], .bool false]) (by simp [results, Tryd.results30, go_sem]) rfl ⟨BodyEnd.no Hno.out, (Below.refl _ _).alloc (Nat.le_refl _) _⟩
          · have Hyes := Lib.hid (Hend.out.trans (if_pos ⟨fun e => hD0 (by rw [← size_data, e]; rfl), by rw [size_data]; omega⟩))
            have hDpos : 0 < D.size := by omega
            clear hD0
            go_wp2
            go_loop [5] (fun d => ∃ E : ByteArray, d = .string E ∧ 0 < E.size ∧ E.size ≤ 40 ∧ Hid (stripL (sc + 1) E.data.toList = stripL (sc + 1) D.data.toList)) (fun d => strLen d)
            case atStart => exact ⟨D, rfl, hDpos, by omega, rfl⟩
            case round =>
              obtain ⟨E, rfl, hE0, hE1, hE⟩ := hrel
              by_cases hk : (b.size : Int) - 1 - q + 1 < (E.size : Int)
              · by_cases h48 : E[0] = 48
                · have hb48 : ((E[0].toNat : Int) == 48) = true := by rw [h48]; rfl
                  have He : Hid (stripL (sc + 1) (E.extract 1 E.size).data.toList = stripL (sc + 1) D.data.toList) := by
                    show _ = _
                    rw [← strip_step E (sc + 1) hE0 (by have := Hsc.out; omega) h48]; exact hE
                  have Hk := Lib.hid hk
                  clear h48 hE
                  go_wp2
                  go_round
                  case rel => exact ⟨_, rfl, by rw [ByteArray.size_extract]; have := Hk.out; omega, by rw [ByteArray.size_extract]; omega, He⟩
                  case measure => simp only [strLen, ByteArray.size_extract]; omega
                · have hb48 : ((E[0].toNat : Int) == 48) = false := by
                    rw [beq_eq_false_iff_ne]; intro e; exact h48 (UInt8.toNat_inj.mp (by show E[0].toNat = 48; omega))
                  have He : Hid (E.data.toList = stripL (sc + 1) D.data.toList) := by
                    show _ = _
                    rw [← strip_other E (sc + 1) hE0 h48]; exact hE
                  clear h48 hE
                  go_wp2
                  exact bodyPost_ret (v := .tuple #[.agg #[.bool true, .string E, .int .i64 ((b.size : Int) - 1 - q)], .bool true]) (by simp [results, Tryd.results30, go_sem]) rfl ⟨by have hy := Hyes.out; rw [← He.out] at hy; have := BodyEnd.yes (n := true) hy; rw [Hsc.out] at this; exact this, (Below.refl _ _).alloc (Nat.le_refl _) _⟩
              · have He : Hid (E.data.toList = stripL (sc + 1) D.data.toList) := by
                  show _ = _
                  rw [← strip_big E (sc + 1) hE0 (by have := Hsc.out; omega)]; exact hE
                clear hE
                go_wp2
                exact bodyPost_ret (v := .tuple #[.agg #[.bool true, .string E, .int .i64 ((b.size : Int) - 1 - q)], .bool true]) (by simp [results, Tryd.results30, go_sem]) rfl ⟨by have hy := Hyes.out; rw [← He.out] at hy; have := BodyEnd.yes (n := true) hy; rw [Hsc.out] at this; exact this, (Below.refl _ _).alloc (Nat.le_refl _) _⟩
      · obtain ⟨sc, hsc⟩ : ∃ sc : Nat, (sc : Int) = 0 := ⟨0, rfl⟩
        have Hend := Lib.hid (St_end hSt' sc (by rw [hsc, if_neg hqp]))
        have Hsc := Lib.hid hsc
        have HSt := Lib.hid hSt'
        clear hsc hSt hSt'
        by_cases hD0 : D.size = 0
        · have hz : ((D.size : Int) == 0) = true := by rw [beq_iff_eq]; omega
          have Hno := Lib.hid (Hend.out.trans (if_neg (fun x => x.1 (List.eq_nil_of_length_eq_zero (by rw [size_data]; exact hD0)))))
          clear hD0
          go_wp2
          exact bodyPost_ret (v := .tuple #[.agg #[.bool false, .string ⟨#[]⟩, .int .i64 0], .bool false]) (by simp [results, Tryd.results30, go_sem]) rfl ⟨BodyEnd.no Hno.out, (Below.refl _ _).alloc (Nat.le_refl _) _⟩
        · have hz : ((D.size : Int) == 0) = false := by rw [beq_eq_false_iff_ne]; omega
          by_cases hD40 : (40 : Int) < D.size
          · have Hno := Lib.hid (Hend.out.trans (if_neg (fun x => by have := x.2; rw [size_data] at this; omega)))
            go_wp2
            exact bodyPost_ret (v := .tuple #[.agg #[.bool false, .string ⟨#[]⟩, .int .i64 0], .bool false]) (by simp [results, Tryd.results30, go_sem]) rfl ⟨BodyEnd.no Hno.out, (Below.refl _ _).alloc (Nat.le_refl _) _⟩
          · have Hyes := Lib.hid (Hend.out.trans (if_pos ⟨fun e => hD0 (by rw [← size_data, e]; rfl), by rw [size_data]; omega⟩))
            have hDpos : 0 < D.size := by omega
            clear hD0
            go_wp2
            go_loop [5] (fun d => ∃ E : ByteArray, d = .string E ∧ 0 < E.size ∧ E.size ≤ 40 ∧ Hid (stripL (sc + 1) E.data.toList = stripL (sc + 1) D.data.toList)) (fun d => strLen d)
            case atStart => exact ⟨D, rfl, hDpos, by omega, rfl⟩
            case round =>
              obtain ⟨E, rfl, hE0, hE1, hE⟩ := hrel
              by_cases hk : 0 + 1 < (E.size : Int)
              · by_cases h48 : E[0] = 48
                · have hb48 : ((E[0].toNat : Int) == 48) = true := by rw [h48]; rfl
                  have He : Hid (stripL (sc + 1) (E.extract 1 E.size).data.toList = stripL (sc + 1) D.data.toList) := by
                    show _ = _
                    rw [← strip_step E (sc + 1) hE0 (by have := Hsc.out; omega) h48]; exact hE
                  have Hk := Lib.hid hk
                  clear h48 hE
                  go_wp2
                  go_round
                  case rel => exact ⟨_, rfl, by rw [ByteArray.size_extract]; have := Hk.out; omega, by rw [ByteArray.size_extract]; omega, He⟩
                  case measure => simp only [strLen, ByteArray.size_extract]; omega
                · have hb48 : ((E[0].toNat : Int) == 48) = false := by
                    rw [beq_eq_false_iff_ne]; intro e; exact h48 (UInt8.toNat_inj.mp (by show E[0].toNat = 48; omega))
                  have He : Hid (E.data.toList = stripL (sc + 1) D.data.toList) := by
                    show _ = _
                    rw [← strip_other E (sc + 1) hE0 h48]; exact hE
                  clear h48 hE
                  go_wp2
                  exact bodyPost_ret (v := .tuple #[.agg #[.bool true, .string E, .int .i64 (0)], .bool true]) (by simp [results, Tryd.results30, go_sem]) rfl ⟨by have hy := Hyes.out; rw [← He.out] at hy; have := BodyEnd.yes (n := true) hy; rw [Hsc.out] at this; exact this, (Below.refl _ _).alloc (Nat.le_refl _) _⟩
              · have He : Hid (E.data.toList = stripL (sc + 1) D.data.toList) := by
                  show _ = _
                  rw [← strip_big E (sc + 1) hE0 (by have := Hsc.out; omega)]; exact hE
                clear hE
                go_wp2
                exact bodyPost_ret (v := .tuple #[.agg #[.bool true, .string E, .int .i64 (0)], .bool true]) (by simp [results, Tryd.results30, go_sem]) rfl ⟨by have hy := Hyes.out; rw [← He.out] at hy; have := BodyEnd.yes (n := true) hy; rw [Hsc.out] at this; exact this, (Below.refl _ _).alloc (Nat.le_refl _) _⟩
end Go.Proofs.YtnkijpjknbelfaaDoor
