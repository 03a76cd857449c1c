/-
  Law 10: a pattern as a text (by bin/gen_zyd.py).
-/
import Derived.Test.YtminidoiaplhjaaDoorZyc
namespace Go.Proofs.YtminidoiaplhjaaDoor
open Go.RowKit
set_option linter.unusedVariables false
set_option linter.unusedSimpArgs false

def hmB : List UInt8 → Bool
  | [] => false
  | c :: _ => isMarkB c
theorem cont_take (l : List UInt8) (k : Nat) (c : UInt8) (h : l[k]? = some c) : (l.take (k + 1)).contains 10 = ((l.take k).contains 10 || (c == 10)) := by
  rw [take_snoc l k c h]
  rw [Bool.eq_iff_iff]
  simp only [List.contains_iff_mem, List.mem_append, List.mem_singleton, Bool.or_eq_true, beq_iff_eq]
  exact or_congr Iff.rfl eq_comm
theorem hm_zero (l : List UInt8) (c : UInt8) (h : l[0]? = some c) : hmB (l.take (0 + 1)) = isMarkB c := by
  cases l with
  | nil => simp at h
  | cons x r => simp at h; subst h; rfl
theorem hm_succ (l : List UInt8) (k : Nat) (h0 : k ≠ 0) : hmB (l.take (k + 1)) = hmB (l.take k) := by
  cases l with
  | nil => simp
  | cons x r =>
    obtain ⟨i, rfl⟩ : ∃ i, k = i + 1 := ⟨k - 1, by omega⟩
    rfl
theorem feed10 (c : UInt8) : ((c.toNat : Int) == 10) = (c == 10) := by
  rw [Bool.eq_iff_iff, beq_iff_eq, beq_iff_eq, ← UInt8.toNat_inj]
  show (c.toNat : Int) = 10 ↔ c.toNat = 10
  omega
theorem odd_of (l : List EL) (t : ByteArray) (p : Option EX) (h : l[0]? = some (.mk t p)) : oddOf l = hmB t.data.toList := by
  cases l with
  | nil => simp at h
  | cons x r =>
    simp at h
    subst h
    show (match t.data.toList with | [] => false | c :: _ => isMarkB c) = _
    cases t.data.toList <;> rfl
theorem lg_cons (mg : List UInt8) (c : UInt8) (r : List UInt8) (h : ¬ (c = 10 ∧ r.head? ≠ some 10)) : lineG mg (c :: r) = c :: lineG mg r := by rw [lineG, if_neg h]
theorem lg_feed (mg : List UInt8) (r : List UInt8) (h : r.head? ≠ some 10) : lineG mg (10 :: r) = 10 :: (mg ++ lineG mg r) := by rw [lineG, if_pos ⟨rfl, h⟩]
theorem ext_one (t : ByteArray) (k : Nat) (h : k < t.size) : (t.extract k (k + 1)).data.toList = [t[k]] := by
  rw [Lib.extract_data]
  have : k < t.data.toList.length := by rw [size_data]; exact h
  rw [show k + 1 - k = 1 by omega, List.drop_eq_getElem_cons this]
  rfl
set_option maxHeartbeats 8000000 in
set_option maxRecDepth 100000 in
theorem lpat_law {W0 : World} {m : Nat} (hm : m ≤ 4000000) (l : List EL) (hz : sizeEs l ≤ 4000000) (hP : ∀ (j : Nat) (t : ByteArray) (e : EX), l[j]? = some (.mk t (some e)) → LpTo W0 m e) : LaTo W0 m l := by
  intro v w hv hW hn
  have hll := sizeEs_length l
  have hl0 : (l.length : Int) ≤ 4000000 := by omega
  have hm0 : (m : Int) ≤ 4000000 := by omega
  have HV := Lib.hid hv
  have HW := Lib.hid hW
  have HP := Lib.hid hP
  have HZ := Lib.hid hz
  have HN := Lib.hid hn
  have HSm := Lib.hid (fun W => lspaces m (by omega) W)
  obtain ⟨A, c, rfl, _⟩ := hv
  obtain ⟨T, hT⟩ : ∃ T, paT m l = T := ⟨_, rfl⟩
  rw [hT] at HN ⊢
  have HT := Lib.hid hT
  clear hW hP hz hn hll hT
  go_enter Tryd.func14, Tryd.ntmps14
  go_wp2
  go_loopw [5, 6, 16] (fun t5 t6 t16 wr => ∃ (j : Nat) (f o : Bool), t16 = .int .i64 j ∧ t5 = .bool f ∧ t6 = .bool o ∧ j ≤ l.length ∧ Hid (f = feedOf (l.take j)) ∧ Hid (o = (decide (0 < j) && oddOf l)) ∧ Hid (Below w.heap.size w wr)) (fun _ _ t16 _ => l.length - (intOf t16).toNat)
  case atStart => exact ⟨0, false, false, rfl, rfl, rfl, Nat.zero_le _, Lib.hid rfl, Lib.hid rfl, Lib.hid (Below.refl _ _)⟩
  case round =>
    obtain ⟨j, F, O, rfl, rfl, rfl, hj, HF, HO, HB⟩ := hrel
    have hj0 : (j : Int) ≤ 4000000 := by omega
    by_cases hlt : j < l.length
    · have d1 : decide ((j : Int) < (l.length : Int)) = true := decide_eq_true (by omega)
      have d2 : (j : Int) < (l.length : Int) := by omega
      obtain ⟨eb, eo, c', e, hb, t, p, u, hel, c0, c1, hou⟩ := el_at HV.out hlt
      cases e
      obtain ⟨pa, rfl⟩ := o_shape hou
      have hbel : Below W0.heap.size W0 wr := HW.out.trans (HB.out.mono HW.out.size)
      rw [← hbel.cell (p := ⟨eb, eo + j * 2, none⟩) hb] at c0
      rw [← hbel.cell (p := ⟨eb, eo + j * 2 + 1, none⟩) hb] at c1
      have hbw : eb < wr.heap.size := Nat.lt_of_lt_of_le hb hbel.size
      have hts := szEs_get l j t p hel
      have ht0 : t.size ≤ 4000000 := by have := HZ.out; omega
      have ht1 : (t.size : Int) ≤ 4000000 := by omega
      have HFt := Lib.hid (feed_take l j t p hel)
      have HOt : Hid (j = 0 → oddOf l = hmB t.data.toList) := fun h => by subst h; exact odd_of l t p hel
      have HBa := Lib.hid (HB.out.alloc HB.out.size (.cells #[.string t, .pointer pa] 39))
      obtain ⟨bj, hbj⟩ : ∃ b, ((j : Int) == 0) = b := ⟨_, rfl⟩
      have hbj2 : (j == 0) = bj := by rw [← hbj, Bool.eq_iff_iff, beq_iff_eq, beq_iff_eq]; omega
      have Hbj := Lib.hid hbj2
      clear hel hou hbel hts
      go_wp2
      go_loop [5, 6, 9] (fun t5 t6 t9 => ∃ (k : Nat) (f o : Bool), t9 = .int .i64 k ∧ t5 = .bool f ∧ t6 = .bool o ∧ k ≤ t.size ∧ Hid (f = (F || (t.data.toList.take k).contains 10)) ∧ Hid (o = (O || (bj && hmB (t.data.toList.take k))))) (fun _ _ t9 => t.size - (intOf t9).toNat)
      case atStart => exact ⟨0, F, O, rfl, rfl, rfl, Nat.zero_le _, Lib.hid (by simp), Lib.hid (by simp [hmB])⟩
      case round =>
        obtain ⟨k, f, o, rfl, rfl, rfl, hk, Hf, Ho⟩ := hrel
        have hk0 : (k : Int) ≤ 4000000 := by omega
        have hkn : (0 : Int) ≤ (k : Int) := by omega
        by_cases hkt : k < t.size
        · have b1 : decide ((k : Int) < (t.size : Int)) = true := decide_eq_true (by omega)
          have b2 : (k : Int) < (t.size : Int) := by omega
          have b3 : decide (k < t.size) = true := decide_eq_true hkt
          have hch : t.data.toList[k]? = some t[k] := by rw [List.getElem?_eq_getElem (by rw [size_data]; exact hkt)]; rfl
          have HCt := Lib.hid (cont_take t.data.toList k t[k] hch)
          have HH0 : Hid (k = 0 → hmB (t.data.toList.take (k + 1)) = isMarkB t[k]) := fun h => by subst h; exact hm_zero _ _ hch
          have HH1 : Hid (k ≠ 0 → hmB (t.data.toList.take (k + 1)) = hmB (t.data.toList.take k)) := fun h => hm_succ _ _ h
          have HH2 : Hid (k = 0 → hmB (t.data.toList.take k) = false) := fun h => by subst h; rfl
          obtain ⟨x, hx⟩ : ∃ x, ((t[k].toNat : Int) == 10) = x := ⟨_, rfl⟩
          have hx2 := hx
          rw [feed10] at hx2
          obtain ⟨m1, hm1⟩ : ∃ x, ((t[k].toNat : Int) == 46) = x := ⟨_, rfl⟩
          obtain ⟨m2, hm2⟩ : ∃ x, ((t[k].toNat : Int) == 42) = x := ⟨_, rfl⟩
          obtain ⟨m3, hm3⟩ : ∃ x, ((t[k].toNat : Int) == 91) = x := ⟨_, rfl⟩
          have hmk := mark_or t[k]
          rw [hm1, hm2, hm3] at hmk
          obtain ⟨bk, hbk⟩ : ∃ b, ((k : Int) == 0) = b := ⟨_, rfl⟩
          have HX2 := Lib.hid hx2
          have HMk := Lib.hid hmk
          have Hbk : Hid (bk = true → k = 0) := fun h => by rw [h, beq_iff_eq] at hbk; omega
          have Hbk2 : Hid (bk = false → k ≠ 0) := fun h => by rw [h, beq_eq_false_iff_ne] at hbk; omega
          clear hx2 hmk hch
          cases f
          · cases o
            · cases bj
              · go_wp2
                go_round
                case rel =>
                  refine ⟨k + 1, _, _, by go_num, rfl, rfl, hkt, Lib.hid ?_, Lib.hid ?_⟩
                  · have := Hf.out
                    rw [HCt.out, HX2.out, ← Bool.or_assoc, ← this]
                    simp
                  · have h1 := Ho.out
                    first
                      | (rw [HH1.out (Hbk2.out rfl), ← h1]; done)
                      | (have h0 := Hbk.out rfl; rw [HH2.out h0] at h1; rw [HH0.out h0, HMk.out]; revert h1; cases O <;> simp)
                      | (by_cases h0 : k = 0
                         · rw [HH2.out h0] at h1; rw [HH0.out h0]; revert h1; cases O <;> simp
                         · rw [HH1.out h0, ← h1])
                case measure => simp [intOf]; omega
              · cases bk
                · go_wp2
                  go_round
                  case rel =>
                    refine ⟨k + 1, _, _, by go_num, rfl, rfl, hkt, Lib.hid ?_, Lib.hid ?_⟩
                    · have := Hf.out
                      rw [HCt.out, HX2.out, ← Bool.or_assoc, ← this]
                      simp
                    · have h1 := Ho.out
                      first
                        | (rw [HH1.out (Hbk2.out rfl), ← h1]; done)
                        | (have h0 := Hbk.out rfl; rw [HH2.out h0] at h1; rw [HH0.out h0, HMk.out]; revert h1; cases O <;> simp)
                        | (by_cases h0 : k = 0
                           · rw [HH2.out h0] at h1; rw [HH0.out h0]; revert h1; cases O <;> simp
                           · rw [HH1.out h0, ← h1])
                  case measure => simp [intOf]; omega
                · cases m1
                  · cases m2
                    · cases m3
                      · go_wp2
                        go_round
                        case rel =>
                          refine ⟨k + 1, _, _, by go_num, rfl, rfl, hkt, Lib.hid ?_, Lib.hid ?_⟩
                          · have := Hf.out
                            rw [HCt.out, HX2.out, ← Bool.or_assoc, ← this]
                            simp
                          · have h1 := Ho.out
                            first
                              | (rw [HH1.out (Hbk2.out rfl), ← h1]; done)
                              | (have h0 := Hbk.out rfl; rw [HH2.out h0] at h1; rw [HH0.out h0, HMk.out]; revert h1; cases O <;> simp)
                              | (by_cases h0 : k = 0
                                 · rw [HH2.out h0] at h1; rw [HH0.out h0]; revert h1; cases O <;> simp
                                 · rw [HH1.out h0, ← h1])
                        case measure => simp [intOf]; omega
                      · go_wp2
                        go_round
                        case rel =>
                          refine ⟨k + 1, _, _, by go_num, rfl, rfl, hkt, Lib.hid ?_, Lib.hid ?_⟩
                          · have := Hf.out
                            rw [HCt.out, HX2.out, ← Bool.or_assoc, ← this]
                            simp
                          · have h1 := Ho.out
                            first
                              | (rw [HH1.out (Hbk2.out rfl), ← h1]; done)
                              | (have h0 := Hbk.out rfl; rw [HH2.out h0] at h1; rw [HH0.out h0, HMk.out]; revert h1; cases O <;> simp)
                              | (by_cases h0 : k = 0
                                 · rw [HH2.out h0] at h1; rw [HH0.out h0]; revert h1; cases O <;> simp
                                 · rw [HH1.out h0, ← h1])
                        case measure => simp [intOf]; omega
                    · go_wp2
                      go_round
                      case rel =>
                        refine ⟨k + 1, _, _, by go_num, rfl, rfl, hkt, Lib.hid ?_, Lib.hid ?_⟩
                        · have := Hf.out
                          rw [HCt.out, HX2.out, ← Bool.or_assoc, ← this]
                          simp
                        · have h1 := Ho.out
                          first
                            | (rw [HH1.out (Hbk2.out rfl), ← h1]; done)
                            | (have h0 := Hbk.out rfl; rw [HH2.out h0] at h1; rw [HH0.out h0, HMk.out]; revert h1; cases O <;> simp)
                            | (by_cases h0 : k = 0
                               · rw [HH2.out h0] at h1; rw [HH0.out h0]; revert h1; cases O <;> simp
                               · rw [HH1.out h0, ← h1])
                      case measure => simp [intOf]; omega
                  · go_wp2
                    go_round
                    case rel =>
                      refine ⟨k + 1, _, _, by go_num, rfl, rfl, hkt, Lib.hid ?_, Lib.hid ?_⟩
                      · have := Hf.out
                        rw [HCt.out, HX2.out, ← Bool.or_assoc, ← this]
                        simp
                      · have h1 := Ho.out
                        first
                          | (rw [HH1.out (Hbk2.out rfl), ← h1]; done)
                          | (have h0 := Hbk.out rfl; rw [HH2.out h0] at h1; rw [HH0.out h0, HMk.out]; revert h1; cases O <;> simp)
                          | (by_cases h0 : k = 0
                             · rw [HH2.out h0] at h1; rw [HH0.out h0]; revert h1; cases O <;> simp
                             · rw [HH1.out h0, ← h1])
                    case measure => simp [intOf]; omega
            · go_wp2
              go_round
              case rel =>
                refine ⟨k + 1, _, _, by go_num, rfl, rfl, hkt, Lib.hid ?_, Lib.hid ?_⟩
                · have := Hf.out
                  rw [HCt.out, HX2.out, ← Bool.or_assoc, ← this]
                  simp
                · have h1 := Ho.out
                  first
                    | (rw [HH1.out (Hbk2.out rfl), ← h1]; done)
                    | (have h0 := Hbk.out rfl; rw [HH2.out h0] at h1; rw [HH0.out h0, HMk.out]; revert h1; cases O <;> simp)
                    | (by_cases h0 : k = 0
                       · rw [HH2.out h0] at h1; rw [HH0.out h0]; revert h1; cases O <;> simp
                       · rw [HH1.out h0, ← h1])
              case measure => simp [intOf]; omega
          · cases o
            · cases bj
              · go_wp2
                go_round
                case rel =>
                  refine ⟨k + 1, _, _, by go_num, rfl, rfl, hkt, Lib.hid ?_, Lib.hid ?_⟩
                  · have := Hf.out
                    rw [HCt.out, HX2.out, ← Bool.or_assoc, ← this]
                    simp
                  · have h1 := Ho.out
                    first
                      | (rw [HH1.out (Hbk2.out rfl), ← h1]; done)
                      | (have h0 := Hbk.out rfl; rw [HH2.out h0] at h1; rw [HH0.out h0, HMk.out]; revert h1; cases O <;> simp)
                      | (by_cases h0 : k = 0
                         · rw [HH2.out h0] at h1; rw [HH0.out h0]; revert h1; cases O <;> simp
                         · rw [HH1.out h0, ← h1])
                case measure => simp [intOf]; omega
              · cases bk
                · go_wp2
                  go_round
                  case rel =>
                    refine ⟨k + 1, _, _, by go_num, rfl, rfl, hkt, Lib.hid ?_, Lib.hid ?_⟩
                    · have := Hf.out
                      rw [HCt.out, HX2.out, ← Bool.or_assoc, ← this]
                      simp
                    · have h1 := Ho.out
                      first
                        | (rw [HH1.out (Hbk2.out rfl), ← h1]; done)
                        | (have h0 := Hbk.out rfl; rw [HH2.out h0] at h1; rw [HH0.out h0, HMk.out]; revert h1; cases O <;> simp)
                        | (by_cases h0 : k = 0
                           · rw [HH2.out h0] at h1; rw [HH0.out h0]; revert h1; cases O <;> simp
                           · rw [HH1.out h0, ← h1])
                  case measure => simp [intOf]; omega
                · cases m1
                  · cases m2
                    · cases m3
                      · go_wp2
                        go_round
                        case rel =>
                          refine ⟨k + 1, _, _, by go_num, rfl, rfl, hkt, Lib.hid ?_, Lib.hid ?_⟩
                          · have := Hf.out
                            rw [HCt.out, HX2.out, ← Bool.or_assoc, ← this]
                            simp
                          · have h1 := Ho.out
                            first
                              | (rw [HH1.out (Hbk2.out rfl), ← h1]; done)
                              | (have h0 := Hbk.out rfl; rw [HH2.out h0] at h1; rw [HH0.out h0, HMk.out]; revert h1; cases O <;> simp)
                              | (by_cases h0 : k = 0
                                 · rw [HH2.out h0] at h1; rw [HH0.out h0]; revert h1; cases O <;> simp
                                 · rw [HH1.out h0, ← h1])
                        case measure => simp [intOf]; omega
                      · go_wp2
                        go_round
                        case rel =>
                          refine ⟨k + 1, _, _, by go_num, rfl, rfl, hkt, Lib.hid ?_, Lib.hid ?_⟩
                          · have := Hf.out
                            rw [HCt.out, HX2.out, ← Bool.or_assoc, ← this]
                            simp
                          · have h1 := Ho.out
                            first
                              | (rw [HH1.out (Hbk2.out rfl), ← h1]; done)
                              | (have h0 := Hbk.out rfl; rw [HH2.out h0] at h1; rw [HH0.out h0, HMk.out]; revert h1; cases O <;> simp)
                              | (by_cases h0 : k = 0
                                 · rw [HH2.out h0] at h1; rw [HH0.out h0]; revert h1; cases O <;> simp
                                 · rw [HH1.out h0, ← h1])
                        case measure => simp [intOf]; omega
                    · go_wp2
                      go_round
                      case rel =>
                        refine ⟨k + 1, _, _, by go_num, rfl, rfl, hkt, Lib.hid ?_, Lib.hid ?_⟩
                        · have := Hf.out
                          rw [HCt.out, HX2.out, ← Bool.or_assoc, ← this]
                          simp
                        · have h1 := Ho.out
                          first
                            | (rw [HH1.out (Hbk2.out rfl), ← h1]; done)
                            | (have h0 := Hbk.out rfl; rw [HH2.out h0] at h1; rw [HH0.out h0, HMk.out]; revert h1; cases O <;> simp)
                            | (by_cases h0 : k = 0
                               · rw [HH2.out h0] at h1; rw [HH0.out h0]; revert h1; cases O <;> simp
                               · rw [HH1.out h0, ← h1])
                      case measure => simp [intOf]; omega
                  · go_wp2
                    go_round
                    case rel =>
                      refine ⟨k + 1, _, _, by go_num, rfl, rfl, hkt, Lib.hid ?_, Lib.hid ?_⟩
                      · have := Hf.out
                        rw [HCt.out, HX2.out, ← Bool.or_assoc, ← this]
                        simp
                      · have h1 := Ho.out
                        first
                          | (rw [HH1.out (Hbk2.out rfl), ← h1]; done)
                          | (have h0 := Hbk.out rfl; rw [HH2.out h0] at h1; rw [HH0.out h0, HMk.out]; revert h1; cases O <;> simp)
                          | (by_cases h0 : k = 0
                             · rw [HH2.out h0] at h1; rw [HH0.out h0]; revert h1; cases O <;> simp
                             · rw [HH1.out h0, ← h1])
                    case measure => simp [intOf]; omega
            · go_wp2
              go_round
              case rel =>
                refine ⟨k + 1, _, _, by go_num, rfl, rfl, hkt, Lib.hid ?_, Lib.hid ?_⟩
                · have := Hf.out
                  rw [HCt.out, HX2.out, ← Bool.or_assoc, ← this]
                  simp
                · have h1 := Ho.out
                  first
                    | (rw [HH1.out (Hbk2.out rfl), ← h1]; done)
                    | (have h0 := Hbk.out rfl; rw [HH2.out h0] at h1; rw [HH0.out h0, HMk.out]; revert h1; cases O <;> simp)
                    | (by_cases h0 : k = 0
                       · rw [HH2.out h0] at h1; rw [HH0.out h0]; revert h1; cases O <;> simp
                       · rw [HH1.out h0, ← h1])
              case measure => simp [intOf]; omega
        · obtain rfl : k = t.size := by omega
          have b1 : decide ((t.size : Int) < (t.size : Int)) = false := decide_eq_false (by omega)
          have hf := Hf.out
          have ho := Ho.out
          rw [List.take_of_length_le (by rw [size_data]; exact Nat.le_refl _)] at hf ho
          have HF2 := Lib.hid (show f = feedOf (l.take (j + 1)) by rw [hf, HFt.out, HF.out])
          have HO2 := Lib.hid (show o = (decide (0 < j + 1) && oddOf l) by
            rw [ho, HO.out, decide_eq_true (by omega : 0 < j + 1), Bool.true_and]
            by_cases h : j = 0
            · have : bj = true := by rw [← Hbj.out, beq_iff_eq]; exact h
              rw [this, ← HOt.out h]
              simp [h]
            · have : bj = false := by rw [← Hbj.out, beq_eq_false_iff_ne]; exact h
              rw [this, decide_eq_true (by omega : 0 < j)]
              simp)
          clear hf ho
          go_wp2
          go_roundw
          case rel => exact ⟨j + 1, f, o, by go_num, rfl, rfl, hlt, HF2, HO2, HBa⟩
          case measure => simp [intOf]; omega
    · obtain rfl : j = l.length := by omega
      have d1 : decide ((l.length : Int) < (l.length : Int)) = false := decide_eq_false (by omega)
      have hf := HF.out
      have ho := HO.out
      rw [List.take_of_length_le (Nat.le_refl _)] at hf
      have ho2 : (F && !O) = (feedOf l && !oddOf l) := by
        rw [ho, hf]
        cases hq : feedOf l
        · rfl
        · have : 0 < l.length := by
            cases l with
            | nil => cases hq
            | cons x r => simp
          rw [decide_eq_true this]; simp
      have HHd : Hid (T = (if (F && !O) = true then 10 :: sps m else [32]) ++ esT m l) := by unfold Hid; rw [← HT.out, paT, headG, ho2]
      clear hf ho ho2 HF HO HT
      cases F
      · rw [Bool.false_and, if_neg (by simp)] at HHd
        go_wp2
        go_loopw [10, 77] (fun t10 t77 wr => ∃ (j : Nat) (S : ByteArray), t77 = .int .i64 j ∧ t10 = .string S ∧ j ≤ l.length ∧ Hid (S.data.toList = [32] ++ esT m (l.take j)) ∧ Hid (Below w.heap.size w wr)) (fun _ t77 _ => l.length - (intOf t77).toNat)
        case atStart => exact ⟨0, _, rfl, rfl, Nat.zero_le _, Lib.hid (by rw [List.take_zero, esT]; simp [mgB_data]), HB⟩
        case round =>
          clear HB
          obtain ⟨j, S, rfl, rfl, hj, HS, HB⟩ := hrel
          have hj0 : (j : Int) ≤ 4000000 := by omega
          have hNN := HN.out
          rw [HHd.out, List.length_append] at hNN
          have hsz : S.size = ([32] : List UInt8).length + (esT m (l.take j)).length := by rw [← size_data, HS.out, List.length_append]
          by_cases hlt : j < l.length
          · have d1 : decide ((j : Int) < (l.length : Int)) = true := decide_eq_true (by omega)
            have d2 : (j : Int) < (l.length : Int) := by omega
            obtain ⟨eb, eo, c', e, hb, t, p, u, hel, c0, c1, hou⟩ := el_at HV.out hlt
            cases e
            have hbel : Below W0.heap.size W0 wr := HW.out.trans (HB.out.mono HW.out.size)
            rw [← hbel.cell (p := ⟨eb, eo + j * 2, none⟩) hb] at c0
            rw [← hbel.cell (p := ⟨eb, eo + j * 2 + 1, none⟩) hb] at c1
            have hbw : eb < wr.heap.size := Nat.lt_of_lt_of_le hb hbel.size
            have hts := szEs_get l j t p hel
            have htk := esT_take m l j _ hel
            have hle := esT_take_le m l (j + 1)
            rw [htk, List.length_append] at hle
            cases p with
            | some e =>
              simp only [OAt] at hou
              obtain ⟨q', o', c'', rfl, hq', hc', hx'⟩ := hou
              rw [elT] at htk hle
              have hcc := HP.out j t e hel c'' (wr.alloc (.cells #[.string t, .pointer (some ⟨q', o', none⟩)] 39)) hx' (hbel.alloc hbel.size _) (by omega)
              obtain ⟨Q, hQ⟩ : ∃ Q, plT m e = Q := ⟨_, rfl⟩
              rw [hQ] at hcc htk hle
              have hQs := size_mk Q
              have g1 : ¬ 9223372036854775807 < S.size + (⟨Q.toArray⟩ : ByteArray).size := by omega
              have g2 : ¬ 9223372036854775807 < S.size + Q.length := by omega
              obtain ⟨x0, x1, x2, x3, x4, x5, x6⟩ := hc'.under hq' (hbel.alloc hbel.size (.cells #[.string t, .pointer (some ⟨q', o', none⟩)] 39))
              have hlq : q' < (wr.alloc (.cells #[.string t, .pointer (some ⟨q', o', none⟩)] 39)).heap.size := Nat.lt_of_lt_of_le hq' (hbel.alloc hbel.size _).size
              have hsh := ex_shape hx'
              obtain ⟨k2, t2, n3, a2, B1, m1, q1, p2, B2, m2, q2, rfl⟩ := hsh
              dsimp only at x0 x1 x2 x3 x4 x5 x6 hcc
              have HC := Lib.hid hcc
              have HTk := Lib.hid htk
              clear hcc hel htk hle hts hbel hNN hsz hQs hc' hx' hQ
              go_wp2_with fail
              go_at_call 23
              refine HC.out.mono ?_
              rintro x w3 ⟨rfl, hb3⟩
              have HB3 := Lib.hid (HB.out.trans ((below_box hb3).mono HB.out.size))
              clear hb3
              go_wp2
              go_roundw
              case rel =>
                refine ⟨j + 1, _, by go_num, rfl, hlt, Lib.hid ?_, HB3⟩
                rw [HTk.out, ← List.append_assoc, ← HS.out]
                simp
              case measure => simp [intOf]; omega
            | none =>
              simp only [OAt] at hou
              subst hou
              rw [elT] at htk hle
              have ht0 : t.size ≤ 4000000 := by have := HZ.out; omega
              have ht1 : (t.size : Int) ≤ 4000000 := by omega
              have HTk := Lib.hid htk
              have HL := Lib.hid (show S.size + (lineG (sps m) t.data.toList).length ≤ 140737488355328 by omega)
              have HBa := Lib.hid (HB.out.alloc HB.out.size (.cells #[.string t, .pointer none] 39))
              clear hel htk hle hts hbel hNN hsz
              go_wp2
              go_loop [10, 13] (fun t10 t13 => ∃ (k : Nat) (Z : ByteArray) (D : List UInt8), t13 = .int .i64 k ∧ t10 = .string Z ∧ k ≤ t.size ∧ Hid (Z.data.toList = S.data.toList ++ D) ∧ Hid (D ++ lineG (sps m) (t.data.toList.drop k) = lineG (sps m) t.data.toList)) (fun _ t13 => t.size - (intOf t13).toNat)
              case atStart => exact ⟨0, S, [], rfl, rfl, Nat.zero_le _, Lib.hid (by simp), Lib.hid (by simp)⟩
              case round =>
                obtain ⟨k, Z, D, rfl, rfl, hk, HZ2, HD⟩ := hrel
                have hk0 : (k : Int) ≤ 4000000 := by omega
                have hkn : (0 : Int) ≤ (k : Int) := by omega
                by_cases hkt : k < t.size
                · have b1 : decide ((k : Int) < (t.size : Int)) = true := decide_eq_true (by omega)
                  have b2 : (k : Int) < (t.size : Int) := by omega
                  have b3 : decide (k < t.size) = true := decide_eq_true hkt
                  have b4 : (k : Int) + 1 ≤ (t.size : Int) := by omega
                  have hch : t.data.toList[k]? = some t[k] := by rw [List.getElem?_eq_getElem (by rw [size_data]; exact hkt)]; rfl
                  have hdr := drop_cons t.data.toList k _ hch
                  have hD := HD.out
                  rw [hdr] at hD
                  have hDl := congrArg List.length hD
                  rw [List.length_append] at hDl
                  have hLL := HL.out
                  have hZs : Z.size = S.size + D.length := by rw [← size_data, HZ2.out, List.length_append, size_data]
                  have hxt := ext_one t k hkt
                  have hxs : (t.extract k (k + 1)).size = 1 := by rw [← size_data, hxt]; rfl
                  have HXt := Lib.hid hxt
                  by_cases hc : t[k] = 10
                  · have x1 : ((t[k].toNat : Int) == 10) = true := by rw [feed10, hc]; rfl
                    have hkey : (t.data.toList.drop (k + 1)).head? = (if h : k + 1 < t.size then some t[k + 1] else none) := by
                      by_cases h : k + 1 < t.size
                      · rw [dif_pos h, List.head?_drop, List.getElem?_eq_getElem (by rw [size_data]; exact h)]; rfl
                      · rw [dif_neg h, List.drop_eq_nil_of_le (by rw [size_data]; omega)]; rfl
                    by_cases hlast : k + 1 = t.size
                    · have y1 : ((k : Int) == (t.size : Int) - 1) = true := by rw [beq_iff_eq]; omega
                      have y2 : (k : Int) = (t.size : Int) - 1 := by omega
                      rw [dif_neg (by omega)] at hkey
                      rw [hc, lg_feed _ _ (by rw [hkey]; simp)] at hD hDl
                      simp only [List.length_cons, List.length_append, mgB_size] at hDl
                      have hsl : (sps m).length = m := by simp [sps]
                      have hmz := mgB_size m
                      have g1 : ¬ 9223372036854775807 < Z.size + (t.extract k (k + 1)).size := by omega
                      have g2 : ¬ 9223372036854775807 < Z.size + 1 := by omega
                      have g3 : ¬ 9223372036854775807 < Z.size + (t.extract k (k + 1)).size + (mgB m).size := by omega
                      have g4 : ¬ 9223372036854775807 < Z.size + 1 + (mgB m).size := by omega
                      have HD2 := Lib.hid hD
                      have Hc := Lib.hid hc
                      have Y2 := Lib.hid y2
                      clear hD hDl hdr hch hLL hZs hxt hc hsl hmz hkey y2 hlast
                      go_wp2_with fail
                      go_at_call 22
                      refine (HSm.out _).mono ?_
                      rintro x w3 ⟨rfl, rfl⟩
                      go_wp2
                      go_round
                      case rel =>
                        refine ⟨k + 1, _, D ++ (10 :: sps m), by go_num, rfl, hkt, Lib.hid ?_, Lib.hid ?_⟩
                        · simp only [ByteArray.data_append, Array.toList_append, HZ2.out, HXt.out, Hc.out, mgB_data, List.append_assoc, List.cons_append, List.nil_append]
                        · rw [← HD2.out]; simp
                      case measure => simp [intOf]; omega
                    · have h1t : k + 1 < t.size := by omega
                      have y1 : ((k : Int) == (t.size : Int) - 1) = false := by rw [beq_eq_false_iff_ne]; omega
                      have y2 : ¬ (k : Int) = (t.size : Int) - 1 := by omega
                      have y3 : (k : Int) + 1 < (t.size : Int) := by omega
                      have y4 : decide ((k : Int) + 1 < (t.size : Int)) = true := decide_eq_true y3
                      have y5 : decide (k + 1 < t.size) = true := decide_eq_true h1t
                      rw [dif_pos h1t] at hkey
                      by_cases hnx : t[k + 1] = 10
                      · have x2 : ((t[k + 1].toNat : Int) != 10) = false := by rw [bne_eq_false_iff_eq, hnx]; rfl
                        rw [hc, lg_cons _ _ _ (by rw [hkey, hnx]; simp)] at hD hDl
                        simp only [List.length_cons] at hDl
                        have g1 : ¬ 9223372036854775807 < Z.size + (t.extract k (k + 1)).size := by omega
                        have g2 : ¬ 9223372036854775807 < Z.size + 1 := by omega
                        have HD2 := Lib.hid hD
                        have Hc := Lib.hid hc
                        clear hD hDl hdr hch hLL hZs hxt hc hkey hnx hlast
                        go_wp2
                        go_round
                        case rel =>
                          refine ⟨k + 1, _, D ++ [10], by go_num, rfl, hkt, Lib.hid ?_, Lib.hid ?_⟩
                          · simp only [ByteArray.data_append, Array.toList_append, HZ2.out, HXt.out, Hc.out, List.append_assoc, List.cons_append, List.nil_append]
                          · rw [← HD2.out]; simp
                        case measure => simp [intOf]; omega
                      · have x2 : ((t[k + 1].toNat : Int) != 10) = true := by
                          rw [bne_iff_ne]
                          intro h
                          exact hnx (UInt8.toNat_inj.1 (show t[k + 1].toNat = 10 by omega))
                        rw [hc, lg_feed _ _ (by rw [hkey]; intro h; exact hnx (Option.some.inj h))] at hD hDl
                        simp only [List.length_cons, List.length_append] at hDl
                        have hsl : (sps m).length = m := by simp [sps]
                        have hmz := mgB_size m
                        have g1 : ¬ 9223372036854775807 < Z.size + (t.extract k (k + 1)).size := by omega
                        have g2 : ¬ 9223372036854775807 < Z.size + 1 := by omega
                        have g3 : ¬ 9223372036854775807 < Z.size + (t.extract k (k + 1)).size + (mgB m).size := by omega
                        have g4 : ¬ 9223372036854775807 < Z.size + 1 + (mgB m).size := by omega
                        have HD2 := Lib.hid hD
                        have Hc := Lib.hid hc
                        clear hD hDl hdr hch hLL hZs hxt hc hsl hmz hkey hnx hlast
                        go_wp2_with fail
                        go_at_call 22
                        refine (HSm.out _).mono ?_
                        rintro x w3 ⟨rfl, rfl⟩
                        go_wp2
                        go_round
                        case rel =>
                          refine ⟨k + 1, _, D ++ (10 :: sps m), by go_num, rfl, hkt, Lib.hid ?_, Lib.hid ?_⟩
                          · simp only [ByteArray.data_append, Array.toList_append, HZ2.out, HXt.out, Hc.out, mgB_data, List.append_assoc, List.cons_append, List.nil_append]
                          · rw [← HD2.out]; simp
                        case measure => simp [intOf]; omega
                  · have x1 : ((t[k].toNat : Int) == 10) = false := by rw [feed10, beq_eq_false_iff_ne]; exact hc
                    rw [lg_cons _ _ _ (fun h => hc h.1)] at hD hDl
                    simp only [List.length_cons] at hDl
                    have g1 : ¬ 9223372036854775807 < Z.size + (t.extract k (k + 1)).size := by omega
                    have g2 : ¬ 9223372036854775807 < Z.size + 1 := by omega
                    have HD2 := Lib.hid hD
                    clear hD hDl hdr hch hLL hZs hxt hc
                    go_wp2
                    go_round
                    case rel =>
                      refine ⟨k + 1, _, D ++ [t[k]], by go_num, rfl, hkt, Lib.hid ?_, Lib.hid ?_⟩
                      · simp only [ByteArray.data_append, Array.toList_append, HZ2.out, HXt.out, List.append_assoc, List.cons_append, List.nil_append]
                      · rw [← HD2.out]; simp
                    case measure => simp [intOf]; omega
                · obtain rfl : k = t.size := by omega
                  have b1 : decide ((t.size : Int) < (t.size : Int)) = false := decide_eq_false (by omega)
                  have hD := HD.out
                  rw [List.drop_eq_nil_of_le (by rw [size_data]; exact Nat.le_refl _), lineG, List.append_nil] at hD
                  have HD2 := Lib.hid hD
                  clear hD
                  go_wp2
                  go_roundw
                  case rel =>
                    refine ⟨j + 1, Z, by go_num, rfl, hlt, Lib.hid ?_, HBa⟩
                    rw [HZ2.out, HS.out, HTk.out, HD2.out, List.append_assoc]
                  case measure => simp [intOf]; omega
          · obtain rfl : j = l.length := by omega
            have d1 : decide ((l.length : Int) < (l.length : Int)) = false := decide_eq_false (by omega)
            have hS := HS.out
            rw [List.take_of_length_le (Nat.le_refl _)] at hS
            have HS2 := Lib.hid (show S.data.toList = T by rw [hS, HHd.out])
            clear hS hNN hsz
            go_wp2
            go_ret
            exact ⟨ret_str (by apply bytes_eq; exact HS2.out), HB.out⟩
      · cases O
        · rw [Bool.not_false, Bool.and_self, if_pos rfl] at HHd
          have hmz := mgB_size m
          have g0 : ¬ 9223372036854775807 < 1 + (mgB m).size := by omega
          clear hmz
          go_wp2_with fail
          go_at_call 22
          refine (HSm.out _).mono ?_
          rintro x w3 ⟨rfl, rfl⟩
          go_wp2
          go_loopw [10, 77] (fun t10 t77 wr => ∃ (j : Nat) (S : ByteArray), t77 = .int .i64 j ∧ t10 = .string S ∧ j ≤ l.length ∧ Hid (S.data.toList = (10 :: sps m) ++ esT m (l.take j)) ∧ Hid (Below w.heap.size w wr)) (fun _ t77 _ => l.length - (intOf t77).toNat)
          case atStart => exact ⟨0, _, rfl, rfl, Nat.zero_le _, Lib.hid (by rw [List.take_zero, esT]; simp [mgB_data]), HB⟩
          case round =>
            clear HB
            obtain ⟨j, S, rfl, rfl, hj, HS, HB⟩ := hrel
            have hj0 : (j : Int) ≤ 4000000 := by omega
            have hNN := HN.out
            rw [HHd.out, List.length_append] at hNN
            have hsz : S.size = ((10 :: sps m) : List UInt8).length + (esT m (l.take j)).length := by rw [← size_data, HS.out, List.length_append]
            by_cases hlt : j < l.length
            · have d1 : decide ((j : Int) < (l.length : Int)) = true := decide_eq_true (by omega)
              have d2 : (j : Int) < (l.length : Int) := by omega
              obtain ⟨eb, eo, c', e, hb, t, p, u, hel, c0, c1, hou⟩ := el_at HV.out hlt
              cases e
              have hbel : Below W0.heap.size W0 wr := HW.out.trans (HB.out.mono HW.out.size)
              rw [← hbel.cell (p := ⟨eb, eo + j * 2, none⟩) hb] at c0
              rw [← hbel.cell (p := ⟨eb, eo + j * 2 + 1, none⟩) hb] at c1
              have hbw : eb < wr.heap.size := Nat.lt_of_lt_of_le hb hbel.size
              have hts := szEs_get l j t p hel
              have htk := esT_take m l j _ hel
              have hle := esT_take_le m l (j + 1)
              rw [htk, List.length_append] at hle
              cases p with
              | some e =>
                simp only [OAt] at hou
                obtain ⟨q', o', c'', rfl, hq', hc', hx'⟩ := hou
                rw [elT] at htk hle
                have hcc := HP.out j t e hel c'' (wr.alloc (.cells #[.string t, .pointer (some ⟨q', o', none⟩)] 39)) hx' (hbel.alloc hbel.size _) (by omega)
                obtain ⟨Q, hQ⟩ : ∃ Q, plT m e = Q := ⟨_, rfl⟩
                rw [hQ] at hcc htk hle
                have hQs := size_mk Q
                have g1 : ¬ 9223372036854775807 < S.size + (⟨Q.toArray⟩ : ByteArray).size := by omega
                have g2 : ¬ 9223372036854775807 < S.size + Q.length := by omega
                obtain ⟨x0, x1, x2, x3, x4, x5, x6⟩ := hc'.under hq' (hbel.alloc hbel.size (.cells #[.string t, .pointer (some ⟨q', o', none⟩)] 39))
                have hlq : q' < (wr.alloc (.cells #[.string t, .pointer (some ⟨q', o', none⟩)] 39)).heap.size := Nat.lt_of_lt_of_le hq' (hbel.alloc hbel.size _).size
                have hsh := ex_shape hx'
                obtain ⟨k2, t2, n3, a2, B1, m1, q1, p2, B2, m2, q2, rfl⟩ := hsh
                dsimp only at x0 x1 x2 x3 x4 x5 x6 hcc
                have HC := Lib.hid hcc
                have HTk := Lib.hid htk
                clear hcc hel htk hle hts hbel hNN hsz hQs hc' hx' hQ
                go_wp2_with fail
                go_at_call 23
                refine HC.out.mono ?_
                rintro x w3 ⟨rfl, hb3⟩
                have HB3 := Lib.hid (HB.out.trans ((below_box hb3).mono HB.out.size))
                clear hb3
                go_wp2
                go_roundw
                case rel =>
                  refine ⟨j + 1, _, by go_num, rfl, hlt, Lib.hid ?_, HB3⟩
                  rw [HTk.out, ← List.append_assoc, ← HS.out]
                  simp
                case measure => simp [intOf]; omega
              | none =>
                simp only [OAt] at hou
                subst hou
                rw [elT] at htk hle
                have ht0 : t.size ≤ 4000000 := by have := HZ.out; omega
                have ht1 : (t.size : Int) ≤ 4000000 := by omega
                have HTk := Lib.hid htk
                have HL := Lib.hid (show S.size + (lineG (sps m) t.data.toList).length ≤ 140737488355328 by omega)
                have HBa := Lib.hid (HB.out.alloc HB.out.size (.cells #[.string t, .pointer none] 39))
                clear hel htk hle hts hbel hNN hsz
                go_wp2
                go_loop [10, 13] (fun t10 t13 => ∃ (k : Nat) (Z : ByteArray) (D : List UInt8), t13 = .int .i64 k ∧ t10 = .string Z ∧ k ≤ t.size ∧ Hid (Z.data.toList = S.data.toList ++ D) ∧ Hid (D ++ lineG (sps m) (t.data.toList.drop k) = lineG (sps m) t.data.toList)) (fun _ t13 => t.size - (intOf t13).toNat)
                case atStart => exact ⟨0, S, [], rfl, rfl, Nat.zero_le _, Lib.hid (by simp), Lib.hid (by simp)⟩
                case round =>
                  obtain ⟨k, Z, D, rfl, rfl, hk, HZ2, HD⟩ := hrel
                  have hk0 : (k : Int) ≤ 4000000 := by omega
                  have hkn : (0 : Int) ≤ (k : Int) := by omega
                  by_cases hkt : k < t.size
                  · have b1 : decide ((k : Int) < (t.size : Int)) = true := decide_eq_true (by omega)
                    have b2 : (k : Int) < (t.size : Int) := by omega
                    have b3 : decide (k < t.size) = true := decide_eq_true hkt
                    have b4 : (k : Int) + 1 ≤ (t.size : Int) := by omega
                    have hch : t.data.toList[k]? = some t[k] := by rw [List.getElem?_eq_getElem (by rw [size_data]; exact hkt)]; rfl
                    have hdr := drop_cons t.data.toList k _ hch
                    have hD := HD.out
                    rw [hdr] at hD
                    have hDl := congrArg List.length hD
                    rw [List.length_append] at hDl
                    have hLL := HL.out
                    have hZs : Z.size = S.size + D.length := by rw [← size_data, HZ2.out, List.length_append, size_data]
                    have hxt := ext_one t k hkt
                    have hxs : (t.extract k (k + 1)).size = 1 := by rw [← size_data, hxt]; rfl
                    have HXt := Lib.hid hxt
                    by_cases hc : t[k] = 10
                    · have x1 : ((t[k].toNat : Int) == 10) = true := by rw [feed10, hc]; rfl
                      have hkey : (t.data.toList.drop (k + 1)).head? = (if h : k + 1 < t.size then some t[k + 1] else none) := by
                        by_cases h : k + 1 < t.size
                        · rw [dif_pos h, List.head?_drop, List.getElem?_eq_getElem (by rw [size_data]; exact h)]; rfl
                        · rw [dif_neg h, List.drop_eq_nil_of_le (by rw [size_data]; omega)]; rfl
                      by_cases hlast : k + 1 = t.size
                      · have y1 : ((k : Int) == (t.size : Int) - 1) = true := by rw [beq_iff_eq]; omega
                        have y2 : (k : Int) = (t.size : Int) - 1 := by omega
                        rw [dif_neg (by omega)] at hkey
                        rw [hc, lg_feed _ _ (by rw [hkey]; simp)] at hD hDl
                        simp only [List.length_cons, List.length_append, mgB_size] at hDl
                        have hsl : (sps m).length = m := by simp [sps]
                        have hmz := mgB_size m
                        have g1 : ¬ 9223372036854775807 < Z.size + (t.extract k (k + 1)).size := by omega
                        have g2 : ¬ 9223372036854775807 < Z.size + 1 := by omega
                        have g3 : ¬ 9223372036854775807 < Z.size + (t.extract k (k + 1)).size + (mgB m).size := by omega
                        have g4 : ¬ 9223372036854775807 < Z.size + 1 + (mgB m).size := by omega
                        have HD2 := Lib.hid hD
                        have Hc := Lib.hid hc
                        have Y2 := Lib.hid y2
                        clear hD hDl hdr hch hLL hZs hxt hc hsl hmz hkey y2 hlast
                        go_wp2_with fail
                        go_at_call 22
                        refine (HSm.out _).mono ?_
                        rintro x w3 ⟨rfl, rfl⟩
                        go_wp2
                        go_round
                        case rel =>
                          refine ⟨k + 1, _, D ++ (10 :: sps m), by go_num, rfl, hkt, Lib.hid ?_, Lib.hid ?_⟩
                          · simp only [ByteArray.data_append, Array.toList_append, HZ2.out, HXt.out, Hc.out, mgB_data, List.append_assoc, List.cons_append, List.nil_append]
                          · rw [← HD2.out]; simp
                        case measure => simp [intOf]; omega
                      · have h1t : k + 1 < t.size := by omega
                        have y1 : ((k : Int) == (t.size : Int) - 1) = false := by rw [beq_eq_false_iff_ne]; omega
                        have y2 : ¬ (k : Int) = (t.size : Int) - 1 := by omega
                        have y3 : (k : Int) + 1 < (t.size : Int) := by omega
                        have y4 : decide ((k : Int) + 1 < (t.size : Int)) = true := decide_eq_true y3
                        have y5 : decide (k + 1 < t.size) = true := decide_eq_true h1t
                        rw [dif_pos h1t] at hkey
                        by_cases hnx : t[k + 1] = 10
                        · have x2 : ((t[k + 1].toNat : Int) != 10) = false := by rw [bne_eq_false_iff_eq, hnx]; rfl
                          rw [hc, lg_cons _ _ _ (by rw [hkey, hnx]; simp)] at hD hDl
                          simp only [List.length_cons] at hDl
                          have g1 : ¬ 9223372036854775807 < Z.size + (t.extract k (k + 1)).size := by omega
                          have g2 : ¬ 9223372036854775807 < Z.size + 1 := by omega
                          have HD2 := Lib.hid hD
                          have Hc := Lib.hid hc
                          clear hD hDl hdr hch hLL hZs hxt hc hkey hnx hlast
                          go_wp2
                          go_round
                          case rel =>
                            refine ⟨k + 1, _, D ++ [10], by go_num, rfl, hkt, Lib.hid ?_, Lib.hid ?_⟩
                            · simp only [ByteArray.data_append, Array.toList_append, HZ2.out, HXt.out, Hc.out, List.append_assoc, List.cons_append, List.nil_append]
                            · rw [← HD2.out]; simp
                          case measure => simp [intOf]; omega
                        · have x2 : ((t[k + 1].toNat : Int) != 10) = true := by
                            rw [bne_iff_ne]
                            intro h
                            exact hnx (UInt8.toNat_inj.1 (show t[k + 1].toNat = 10 by omega))
                          rw [hc, lg_feed _ _ (by rw [hkey]; intro h; exact hnx (Option.some.inj h))] at hD hDl
                          simp only [List.length_cons, List.length_append] at hDl
                          have hsl : (sps m).length = m := by simp [sps]
                          have hmz := mgB_size m
                          have g1 : ¬ 9223372036854775807 < Z.size + (t.extract k (k + 1)).size := by omega
                          have g2 : ¬ 9223372036854775807 < Z.size + 1 := by omega
                          have g3 : ¬ 9223372036854775807 < Z.size + (t.extract k (k + 1)).size + (mgB m).size := by omega
                          have g4 : ¬ 9223372036854775807 < Z.size + 1 + (mgB m).size := by omega
                          have HD2 := Lib.hid hD
                          have Hc := Lib.hid hc
                          clear hD hDl hdr hch hLL hZs hxt hc hsl hmz hkey hnx hlast
                          go_wp2_with fail
                          go_at_call 22
                          refine (HSm.out _).mono ?_
                          rintro x w3 ⟨rfl, rfl⟩
                          go_wp2
                          go_round
                          case rel =>
                            refine ⟨k + 1, _, D ++ (10 :: sps m), by go_num, rfl, hkt, Lib.hid ?_, Lib.hid ?_⟩
                            · simp only [ByteArray.data_append, Array.toList_append, HZ2.out, HXt.out, Hc.out, mgB_data, List.append_assoc, List.cons_append, List.nil_append]
                            · rw [← HD2.out]; simp
                          case measure => simp [intOf]; omega
                    · have x1 : ((t[k].toNat : Int) == 10) = false := by rw [feed10, beq_eq_false_iff_ne]; exact hc
                      rw [lg_cons _ _ _ (fun h => hc h.1)] at hD hDl
                      simp only [List.length_cons] at hDl
                      have g1 : ¬ 9223372036854775807 < Z.size + (t.extract k (k + 1)).size := by omega
                      have g2 : ¬ 9223372036854775807 < Z.size + 1 := by omega
                      have HD2 := Lib.hid hD
                      clear hD hDl hdr hch hLL hZs hxt hc
                      go_wp2
                      go_round
                      case rel =>
                        refine ⟨k + 1, _, D ++ [t[k]], by go_num, rfl, hkt, Lib.hid ?_, Lib.hid ?_⟩
                        · simp only [ByteArray.data_append, Array.toList_append, HZ2.out, HXt.out, List.append_assoc, List.cons_append, List.nil_append]
                        · rw [← HD2.out]; simp
                      case measure => simp [intOf]; omega
                  · obtain rfl : k = t.size := by omega
                    have b1 : decide ((t.size : Int) < (t.size : Int)) = false := decide_eq_false (by omega)
                    have hD := HD.out
                    rw [List.drop_eq_nil_of_le (by rw [size_data]; exact Nat.le_refl _), lineG, List.append_nil] at hD
                    have HD2 := Lib.hid hD
                    clear hD
                    go_wp2
                    go_roundw
                    case rel =>
                      refine ⟨j + 1, Z, by go_num, rfl, hlt, Lib.hid ?_, HBa⟩
                      rw [HZ2.out, HS.out, HTk.out, HD2.out, List.append_assoc]
                    case measure => simp [intOf]; omega
            · obtain rfl : j = l.length := by omega
              have d1 : decide ((l.length : Int) < (l.length : Int)) = false := decide_eq_false (by omega)
              have hS := HS.out
              rw [List.take_of_length_le (Nat.le_refl _)] at hS
              have HS2 := Lib.hid (show S.data.toList = T by rw [hS, HHd.out])
              clear hS hNN hsz
              go_wp2
              go_ret
              exact ⟨ret_str (by apply bytes_eq; exact HS2.out), HB.out⟩
        · rw [Bool.not_true, Bool.and_false, if_neg (by simp)] at HHd
          go_wp2
          go_loopw [10, 77] (fun t10 t77 wr => ∃ (j : Nat) (S : ByteArray), t77 = .int .i64 j ∧ t10 = .string S ∧ j ≤ l.length ∧ Hid (S.data.toList = [32] ++ esT m (l.take j)) ∧ Hid (Below w.heap.size w wr)) (fun _ t77 _ => l.length - (intOf t77).toNat)
          case atStart => exact ⟨0, _, rfl, rfl, Nat.zero_le _, Lib.hid (by rw [List.take_zero, esT]; simp [mgB_data]), HB⟩
          case round =>
            clear HB
            obtain ⟨j, S, rfl, rfl, hj, HS, HB⟩ := hrel
            have hj0 : (j : Int) ≤ 4000000 := by omega
            have hNN := HN.out
            rw [HHd.out, List.length_append] at hNN
            have hsz : S.size = ([32] : List UInt8).length + (esT m (l.take j)).length := by rw [← size_data, HS.out, List.length_append]
            by_cases hlt : j < l.length
            · have d1 : decide ((j : Int) < (l.length : Int)) = true := decide_eq_true (by omega)
              have d2 : (j : Int) < (l.length : Int) := by omega
              obtain ⟨eb, eo, c', e, hb, t, p, u, hel, c0, c1, hou⟩ := el_at HV.out hlt
              cases e
              have hbel : Below W0.heap.size W0 wr := HW.out.trans (HB.out.mono HW.out.size)
              rw [← hbel.cell (p := ⟨eb, eo + j * 2, none⟩) hb] at c0
              rw [← hbel.cell (p := ⟨eb, eo + j * 2 + 1, none⟩) hb] at c1
              have hbw : eb < wr.heap.size := Nat.lt_of_lt_of_le hb hbel.size
              have hts := szEs_get l j t p hel
              have htk := esT_take m l j _ hel
              have hle := esT_take_le m l (j + 1)
              rw [htk, List.length_append] at hle
              cases p with
              | some e =>
                simp only [OAt] at hou
                obtain ⟨q', o', c'', rfl, hq', hc', hx'⟩ := hou
                rw [elT] at htk hle
                have hcc := HP.out j t e hel c'' (wr.alloc (.cells #[.string t, .pointer (some ⟨q', o', none⟩)] 39)) hx' (hbel.alloc hbel.size _) (by omega)
                obtain ⟨Q, hQ⟩ : ∃ Q, plT m e = Q := ⟨_, rfl⟩
                rw [hQ] at hcc htk hle
                have hQs := size_mk Q
                have g1 : ¬ 9223372036854775807 < S.size + (⟨Q.toArray⟩ : ByteArray).size := by omega
                have g2 : ¬ 9223372036854775807 < S.size + Q.length := by omega
                obtain ⟨x0, x1, x2, x3, x4, x5, x6⟩ := hc'.under hq' (hbel.alloc hbel.size (.cells #[.string t, .pointer (some ⟨q', o', none⟩)] 39))
                have hlq : q' < (wr.alloc (.cells #[.string t, .pointer (some ⟨q', o', none⟩)] 39)).heap.size := Nat.lt_of_lt_of_le hq' (hbel.alloc hbel.size _).size
                have hsh := ex_shape hx'
                obtain ⟨k2, t2, n3, a2, B1, m1, q1, p2, B2, m2, q2, rfl⟩ := hsh
                dsimp only at x0 x1 x2 x3 x4 x5 x6 hcc
                have HC := Lib.hid hcc
                have HTk := Lib.hid htk
                clear hcc hel htk hle hts hbel hNN hsz hQs hc' hx' hQ
                go_wp2_with fail
                go_at_call 23
                refine HC.out.mono ?_
                rintro x w3 ⟨rfl, hb3⟩
                have HB3 := Lib.hid (HB.out.trans ((below_box hb3).mono HB.out.size))
                clear hb3
                go_wp2
                go_roundw
                case rel =>
                  refine ⟨j + 1, _, by go_num, rfl, hlt, Lib.hid ?_, HB3⟩
                  rw [HTk.out, ← List.append_assoc, ← HS.out]
                  simp
                case measure => simp [intOf]; omega
              | none =>
                simp only [OAt] at hou
                subst hou
                rw [elT] at htk hle
                have ht0 : t.size ≤ 4000000 := by have := HZ.out; omega
                have ht1 : (t.size : Int) ≤ 4000000 := by omega
                have HTk := Lib.hid htk
                have HL := Lib.hid (show S.size + (lineG (sps m) t.data.toList).length ≤ 140737488355328 by omega)
                have HBa := Lib.hid (HB.out.alloc HB.out.size (.cells #[.string t, .pointer none] 39))
                clear hel htk hle hts hbel hNN hsz
                go_wp2
                go_loop [10, 13] (fun t10 t13 => ∃ (k : Nat) (Z : ByteArray) (D : List UInt8), t13 = .int .i64 k ∧ t10 = .string Z ∧ k ≤ t.size ∧ Hid (Z.data.toList = S.data.toList ++ D) ∧ Hid (D ++ lineG (sps m) (t.data.toList.drop k) = lineG (sps m) t.data.toList)) (fun _ t13 => t.size - (intOf t13).toNat)
                case atStart => exact ⟨0, S, [], rfl, rfl, Nat.zero_le _, Lib.hid (by simp), Lib.hid (by simp)⟩
                case round =>
                  obtain ⟨k, Z, D, rfl, rfl, hk, HZ2, HD⟩ := hrel
                  have hk0 : (k : Int) ≤ 4000000 := by omega
                  have hkn : (0 : Int) ≤ (k : Int) := by omega
                  by_cases hkt : k < t.size
                  · have b1 : decide ((k : Int) < (t.size : Int)) = true := decide_eq_true (by omega)
                    have b2 : (k : Int) < (t.size : Int) := by omega
                    have b3 : decide (k < t.size) = true := decide_eq_true hkt
                    have b4 : (k : Int) + 1 ≤ (t.size : Int) := by omega
                    have hch : t.data.toList[k]? = some t[k] := by rw [List.getElem?_eq_getElem (by rw [size_data]; exact hkt)]; rfl
                    have hdr := drop_cons t.data.toList k _ hch
                    have hD := HD.out
                    rw [hdr] at hD
                    have hDl := congrArg List.length hD
                    rw [List.length_append] at hDl
                    have hLL := HL.out
                    have hZs : Z.size = S.size + D.length := by rw [← size_data, HZ2.out, List.length_append, size_data]
                    have hxt := ext_one t k hkt
                    have hxs : (t.extract k (k + 1)).size = 1 := by rw [← size_data, hxt]; rfl
                    have HXt := Lib.hid hxt
                    by_cases hc : t[k] = 10
                    · have x1 : ((t[k].toNat : Int) == 10) = true := by rw [feed10, hc]; rfl
                      have hkey : (t.data.toList.drop (k + 1)).head? = (if h : k + 1 < t.size then some t[k + 1] else none) := by
                        by_cases h : k + 1 < t.size
                        · rw [dif_pos h, List.head?_drop, List.getElem?_eq_getElem (by rw [size_data]; exact h)]; rfl
                        · rw [dif_neg h, List.drop_eq_nil_of_le (by rw [size_data]; omega)]; rfl
                      by_cases hlast : k + 1 = t.size
                      · have y1 : ((k : Int) == (t.size : Int) - 1) = true := by rw [beq_iff_eq]; omega
                        have y2 : (k : Int) = (t.size : Int) - 1 := by omega
                        rw [dif_neg (by omega)] at hkey
                        rw [hc, lg_feed _ _ (by rw [hkey]; simp)] at hD hDl
                        simp only [List.length_cons, List.length_append, mgB_size] at hDl
                        have hsl : (sps m).length = m := by simp [sps]
                        have hmz := mgB_size m
                        have g1 : ¬ 9223372036854775807 < Z.size + (t.extract k (k + 1)).size := by omega
                        have g2 : ¬ 9223372036854775807 < Z.size + 1 := by omega
                        have g3 : ¬ 9223372036854775807 < Z.size + (t.extract k (k + 1)).size + (mgB m).size := by omega
                        have g4 : ¬ 9223372036854775807 < Z.size + 1 + (mgB m).size := by omega
                        have HD2 := Lib.hid hD
                        have Hc := Lib.hid hc
                        have Y2 := Lib.hid y2
                        clear hD hDl hdr hch hLL hZs hxt hc hsl hmz hkey y2 hlast
                        go_wp2_with fail
                        go_at_call 22
                        refine (HSm.out _).mono ?_
                        rintro x w3 ⟨rfl, rfl⟩
                        go_wp2
                        go_round
                        case rel =>
                          refine ⟨k + 1, _, D ++ (10 :: sps m), by go_num, rfl, hkt, Lib.hid ?_, Lib.hid ?_⟩
                          · simp only [ByteArray.data_append, Array.toList_append, HZ2.out, HXt.out, Hc.out, mgB_data, List.append_assoc, List.cons_append, List.nil_append]
                          · rw [← HD2.out]; simp
                        case measure => simp [intOf]; omega
                      · have h1t : k + 1 < t.size := by omega
                        have y1 : ((k : Int) == (t.size : Int) - 1) = false := by rw [beq_eq_false_iff_ne]; omega
                        have y2 : ¬ (k : Int) = (t.size : Int) - 1 := by omega
                        have y3 : (k : Int) + 1 < (t.size : Int) := by omega
                        have y4 : decide ((k : Int) + 1 < (t.size : Int)) = true := decide_eq_true y3
                        have y5 : decide (k + 1 < t.size) = true := decide_eq_true h1t
                        rw [dif_pos h1t] at hkey
                        by_cases hnx : t[k + 1] = 10
                        · have x2 : ((t[k + 1].toNat : Int) != 10) = false := by rw [bne_eq_false_iff_eq, hnx]; rfl
                          rw [hc, lg_cons _ _ _ (by rw [hkey, hnx]; simp)] at hD hDl
                          simp only [List.length_cons] at hDl
                          have g1 : ¬ 9223372036854775807 < Z.size + (t.extract k (k + 1)).size := by omega
                          have g2 : ¬ 9223372036854775807 < Z.size + 1 := by omega
                          have HD2 := Lib.hid hD
                          have Hc := Lib.hid hc
                          clear hD hDl hdr hch hLL hZs hxt hc hkey hnx hlast
                          go_wp2
                          go_round
                          case rel =>
                            refine ⟨k + 1, _, D ++ [10], by go_num, rfl, hkt, Lib.hid ?_, Lib.hid ?_⟩
                            · simp only [ByteArray.data_append, Array.toList_append, HZ2.out, HXt.out, Hc.out, List.append_assoc, List.cons_append, List.nil_append]
                            · rw [← HD2.out]; simp
                          case measure => simp [intOf]; omega
                        · have x2 : ((t[k + 1].toNat : Int) != 10) = true := by
                            rw [bne_iff_ne]
                            intro h
                            exact hnx (UInt8.toNat_inj.1 (show t[k + 1].toNat = 10 by omega))
                          rw [hc, lg_feed _ _ (by rw [hkey]; intro h; exact hnx (Option.some.inj h))] at hD hDl
                          simp only [List.length_cons, List.length_append] at hDl
                          have hsl : (sps m).length = m := by simp [sps]
                          have hmz := mgB_size m
                          have g1 : ¬ 9223372036854775807 < Z.size + (t.extract k (k + 1)).size := by omega
                          have g2 : ¬ 9223372036854775807 < Z.size + 1 := by omega
                          have g3 : ¬ 9223372036854775807 < Z.size + (t.extract k (k + 1)).size + (mgB m).size := by omega
                          have g4 : ¬ 9223372036854775807 < Z.size + 1 + (mgB m).size := by omega
                          have HD2 := Lib.hid hD
                          have Hc := Lib.hid hc
                          clear hD hDl hdr hch hLL hZs hxt hc hsl hmz hkey hnx hlast
                          go_wp2_with fail
                          go_at_call 22
                          refine (HSm.out _).mono ?_
                          rintro x w3 ⟨rfl, rfl⟩
                          go_wp2
                          go_round
                          case rel =>
                            refine ⟨k + 1, _, D ++ (10 :: sps m), by go_num, rfl, hkt, Lib.hid ?_, Lib.hid ?_⟩
                            · simp only [ByteArray.data_append, Array.toList_append, HZ2.out, HXt.out, Hc.out, mgB_data, List.append_assoc, List.cons_append, List.nil_append]
                            · rw [← HD2.out]; simp
                          case measure => simp [intOf]; omega
                    · have x1 : ((t[k].toNat : Int) == 10) = false := by rw [feed10, beq_eq_false_iff_ne]; exact hc
                      rw [lg_cons _ _ _ (fun h => hc h.1)] at hD hDl
                      simp only [List.length_cons] at hDl
                      have g1 : ¬ 9223372036854775807 < Z.size + (t.extract k (k + 1)).size := by omega
                      have g2 : ¬ 9223372036854775807 < Z.size + 1 := by omega
                      have HD2 := Lib.hid hD
                      clear hD hDl hdr hch hLL hZs hxt hc
                      go_wp2
                      go_round
                      case rel =>
                        refine ⟨k + 1, _, D ++ [t[k]], by go_num, rfl, hkt, Lib.hid ?_, Lib.hid ?_⟩
                        · simp only [ByteArray.data_append, Array.toList_append, HZ2.out, HXt.out, List.append_assoc, List.cons_append, List.nil_append]
                        · rw [← HD2.out]; simp
                      case measure => simp [intOf]; omega
                  · obtain rfl : k = t.size := by omega
                    have b1 : decide ((t.size : Int) < (t.size : Int)) = false := decide_eq_false (by omega)
                    have hD := HD.out
                    rw [List.drop_eq_nil_of_le (by rw [size_data]; exact Nat.le_refl _), lineG, List.append_nil] at hD
                    have HD2 := Lib.hid hD
                    clear hD
                    go_wp2
                    go_roundw
                    case rel =>
                      refine ⟨j + 1, Z, by go_num, rfl, hlt, Lib.hid ?_, HBa⟩
                      rw [HZ2.out, HS.out, HTk.out, HD2.out, List.append_assoc]
                    case measure => simp [intOf]; omega
            · obtain rfl : j = l.length := by omega
              have d1 : decide ((l.length : Int) < (l.length : Int)) = false := decide_eq_false (by omega)
              have hS := HS.out
              rw [List.take_of_length_le (Nat.le_refl _)] at hS
              have HS2 := Lib.hid (show S.data.toList = T by rw [hS, HHd.out])
              clear hS hNN hsz
              go_wp2
              go_ret
              exact ⟨ret_str (by apply bytes_eq; exact HS2.out), HB.out⟩
end Go.Proofs.YtminidoiaplhjaaDoor
