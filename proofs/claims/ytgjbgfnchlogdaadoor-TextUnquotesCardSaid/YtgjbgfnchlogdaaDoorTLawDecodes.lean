/-
  TextDecodes: whatever bytes: their signs, sign by sign. Conditions: the program's own tables as its text lays them.
-/
import Derived.Test.YtgjbgfnchlogdaaDoorTMath
import Derived.Deep.RegionHeld3
namespace Go.Proofs.YtgjbgfnchlogdaaDoor
open Go.RowKit
set_option linter.unusedVariables false
set_option linter.unusedSimpArgs false

def strSize : Value → Nat | .string b => b.size | _ => 0
theorem decodeL_pos (l : List UInt8) : 1 ≤ (Lib.decodeL l).2 := Lib.decodeL_width l
/-- What a decoded sign comes to: its bytes, or U+FFFD's. -/
theorem part_of (l : List UInt8) (hne : l ≠ []) : ((Lib.decodeL l).1 = 65533 ∧ (Lib.decodeL l).2 = 1 ∧ Lib.encodeRune ((Lib.decodeL l).1 : Int) = [239, 191, 189]) ∨
    (¬ ((Lib.decodeL l).1 = 65533 ∧ (Lib.decodeL l).2 = 1) ∧ Lib.encodeRune ((Lib.decodeL l).1 : Int) = l.take (Lib.decodeL l).2) := by
  by_cases h : (Lib.decodeL l).1 = 65533 ∧ (Lib.decodeL l).2 = 1
  · left; exact ⟨h.1, h.2, by rw [h.1]; kernel_rfl⟩
  · right; exact ⟨h, Lib.encode_decode l hne h⟩
theorem decB_step (l : List UInt8) (hne : l ≠ []) : decB l = (if (Lib.decodeL l).1 = 13 then [] else Lib.encodeRune ((Lib.decodeL l).1 : Int)) ++ decB (l.drop (Lib.decodeL l).2) := by
  unfold decB
  rw [Lib.mapD_step decG l hne, decG_step]
theorem take_cr (l : List UInt8) (hne : l ≠ []) (h : l.take (Lib.decodeL l).2 = [13]) : (Lib.decodeL l).1 = 13 := by
  cases l with
  | nil => exact absurd rfl hne
  | cons c r =>
    have hw := decodeL_pos (c :: r)
    obtain ⟨j, hj⟩ : ∃ j, (Lib.decodeL (c :: r)).2 = j + 1 := ⟨(Lib.decodeL (c :: r)).2 - 1, by omega⟩
    rw [hj, List.take_succ_cons] at h
    injection h with h1 h2
    subst h1
    have : Lib.decodeL (13 :: r) = (13, 1) := by
      unfold Lib.decodeL
      rw [decode_ascii _ 0 (by show 0 < (13 :: r).toArray.size; simp) (by show (13 : UInt8).toNat < 128; decide)]
      rfl
    rw [this]

theorem app_data (a b : ByteArray) : (a ++ b).data.toList = a.data.toList ++ b.data.toList := by simp
theorem app_size (a b : ByteArray) : (a ++ b).size = a.size + b.size := by
  rw [← size_data, app_data, List.length_append, size_data, size_data]
theorem ext_size (t : ByteArray) (n : Nat) (h : n ≤ t.size) : (t.extract 0 n).size = n ∧ (t.extract n t.size).size = t.size - n := by
  constructor
  · simp; omega
  · simp

set_option maxHeartbeats 4000000 in
set_option maxRecDepth 100000 in
theorem lawDecodes (A : Option Addr) (cap : Nat) (s : ByteArray) (w : World) (hT : TabU w) (hs : s.size ≤ 9223372036854775807)
    (hcv : ∀ W, Below w.heap.size w W → (convert 22 9 (.slice A s.size cap)).run Tryd.prog W = .ok (.string s) W) :
    Calls Tryd.prog 3 #[.slice A s.size cap] w fun e w' => e = .returned (.bool true) ∧ Below w.heap.size w w' := by
  have Hcv := Lib.hid hcv
  clear hcv
  go_enter Tryd.func3, Tryd.ntmps3
  go_wp2_with fail
  go_at_call 8
  refine (head_any _).mono ?_
  rintro e wh ⟨rfl, bh⟩
  by_cases h300 : 300 < (s.size : Int)
  · go_wp2
    go_ret
    exact ⟨rfl, bh⟩
  have hc1 := Hcv.out wh bh
  have hTh := Lib.hid (hT.below bh)
  clear hT
  go_wp2
  go_loopw [3, 4] (fun wt st wr => ∃ acc t : ByteArray, wt = .string acc ∧ st = .string t ∧ Hid (acc.data.toList ++ decB t.data.toList = decB s.data.toList) ∧ Hid (t.size ≤ 300) ∧ Hid (acc.size + 4 * t.size ≤ 1200) ∧ Below w.heap.size w wr ∧ Hid (TabU wr)) (fun _ st _ => strSize st)
  case atStart => exact ⟨⟨#[]⟩, s, rfl, rfl, rfl, by show s.size ≤ 300; omega, by show 0 + 4 * s.size ≤ 1200; omega, bh, hTh⟩
  case round =>
    obtain ⟨acc, t, rfl, rfl, Hacc, Ht3, Hac, hbw, hTr⟩ := hrel
    clear hc1 hTh
    by_cases h0 : 0 < t.size
    · have hne : t.data.toList ≠ [] := by
        intro e
        have h1 := size_data t
        rw [e, List.length_nil] at h1
        omega
      have hw1 := decodeL_pos t.data.toList
      have hw2 := Lib.decodeL_le t.data.toList hne
      have hst := decB_step t.data.toList hne
      have hpo := part_of t.data.toList hne
      have hcr := take_cr t.data.toList hne
      have hcall := fun W hT => runeIn_any t W hT h0
      have hex := extract_take t (Lib.decodeL t.data.toList).2
      have hed := extract_drop t (Lib.decodeL t.data.toList).2
      rw [size_data] at hw2
      have h300' := Ht3.out
      have hac' := Hac.out
      generalize Lib.decodeL t.data.toList = rn at *
      obtain ⟨r, n⟩ := rn
      dsimp only at *
      have hcall' := hcall _ hTr.out
      clear hcall hne
      have Hst := Lib.hid hst
      have Hex := Lib.hid hex
      have Hed := Lib.hid hed
      have Hcr := Lib.hid hcr
      clear hst hex hed hcr
      have hn1 : (1 : Int) ≤ n := by omega
      have hn2 : (n : Int) ≤ t.size := by omega
      rcases hpo with ⟨hr, hn, he⟩ | ⟨hv, he⟩
      · have He := Lib.hid he
        subst hr hn
        clear he
        go_wp2_with fail
        go_at_call 9
        refine hcall'.mono ?_
        rintro e W1 ⟨rfl, b1⟩
        go_wp2
        go_roundw
        case rel =>
          refine ⟨_, _, rfl, rfl, ?_, ?_, ?_, hbw.trans (b1.mono hbw.size), hTr.out.below b1⟩
          · show _ = _
            rw [app_data, Hed.out, List.append_assoc, ← Hacc.out, Hst.out, if_neg (by decide)]
            rw [show Lib.encodeRune ((65533 : Nat) : Int) = [239, 191, 189] from He.out]
          · show _ ≤ _
            rw [(ext_size t 1 hw2).2]; omega
          · show _ ≤ _
            rw [app_size, (ext_size t 1 hw2).2]
            have : (⟨#[239, 191, 189]⟩ : ByteArray).size = 3 := rfl
            omega
        case measure =>
          show (t.extract 1 t.size).size < t.size
          rw [(ext_size t 1 hw2).2]; omega
      · have He := Lib.hid he
        clear he
        have hvb : ((r : Int) == 65533 && (n : Int) == 1) = false := by
          rw [Bool.and_eq_false_iff, beq_eq_false_iff_ne, beq_eq_false_iff_ne]
          by_cases h : r = 65533
          · right; intro e; exact hv ⟨h, by omega⟩
          · left; omega
        by_cases h13 : r = 13
        · have hpe : ((t.extract 0 n).toList == [13]) = true := by
            rw [ByteArray.toList_eq, Hex.out, ← He.out, h13, beq_iff_eq]
            kernel_rfl
          go_wp2_with fail
          go_at_call 9
          refine hcall'.mono ?_
          rintro e W1 ⟨rfl, b1⟩
          go_wp2
          go_roundw
          case rel =>
            refine ⟨_, _, rfl, rfl, ?_, ?_, ?_, hbw.trans (b1.mono hbw.size), hTr.out.below b1⟩
            · show _ = _
              rw [Hed.out, ← Hacc.out, Hst.out, if_pos h13, List.nil_append]
            · show _ ≤ _
              rw [(ext_size t n hw2).2]; omega
            · show _ ≤ _
              rw [(ext_size t n hw2).2]
              omega
          case measure =>
            show (t.extract n t.size).size < t.size
            rw [(ext_size t n hw2).2]; omega
        · have hpe : ((t.extract 0 n).toList == [13]) = false := by
            rw [ByteArray.toList_eq, Hex.out, beq_eq_false_iff_ne]
            exact fun h => h13 (Hcr.out h)
          have hpart : (((r : Int) == 65533) = true ∧ ((n : Int) == 1) = false) ∨ ((r : Int) == 65533) = false := by
            by_cases h : r = 65533
            · left; exact ⟨by rw [h]; rfl, by rw [beq_eq_false_iff_ne]; intro e; exact hv ⟨h, by omega⟩⟩
            · right; rw [beq_eq_false_iff_ne]; omega
          rcases hpart with ⟨hq1, hq2⟩ | hq1
          all_goals
            go_wp2_with fail
            go_at_call 9
            refine hcall'.mono ?_
            rintro e W1 ⟨rfl, b1⟩
            go_wp2
            go_roundw
            case rel =>
              refine ⟨_, _, rfl, rfl, ?_, ?_, ?_, hbw.trans (b1.mono hbw.size), hTr.out.below b1⟩
              · show _ = _
                rw [app_data, Hed.out, Hex.out, ← Hacc.out, Hst.out, if_neg h13, He.out, List.append_assoc]
              · show _ ≤ _
                rw [(ext_size t n hw2).2]; omega
              · show _ ≤ _
                rw [app_size, (ext_size t n hw2).2, (ext_size t n hw2).1]
                omega
            case measure =>
              show (t.extract n t.size).size < t.size
              rw [(ext_size t n hw2).2]; omega
    · have ht0 : t.data.toList = [] := List.eq_nil_of_length_eq_zero (by rw [size_data]; omega)
      have hac := Hacc.out
      rw [ht0] at hac
      have hfin : acc = ⟨(decAll s).toArray⟩ := by
        apply bytes_eq
        rw [decAll_eq, ← hac]
        simp [decB, Lib.mapD_nil]
      subst hfin
      have hcw := fun W (hW : Below wr.heap.size wr W) => Hcv.out W (hbw.trans (hW.mono hbw.size))
      clear hac ht0
      go_wp2_with fail
      go_at_call 10
      refine (decode_any A cap s _ (by omega) hcw).mono ?_
      rintro e wd ⟨rfl, bd⟩
      go_wp2
      go_ret
      exact ⟨rfl, hbw.trans (bd.mono hbw.size)⟩
end Go.Proofs.YtgjbgfnchlogdaaDoor
