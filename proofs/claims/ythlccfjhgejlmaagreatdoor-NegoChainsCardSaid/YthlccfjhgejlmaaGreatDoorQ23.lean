/-
  Several texts put together (part 23): what the law and the program call, walked; their contracts.
-/
import Derived.Test.YthlccfjhgejlmaaGreatDoorQ12
import Derived.Test.YthlccfjhgejlmaaGreatDoorQ13
import Derived.Lib.ConvBytes
import Derived.Lib.SlBytesRow
import Derived.Test.YthlccfjhgejlmaaGreatDoorQ9
namespace Go.Proofs.YthlccfjhgejlmaaGreatDoor
open Go.RowKit
set_option linter.unusedVariables false
set_option linter.unusedSimpArgs false
theorem lowerB_nat (c : UInt8) : (65 ≤ c.toNat → c.toNat ≤ 90 → (Lib.lowerB c).toNat + 65 = c.toNat + 97) ∧ (c.toNat < 65 ∨ 90 < c.toNat → (Lib.lowerB c).toNat = c.toNat) := by
  have := all256 (fun c => (!(decide (65 ≤ c.toNat) && decide (c.toNat ≤ 90)) || (Lib.lowerB c).toNat + 65 == c.toNat + 97) && ((decide (65 ≤ c.toNat) && decide (c.toNat ≤ 90)) || (Lib.lowerB c).toNat == c.toNat)) (by decide +kernel) c
  simp only [Bool.and_eq_true, Bool.or_eq_true, Bool.not_eq_true', Bool.and_eq_false_iff, decide_eq_true_eq, decide_eq_false_iff_not, beq_iff_eq] at this
  omega
theorem upperB_nat (c : UInt8) : (97 ≤ c.toNat → c.toNat ≤ 122 → (Lib.upperB c).toNat + 97 = c.toNat + 65) ∧ (c.toNat < 97 ∨ 122 < c.toNat → (Lib.upperB c).toNat = c.toNat) := by
  have := all256 (fun c => (!(decide (97 ≤ c.toNat) && decide (c.toNat ≤ 122)) || (Lib.upperB c).toNat + 97 == c.toNat + 65) && ((decide (97 ≤ c.toNat) && decide (c.toNat ≤ 122)) || (Lib.upperB c).toNat == c.toNat)) (by decide +kernel) c
  simp only [Bool.and_eq_true, Bool.or_eq_true, Bool.not_eq_true', Bool.and_eq_false_iff, decide_eq_true_eq, decide_eq_false_iff_not, beq_iff_eq] at this
  omega
theorem conv_one (b : UInt8) (wr : World) (e : Int) (he : e = (b.toNat : Int)) :
    (convert 56 9 (.slice (some ⟨wr.heap.size, 0, none⟩) 1 1)).run Tryz.prog (wr.alloc (.cells #[.int .u8 e] 5)) = .ok (.string (mk [b])) (wr.alloc (.cells #[.int .u8 e] 5)) := by
  subst he
  refine Lib.run_convert_whole (P := Tryz.prog) _ 56 5 9 Tryz.underlying56 Tryz.underlying5 Tryz.underlying9 wr.heap.size 0 (mk [b]) ?_ 1
  intro i hi
  have hi' : i < 1 := hi
  obtain rfl : i = 0 := by omega
  unfold World.cell?
  rw [World.alloc_heap_new]
  rfl
theorem low_snoc (s : ByteArray) (k : Nat) (h : k < s.size) : mk (low (s.data.toList.take (k + 1))) = mk (low (s.data.toList.take k)) ++ mk [Lib.lowerB s[k]] := by
  rw [take_succ s k h, mk_append]; simp [low, Lib.toLowerA]
theorem upp_snoc (s : ByteArray) (k : Nat) (h : k < s.size) : mk (upp (s.data.toList.take (k + 1))) = mk (upp (s.data.toList.take k)) ++ mk [Lib.upperB s[k]] := by
  rw [take_succ s k h, mk_append]; simp [upp, Lib.toUpperA]
set_option maxRecDepth 100000 in
set_option maxHeartbeats 4000000 in
theorem small_any (s : ByteArray) (w : World) (hs : s.size ≤ 100000) :
    Calls Tryz.prog 47 #[.string s] w fun e w' => e = .returned (.string (mk (low s.data.toList))) ∧ Below w.heap.size w w' := by
  go_enter Tryz.func47, Tryz.ntmps47
  go_wp2
  go_loopw [3, 4] (fun o i wr => ∃ k : Nat, k ≤ s.size ∧ i = .int .i64 k ∧ o = .string (mk (low (s.data.toList.take k))) ∧ Below w.heap.size w wr) (fun _ i _ => s.size - (intOf i).toNat)
  case atStart => exact ⟨0, Nat.zero_le _, rfl, rfl, Below.refl _ _⟩
  case round =>
    obtain ⟨k, hk, rfl, rfl, hb⟩ := hrel
    by_cases hlt : k < s.size
    · have f1 := low_snoc s k hlt
      have l1 : (mk (low (s.data.toList.take k))).size ≤ 100000 := by rw [mk_size, low_length]; simp; omega
      obtain ⟨c, hc⟩ : ∃ c, s[k] = c := ⟨_, rfl⟩
      rw [hc] at f1
      obtain ⟨X, hX⟩ : ∃ X, mk (low (s.data.toList.take k)) = X := ⟨_, rfl⟩
      rw [hX] at f1 l1 ⊢
      have hU := lowerB_nat c
      have hc1 : (mk [Lib.lowerB c]).size = 1 := rfl
      obtain ⟨Y, hY⟩ : ∃ Y, mk [Lib.lowerB c] = Y := ⟨_, rfl⟩
      rw [hY] at f1 hc1
      by_cases h1 : (65 : Int) ≤ (c.toNat : Int) <;> by_cases h2 : (c.toNat : Int) ≤ 90
      · have kv := conv_one (Lib.lowerB c) wr ((c.toNat : Int) - 65 + 97) (by have := hU.1 (by omega) (by omega); omega)
        rw [hY] at kv
        have F1 := Lib.hid f1
        clear f1 hX hY hU
        go_wp2
        go_roundw
        case rel => exact ⟨k + 1, by omega, by go_num, by rw [F1.out], hb.alloc hb.size _⟩
        case measure => simp [intOf]; omega
      all_goals
        first
        | (exfalso; omega)
        | (have kv := conv_one (Lib.lowerB c) wr (c.toNat : Int) (by have := hU.2 (by omega); omega)
           rw [hY] at kv
           have F1 := Lib.hid f1
           clear f1 hX hY hU
           go_wp2
           go_roundw
           case rel => exact ⟨k + 1, by omega, by go_num, by rw [F1.out], hb.alloc hb.size _⟩
           case measure => simp [intOf]; omega)
    · obtain rfl : k = s.size := by omega
      have ht : s.data.toList.take s.size = s.data.toList := List.take_of_length_le (by simp)
      rw [ht]
      clear ht
      go_wp2
      go_ret
      exact ⟨rfl, hb⟩
set_option maxRecDepth 100000 in
set_option maxHeartbeats 4000000 in
theorem big_any (s : ByteArray) (w : World) (hs : s.size ≤ 100000) :
    Calls Tryz.prog 48 #[.string s] w fun e w' => e = .returned (.string (mk (upp s.data.toList))) ∧ Below w.heap.size w w' := by
  go_enter Tryz.func48, Tryz.ntmps48
  go_wp2
  go_loopw [3, 4] (fun o i wr => ∃ k : Nat, k ≤ s.size ∧ i = .int .i64 k ∧ o = .string (mk (upp (s.data.toList.take k))) ∧ Below w.heap.size w wr) (fun _ i _ => s.size - (intOf i).toNat)
  case atStart => exact ⟨0, Nat.zero_le _, rfl, rfl, Below.refl _ _⟩
  case round =>
    obtain ⟨k, hk, rfl, rfl, hb⟩ := hrel
    by_cases hlt : k < s.size
    · have f1 := upp_snoc s k hlt
      have l1 : (mk (upp (s.data.toList.take k))).size ≤ 100000 := by rw [mk_size, upp_length]; simp; omega
      obtain ⟨c, hc⟩ : ∃ c, s[k] = c := ⟨_, rfl⟩
      rw [hc] at f1
      obtain ⟨X, hX⟩ : ∃ X, mk (upp (s.data.toList.take k)) = X := ⟨_, rfl⟩
      rw [hX] at f1 l1 ⊢
      have hU := upperB_nat c
      have hc1 : (mk [Lib.upperB c]).size = 1 := rfl
      obtain ⟨Y, hY⟩ : ∃ Y, mk [Lib.upperB c] = Y := ⟨_, rfl⟩
      rw [hY] at f1 hc1
      by_cases h1 : (97 : Int) ≤ (c.toNat : Int) <;> by_cases h2 : (c.toNat : Int) ≤ 122
      · have kv := conv_one (Lib.upperB c) wr ((c.toNat : Int) - 97 + 65) (by have := hU.1 (by omega) (by omega); omega)
        rw [hY] at kv
        have F1 := Lib.hid f1
        clear f1 hX hY hU
        go_wp2
        go_roundw
        case rel => exact ⟨k + 1, by omega, by go_num, by rw [F1.out], hb.alloc hb.size _⟩
        case measure => simp [intOf]; omega
      all_goals
        first
        | (exfalso; omega)
        | (have kv := conv_one (Lib.upperB c) wr (c.toNat : Int) (by have := hU.2 (by omega); omega)
           rw [hY] at kv
           have F1 := Lib.hid f1
           clear f1 hX hY hU
           go_wp2
           go_roundw
           case rel => exact ⟨k + 1, by omega, by go_num, by rw [F1.out], hb.alloc hb.size _⟩
           case measure => simp [intOf]; omega)
    · obtain rfl : k = s.size := by omega
      have ht : s.data.toList.take s.size = s.data.toList := List.take_of_length_le (by simp)
      rw [ht]
      clear ht
      go_wp2
      go_ret
      exact ⟨rfl, hb⟩
end Go.Proofs.YthlccfjhgejlmaaGreatDoor

namespace Go.Proofs.YthlccfjhgejlmaaGreatDoor
open Go.RowKit Go.Shelf
set_option linter.unusedVariables false
set_option linter.unusedSimpArgs false
def SplitInv (l : List UInt8) (D : List (List UInt8)) (f k : Nat) : Prop :=
  (k ≤ l.length ∧ f ≤ k ∧ splitH l = D ++ preH ((l.take k).drop f) (splitH (l.drop k))) ∨ (k = l.length + 1 ∧ splitH l = D)
theorem SplitInv.start (l : List UInt8) : SplitInv l [] 0 0 := .inl ⟨Nat.zero_le _, Nat.le_refl _, by simp [preH_nil (splitH_ne l)]⟩
theorem SplitInv.le {l : List UInt8} {D : List (List UInt8)} {f k : Nat} (h : SplitInv l D f k) : D.length ≤ l.length + 1 := by
  have hl := splitH_length l
  rcases h with ⟨_, _, h⟩ | ⟨_, h⟩
  · rw [h, List.length_append] at hl; omega
  · rw [h] at hl; exact hl
theorem SplitInv.same {l : List UInt8} {D : List (List UInt8)} {f k : Nat} (h : SplitInv l D f k) (hk : k < l.length) (hc : l[k] ≠ 45) : SplitInv l D f (k + 1) := by
  rcases h with ⟨h1, h2, h3⟩ | ⟨h1, _⟩
  · refine .inl ⟨hk, by omega, ?_⟩
    rw [h3, List.drop_eq_getElem_cons hk, splitH, if_neg hc, preH_pre, List.take_succ_eq_append_getElem hk, List.drop_append_of_le_length (by simp; omega)]
  · omega
theorem SplitInv.cut {l : List UInt8} {D : List (List UInt8)} {f k : Nat} (h : SplitInv l D f k) (hk : k < l.length) (hc : l[k] = 45) : SplitInv l (D ++ [(l.take k).drop f]) (k + 1) (k + 1) := by
  rcases h with ⟨h1, h2, h3⟩ | ⟨h1, _⟩
  · refine .inl ⟨hk, Nat.le_refl _, ?_⟩
    have e : ((l.take (k + 1)).drop (k + 1)) = [] := by simp
    rw [h3, List.drop_eq_getElem_cons hk, splitH, if_pos hc, e, preH_nil (splitH_ne _)]
    simp [preH]
  · omega
theorem SplitInv.last {l : List UInt8} {D : List (List UInt8)} {f : Nat} (h : SplitInv l D f l.length) : SplitInv l (D ++ [(l.take l.length).drop f]) (l.length + 1) (l.length + 1) := by
  rcases h with ⟨h1, h2, h3⟩ | ⟨h1, _⟩
  · refine .inr ⟨rfl, ?_⟩
    rw [h3]
    simp [splitH, preH]
  · omega
theorem SplitInv.done {l : List UInt8} {D : List (List UInt8)} {f : Nat} (h : SplitInv l D f (l.length + 1)) : splitH l = D := by
  rcases h with ⟨h1, _⟩ | ⟨_, h⟩
  · omega
  · exact h
theorem SplitInv.f_le {l : List UInt8} {D : List (List UInt8)} {f k : Nat} (h : SplitInv l D f k) (hk : k ≤ l.length) : f ≤ k := by
  rcases h with ⟨_, h, _⟩ | ⟨h, _⟩
  · exact h
  · omega
theorem ext_mk (s : ByteArray) (a b : Nat) : s.extract a b = mk ((s.data.toList.take b).drop a) := by
  conv => lhs; rw [← mk_of s]
  exact mk_extract _ _ _
theorem ownsRow_empty (w : World) (e : TypeId) : (w.alloc (.cells #[] e)).ownsRow w.heap.size e 1 (.slice (some ⟨w.heap.size, 0, none⟩) 0 0) 0 [] :=
  ⟨rfl, .inr ⟨w.heap.size, 0, #[], rfl, Nat.le_refl _, World.alloc_heap_new w _, Nat.le_refl _, by unfold maxLen; omega, rfl, rfl⟩⟩
def SplitAt (w : World) (D : List (List UInt8)) (v : Value) (W : World) : Prop :=
  W.ownsRow w.heap.size 9 1 v D.length ((D.map mk).map Value.string) ∧ Below w.heap.size w W
theorem SplitAt.more {w wr w1 : World} {D : List (List UInt8)} {v v' : Value} {o : Obj} {x : ByteArray} {p : List UInt8} (hr : wr.ownsRow w.heap.size 9 1 v D.length ((D.map mk).map Value.string)) (hb : Below w.heap.size w wr)
    (hown : w1.ownsRow w.heap.size 9 1 v' (D.length + 1) ((D.map mk).map Value.string ++ [.string x])) (hg : (wr.alloc o).grownBy w1 v.ownBlock) (hx : x = mk p) : SplitAt w (D ++ [p]) v' w1 := by
  refine ⟨?_, hb.trans (below_row o hr hb.size hg)⟩
  rw [hx] at hown
  simpa using hown
set_option maxRecDepth 100000 in
set_option maxHeartbeats 4000000 in
theorem split_any (s : ByteArray) (w : World) (hs : s.size ≤ 100000) :
    Calls Tryz.prog 45 #[.string s] w fun e W' => ∃ v, e = .returned v ∧ StandsS W' v ((splitH s.data.toList).map mk) ∧ Below w.heap.size w W' := by
  obtain ⟨i0, hi, hz0, hz1, hz2⟩ := info_parts infoStr
  have hsl : s.data.toList.length = s.size := by simp
  obtain ⟨l, hl⟩ : ∃ l, s.data.toList = l := ⟨_, rfl⟩
  rw [hl] at hsl ⊢
  have HL := Lib.hid hl
  have HZ := Lib.hid hsl
  clear hl hsl
  go_enter Tryz.func45, Tryz.ntmps45
  go_wp2
  go_loopw [3, 4, 5] (fun v f i wr => ∃ (D : List (List UInt8)) (f' k : Nat), k ≤ s.size + 1 ∧ i = .int .i64 k ∧ f = .int .i64 f' ∧ SplitInv l D f' k ∧ SplitAt w D v wr) (fun _ _ i _ => s.size + 1 - (intOf i).toNat)
  case atStart => exact ⟨[], 0, 0, by omega, rfl, rfl, SplitInv.start l, ownsRow_empty w _, (Below.refl _ w).alloc (Nat.le_refl _) _⟩
  case round =>
    obtain ⟨D, f, k, hk, rfl, rfl, hI, hrow, hb⟩ := hrel
    have hDl := hI.le
    rw [HZ.out] at hDl
    have HI := Lib.hid hI
    have HW := Lib.hid hrow
    have HB := Lib.hid hb
    have hsz := hb.size
    clear hI hrow hb
    by_cases hle : k ≤ s.size
    · have hf : f ≤ k := HI.out.f_le (by rw [HZ.out]; exact hle)
      have b1 := Lib.hid (show D.length + 1 ≤ maxLen by unfold maxLen; omega)
      have b2 := Lib.hid (show (D.length + 1) * 16 ≤ 140737488355328 by omega)
      by_cases heq : k = s.size
      · subst heq
        have hx0 := ext_mk s f s.size
        rw [HL.out] at hx0
        have hx := Lib.hid hx0
        have hN := HI.out
        rw [← HZ.out] at hN
        have hN := hN.last
        rw [HZ.out] at hN
        have HN := Lib.hid hN
        clear hN hx0
        go_wp2_with (at_builtin; refine wpList_append_own _ rfl _ _ 22 rfl w.heap.size 9 i0 (.string ByteArray.empty) 1 16 Tryz.underlying22 hi hz0 hz1 hz2 rfl (by decide) _ _ _ rfl (HW.out.alloc _) ⟨wr.heap.size, 0, none⟩ 1 1 [.string _] rfl rfl (cell_one_new _ _ _) (by simp [Value.oneCell']) b1.out b2.out (by simp; omega) ?_; intro v' w1 hown' hgrow _; have HO := Lib.hid (SplitAt.more HW.out HB.out hown' hgrow hx.out); clear hown' hgrow)
        go_roundw
        case rel => exact ⟨_, _, _, Nat.le_refl _, by go_num, by go_num, HN.out, HO.out⟩
        case measure => first | (simp [intOf]; done) | (simp [intOf]; omega)
      · have hlt : k < s.size := by omega
        have hltl : k < l.length := by rw [HZ.out]; exact hlt
        have hgk : s[k] = l[k] := by
          have := HL.out
          subst this
          rfl
        have hkb : ((k : Int) == (s.size : Int)) = false := by simp; omega
        obtain ⟨c, hc⟩ : ∃ c, s[k] = c := ⟨_, rfl⟩
        by_cases h45 : c = 45
        · have hN := HI.out.cut hltl (by rw [← hgk, hc]; exact h45)
          have hx0 := ext_mk s f k
          rw [HL.out] at hx0
          have hx := Lib.hid hx0
          have HN := Lib.hid hN
          have hcb : ((c.toNat : Int) == 45) = true := by rw [h45]; rfl
          clear hN hx0 hgk h45 hltl
          go_wp2_with (at_builtin; refine wpList_append_own _ rfl _ _ 22 rfl w.heap.size 9 i0 (.string ByteArray.empty) 1 16 Tryz.underlying22 hi hz0 hz1 hz2 rfl (by decide) _ _ _ rfl (HW.out.alloc _) ⟨wr.heap.size, 0, none⟩ 1 1 [.string _] rfl rfl (cell_one_new _ _ _) (by simp [Value.oneCell']) b1.out b2.out (by simp; omega) ?_; intro v' w1 hown' hgrow _; have HO := Lib.hid (SplitAt.more HW.out HB.out hown' hgrow hx.out); clear hown' hgrow)
          go_roundw
          case rel => exact ⟨_, _, _, by omega, by go_num, by go_num, HN.out, HO.out⟩
          case measure => first | (simp [intOf]; done) | (simp [intOf]; omega)
        · have hN := HI.out.same hltl (by rw [← hgk, hc]; exact h45)
          have HN := Lib.hid hN
          have hcb : ((c.toNat : Int) == 45) = false := by
            cases e : ((c.toNat : Int) == 45)
            · rfl
            · exact absurd (UInt8.toNat_inj.1 (by have := beq_iff_eq.1 e; show c.toNat = 45; omega)) h45
          clear hN hgk h45 hltl
          go_wp2_with fail
          go_roundw
          case rel => exact ⟨D, f, k + 1, by omega, by go_num, rfl, HN.out, HW.out, HB.out⟩
          case measure => first | (simp [intOf]; done) | (simp [intOf]; omega)
    · obtain rfl : k = s.size + 1 := by omega
      go_wp2_with fail
      go_ret
      have hD := HI.out
      rw [← HZ.out] at hD
      have e := hD.done
      refine ⟨_, rfl, ?_, HB.out⟩
      rw [e]
      refine StandsS.of_row (n₀ := w.heap.size) ?_ (by rw [← e]; simp [splitH_ne])
      rw [List.length_map]; exact HW.out
end Go.Proofs.YthlccfjhgejlmaaGreatDoor
