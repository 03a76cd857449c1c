/-
  Several texts put together (part 8): what the law and the program call, walked; their contracts.
-/
import Derived.Test.YthlccfjhgejlmaaGreatDoorQ7
import Derived.Maps.AppendAt
import Derived.Laws.AppendOwnNone
namespace Go.Proofs.YthlccfjhgejlmaaGreatDoor
open Go.RowKit Go.Shelf
set_option linter.unusedVariables false
set_option linter.unusedSimpArgs false
def noS : ByteArray := ⟨#[]⟩
def fullL (l : List ByteArray) : List ByteArray := l.filter fun s => decide (s ≠ ⟨#[]⟩)
theorem ownsRow_base' {W : World} {base base' : Nat} {e : TypeId} {size : Nat} {v : Value} {k : Nat} {xs : List Value} (h : W.ownsRow base e size v k xs) (hb : base' ≤ base) : W.ownsRow base' e size v k xs := by
  refine ⟨h.1, ?_⟩
  rcases h.2 with hn | ⟨g, cap, cur, hv, hbg, rest⟩
  · exact .inl hn
  · exact .inr ⟨g, cap, cur, hv, Nat.le_trans hb hbg, rest⟩
theorem below_row {W w1 : World} {n₀ : Nat} {e : TypeId} {size : Nat} {v : Value} {k : Nat} {xs : List Value} (o : Obj) (h : W.ownsRow n₀ e size v k xs) (hn : n₀ ≤ W.heap.size) (hg : (W.alloc o).grownBy w1 v.ownBlock) : Below n₀ W w1 :=
  ((Below.refl n₀ W).alloc hn o).grown hg (by simp; omega) (fun k e => h.lt k e |>.1)
theorem below_row' {W w1 : World} {n₀ : Nat} {e : TypeId} {size : Nat} {v : Value} {k : Nat} {xs : List Value} (h : W.ownsRow n₀ e size v k xs) (hn : n₀ ≤ W.heap.size) (hg : W.grownBy w1 v.ownBlock) : Below n₀ W w1 :=
  (Below.refl n₀ W).grown hg hn (fun k e => h.lt k e |>.1)
def RowAt (W0 : World) (v : Value) (l : List ByteArray) (W : World) : Prop :=
  W.ownsRow W0.heap.size 9 1 v l.length (l.map Value.string) ∧ Below W0.heap.size W0 W
theorem empty_of {X : ByteArray} (h : (!X.toList.isEmpty) = false) : X = ⟨#[]⟩ := by
  rw [Lib.toList_data] at h
  cases X with | mk d => cases d with | mk l => cases l with
    | nil => rfl
    | cons a r => simp at h
theorem index3_0 (L S R : ByteArray) (w : World) : (Instr.index 86 (Value.agg #[Value.string L, Value.string S, Value.string R]) (Value.int .i64 ((0 : Nat) : Int))).run Tryz.prog w = .ok (.string L) w := by kernel_rfl
theorem index3_1 (L S R : ByteArray) (w : World) : (Instr.index 86 (Value.agg #[Value.string L, Value.string S, Value.string R]) (Value.int .i64 ((1 : Nat) : Int))).run Tryz.prog w = .ok (.string S) w := by kernel_rfl
theorem index3_2 (L S R : ByteArray) (w : World) : (Instr.index 86 (Value.agg #[Value.string L, Value.string S, Value.string R]) (Value.int .i64 ((2 : Nat) : Int))).run Tryz.prog w = .ok (.string R) w := by kernel_rfl
set_option maxRecDepth 100000 in
set_option maxHeartbeats 2000000 in
theorem parts_any (L S R : ByteArray) (sv : Value) (vs : List ByteArray) (hvs : vs.length ≤ 1000) (w : World) (hI : StrsAt w.heap.size w sv vs) :
    Calls Tryz.prog 29 #[.agg #[.string L, .string S, .string R, sv]] w fun e W' => ∃ v, e = .returned v ∧ W'.ownsRow w.heap.size 9 1 v (fullL [L, S, R] ++ vs).length ((fullL [L, S, R] ++ vs).map Value.string) ∧ Below w.heap.size w W' := by
  obtain ⟨i0, hi, hz0, hz1, hz2⟩ := info_parts infoStr
  obtain ⟨A, cap, rfl⟩ : ∃ a cap, sv = .slice a vs.length cap := by
    rcases hI with ⟨rfl, rfl⟩ | ⟨b, off, cap, rfl, _⟩
    · exact ⟨none, 0, rfl⟩
    · exact ⟨_, _, rfl⟩
  have HI := Lib.hid hI
  clear hI
  go_enter Tryz.func29, Tryz.ntmps29
  go_wp2
  obtain ⟨W0, hW0⟩ : ∃ W0, w.alloc (.cells #[.string L, .string S, .string R, .slice A vs.length cap] 26) = W0 := ⟨_, rfl⟩
  have hsz : W0.heap.size = w.heap.size + 1 := by rw [← hW0]; simp
  have hb0 : Below w.heap.size w W0 := by rw [← hW0]; exact (Below.refl _ w).alloc (Nat.le_refl _) _
  have hcell : W0.cell? ⟨w.heap.size, 3, none⟩ = some (.slice A vs.length cap) := by rw [← hW0]; unfold World.cell?; rw [World.alloc_heap_new]; rfl
  rw [hW0]
  go_loopw [3, 13] (fun p i wr => ∃ k : Nat, k ≤ 3 ∧ i = .int .i64 k ∧ RowAt W0 p (fullL ([L, S, R].take k)) wr) (fun _ i _ => 3 - (intOf i).toNat)
  case atStart => exact ⟨0, Nat.zero_le _, rfl, World.ownsRow_nil _ _ _ _, Below.refl _ _⟩
  case round =>
    obtain ⟨k, hk, rfl, hrow, hbl⟩ := hrel
    have hle := hbl.size
    have hq : (fullL ([L, S, R].take k)).length ≤ 3 := Nat.le_trans (List.length_filter_le _ _) (by simp; omega)
    by_cases hlt : k < 3
    · have key : ∀ X : ByteArray, [L, S, R].take (k + 1) = [L, S, R].take k ++ [X] → (X = ⟨#[]⟩ → fullL ([L, S, R].take (k + 1)) = fullL ([L, S, R].take k)) ∧ (X ≠ ⟨#[]⟩ → fullL ([L, S, R].take (k + 1)) = fullL ([L, S, R].take k) ++ [X]) := by
        intro X hX
        rw [hX]
        unfold fullL
        rw [List.filter_append]
        exact ⟨fun h => by simp [h], fun h => by simp [h]⟩
      obtain ⟨X, hX, hidx⟩ : ∃ X, [L, S, R].take (k + 1) = [L, S, R].take k ++ [X] ∧ (Instr.index 86 (Value.agg #[Value.string L, Value.string S, Value.string R]) (Value.int .i64 (k : Int))).run Tryz.prog wr = .ok (.string X) wr := by
        match k, hlt with
        | 0, _ => exact ⟨L, rfl, index3_0 L S R wr⟩
        | 1, _ => exact ⟨S, rfl, index3_1 L S R wr⟩
        | 2, _ => exact ⟨R, rfl, index3_2 L S R wr⟩
      have K1 := Lib.hid (key X hX).1
      have K2 := Lib.hid (key X hX).2
      clear key hX
      by_cases he : X = ⟨#[]⟩
      · go_wp2_with fail
        go_roundw
        case rel => exact ⟨k + 1, by omega, by go_num, by rw [K1.out he]; exact ⟨hrow, hbl⟩⟩
        case measure => simp [intOf]; omega
      · go_wp2_with (at_builtin; refine wpList_append_own _ rfl _ _ 22 rfl W0.heap.size 9 i0 (.string ByteArray.empty) 1 16 Tryz.underlying22 hi hz0 hz1 hz2 rfl (by decide) _ _ _ rfl (hrow.alloc _) ⟨wr.heap.size, 0, none⟩ 1 1 [.string X] rfl rfl (cell_one_new _ _ _) (by simp [Value.oneCell']) (by unfold maxLen; omega) (by omega) (by simp; omega) ?_; intro v' w1 hown' hgrow _)
        go_roundw
        case rel => exact ⟨k + 1, by omega, by go_num, by rw [K2.out he]; simpa using hown', hbl.trans (below_row _ hrow hle hgrow)⟩
        case measure => simp [intOf]; omega
        all_goals exact absurd (empty_of (by assumption)) he
    · obtain rfl : k = 3 := by omega
      have hrow' : wr.ownsRow W0.heap.size 9 1 u3 (fullL [L, S, R]).length ((fullL [L, S, R]).map Value.string) := hrow
      have hq' : (fullL [L, S, R]).length ≤ 3 := hq
      clear hrow hq
      have hc3 : wr.cell? ⟨w.heap.size, 3, none⟩ = some (.slice A vs.length cap) := (hbl.cell (p := ⟨w.heap.size, 3, none⟩) (by simp; omega)).trans hcell
      rcases HI.out.below (hb0.trans (hbl.mono (by omega))) with ⟨e, rfl⟩ | ⟨b, off, c, e, hb, hcs⟩
      · obtain ⟨rfl, rfl⟩ : A = none ∧ cap = 0 := by simpa using e
        go_wp2_with (at_builtin; refine wpList_append_own_none rfl _ _ 22 rfl W0.heap.size 9 i0 1 Tryz.underlying22 hi _ _ _ rfl hrow' rfl ?_)
        go_ret
        exact ⟨_, rfl, by simpa using ownsRow_base' hrow' (by omega), hb0.trans (hbl.mono (by omega))⟩
      · obtain ⟨rfl, rfl⟩ : A = some ⟨b, off, none⟩ ∧ cap = c := by simpa using e
        have hnews : ∀ j u, (vs.map Value.string)[j]? = some u → wr.cell? ((⟨b, off, none⟩ : Addr).add j) = some u := by
          intro j u hu
          obtain ⟨hj, hu'⟩ := List.getElem?_eq_some_iff.1 hu
          have hj' : j < vs.length := by simpa using hj
          have := hcs j hj'
          rw [show ((⟨b, off, none⟩ : Addr).add j) = ⟨b, off + j, none⟩ by unfold Addr.add; split <;> simp_all, this, ← hu']
          simp [hj']
        go_wp2_with (at_builtin; refine wpList_append_own _ rfl _ _ 22 rfl W0.heap.size 9 i0 (.string ByteArray.empty) 1 16 Tryz.underlying22 hi hz0 hz1 hz2 rfl (by decide) _ _ _ rfl hrow' ⟨b, off, none⟩ vs.length _ (vs.map Value.string) rfl (by simp) hnews (by simp [Value.oneCell']) (by unfold maxLen; omega) (by omega) hle ?_; intro v' w1 hown' hgrow _)
        go_ret
        exact ⟨_, rfl, by simpa using ownsRow_base' hown' (by omega), (hb0.trans (hbl.mono (by omega))).trans ((below_row' hrow' hle hgrow).mono (by omega))⟩
end Go.Proofs.YthlccfjhgejlmaaGreatDoor

namespace Go.Proofs.YthlccfjhgejlmaaGreatDoor
open Go.RowKit Go.Shelf
set_option linter.unusedVariables false
set_option linter.unusedSimpArgs false
def joinS (l : List ByteArray) : ByteArray := ⟨(Lib.join (l.map (·.data.toList)) [45]).toArray⟩
def tagV (L S R : ByteArray) (sv : Value) : Value := .agg #[.string L, .string S, .string R, sv]
theorem add_zero (b j : Nat) : ((⟨b, 0, none⟩ : Addr).add j) = ⟨b, 0 + j, none⟩ := by unfold Addr.add; split <;> simp_all
theorem StrsAt.out {n₀ : Nat} {W : World} {sv : Value} {zs : List ByteArray} (h : StrsAt n₀ W sv zs) : ∃ a cap, sv = .slice a zs.length cap := by
  rcases h with ⟨rfl, rfl⟩ | ⟨b, off, cap, rfl, _⟩
  · exact ⟨none, 0, rfl⟩
  · exact ⟨_, _, rfl⟩
theorem StrsAt.later {n₀ n₁ : Nat} {A B : World} {sv : Value} {zs : List ByteArray} (h : StrsAt n₀ A sv zs) (hb : Below n₀ A B) (hn : n₀ ≤ n₁) : StrsAt n₁ B sv zs := by
  rcases h.below hb with h | ⟨b, off, cap, rfl, h1, h2⟩
  · exact .inl h
  · exact .inr ⟨b, off, cap, rfl, by omega, h2⟩
set_option maxRecDepth 100000 in
set_option maxHeartbeats 1000000 in
theorem string_any (L S R : ByteArray) (sv : Value) (vs : List ByteArray) (hvs : vs.length ≤ 1000) (hj : (Lib.join ((fullL [L, S, R] ++ vs).map (·.data.toList)) [45]).length ≤ 100000) (w : World) (hI : StrsAt w.heap.size w sv vs) :
    Calls Tryz.prog 13 #[tagV L S R sv] w fun e W' => e = .returned (.string (joinS (fullL [L, S, R] ++ vs))) ∧ Below w.heap.size w W' := by
  obtain ⟨A, cap, rfl⟩ := hI.out
  have hq : (fullL [L, S, R]).length ≤ 3 := List.length_filter_le _ _
  obtain ⟨W0, hW0⟩ : ∃ W0, w.alloc (.cells #[.string L, .string S, .string R, .slice A vs.length cap] 26) = W0 := ⟨_, rfl⟩
  have hsz : W0.heap.size = w.heap.size + 1 := by rw [← hW0]; simp
  have hb0 : Below w.heap.size w W0 := by rw [← hW0]; exact (Below.refl _ w).alloc (Nat.le_refl _) _
  have h0 : W0.heap[w.heap.size]? = some (.cells #[.string L, .string S, .string R, .slice A vs.length cap] 26 (0, 0)) := by rw [← hW0]; exact World.alloc_heap_new w _
  have hc0 : W0.cell? ⟨w.heap.size, 0, none⟩ = some (.string L) := by unfold World.cell?; rw [h0]; rfl
  have hc1 : W0.cell? ⟨w.heap.size, 1, none⟩ = some (.string S) := by unfold World.cell?; rw [h0]; rfl
  have hc2 : W0.cell? ⟨w.heap.size, 2, none⟩ = some (.string R) := by unfold World.cell?; rw [h0]; rfl
  have hc3 : W0.cell? ⟨w.heap.size, 3, none⟩ = some (.slice A vs.length cap) := by unfold World.cell?; rw [h0]; rfl
  have cP := parts_any L S R _ vs hvs W0 (hI.later hb0 (by omega))
  unfold tagV
  go_enter Tryz.func13, Tryz.ntmps13
  go_wp2_with (go_at_call 29; refine cP.mono ?_; rintro e W ⟨v, rfl, hrow, hb⟩)
  have hb2 : Below w.heap.size w W := hb0.trans (hb.mono (by omega))
  rcases hrow.2 with ⟨rfl, hz⟩ | ⟨gb, c2, cur, rfl, hbase, hgb, r1, r2, r3, r4⟩
  · have hss : fullL [L, S, R] ++ vs = [] := List.eq_nil_of_length_eq_zero hz
    go_wp2_with (go_at_call 28; refine (Tryz.strings_Join_none none 0 _ W).mono ?_; rintro e w' ⟨rfl, rfl⟩)
    go_ret
    exact ⟨by rw [hss]; rfl, hb2⟩
  · have hcells : ∀ (j : Nat) x, (fullL [L, S, R] ++ vs)[j]? = some x → W.cell? ⟨gb, 0 + j, none⟩ = some (.string x) := by
      intro j x hx
      rw [← add_zero]
      exact hrow.cells (g := gb) rfl j _ (by rw [List.getElem?_map, hx]; rfl)
    have hl : (fullL [L, S, R] ++ vs).length ≤ 1003 := by rw [List.length_append]; omega
    have cJ := Tryz.strings_Join gb 0 c2 (fullL [L, S, R] ++ vs) ⟨#[45]⟩ W hcells (Array.getElem?_eq_some_iff.1 hgb).1 (by omega) r1 (by show (Lib.join _ [45]).length ≤ _; omega)
    go_wp2_with (go_at_call 28; refine cJ.mono ?_; rintro e w' ⟨rfl, h3⟩)
    go_ret
    exact ⟨by simp [joinS], hb2.trans (h3.mono hb2.size)⟩
end Go.Proofs.YthlccfjhgejlmaaGreatDoor
