/-
  Package tag: the parts that are there, in order.
-/
import Derived.Test.YtldmldgkjkgkcaaDoorTgTwice
import Derived.Maps.AppendAt
import Derived.Laws.AppendOwnNone
namespace Go.Proofs.YtldmldgkjkgkcaaDoor
open Go.RowKit Go.Shelf
set_option linter.unusedVariables false
set_option linter.unusedSimpArgs false

def noS : ByteArray := ⟨#[]⟩
/-- The parts that are there. -/
def fullL (l : List ByteArray) : List ByteArray := l.filter fun s => decide (s ≠ ⟨#[]⟩)
theorem ownsRow_base' {W : World} {base base' : Nat} {e : TypeId} {size : Nat} {v : Value} {k : Nat} {xs : List Value} (h : W.ownsRow base e size v k xs) (hb : base' ≤ base) : W.ownsRow base' e size v k xs := by
  refine ⟨h.1, ?_⟩
  rcases h.2 with hn | ⟨g, cap, cur, hv, hbg, rest⟩
  · exact .inl hn
  · exact .inr ⟨g, cap, cur, hv, Nat.le_trans hb hbg, rest⟩
theorem below_row {W w1 : World} {n₀ : Nat} {e : TypeId} {size : Nat} {v : Value} {k : Nat} {xs : List Value} (o : Obj) (h : W.ownsRow n₀ e size v k xs) (hn : n₀ ≤ W.heap.size) (hg : (W.alloc o).grownBy w1 v.ownBlock) : Below n₀ W w1 :=
  ((Below.refl n₀ W).alloc hn o).grown hg (by simp; omega) (fun k e => h.lt k e |>.1)
theorem below_row' {W w1 : World} {n₀ : Nat} {e : TypeId} {size : Nat} {v : Value} {k : Nat} {xs : List Value} (h : W.ownsRow n₀ e size v k xs) (hn : n₀ ≤ W.heap.size) (hg : W.grownBy w1 v.ownBlock) : Below n₀ W w1 :=
  (Below.refl n₀ W).grown hg hn (fun k e => h.lt k e |>.1)

/-- Between two rounds: what has come so far stands in a row of the call's own. -/
def RowAt (W0 : World) (v : Value) (l : List ByteArray) (W : World) : Prop :=
  W.ownsRow W0.heap.size 9 1 v l.length (l.map Value.string) ∧ Below W0.heap.size W0 W

theorem empty_of {X : ByteArray} (h : (!X.toList.isEmpty) = false) : X = ⟨#[]⟩ := by
  rw [Lib.toList_data] at h
  cases X with | mk d => cases d with | mk l => cases l with
    | nil => rfl
    | cons a r => simp at h
theorem index3_0 (L S R : ByteArray) (w : World) : (Instr.index 65 (Value.agg #[Value.string L, Value.string S, Value.string R]) (Value.int .i64 ((0 : Nat) : Int))).run Tryd.prog w = .ok (.string L) w := by kernel_rfl
theorem index3_1 (L S R : ByteArray) (w : World) : (Instr.index 65 (Value.agg #[Value.string L, Value.string S, Value.string R]) (Value.int .i64 ((1 : Nat) : Int))).run Tryd.prog w = .ok (.string S) w := by kernel_rfl
theorem index3_2 (L S R : ByteArray) (w : World) : (Instr.index 65 (Value.agg #[Value.string L, Value.string S, Value.string R]) (Value.int .i64 ((2 : Nat) : Int))).run Tryd.prog w = .ok (.string R) w := by kernel_rfl

set_option maxRecDepth 100000 in
set_option maxHeartbeats 2000000 in
theorem parts_any (L S R : ByteArray) (sv : Value) (vs : List ByteArray) (hvs : vs.length ≤ 1000) (w : World) (hI : StrsAt w.heap.size w sv vs) :
    Calls Tryd.prog 26 #[.agg #[.string L, .string S, .string R, sv]] w fun e W' => ∃ v, e = .returned v ∧ W'.ownsRow w.heap.size 9 1 v (fullL [L, S, R] ++ vs).length ((fullL [L, S, R] ++ vs).map Value.string) ∧ Below w.heap.size w W' := by
  obtain ⟨i0, hi, hz0, hz1, hz2⟩ := info_parts infoStr
  obtain ⟨A, cap, rfl⟩ : ∃ a cap, sv = .slice a vs.length cap := by
    rcases hI with ⟨rfl, rfl⟩ | ⟨b, off, cap, rfl, _⟩
    · exact ⟨none, 0, rfl⟩
    · exact ⟨_, _, rfl⟩
  have HI := Lib.hid hI
  clear hI
  go_enter Tryd.func26, Tryd.ntmps26
  go_wp2
  obtain ⟨W0, hW0⟩ : ∃ W0, w.alloc (.cells #[.string L, .string S, .string R, .slice A vs.length cap] 25) = W0 := ⟨_, rfl⟩
  have hsz : W0.heap.size = w.heap.size + 1 := by rw [← hW0]; simp
  have hb0 : Below w.heap.size w W0 := by rw [← hW0]; exact (Below.refl _ w).alloc (Nat.le_refl _) _
  have hcell : W0.cell? ⟨w.heap.size, 3, none⟩ = some (.slice A vs.length cap) := by rw [← hW0]; unfold World.cell?; rw [World.alloc_heap_new]; rfl
  rw [hW0]
  go_loopw [3, 13] (fun p i wr => ∃ k : Nat, k ≤ 3 ∧ i = .int .i64 k ∧ RowAt W0 p (fullL ([L, S, R].take k)) wr) (fun _ i _ => 3 - (intOf i).toNat)
  case atStart => exact ⟨0, Nat.zero_le _, rfl, World.ownsRow_nil _ _ _ _, Below.refl _ _⟩
  case round =>
    obtain ⟨k, hk, rfl, hrow, hbl⟩ := hrel
    have hle := hbl.size
    have hq : (fullL ([L, S, R].take k)).length ≤ 3 := Nat.le_trans (List.length_filter_le _ _) (by simp; omega)
    by_cases hlt : k < 3
    · have key : ∀ X : ByteArray, [L, S, R].take (k + 1) = [L, S, R].take k ++ [X] → (X = ⟨#[]⟩ → fullL ([L, S, R].take (k + 1)) = fullL ([L, S, R].take k)) ∧ (X ≠ ⟨#[]⟩ → fullL ([L, S, R].take (k + 1)) = fullL ([L, S, R].take k) ++ [X]) := by
        intro X hX
        rw [hX]
        unfold fullL
        rw [List.filter_append]
        exact ⟨fun h => by simp [h], fun h => by simp [h]⟩
      obtain ⟨X, hX, hidx⟩ : ∃ X, [L, S, R].take (k + 1) = [L, S, R].take k ++ [X] ∧ (Instr.index 65 (Value.agg #[Value.string L, Value.string S, Value.string R]) (Value.int .i64 (k : Int))).run Tryd.prog wr = .ok (.string X) wr := by
        match k, hlt with
        | 0, _ => exact ⟨L, rfl, index3_0 L S R wr⟩
        | 1, _ => exact ⟨S, rfl, index3_1 L S R wr⟩
        | 2, _ => exact ⟨R, rfl, index3_2 L S R wr⟩
      have K1 := Lib.hid (key X hX).1
      have K2 := Lib.hid (key X hX).2
      clear key hX
      by_cases he : X = ⟨#[]⟩
      · go_wp2_with fail
        go_roundw
        case rel => exact ⟨k + 1, by omega, by go_num, by rw [K1.out he]; exact ⟨hrow, hbl⟩⟩
        case measure => simp [intOf]; omega
      · go_wp2_with (at_builtin; refine wpList_append_own _ rfl _ _ 23 rfl W0.heap.size 9 i0 (.string ByteArray.empty) 1 16 Tryd.underlying23 hi hz0 hz1 hz2 rfl (by decide) _ _ _ rfl (hrow.alloc _) ⟨wr.heap.size, 0, none⟩ 1 1 [.string X] rfl rfl (cell_one_new _ _ _) (by simp [Value.oneCell']) (by unfold maxLen; omega) (by omega) (by simp; omega) ?_; intro v' w1 hown' hgrow _)
        go_roundw
        case rel => exact ⟨k + 1, by omega, by go_num, by rw [K2.out he]; simpa using hown', hbl.trans (below_row _ hrow hle hgrow)⟩
        case measure => simp [intOf]; omega
        all_goals exact absurd (empty_of (by assumption)) he
    · obtain rfl : k = 3 := by omega
      have hrow' : wr.ownsRow W0.heap.size 9 1 u3 (fullL [L, S, R]).length ((fullL [L, S, R]).map Value.string) := hrow
      have hq' : (fullL [L, S, R]).length ≤ 3 := hq
      clear hrow hq
      have hc3 : wr.cell? ⟨w.heap.size, 3, none⟩ = some (.slice A vs.length cap) := (hbl.cell (p := ⟨w.heap.size, 3, none⟩) (by simp; omega)).trans hcell
      rcases HI.out.below (hb0.trans (hbl.mono (by omega))) with ⟨e, rfl⟩ | ⟨b, off, c, e, hb, hcs⟩
      · obtain ⟨rfl, rfl⟩ : A = none ∧ cap = 0 := by simpa using e
        go_wp2_with (at_builtin; refine wpList_append_own_none rfl _ _ 23 rfl W0.heap.size 9 i0 1 Tryd.underlying23 hi _ _ _ rfl hrow' rfl ?_)
        go_ret
        exact ⟨_, rfl, by simpa using ownsRow_base' hrow' (by omega), hb0.trans (hbl.mono (by omega))⟩
      · obtain ⟨rfl, rfl⟩ : A = some ⟨b, off, none⟩ ∧ cap = c := by simpa using e
        have hnews : ∀ j u, (vs.map Value.string)[j]? = some u → wr.cell? ((⟨b, off, none⟩ : Addr).add j) = some u := by
          intro j u hu
          obtain ⟨hj, hu'⟩ := List.getElem?_eq_some_iff.1 hu
          have hj' : j < vs.length := by simpa using hj
          have := hcs j hj'
          rw [show ((⟨b, off, none⟩ : Addr).add j) = ⟨b, off + j, none⟩ by unfold Addr.add; split <;> simp_all, this, ← hu']
          simp [hj']
        go_wp2_with (at_builtin; refine wpList_append_own _ rfl _ _ 23 rfl W0.heap.size 9 i0 (.string ByteArray.empty) 1 16 Tryd.underlying23 hi hz0 hz1 hz2 rfl (by decide) _ _ _ rfl hrow' ⟨b, off, none⟩ vs.length _ (vs.map Value.string) rfl (by simp) hnews (by simp [Value.oneCell']) (by unfold maxLen; omega) (by omega) hle ?_; intro v' w1 hown' hgrow _)
        go_ret
        exact ⟨_, rfl, by simpa using ownsRow_base' hown' (by omega), (hb0.trans (hbl.mono (by omega))).trans ((below_row' hrow' hle hgrow).mono (by omega))⟩
end Go.Proofs.YtldmldgkjkgkcaaDoor
