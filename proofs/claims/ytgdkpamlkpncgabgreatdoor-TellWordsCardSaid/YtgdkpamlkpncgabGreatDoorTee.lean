/-
  Package tell: lines that tell of an answer that is none.
-/
import Derived.Test.YtgdkpamlkpncgabGreatDoorTea
import Derived.Test.YtgdkpamlkpncgabGreatDoorTQuote2
import Derived.Deep.RegionHeld3
namespace Go.Proofs.YtgdkpamlkpncgabGreatDoor
open Go.RowKit
set_option linter.unusedVariables false
set_option linter.unusedSimpArgs false

set_option maxHeartbeats 2000000 in
set_option maxRecDepth 100000 in
theorem told_none (t : ByteArray) (ht : t.size ≤ 1000) (w : World) : Calls Tryz.prog 393 #[.agg #[.bool false, .string ⟨#[]⟩, .string t]] w fun e w' => e = .returned (.string (⟨#[110, 111, 110, 101, 32]⟩ ++ ⟨(quoteAll t).toArray⟩)) ∧ Below w.heap.size w w' := by
  have hq := quoteFrom_length t t.size 0
  have hl : (quoteAll t).length ≤ 6 * t.size + 2 := by
    unfold quoteAll
    rw [List.length_cons, List.length_append, List.length_singleton]
    omega
  have HQ := Lib.hid (quote_any t (w.alloc (.cells #[.bool false, .string ⟨#[]⟩, .string t] 103)) (by omega))
  obtain ⟨Q, hQ⟩ : ∃ Q, quoteAll t = Q := ⟨_, rfl⟩
  rw [hQ] at HQ hl ⊢
  have hz : (⟨Q.toArray⟩ : ByteArray).size = Q.length := by show Q.toArray.size = _; simp
  have g1 : ¬ 9223372036854775807 < 5 + (⟨Q.toArray⟩ : ByteArray).size := by omega
  have g2 : ¬ 9223372036854775807 < 5 + Q.length := by omega
  clear hq hQ hl
  go_enter Tryz.func393, Tryz.ntmps393
  go_wp2_with fail
  go_at_call 394
  refine HQ.out.mono ?_
  rintro e w1 ⟨rfl, hb⟩
  have HB := Lib.hid (below_box hb)
  clear hb
  go_wp2
  go_ret
  exact ⟨ret_str (by apply bytes_eq; simp), HB.out⟩
set_option maxHeartbeats 2000000 in
set_option maxRecDepth 100000 in
theorem told_wrong (c : Int) (n : ByteArray) (hn : n.size ≤ 4000000) (w : World) : Calls Tryz.prog 396 #[.agg #[.int .i64 c, .string n]] w fun e w' => e = .returned (.string (⟨#[33, 32]⟩ ++ wordB c ++ ⟨#[32]⟩ ++ n)) ∧ Below w.heap.size w w' := by
  have hws : (wordB c).size ≤ 7 := by
    unfold wordB
    repeat' split
    all_goals decide
  obtain ⟨WD, hWD⟩ : ∃ d, wordB c = d := ⟨_, rfl⟩
  have HT := fun W => tword_any c W
  rw [hWD] at HT hws ⊢
  have HW := Lib.hid HT
  have g1 : ¬ 9223372036854775807 < 2 + WD.size := by omega
  have g2 : ¬ 9223372036854775807 < 2 + WD.size + 1 := by omega
  have g3 : ¬ 9223372036854775807 < 2 + WD.size + 1 + n.size := by omega
  have CB := Lib.hid (BoxAt.new w #[.int .i64 c, .string n] 106)
  have HKp : Hid (∀ W W', (W.cell? ⟨w.heap.size, 0, none⟩ = some (.int .i64 c) ∧ W.cell? ⟨w.heap.size, 1, none⟩ = some (.string n) ∧ w.heap.size + 1 ≤ W.heap.size ∧ Below (w.heap.size + 1) (w.alloc (.cells #[.int .i64 c, .string n] 106)) W) → Below W.heap.size W W' → (W'.cell? ⟨w.heap.size, 0, none⟩ = some (.int .i64 c) ∧ W'.cell? ⟨w.heap.size, 1, none⟩ = some (.string n) ∧ w.heap.size + 1 ≤ W'.heap.size ∧ Below (w.heap.size + 1) (w.alloc (.cells #[.int .i64 c, .string n] 106)) W')) := fun W W' ⟨h1, h2, h3, h4⟩ g =>
    ⟨(g.cell (p := ⟨w.heap.size, 0, none⟩) h3).trans h1, (g.cell (p := ⟨w.heap.size, 1, none⟩) h3).trans h2, Nat.le_trans h3 g.size, h4.trans (g.mono h3)⟩
  have HS0 := Lib.hid (show (w.alloc (.cells #[.int .i64 c, .string n] 106)).drew.cell? ⟨w.heap.size, 0, none⟩ = some (.int .i64 c) ∧ (w.alloc (.cells #[.int .i64 c, .string n] 106)).drew.cell? ⟨w.heap.size, 1, none⟩ = some (.string n) ∧ w.heap.size + 1 ≤ (w.alloc (.cells #[.int .i64 c, .string n] 106)).drew.heap.size ∧ Below (w.heap.size + 1) (w.alloc (.cells #[.int .i64 c, .string n] 106)) (w.alloc (.cells #[.int .i64 c, .string n] 106)).drew from ⟨CB.out.cell 0, CB.out.cell 1, CB.out.lt, (Below.refl _ _).drew⟩)
  have HBa := Lib.hid ((Below.refl w.heap.size w).alloc (Nat.le_refl _) (.cells #[.int .i64 c, .string n] 106))
  clear hWD HT hws
  go_enter Tryz.func396, Tryz.ntmps396
  go_wp2
  go_region_held3 (fun w' => w'.cell? ⟨w.heap.size, 0, none⟩ = some (.int .i64 c) ∧ w'.cell? ⟨w.heap.size, 1, none⟩ = some (.string n) ∧ w.heap.size + 1 ≤ w'.heap.size ∧ Below (w.heap.size + 1) (w.alloc (.cells #[.int .i64 c, .string n] 106)) w')
    (first | (exact HKp.out _ _ (by assumption) (by assumption)) | (exact HS0.out) | assumption | go_keep)
    (first | (go_at_call 5; (with_reducible refine (HW.out _).mono ?_); rintro e wb ⟨rfl, hbb⟩))
  rename_i hmE
  have HBE := Lib.hid (HBa.out.trans (hmE.2.2.2.mono (Nat.le_succ _)))
  clear hmE
  go_wp2
  go_ret
  exact ⟨ret_str (by apply bytes_eq; simp), HBE.out⟩
end Go.Proofs.YtgdkpamlkpncgabGreatDoor
