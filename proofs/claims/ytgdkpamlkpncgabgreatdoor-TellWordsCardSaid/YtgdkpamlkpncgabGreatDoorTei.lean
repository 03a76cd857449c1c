/-
  Package tell: what is told of an Ask that no language answers.
-/
import Derived.Test.YtgdkpamlkpncgabGreatDoorTeh
namespace Go.Proofs.YtgdkpamlkpncgabGreatDoor
open Go.RowKit
set_option linter.unusedVariables false
set_option linter.unusedSimpArgs false

theorem quote_a : (quoteAll ⟨#[97]⟩) = [34, 97, 34] := by kernel_rfl
def t0 : ByteArray := ⟨#[110, 111, 110, 101, 32, 34, 97, 34]⟩
def t1 : ByteArray := ⟨#[33, 32, 109, 101, 115, 115, 97, 103, 101, 32, 97]⟩
theorem told_a (w : World) : Calls Tryz.prog 393 #[.agg #[.bool false, .string ⟨#[]⟩, .string ⟨#[97]⟩]] w fun e w' => e = .returned (.string t0) ∧ Below w.heap.size w w' := by
  refine (told_none ⟨#[97]⟩ (by decide) w).mono ?_
  rintro e w' ⟨rfl, h⟩
  refine ⟨?_, h⟩
  rw [quote_a]
  rfl
theorem told_m (w : World) : Calls Tryz.prog 396 #[.agg #[.int .i64 2, .string ⟨#[97]⟩]] w fun e w' => e = .returned (.string t1) ∧ Below w.heap.size w w' := by
  refine (told_wrong 2 ⟨#[97]⟩ (by decide) w).mono ?_
  rintro e w' ⟨rfl, h⟩
  refine ⟨?_, h⟩
  rfl
theorem own_lower1 {W : World} {B B' n k : Nat} {t : TypeId} {v : Value} {xs : List Value} (h : W.ownsRow B t n v k xs) (hB : B' ≤ B) : W.ownsRow B' t n v k xs := by
  obtain ⟨q1, q2⟩ := h
  refine ⟨q1, ?_⟩
  rcases q2 with h | ⟨g, cap, cur, h1, h2, h3⟩
  · exact .inl h
  · exact .inr ⟨g, cap, cur, h1, by omega, h3⟩
set_option maxHeartbeats 8000000 in
set_option maxRecDepth 100000 in
theorem tlines_a (A1 A2 : Option Addr) (c1 c2 k : Nat) (w : World) (hk : BoxAt w k #[.int .i64 2, .string ⟨#[97]⟩] 105) :
    Calls Tryz.prog 10 #[.agg #[.int .i64 2, .string ⟨#[]⟩, .string ⟨#[]⟩, .bool false, .slice A1 0 c1, .string ⟨#[97]⟩, .string ⟨#[]⟩, .slice A2 0 c2], .agg #[.int .i64 0, .slice none 0 0, .int .i64 0, .string ⟨#[97]⟩, .slice (some ⟨k, 0, none⟩) 1 1, .string ⟨#[]⟩, .bool false]] w fun e w' => (∃ v, e = .returned v ∧ w'.ownsRow w.heap.size 9 1 v 2 [.string t0, .string t1]) ∧ Below w.heap.size w w' := by
  obtain ⟨i0, hi0, hz0, hz1, hz2⟩ := info_split infoTx
  have hm0 : ∀ w : World, (method 576 103 (.agg #[.bool false, .string ⟨#[]⟩, .string ⟨#[97]⟩]) "polyglot/tell.told").run Tryz.prog w = .ok (393, .agg #[.bool false, .string ⟨#[]⟩, .string ⟨#[97]⟩]) w := fun _ => by kernel_rfl
  have hm1 : ∀ w : World, (method 576 106 (.agg #[.int .i64 2, .string ⟨#[97]⟩]) "polyglot/tell.told").run Tryz.prog w = .ok (396, .agg #[.int .i64 2, .string ⟨#[97]⟩]) w := fun _ => by kernel_rfl
  have hk2 := (hk.alloc (.cells #[.int .i64 2, .string ⟨#[]⟩, .string ⟨#[]⟩, .bool false, .slice A1 0 c1, .string ⟨#[97]⟩, .string ⟨#[]⟩, .slice A2 0 c2] 45)).alloc (.cells #[.int .i64 0, .slice none 0 0, .int .i64 0, .string ⟨#[97]⟩, .slice (some ⟨k, 0, none⟩) 1 1, .string ⟨#[]⟩, .bool false] 40)
  have HL := Lib.hid (lines_of_ask ⟨#[97]⟩ k _ hk2)
  have hb2 := ((Below.refl w.heap.size w).alloc (Nat.le_refl _) (.cells #[.int .i64 2, .string ⟨#[]⟩, .string ⟨#[]⟩, .bool false, .slice A1 0 c1, .string ⟨#[97]⟩, .string ⟨#[]⟩, .slice A2 0 c2] 45)).alloc (by simp) (.cells #[.int .i64 0, .slice none 0 0, .int .i64 0, .string ⟨#[97]⟩, .slice (some ⟨k, 0, none⟩) 1 1, .string ⟨#[]⟩, .bool false] 40)
  have HB2 := Lib.hid hb2
  clear hk hk2 hb2
  go_enter Tryz.func10, Tryz.ntmps10
  go_wp2_with fail
  go_at_call 16
  refine HL.out.mono ?_
  rintro e w3 ⟨⟨G, cap, rfl, hG1, hG2, hc0, hc1⟩, h3⟩
  have HB3 := Lib.hid (HB2.out.trans (h3.mono HB2.out.size))
  have HC3 := Lib.hid (Below.refl w3.heap.size w3)
  clear h3 HL
  go_wp2_with fail
  go_loopw [5, 13] (fun t5 t13 wr => ∃ i : Nat, t13 = .int .i64 i ∧ i ≤ 2 ∧ Hid (wr.ownsRow w3.heap.size 9 1 t5 i (([Value.string t0, Value.string t1] : List Value).take i)) ∧ Hid (Below w.heap.size w wr) ∧ Hid (Below w3.heap.size w3 wr)) (fun _ t13 _ => 2 - (intOf t13).toNat)
  case atStart => exact ⟨0, rfl, by omega, Lib.hid (World.ownsRow_nil _ _ _ _), HB3, HC3⟩
  case round =>
    obtain ⟨i, rfl, hi, HO, HB, HC⟩ := hrel
    rcases (by omega : i = 0 ∨ i = 1 ∨ i = 2) with rfl | rfl | rfl
    · have hcell : wr.cell? ⟨G, 0, none⟩ = some (lnA ⟨#[97]⟩) := (HC.out.cell (p := ⟨G, 0, none⟩) hG2).trans hc0
      have hlG : G < wr.heap.size := Nat.lt_of_lt_of_le hG2 HC.out.size
      unfold lnA at hcell
      have HOw := Lib.hid HO.out
      go_wp2_with fail

      go_at_call 393
      refine (told_a _).mono ?_
      rintro e w5 ⟨rfl, h5⟩
      have h5' := h5
      have HB5 := Lib.hid (HB.out.trans (h5'.mono HB.out.size))
      have HC5 := Lib.hid (HC.out.trans (h5'.mono HC.out.size))
      have hO5 := World.ownsRow.alloc (OwnG.later (f := txC) (l := []) HOw.out h5') (.cells #[.string t0] 9)
      have hnew : BoxAt (w5.alloc (.cells #[.string t0] 9)) w5.heap.size #[.string t0] 9 := BoxAt.new w5 _ _
      clear h5 h5' HOw hcell
      go_wp2_with (at_builtin; refine wpList_append_where _ rfl _ _ 26 rfl w3.heap.size 9 i0 _ 1 16 Tryz.underlying26 hi0 hz0 hz1 hz2 rfl (by decide) _ _ _ rfl hO5 ⟨w5.heap.size, 0, none⟩ 1 1 [.string t0] rfl rfl ?c1 ?c2 ?c3 ?c4 ?c5 ?c6 ?_)
      case c1 =>
        intro j u hj
        rw [addMid, Nat.zero_add]
        refine (hnew.cell j).trans ?_
        simpa using hj
      case c2 => intro u hu; simp at hu; subst hu; rfl
      case c3 => unfold maxLen; simp
      case c4 => simp
      case c5 => have := HC5.out.size; simp; omega
      case c6 => decide
      intro v' w8 hown hgrow hwh
      have HB8 := Lib.hid ((HB5.out.alloc HB5.out.size (.cells #[.string t0] 9)).grown hgrow (by have := HB5.out.size; simp; omega) (fun g e => Nat.le_trans HB3.out.size (World.ownsRow.lt hO5 g e).1))
      have HO8 := Lib.hid hown
      have HC8 := Lib.hid ((HC5.out.alloc HC5.out.size (.cells #[.string t0] 9)).grown hgrow (by have := HC5.out.size; simp; omega) (fun g e => (World.ownsRow.lt hO5 g e).1))
      clear hown hgrow hwh hnew hO5
      go_wp2
      go_roundw
      case rel => exact ⟨1, by go_num, by omega, Lib.hid HO8.out, Lib.hid HB8.out, Lib.hid HC8.out⟩
      case measure => simp [intOf]
    · have hcell : wr.cell? ⟨G, 1, none⟩ = some (lnW ⟨#[97]⟩) := (HC.out.cell (p := ⟨G, 1, none⟩) hG2).trans hc1
      have hlG : G < wr.heap.size := Nat.lt_of_lt_of_le hG2 HC.out.size
      unfold lnW at hcell
      have HOw := Lib.hid HO.out
      go_wp2_with fail

      go_at_call 396
      refine (told_m _).mono ?_
      rintro e w5 ⟨rfl, h5⟩
      have h5' := h5
      have HB5 := Lib.hid (HB.out.trans (h5'.mono HB.out.size))
      have HC5 := Lib.hid (HC.out.trans (h5'.mono HC.out.size))
      have hO5 := World.ownsRow.alloc (OwnG.later (f := txC) (l := [t0]) HOw.out h5') (.cells #[.string t1] 9)
      have hnew : BoxAt (w5.alloc (.cells #[.string t1] 9)) w5.heap.size #[.string t1] 9 := BoxAt.new w5 _ _
      clear h5 h5' HOw hcell
      go_wp2_with (at_builtin; refine wpList_append_where _ rfl _ _ 26 rfl w3.heap.size 9 i0 _ 1 16 Tryz.underlying26 hi0 hz0 hz1 hz2 rfl (by decide) _ _ _ rfl hO5 ⟨w5.heap.size, 0, none⟩ 1 1 [.string t1] rfl rfl ?c1 ?c2 ?c3 ?c4 ?c5 ?c6 ?_)
      case c1 =>
        intro j u hj
        rw [addMid, Nat.zero_add]
        refine (hnew.cell j).trans ?_
        simpa using hj
      case c2 => intro u hu; simp at hu; subst hu; rfl
      case c3 => unfold maxLen; simp
      case c4 => simp
      case c5 => have := HC5.out.size; simp; omega
      case c6 => decide
      intro v' w8 hown hgrow hwh
      have HB8 := Lib.hid ((HB5.out.alloc HB5.out.size (.cells #[.string t1] 9)).grown hgrow (by have := HB5.out.size; simp; omega) (fun g e => Nat.le_trans HB3.out.size (World.ownsRow.lt hO5 g e).1))
      have HO8 := Lib.hid hown
      have HC8 := Lib.hid ((HC5.out.alloc HC5.out.size (.cells #[.string t1] 9)).grown hgrow (by have := HC5.out.size; simp; omega) (fun g e => (World.ownsRow.lt hO5 g e).1))
      clear hown hgrow hwh hnew hO5
      go_wp2
      go_roundw
      case rel => exact ⟨2, by go_num, by omega, Lib.hid HO8.out, Lib.hid HB8.out, Lib.hid HC8.out⟩
      case measure => simp [intOf]
    · go_wp2
      go_ret
      exact ⟨⟨_, rfl, own_lower1 HO.out HB3.out.size⟩, HB.out⟩
end Go.Proofs.YtgdkpamlkpncgabGreatDoor
