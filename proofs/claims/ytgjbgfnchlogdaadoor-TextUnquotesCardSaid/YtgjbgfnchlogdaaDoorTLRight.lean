import Derived.Test.YtgjbgfnchlogdaaDoorTSigns
import Derived.Test.YtgjbgfnchlogdaaDoorTRight
import Derived.LoopN
import Derived.Deep.MidRow
namespace Go.Proofs.YtgjbgfnchlogdaaDoor
open Go.RowKit
set_option linter.unusedVariables false
set_option linter.unusedSimpArgs false

def noCr (l : List UInt8) : Bool := !(l == [13])
/-- May a text be what bytes are decoded to, by its signs? -/
def rightS (l : List UInt8) : Bool := match sigAll l with | none => false | some xs => xs.all noCr
theorem mk_toList (l : List UInt8) : (⟨l.toArray⟩ : ByteArray).toList = l := by
  rw [ByteArray.toList_eq]
theorem all_snoc (p : List UInt8 → Bool) (xs : List (List UInt8)) (j : Nat) (hj : j < xs.length) : (xs.take (j + 1)).all p = ((xs.take j).all p && p xs[j]) := by
  rw [List.take_succ_eq_append_getElem hj, List.all_append]
  simp

set_option maxHeartbeats 4000000 in
set_option maxRecDepth 1000000 in
theorem lright_any (s : ByteArray) (w : World) (hT : TabU w) (hs : s.size ≤ 100000) :
    Calls Tryd.prog 12 #[.string s] w fun e w' => e = .returned (.bool (rightS s.data.toList)) ∧ Below w.heap.size w w' := by
  obtain ⟨r, hr⟩ : ∃ r, rightS s.data.toList = r := ⟨_, rfl⟩
  rw [hr]
  unfold rightS at hr
  go_enter Tryd.func12, Tryd.ntmps12
  go_wp2_with fail
  go_at_call 13
  refine (signs_any s _ hT hs).mono ?_
  rintro e w1 ⟨hse, b1⟩
  rcases hse with ⟨hn, rfl⟩ | ⟨xs, v, hx, hxl, rfl, hown⟩
  · rw [hn] at hr
    subst hr
    go_wp2
    refine wp_loop_rounds 1 ?_
    rw [rounds_succ]
    go_wp2
    go_ret
    exact ⟨rfl, b1⟩
  · rw [hx] at hr
    dsimp only at hr
    have Hr := Lib.hid hr
    clear hr hx
    rcases hown.2 with ⟨rfl, h0⟩ | ⟨g, cap, cur, fz, rfl, hbg, hg, hfz, hcap, hml, hcs, htk⟩
    · have hxs : xs = [] := List.eq_nil_of_length_eq_zero h0
      subst hxs
      have hr := Hr.out
      rw [List.all_nil] at hr
      subst hr
      clear Hr hown h0
      go_wp2
      refine wp_loop_rounds 1 ?_
      rw [rounds_succ]
      go_wp2
      go_ret
      exact ⟨rfl, b1⟩
    · have hcell : ∀ j q, xs[j]? = some q → w1.cell? ⟨g, j, none⟩ = some (strV q) := by
        intro j q h
        have := hown.cells (g := g) rfl j (strV q) (by simp [h])
        rw [Addr.add_mid, Nat.zero_add] at this
        exact this
      have Hcell := Lib.hid hcell
      have hle : xs.length ≤ 100000 := by rw [size_data] at hxl; omega
      clear hcell hown hg hbg hfz hcs htk
      generalize hL : xs.length = L at *
      have HL := Lib.hid hL
      clear hL
      go_wp2
      go_loop [4, 13] (fun ok i => ∃ j : Nat, j ≤ L ∧ i = .int .i64 j ∧ ∃ b : Bool, ok = .bool b ∧ Hid ((xs.take j).all noCr = b)) (fun _ i => L - (intOf i).toNat)
      case atStart => exact ⟨0, Nat.zero_le _, rfl, true, rfl, rfl⟩
      case round =>
        obtain ⟨j, hj, rfl, b, rfl, hb⟩ := hrel
        by_cases hlt : j < L
        · have hjl : j < xs.length := by rw [HL.out]; exact hlt
          have hc := Hcell.out j xs[j] (List.getElem?_eq_getElem hjl)
          have hsn := all_snoc noCr xs j hjl
          rw [hb.out] at hsn
          unfold strV at hc
          generalize xs[j] = q at *
          have Hsn := Lib.hid hsn
          clear hsn
          cases b
          · go_wp2
            go_round
            case rel => exact ⟨j + 1, by omega, by go_num, false, rfl, by show _ = _; rw [Hsn.out]; rfl⟩
            case measure => simp [intOf]; omega
          · have hq := mk_toList q
            cases hqc : (q == [13])
            · go_wp2
              go_round
              case rel => exact ⟨j + 1, by omega, by go_num, true, rfl, by show _ = _; rw [Hsn.out]; unfold noCr; rw [hqc]; rfl⟩
              case measure => simp [intOf]; omega
            · go_wp2
              go_round
              case rel => exact ⟨j + 1, by omega, by go_num, false, rfl, by show _ = _; rw [Hsn.out]; unfold noCr; rw [hqc]; rfl⟩
              case measure => simp [intOf]; omega
        · obtain rfl : j = L := by omega
          have ht : xs.take j = xs := List.take_of_length_le (by rw [HL.out]; exact Nat.le_refl _)
          have hb2 := hb.out
          rw [ht, Hr.out] at hb2
          subst hb2
          clear ht hb Hr Hcell
          go_wp2
          go_ret
          exact ⟨rfl, b1⟩
end Go.Proofs.YtgjbgfnchlogdaaDoor
