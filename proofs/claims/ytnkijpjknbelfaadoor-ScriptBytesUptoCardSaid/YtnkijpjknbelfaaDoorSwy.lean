/-
  Package script: the law's Same, of two steps that are the same.
-/
import Derived.Test.YtnkijpjknbelfaaDoorSwn
namespace Go.Proofs.YtnkijpjknbelfaaDoor
open Go.RowKit
set_option linter.unusedVariables false
set_option linter.unusedSimpArgs false

set_option maxHeartbeats 8000000 in
set_option maxRecDepth 100000 in
theorem same_any (x : ST) (A1 A2 B1 B2 : Option Addr) (c1 c2 d1 d2 : Nat) (w : World) (ha : StF w (Old w) x A1 A2) (hb : StF w (Old w) x B1 B2) (hw : x.wishes.length ≤ 1000000) (har : x.args.length ≤ 1000000) :
    Calls Tryd.prog 16 #[.agg (stA x A1 c1 A2 c2), .agg (stA x B1 d1 B2 d2)] w fun e w' => e = .returned (.bool true) ∧ Below w.heap.size w w' := by
  obtain ⟨ha1, ha2⟩ := ha
  obtain ⟨hb1, hb2⟩ := hb
  obtain ⟨k, tag, by_, ov, wi, nm, at_, ar⟩ := x
  unfold stA
  dsimp only at *
  have hw0 : (wi.length : Int) ≤ 1000000 := by omega
  have ha0 : (ar.length : Int) ≤ 1000000 := by omega
  have HA1 := Lib.hid ha1
  have HA2 := Lib.hid ha2
  have HB1 := Lib.hid hb1
  have HB2 := Lib.hid hb2
  clear ha1 ha2 hb1 hb2
  go_enter Tryd.func16, Tryd.ntmps16
  go_upto_region 1 with fail
  have X0 := (BoxAt.new w #[.int .i64 k, .string tag, .string by_, .bool ov, .slice A1 wi.length c1, .string nm, .string at_, .slice A2 ar.length c2] 29).alloc (.cells #[.int .i64 k, .string tag, .string by_, .bool ov, .slice B1 wi.length d1, .string nm, .string at_, .slice B2 ar.length d2] 29)
  have Y0 := BoxAt.new' (w.alloc (.cells #[.int .i64 k, .string tag, .string by_, .bool ov, .slice A1 wi.length c1, .string nm, .string at_, .slice A2 ar.length c2] 29)) (w.heap.size + 1) #[.int .i64 k, .string tag, .string by_, .bool ov, .slice B1 wi.length d1, .string nm, .string at_, .slice B2 ar.length d2] 29 (by simp)
  have K0 := Lib.hid (((Below.refl w.heap.size w).alloc (Nat.le_refl _) (.cells #[.int .i64 k, .string tag, .string by_, .bool ov, .slice A1 wi.length c1, .string nm, .string at_, .slice A2 ar.length c2] 29)).alloc (by simp) (.cells #[.int .i64 k, .string tag, .string by_, .bool ov, .slice B1 wi.length d1, .string nm, .string at_, .slice B2 ar.length d2] 29))
  generalize ((w.alloc (.cells #[.int .i64 k, .string tag, .string by_, .bool ov, .slice A1 wi.length c1, .string nm, .string at_, .slice A2 ar.length c2] 29)).alloc (.cells #[.int .i64 k, .string tag, .string by_, .bool ov, .slice B1 wi.length d1, .string nm, .string at_, .slice B2 ar.length d2] 29)) = W at *
  have HX := Lib.hid X0
  have HY := Lib.hid Y0
  obtain ⟨a0, a1, a2, a3, a4, a5, a6, a7, _⟩ := cellsB8 X0
  obtain ⟨b0, b1, b2, b3, b4, b5, b6, b7, _⟩ := cellsB8 Y0
  clear X0 Y0
  go_wp2_with fail
  go_loopw [68] (fun t68 wr => ∃ i : Nat, t68 = .int .i64 i ∧ i ≤ wi.length ∧ Hid (Below W.heap.size W wr)) (fun t68 _ => wi.length - (intOf t68).toNat)
  case atStart => exact ⟨0, rfl, Nat.zero_le _, Lib.hid (Below.refl _ _)⟩
  case round =>
    clear a0 a1 a2 a3 a4 a5 a6 a7 b0 b1 b2 b3 b4 b5 b6 b7
    generalize wr = w1 at *
    obtain ⟨i, rfl, hi, HB⟩ := hrel
    have hi0 : (i : Int) ≤ 1000000 := by omega
    obtain ⟨a0, a1, a2, a3, a4, a5, a6, a7, _⟩ := cellsB8 (HX.out.later HB.out)
    obtain ⟨b0, b1, b2, b3, b4, b5, b6, b7, _⟩ := cellsB8 (HY.out.later HB.out)
    by_cases hlt : i < wi.length
    · have q1 : decide ((i : Int) < (wi.length : Int)) = true := decide_eq_true (by omega)
      have q2 : (i : Int) < (wi.length : Int) := by omega
      have q3 : (0 : Int) ≤ (i : Int) := by omega
      obtain ⟨s, hs⟩ : ∃ s, wi[i]? = some s := ⟨_, List.getElem?_eq_getElem hlt⟩
      obtain ⟨ba, oa, rfl, hba, hca⟩ := HA1.out (by omega)
      obtain ⟨bb, ob, rfl, hbb, hcb⟩ := HB1.out (by omega)
      have hWs : w.heap.size ≤ W.heap.size := K0.out.size
      have ea : w1.cell? ⟨ba, oa + i, none⟩ = some (.string s) := ((HB.out.cell (p := ⟨ba, oa + i, none⟩) (Nat.lt_of_lt_of_le hba hWs)).trans (K0.out.cell (p := ⟨ba, oa + i, none⟩) hba)).trans (hca i s hs)
      have eb : w1.cell? ⟨bb, ob + i, none⟩ = some (.string s) := ((HB.out.cell (p := ⟨bb, ob + i, none⟩) (Nat.lt_of_lt_of_le hbb hWs)).trans (K0.out.cell (p := ⟨bb, ob + i, none⟩) hbb)).trans (hcb i s hs)
      clear hs hca hcb
      go_wp2_with fail
      go_region_held3 (fun w' => w'.cell? ⟨w.heap.size, 4, none⟩ = some (.slice (some ⟨ba, oa, none⟩) wi.length c1) ∧ w'.cell? ⟨w.heap.size + 1, 4, none⟩ = some (.slice (some ⟨bb, ob, none⟩) wi.length d1) ∧ w'.cell? ⟨ba, oa + i, none⟩ = some (.string s) ∧ w'.cell? ⟨bb, ob + i, none⟩ = some (.string s)) (first | exact ⟨a4, b4, ea, eb⟩) (first | fail)
      all_goals
        go_wp2
        go_roundw
        case rel => exact ⟨i + 1, by go_num, hlt, Lib.hid HB.out.drew⟩
        case measure => simp [intOf]; omega
    · have q1 : decide ((i : Int) < (wi.length : Int)) = false := decide_eq_false (by omega)
      have q2 : ¬ (i : Int) < (wi.length : Int) := by omega
      go_wp2_with fail
      clear q1 q2 hi hi0 hlt
      go_loopw [86] (fun t86 wr => ∃ i : Nat, t86 = .int .i64 i ∧ i ≤ ar.length ∧ Hid (Below W.heap.size W wr)) (fun t86 _ => ar.length - (intOf t86).toNat)
      case atStart => exact ⟨0, rfl, Nat.zero_le _, HB⟩
      case round =>
        clear a0 a1 a2 a3 a4 a5 a6 a7 b0 b1 b2 b3 b4 b5 b6 b7
        generalize wr = w2 at *
        obtain ⟨j, rfl, hj, HB'⟩ := hrel
        have hj0 : (j : Int) ≤ 1000000 := by omega
        obtain ⟨a0, a1, a2, a3, a4, a5, a6, a7, _⟩ := cellsB8 (HX.out.later HB'.out)
        obtain ⟨b0, b1, b2, b3, b4, b5, b6, b7, _⟩ := cellsB8 (HY.out.later HB'.out)
        by_cases hlt : j < ar.length
        · have q1 : decide ((j : Int) < (ar.length : Int)) = true := decide_eq_true (by omega)
          have q2 : (j : Int) < (ar.length : Int) := by omega
          have q3 : (0 : Int) ≤ (j : Int) := by omega
          obtain ⟨s, hs⟩ : ∃ s, ar[j]? = some s := ⟨_, List.getElem?_eq_getElem hlt⟩
          obtain ⟨ba, oa, rfl, hba, hca⟩ := HA2.out (by omega)
          obtain ⟨bb, ob, rfl, hbb, hcb⟩ := HB2.out (by omega)
          have hWs : w.heap.size ≤ W.heap.size := K0.out.size
          have hup : ∀ b o, b < w.heap.size → w2.cell? ⟨b, o, none⟩ = w.cell? ⟨b, o, none⟩ := fun b o h => (HB'.out.cell (p := ⟨b, o, none⟩) (Nat.lt_of_lt_of_le h hWs)).trans (K0.out.cell (p := ⟨b, o, none⟩) h)
          obtain ⟨ea0, ea1, ea2⟩ := hca j s hs
          obtain ⟨eb0, eb1, eb2⟩ := hcb j s hs
          rw [← hup _ _ hba] at ea0 ea1 ea2
          rw [← hup _ _ hbb] at eb0 eb1 eb2
          clear hs hca hcb hup
          go_wp2_with fail
          go_region_held3 (fun w' => w'.cell? ⟨w.heap.size, 7, none⟩ = some (.slice (some ⟨ba, oa, none⟩) ar.length c2) ∧ w'.cell? ⟨w.heap.size + 1, 7, none⟩ = some (.slice (some ⟨bb, ob, none⟩) ar.length d2) ∧ w'.cell? ⟨ba, oa + j * 3, none⟩ = some (.string s.name) ∧ w'.cell? ⟨ba, oa + j * 3 + 1, none⟩ = some (.int .i64 s.kind) ∧ w'.cell? ⟨ba, oa + j * 3 + 2, none⟩ = some (.string s.text) ∧ w'.cell? ⟨bb, ob + j * 3, none⟩ = some (.string s.name) ∧ w'.cell? ⟨bb, ob + j * 3 + 1, none⟩ = some (.int .i64 s.kind) ∧ w'.cell? ⟨bb, ob + j * 3 + 2, none⟩ = some (.string s.text)) (first | exact ⟨a7, b7, ea0, ea1, ea2, eb0, eb1, eb2⟩) (first | fail)
          all_goals
            go_wp2
            go_roundw
            case rel => exact ⟨j + 1, by go_num, hlt, Lib.hid HB'.out.drew⟩
            case measure => simp [intOf]; omega
        · have q1 : decide ((j : Int) < (ar.length : Int)) = false := decide_eq_false (by omega)
          have q2 : ¬ (j : Int) < (ar.length : Int) := by omega
          go_wp2
          go_ret
          exact ⟨rfl, K0.out.trans (HB'.out.mono K0.out.size)⟩
end Go.Proofs.YtnkijpjknbelfaaDoor
