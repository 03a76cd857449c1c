/-
  Package tell: what comes of the document's example.
-/
import Derived.Test.YtgdkpamlkpncgabGreatDoorTei
import Derived.Test.YtgdkpamlkpncgabGreatDoorTek
namespace Go.Proofs.YtgdkpamlkpncgabGreatDoor
open Go.RowKit
set_option linter.unusedVariables false
set_option linter.unusedSimpArgs false

def exB : ByteArray := ⟨#[49, 58, 113, 44, 49, 58, 97, 44, 48, 58, 44, 49, 58, 48, 44]⟩
def exS : ST := ⟨2, ⟨#[]⟩, ⟨#[]⟩, false, [], ⟨#[97]⟩, ⟨#[]⟩, []⟩
theorem ex_dec : decD exB = ([exS], 15, 0) := by kernel_rfl
theorem ex_right : rightS exS = true := by kernel_rfl
attribute [-go_sem] Builtin.append_
set_option maxHeartbeats 8000000 in
set_option maxRecDepth 100000 in
theorem trun_a (g : Nat) (w : World) (hE : Env w) (hc : CvT (.slice (some ⟨g, 0, none⟩) 15 15) exB w) :
    Calls Tryz.prog 7 #[.slice (some ⟨g, 0, none⟩) 15 15] w fun e w' => (∃ G cap, e = .returned (.slice (some ⟨G, 0, none⟩) 2 cap) ∧ G < w'.heap.size ∧ w'.cell? ⟨G, 0, none⟩ = some (.string t0) ∧ w'.cell? ⟨G, 1, none⟩ = some (.string t1)) ∧ Below w.heap.size w w' := by
  have hd := decode_few2 (A := some ⟨g, 0, none⟩) (c := 15) (s := exB) w hE (by decide) hc
  have hx : decG exB.size (exB.size + 1) [] exB = ([exS], 15, 0) := by kernel_rfl
  rw [hx] at hd
  have HD := Lib.hid hd
  obtain ⟨i0, hi0, hz0, hz1, hz2⟩ := info_split infoTx
  have HEn := Lib.hid hE
  clear hd hE hc
  go_enter Tryz.func7, Tryz.ntmps7
  go_wp2_with fail
  go_at_call 8
  refine HD.out.mono ?_
  rintro e w1 h1
  obtain ⟨A, c, rfl, hb1, hst, hcap⟩ := h1
  dsimp only at hb1 hst hcap
  obtain ⟨b, o, rfl, hF, hall⟩ := hst (by decide)
  obtain ⟨A1, c1, A2, c2, hcells, -⟩ := hall 0 exS rfl
  rw [Nat.zero_mul, Nat.add_zero] at hcells
  have hc1 : 1 ≤ c := hcap
  have HB1 := Lib.hid hb1
  have HSp := Lib.hid (rsteps_one ⟨#[97]⟩ exS rfl ex_right A1 A2 c1 c2 b o c w1 (HEn.out.below hb1) hF.2 hcells)
  have HCl := Lib.hid hcells
  have hlb : b < w1.heap.size := hF.2
  have hcc : (1 : Int) ≤ (c : Int) := by omega
  have hmin : min (1 : Int) 401 = 1 := by decide
  clear hb1 hst hall hcells hcap HD
  go_wp2_with fail
  go_at_call 9
  refine HSp.out.mono ?_
  rintro e w2 ⟨⟨G, cap, k, rfl, hG1, hG2, hO, hK⟩, h2⟩
  have HB2 := Lib.hid (HB1.out.trans (h2.mono HB1.out.size))
  have HB12 := Lib.hid h2
  have HO := Lib.hid hO
  have HK := Lib.hid hK
  clear h2 hO hK HSp
  go_wp2_with fail
  go_loopw [6, 23] (fun t6 t23 wr => (t23 = .int .i64 0 ∧ t6 = .slice none 0 0 ∧ wr = w2) ∨ (t23 = .int .i64 1 ∧ Hid (Below w.heap.size w wr) ∧ ∃ G' cap', t6 = .slice (some ⟨G', 0, none⟩) 2 cap' ∧ G' < wr.heap.size ∧ Hid (wr.cell? ⟨G', 0, none⟩ = some (.string t0)) ∧ Hid (wr.cell? ⟨G', 1, none⟩ = some (.string t1)))) (fun _ t23 _ => 1 - (intOf t23).toNat)
  case atStart => exact .inl ⟨rfl, rfl, rfl⟩
  case round =>
    rcases hrel with ⟨rfl, rfl, rfl⟩ | ⟨rfl, HB, G', cap', rfl, hGl, H0, H1⟩
    · have o0 : wr.cell? ⟨G, 0, none⟩ = some (.int .i64 0) := HO.out 0 _ rfl
      have o1 : wr.cell? ⟨G, 1, none⟩ = some (.slice none 0 0) := HO.out 1 _ rfl
      have o2 : wr.cell? ⟨G, 2, none⟩ = some (.int .i64 0) := HO.out 2 _ rfl
      have o3 : wr.cell? ⟨G, 3, none⟩ = some (.string ⟨#[97]⟩) := HO.out 3 _ rfl
      have o4 : wr.cell? ⟨G, 4, none⟩ = some (.slice (some ⟨k, 0, none⟩) 1 1) := HO.out 4 _ rfl
      have o5 : wr.cell? ⟨G, 5, none⟩ = some (.string ⟨#[]⟩) := HO.out 5 _ rfl
      have o6 : wr.cell? ⟨G, 6, none⟩ = some (.bool false) := HO.out 6 _ rfl
      obtain ⟨V, hV⟩ : ∃ V, V = wr.alloc (.cells #[.int .i64 0, .slice none 0 0, .int .i64 0, .string ⟨#[97]⟩, .slice (some ⟨k, 0, none⟩) 1 1, .string ⟨#[]⟩, .bool false] 40) := ⟨_, rfl⟩
      have BX0 : BoxAt V wr.heap.size #[.int .i64 0, .slice none 0 0, .int .i64 0, .string ⟨#[97]⟩, .slice (some ⟨k, 0, none⟩) 1 1, .string ⟨#[]⟩, .bool false] 40 := by rw [hV]; exact BoxAt.new wr _ _
      have hBV : Below w.heap.size w V := by rw [hV]; exact HB2.out.alloc HB2.out.size _
      have hV1 : Below w1.heap.size w1 V := by rw [hV]; exact HB12.out.alloc HB12.out.size _
      have hKV : BoxAt V k #[.int .i64 2, .string ⟨#[97]⟩] 105 := by rw [hV]; exact HK.out.alloc _
      have HVe := Lib.hid hV
      have BX := Lib.hid BX0
      have HBV := Lib.hid hBV
      have HV := Lib.hid hV1
      have HLn := Lib.hid (fun W (g' : Below V.heap.size V W) => tlines_a A1 A2 c1 c2 k W (hKV.later g'))
      clear hV BX0 hBV hV1 hKV
      go_wp2
      rw [← HVe.out]
      clear HVe o0 o1 o2 o3 o4 o5 o6
      generalize hw2s : wr.heap.size = w2s at *
      refine wp_region_held_drew (S := (fun W => Below V.heap.size V W)) (by kernel_rfl) ((Below.refl V.heap.size V).drew) (fun hHeld => ?_)
      have hS0 : Below V.heap.size V V.drew := (Below.refl V.heap.size V).drew
      refine wpAnyH_take (i := 0) (v := ?_) rfl (by kernel_rfl) (by kernel_rfl) (by kernel_rfl) (fun _ _ _ h => h) (Or.inl ⟨by kernel_rfl, ?_⟩) hS0 ?_
      rotate_left
      · intro w0 hSw
        (go_simp <;> with_reducible rfl)
      try simp only [Act.put, List.setIfInBounds_toArray, List.set_cons_zero, List.set_cons_succ]
      refine wpAnyH_take (i := 1) (v := ?_) rfl (by kernel_rfl) (by kernel_rfl) (by kernel_rfl) (fun _ _ _ h => h) (Or.inl ⟨by kernel_rfl, ?_⟩) hS0 ?_
      rotate_left
      · intro w0 hSw
        (go_simp <;> with_reducible rfl)
      try simp only [Act.put, List.setIfInBounds_toArray, List.set_cons_zero, List.set_cons_succ]
      refine wpAnyH_take (i := 2) (v := ?_) rfl (by kernel_rfl) (by kernel_rfl) (by kernel_rfl) (fun _ _ _ h => h) (Or.inl ⟨by kernel_rfl, ?_⟩) hS0 ?_
      rotate_left
      · intro w0 hSw
        (go_simp <;> with_reducible rfl)
      try simp only [Act.put, List.setIfInBounds_toArray, List.set_cons_zero, List.set_cons_succ]
      refine wpAnyH_take (i := 3) (v := ?_) rfl (by kernel_rfl) (by kernel_rfl) (by kernel_rfl) (fun _ _ _ h => h) (Or.inl ⟨by kernel_rfl, ?_⟩) hS0 ?_
      rotate_left
      · intro w0 hSw
        (go_simp <;> with_reducible rfl)
      try simp only [Act.put, List.setIfInBounds_toArray, List.set_cons_zero, List.set_cons_succ]
      refine wpAnyH_take (i := 4) (v := ?_) rfl (by kernel_rfl) (by kernel_rfl) (by kernel_rfl) (fun _ _ _ h => h) (Or.inl ⟨by kernel_rfl, ?_⟩) hS0 ?_
      rotate_left
      · intro w0 hSw
        have hq := HV.out.trans (hSw.mono HV.out.size)
        have q0 : w0.cell? ⟨b, o, none⟩ = some (.int .i64 2) := (hq.cell (p := ⟨b, o, none⟩) hlb).trans (HCl.out 0 _ rfl)
        have q1 : w0.cell? ⟨b, o + 1, none⟩ = some (.string ⟨#[]⟩) := (hq.cell (p := ⟨b, o + 1, none⟩) hlb).trans (HCl.out 1 _ rfl)
        have q2 : w0.cell? ⟨b, o + 2, none⟩ = some (.string ⟨#[]⟩) := (hq.cell (p := ⟨b, o + 2, none⟩) hlb).trans (HCl.out 2 _ rfl)
        have q3 : w0.cell? ⟨b, o + 3, none⟩ = some (.bool false) := (hq.cell (p := ⟨b, o + 3, none⟩) hlb).trans (HCl.out 3 _ rfl)
        have q4 : w0.cell? ⟨b, o + 4, none⟩ = some (.slice A1 0 c1) := (hq.cell (p := ⟨b, o + 4, none⟩) hlb).trans (HCl.out 4 _ rfl)
        have q5 : w0.cell? ⟨b, o + 5, none⟩ = some (.string ⟨#[97]⟩) := (hq.cell (p := ⟨b, o + 5, none⟩) hlb).trans (HCl.out 5 _ rfl)
        have q6 : w0.cell? ⟨b, o + 6, none⟩ = some (.string ⟨#[]⟩) := (hq.cell (p := ⟨b, o + 6, none⟩) hlb).trans (HCl.out 6 _ rfl)
        have q7 : w0.cell? ⟨b, o + 7, none⟩ = some (.slice A2 0 c2) := (hq.cell (p := ⟨b, o + 7, none⟩) hlb).trans (HCl.out 7 _ rfl)
        have hl0 : b < w0.heap.size := Nat.lt_of_lt_of_le hlb hq.size
        (go_simp <;> with_reducible rfl)
      try simp only [Act.put, List.setIfInBounds_toArray, List.set_cons_zero, List.set_cons_succ]
      refine wpAnyH_take (i := 5) (v := ?_) rfl (by kernel_rfl) (by kernel_rfl) (by kernel_rfl) (fun _ _ _ h => h) (Or.inl ⟨by kernel_rfl, ?_⟩) hS0 ?_
      rotate_left
      · intro w0 hSw
        have hx := BX.out.later hSw
        have hl0 := hx.lt
        have q0 : w0.cell? ⟨w2s, 0, none⟩ = some (.int .i64 0) := hx.cell 0
        have q1 : w0.cell? ⟨w2s, 1, none⟩ = some (.slice none 0 0) := hx.cell 1
        have q2 : w0.cell? ⟨w2s, 2, none⟩ = some (.int .i64 0) := hx.cell 2
        have q3 : w0.cell? ⟨w2s, 3, none⟩ = some (.string ⟨#[97]⟩) := hx.cell 3
        have q4 : w0.cell? ⟨w2s, 4, none⟩ = some (.slice (some ⟨k, 0, none⟩) 1 1) := hx.cell 4
        have q5 : w0.cell? ⟨w2s, 5, none⟩ = some (.string ⟨#[]⟩) := hx.cell 5
        have q6 : w0.cell? ⟨w2s, 6, none⟩ = some (.bool false) := hx.cell 6
        (go_simp <;> with_reducible rfl)
      try simp only [Act.put, List.setIfInBounds_toArray, List.set_cons_zero, List.set_cons_succ]
      refine wpAnyH_ready (rs := [6]) (by kernel_rfl) (by simp) ?_
      refine AllReadyH.cons rfl (fun K hK => ?_) AllReadyH.nil
      go_simp
      go_at_call 10
      refine (HLn.out _ hS0).mono ?_
      rintro e w5 ⟨⟨v, rfl, hown⟩, h5⟩
      have hS5 : Below V.heap.size V w5 := hS0.trans (h5.mono hS0.size)
      have HOw := Lib.hid hown
      obtain ⟨g5, cap5, rfl⟩ := own_some (k := 1) hown
      have hSV : V.heap.size ≤ w5.heap.size := hS5.size
      have hl5 := World.ownsRow.lt hown g5 rfl
      obtain ⟨v', w8, hrun, hown8, hgrow, hwh⟩ := run_append_where (P := Tryz.prog) w5 V.heap.size 26 26 9 i0 (.string ⟨#[]⟩) 1 16 Tryz.underlying26 hi0 hz0 hz1 hz2 rfl (by decide) (.slice none 0 0) 0 [] (World.ownsRow_nil _ _ _ _) ⟨g5, 0, none⟩ 2 cap5 [.string t0, .string t1] rfl (fun j u hj => by
        have := World.ownsRow.cells (g := g5) HOw.out rfl j u hj
        exact this) (by intro u hu; simp at hu; rcases hu with rfl | rfl <;> rfl) (by unfold maxLen; omega) (by omega) hSV (by decide)
      obtain ⟨G8, cap8, rfl⟩ := own_some (k := 1) hown8
      have hl8 := World.ownsRow.lt hown8 G8 rfl
      have hS8 : Below V.heap.size V w8 := hS5.grown hgrow hSV (fun g e => by cases e)
      have hr0 := World.ownsRow.cells (g := G8) hown8 rfl 0 _ rfl
      have hr1 := World.ownsRow.cells (g := G8) hown8 rfl 1 _ rfl
      rw [addMid, Nat.zero_add] at hr0 hr1
      have HR0 := Lib.hid hr0
      have HR1 := Lib.hid hr1
      have HB8 := Lib.hid (HBV.out.trans (hS8.mono HBV.out.size))
      have HRun := Lib.hid hrun
      clear hown hown8 hgrow hwh hrun hr0 hr1 HOw
      refine hK.out _ _ hS5 (fun _ => ?_)
      clear hK K
      try simp only [Act.put, List.setIfInBounds_toArray, List.set_cons_zero, List.set_cons_succ]
      refine wpAnyH_ready (rs := [7]) (by kernel_rfl) (by simp) ?_
      refine AllReadyH.cons rfl (fun K hK => ?_) AllReadyH.nil
      go_simp
      rw [HRun.out]
      refine hK.out _ _ hS8 (fun _ => ?_)
      clear hK K
      try simp only [Act.put, List.setIfInBounds_toArray, List.set_cons_zero, List.set_cons_succ]
      refine wpAnyH_take (i := 8) (v := ?_) rfl (by kernel_rfl) (by kernel_rfl) (by kernel_rfl) (fun _ _ _ h => h) (Or.inl ⟨by kernel_rfl, ?_⟩) hS8 ?_
      rotate_left
      · intro w0 hSw
        (go_simp <;> with_reducible rfl)
      try simp only [Act.put, List.setIfInBounds_toArray, List.set_cons_zero, List.set_cons_succ]
      refine wpAnyH_done (by kernel_rfl) ?_ _
      clear hHeld HRun
      go_wp2
      go_roundw
      case rel => exact .inr ⟨by go_num, Lib.hid HB8.out, G8, cap8, rfl, hl8.2, Lib.hid HR0.out, Lib.hid HR1.out⟩
      case measure => simp [intOf]
    · go_wp2
      go_ret
      exact ⟨⟨G', cap', rfl, hGl, H0.out, H1.out⟩, HB.out⟩
end Go.Proofs.YtgdkpamlkpncgabGreatDoor
