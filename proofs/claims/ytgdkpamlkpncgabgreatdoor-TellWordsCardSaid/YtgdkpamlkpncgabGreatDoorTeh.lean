/-
  Package tell: the lines of an Ask that no language answers.
-/
import Derived.Test.YtgdkpamlkpncgabGreatDoorTeg
import Derived.Test.YtgdkpamlkpncgabGreatDoorTee
namespace Go.Proofs.YtgdkpamlkpncgabGreatDoor
open Go.RowKit
set_option linter.unusedVariables false
set_option linter.unusedSimpArgs false

theorem infoLn : (Tryz.prog.info? 58).map (fun i => (i.zero, i.size, i.bytes)) = some (some .nilIface, 1, 16) := by kernel_rfl
def lnA (name : ByteArray) : Value := .iface 103 (.agg #[.bool false, .string ⟨#[]⟩, .string name])
def lnW (name : ByteArray) : Value := .iface 106 (.agg #[.int .i64 2, .string name])
theorem own_new1 {W : World} {B g n size : Nat} {t : TypeId} {cs : Array Value} (h : BoxAt W g cs t) (hB : B ≤ g) (hn : cs.size = n * size) (hm : n ≤ maxLen) : W.ownsRow B t size (.slice (some ⟨g, 0, none⟩) n n) n cs.toList :=
  ⟨by simpa using hn, .inr ⟨g, n, cs, rfl, hB, h, Nat.le_refl _, hm, hn, by rw [← hn]; exact List.take_of_length_le (by simp)⟩⟩
attribute [-go_sem] Builtin.append_
set_option maxHeartbeats 4000000 in
set_option maxRecDepth 100000 in
theorem lines_of_ask (name : ByteArray) (k : Nat) (w : World) (hk : BoxAt w k #[.int .i64 2, .string name] 105) :
    Calls Tryz.prog 16 #[.int .i64 2, .agg #[.int .i64 0, .slice none 0 0, .int .i64 0, .string name, .slice (some ⟨k, 0, none⟩) 1 1, .string ⟨#[]⟩, .bool false]] w fun e w' => (∃ G cap, e = .returned (.slice (some ⟨G, 0, none⟩) 2 cap) ∧ w.heap.size ≤ G ∧ G < w'.heap.size ∧ w'.cell? ⟨G, 0, none⟩ = some (lnA name) ∧ w'.cell? ⟨G, 1, none⟩ = some (lnW name)) ∧ Below w.heap.size w w' := by
  have hK0 := Lib.hid hk
  obtain ⟨i0, hi0, hz0, hz1, hz2⟩ := info_split infoLn
  obtain ⟨W1, hW1⟩ : ∃ V, V = w.alloc (.cells #[.int .i64 0, .slice none 0 0, .int .i64 0, .string name, .slice (some ⟨k, 0, none⟩) 1 1, .string ⟨#[]⟩, .bool false] 40) := ⟨_, rfl⟩
  have X1 : BoxAt W1 w.heap.size #[.int .i64 0, .slice none 0 0, .int .i64 0, .string name, .slice (some ⟨k, 0, none⟩) 1 1, .string ⟨#[]⟩, .bool false] 40 := by
    rw [hW1]
    exact BoxAt.new w _ _
  clear hk
  go_enter Tryz.func16, Tryz.ntmps16
  go_wp2_with fail
  rw [← hW1]
  go_loopw [5, 47] (fun t5 t47 wr => ∃ i : Nat, t47 = .int .i64 i ∧ i ≤ 1 ∧ ∃ G cap, t5 = .slice (some ⟨G, 0, none⟩) (i + 1) cap ∧ Hid (wr.ownsRow w.heap.size 58 1 t5 (i + 1) (if i = 0 then [lnA name] else [lnA name, lnW name])) ∧ Hid (Below w.heap.size w wr)) (fun _ t47 _ => 1 - (intOf t47).toNat)
  case atStart =>
    have hs1 : W1.heap.size = w.heap.size + 1 := by rw [hW1]; exact World.size_alloc _ _
    refine ⟨0, rfl, by omega, w.heap.size + 1, 1, rfl, Lib.hid ?_, Lib.hid ?_⟩
    · rw [if_pos rfl]
      have hb := BoxAt.new W1 #[lnA name] 58
      rw [hs1] at hb
      exact own_new1 hb (Nat.le_succ _) rfl (by unfold maxLen; omega)
    · rw [hW1]
      exact ((Below.refl _ _).alloc (Nat.le_refl _) _).alloc (by simp) _
  case round =>
    obtain ⟨i, rfl, hi, G, cap, rfl, HO, HB⟩ := hrel
    have hii : (i : Int) ≤ 1 := by omega
    have hlt := HO.out.lt G rfl
    by_cases h0 : i = 0
    · subst h0
      have hk := hK0.out.later HB.out
      have u0 : wr.cell? ⟨k, 0, none⟩ = some (.int .i64 2) := hk.cell 0
      have u1 : wr.cell? ⟨k, 1, none⟩ = some (.string name) := hk.cell 1
      have hkl := hk.lt
      have hO := HO.out
      rw [if_pos rfl] at hO
      have HO1 := Lib.hid (World.ownsRow.alloc (World.ownsRow.alloc hO (.cells #[.int .i64 2, .string name] 105)) (.cells #[lnW name] 58))
      clear hO
      have hnew : BoxAt ((wr.alloc (.cells #[.int .i64 2, .string name] 105)).alloc (.cells #[lnW name] 58)) (wr.heap.size + 1) #[lnW name] 58 := BoxAt.new' _ _ _ _ (by simp)
      obtain ⟨v', w8, hrun, hown, hgrow, hwh⟩ := run_append_where (P := Tryz.prog) _ w.heap.size 55 55 58 i0 .nilIface 1 16 Tryz.underlying55 hi0 hz0 hz1 hz2 rfl (by decide) (.slice (some ⟨G, 0, none⟩) (0 + 1) cap) (0 + 1) [lnA name] HO1.out ⟨wr.heap.size + 1, 0, none⟩ 1 1 [lnW name] rfl (fun j u hj => by
        rw [addMid, Nat.zero_add]
        refine (hnew.cell j).trans ?_
        simpa using hj) (by intro u hu; simp at hu; subst hu; rfl) (by unfold maxLen; omega) (by omega) (by have := HB.out.size; simp; omega) (by decide)
      obtain ⟨G2, cap2, rfl⟩ := own_some (k := 1) hown
      have hl2 := World.ownsRow.lt hown G2 rfl
      have HB8 := Lib.hid ((((HB.out.alloc HB.out.size (.cells #[.int .i64 2, .string name] 105)).alloc (by have := HB.out.size; simp; omega) (.cells #[lnW name] 58)).grown hgrow (by have := HB.out.size; simp; omega) (fun g e => by cases e; exact hlt.1)))
      have HO8 := Lib.hid hown
      unfold lnW at hrun
      simp only [Nat.zero_add] at hrun
      have HRun := Lib.hid hrun
      clear hgrow hwh hnew hown HO1 hrun
      go_wp2
      rw [HRun.out]
      go_wp2
      go_roundw
      case rel => exact ⟨1, by go_num, Nat.le_refl _, G2, cap2, rfl, Lib.hid (by rw [if_neg (by decide)]; exact HO8.out), Lib.hid HB8.out⟩
      case measure => simp [intOf]
    · obtain rfl : i = 1 := by omega
      have hO := HO.out
      rw [if_neg (by decide)] at hO
      have HO1 := Lib.hid hO
      clear hO
      go_wp2
      go_ret
      refine ⟨⟨G, cap, rfl, hlt.1, hlt.2, ?_, ?_⟩, HB.out⟩
      · have := World.ownsRow.cells (g := G) HO1.out rfl 0 (lnA name) rfl
        rw [addMid, Nat.zero_add] at this
        exact this
      · have := World.ownsRow.cells (g := G) HO1.out rfl 1 (lnW name) rfl
        rw [addMid, Nat.zero_add] at this
        exact this
end Go.Proofs.YtgdkpamlkpncgabGreatDoor
