/-
  Several texts put together (part 37): what the law and the program call, walked; their contracts.
-/
import Derived.Test.YtpgiboblonlddaaGreatDoorQ34
import Derived.Deep.DeepCutAuto
import Derived.StillTailTactics
import Derived.Deep.RegionHeld3
import Derived.Deep.RegionWith
namespace Go.Proofs.YtpgiboblonlddaaGreatDoor
open Go.RowKit Go.ChangeMaps
set_option linter.unusedVariables false
set_option linter.unusedSimpArgs false
set_option maxHeartbeats 8000000 in
set_option maxRecDepth 100000 in
theorem attr_empty {w : World} (ty lv fr tu : Int) (tx nm0 nm : ByteArray) (val : List EL) (A1 A2 : Option Addr) (c1 n2 c2 : Nat) (hp : PatAt w val (.slice A1 val.length c1)) (hl : val.length ≤ 4000000) (W : World) (hW : Below w.heap.size w W) (z2 : (nm.toList == []) = true) (z3 : nm.toList.isEmpty = true) :
    Calls Tryz.prog 23 #[entV ty lv tx nm0 (.slice A1 val.length c1) (.slice A2 n2 c2) fr tu, .string nm] W fun e w' => ∃ A c, e = .returned (.tuple #[.slice A val.length c, .bool (decide (0 < val.length))]) ∧ CP w W.heap.size val w' A c ∧ Below W.heap.size W w' := by
  have hC := fun V (h : Below w.heap.size w V) => clone_any val A1 c1 hp hl V h
  have HC := Lib.hid hC
  have hlI : (val.length : Int) ≤ 4000000 := by omega
  have d1 : decide ((0 : Int) < (val.length : Int)) = decide (0 < val.length) := by apply decide_eq_decide.2; omega
  have HW := Lib.hid hW
  have hWs := hW.size
  clear hC hp hW
  unfold entV
  go_enter Tryz.func23, Tryz.ntmps23
  go_upto_region 2 with fail
  have hV0 := Lib.hid ((((Below.refl W.heap.size W).alloc (Nat.le_refl _) (.cells #[.int .i64 ty, .int .i64 lv, .string tx, .string nm0, .slice A1 val.length c1, .slice A2 n2 c2, .int .i64 fr, .int .i64 tu] 89)).alloc (by simp) (.cells #[.string nm] 9)).alloc (by simp; omega) (.cells #[.slice none 0 0] 86) |>.alloc (by simp; omega) (.cells #[.bool false] 4))
  have E0 := Lib.hid ((((BoxAt.new W #[.int .i64 ty, .int .i64 lv, .string tx, .string nm0, .slice A1 val.length c1, .slice A2 n2 c2, .int .i64 fr, .int .i64 tu] 89).alloc (.cells #[.string nm] 9)).alloc (.cells #[.slice none 0 0] 86)).alloc (.cells #[.bool false] 4))
  have R0 := Lib.hid ((BoxAt.new' ((W.alloc (.cells #[.int .i64 ty, .int .i64 lv, .string tx, .string nm0, .slice A1 val.length c1, .slice A2 n2 c2, .int .i64 fr, .int .i64 tu] 89)).alloc (.cells #[.string nm] 9)) (W.heap.size + 1 + 1) #[.slice none 0 0] 86 (by simp)).alloc (.cells #[.bool false] 4))
  have K0 := Lib.hid (BoxAt.new' (((W.alloc (.cells #[.int .i64 ty, .int .i64 lv, .string tx, .string nm0, .slice A1 val.length c1, .slice A2 n2 c2, .int .i64 fr, .int .i64 tu] 89)).alloc (.cells #[.string nm] 9)).alloc (.cells #[.slice none 0 0] 86)) (W.heap.size + 1 + 1 + 1) #[.bool false] 4 (by simp))
  generalize ((((W.alloc (.cells #[.int .i64 ty, .int .i64 lv, .string tx, .string nm0, .slice A1 val.length c1, .slice A2 n2 c2, .int .i64 fr, .int .i64 tu] 89)).alloc (.cells #[.string nm] 9)).alloc (.cells #[.slice none 0 0] 86)).alloc (.cells #[.bool false] 4)) = V at *
  have e4 : V.cell? ⟨W.heap.size, 4, none⟩ = some (.slice A1 val.length c1) := E0.out.cell 4
  have r4 : V.cell? ⟨W.heap.size + 1 + 1, 0, none⟩ = some (.slice none 0 0) := R0.out.cell 0
  have k4 : V.cell? ⟨W.heap.size + 1 + 1 + 1, 0, none⟩ = some (.bool false) := K0.out.cell 0
  have zk := K0.out.lt
  go_region_with (go_at_call 44; refine (HC.out _ (HW.out.trans ((hV0.out.drew).mono hWs))).mono ?_; rintro e x1 ⟨A3, c3, rfl, hcp, hb1⟩; have q0 := (E0.out.later (show Below V.heap.size V x1 from (Below.refl V.heap.size V).drew.trans hb1)).cell 4; have q1 := (R0.out.later (show Below V.heap.size V x1 from (Below.refl V.heap.size V).drew.trans hb1)); have q2 := (K0.out.later (show Below V.heap.size V x1 from (Below.refl V.heap.size V).drew.trans hb1)); have s0 : x1.cell? ⟨W.heap.size, 4, none⟩ = some (.slice A1 val.length c1) := q0; have s1 : x1.cell? ⟨W.heap.size + 1 + 1, 0, none⟩ = some (.slice none 0 0) := q1.cell 0; have s2 : x1.cell? ⟨W.heap.size + 1 + 1 + 1, 0, none⟩ = some (.bool false) := q2.cell 0; have s3 := Lib.frozen_of_heap q1 0; have s4 := Lib.frozen_of_heap q2 0; have hx1 := hb1.size; have hx0 : Below V.heap.size V x1 := (Below.refl V.heap.size V).drew.trans hb1)
  all_goals
    go_wp2
    have P1 : ((x1.setCell ⟨W.heap.size + 1 + 1, 0, none⟩ (.slice A3 val.length c3)).setCell ⟨W.heap.size + 1 + 1 + 1, 0, none⟩ (.bool (decide (0 < val.length)))).cell? ⟨W.heap.size + 1 + 1, 0, none⟩ = some (.slice A3 val.length c3) :=
      (World.cell?_of_block (Below.heap_setCell _ _ _ _ (by show W.heap.size + 1 + 1 ≠ W.heap.size + 1 + 1 + 1; omega))).trans (World.cell?_setCell_same' x1 _ _ (by rw [s1]; rfl))
    have P2 : ((x1.setCell ⟨W.heap.size + 1 + 1, 0, none⟩ (.slice A3 val.length c3)).setCell ⟨W.heap.size + 1 + 1 + 1, 0, none⟩ (.bool (decide (0 < val.length)))).cell? ⟨W.heap.size + 1 + 1 + 1, 0, none⟩ = some (.bool (decide (0 < val.length))) :=
      World.cell?_setCell_same' _ _ _ (by rw [World.cell?_of_block (Below.heap_setCell x1 ⟨W.heap.size + 1 + 1, 0, none⟩ (.slice A3 val.length c3) (W.heap.size + 1 + 1 + 1) (by show W.heap.size + 1 + 1 + 1 ≠ W.heap.size + 1 + 1; omega)), s2]; rfl)
    have hcp2 := (hcp.set ⟨W.heap.size + 1 + 1, 0, none⟩ (by show W.heap.size + 1 + 1 < V.heap.size; omega) (.slice A3 val.length c3)).set ⟨W.heap.size + 1 + 1 + 1, 0, none⟩ (by show W.heap.size + 1 + 1 + 1 < V.heap.size; omega) (.bool (decide (0 < val.length)))
    have hBZ : Below W.heap.size W ((x1.setCell ⟨W.heap.size + 1 + 1, 0, none⟩ (.slice A3 val.length c3)).setCell ⟨W.heap.size + 1 + 1 + 1, 0, none⟩ (.bool (decide (0 < val.length)))) :=
      ((hV0.out.trans (hx0.mono (by omega))).setCell (p := ⟨W.heap.size + 1 + 1, 0, none⟩) (by show W.heap.size ≤ W.heap.size + 1 + 1; omega) _).setCell (p := ⟨W.heap.size + 1 + 1 + 1, 0, none⟩) (by show W.heap.size ≤ W.heap.size + 1 + 1 + 1; omega) _
    have hVW := hV0.out.size
    have hpt := hcp2.mono (B' := W.heap.size) (by first | exact hVW | omega)
    generalize ((x1.setCell ⟨W.heap.size + 1 + 1, 0, none⟩ (.slice A3 val.length c3)).setCell ⟨W.heap.size + 1 + 1 + 1, 0, none⟩ (.bool (decide (0 < val.length)))) = Z at *
    exact bodyPost_ret (v := .tuple #[.slice A3 val.length c3, .bool (decide (0 < val.length))]) (by simp [results, Tryz.results23, go_sem, P1, P2]) rfl ⟨A3, c3, rfl, hpt, hBZ⟩
end Go.Proofs.YtpgiboblonlddaaGreatDoor
