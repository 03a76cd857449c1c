/-
  Several texts put together (part 7): what the law and the program call, walked; their contracts.
-/
import Derived.WalkSpells
import Derived.Deep.RegionLaw
import Derived.Deep.RegionHeld3
import Derived.Test.YtnogdojdjehakaaGreatDoorM6
/-
  Package expr: add, an argument with a name.
-/
namespace Go.Proofs.YtnogdojdjehakaaGreatDoor
open Go.RowKit Go.Maps
set_option linter.unusedVariables false
set_option linter.unusedSimpArgs false

set_option maxHeartbeats 4000000 in
set_option maxRecDepth 100000 in
theorem add_named {B g o : Nat} (cs : Array Value) (al nv : Value) (n : Nat) (ys : List Value) (seen : List ByteArray) (X : ByteArray) (k : Int) (t nn a : ByteArray) (A1 : Option Addr) (n1 c1 : Nat) (p : Option Addr) (A2 : Option Addr) (n2 c2 : Nat) (w : World)
    (hg : w.heap[g]? = some (.cells cs 116 (0, 0))) (hBg : B ≤ g) (ho : o + 9 ≤ cs.size) (hc4 : cs[o + 4]? = some al) (hc7 : cs[o + 7]? = some nv) {c8 : Value} (hc8 : cs[o + 8]? = some c8) (hal : w.ownsRow B 58 8 al n ys) (hne : al.ownBlock ≠ some g) (hnm : NmOk B w nv seen n) (hn : n ≤ 1000000) (hX : X.size ≤ 1000000) (ho2 : o ≤ 100000000) (hx : emp X = false) :
    Calls Tryz.prog 77 #[.pointer (some ⟨g, o, none⟩), arV X k t nn a A1 n1 c1 p A2 n2 c2] w fun e w' =>
      e = .returned (.bool !memB X seen) ∧ Below B w w' ∧
      ((!memB X seen) = true → Added B g o cs al nv n ys (X :: seen) [.string X, .int .i64 k, .string t, .string nn, .string a, .slice A1 n1 c1, .pointer p, .slice A2 n2 c2] w w') := by
  have hgl := (Array.getElem?_eq_some_iff.1 hg).1
  obtain ⟨Al, cl, rfl⟩ : ∃ A c, al = .slice A n c := own_form hal
  obtain ⟨i0, hi0, hz0, hz1, hz2⟩ := info_parts infoA
  have d4 : w.cell? ⟨g, o + 4, none⟩ = some (.slice Al n cl) := (cell_of_row w g (o + 4) cs _ (0, 0) hg).trans hc4
  have d7 : w.cell? ⟨g, o + 7, none⟩ = some nv := (cell_of_row w g (o + 7) cs _ (0, 0) hg).trans hc7
  have hBw : B ≤ w.heap.size := by omega
  have HG := Lib.hid hg
  have HAl := Lib.hid hal
  unfold arV
  have hNe := Lib.hid (show some g ≠ (Value.slice Al n cl).ownBlock from fun h => hne h.symm)
  have hset := set_same hc7
  have Hc4 := Lib.hid hc4
  clear hg hal hne hc4 hc7
  have hx' : X.toList.isEmpty = false := hx
  have hkey := key_str X (by omega)
  have hmm := @run_makeMap_plain Tryz.prog
  clear hx
  rcases hnm with ⟨rfl, rfl⟩ | ⟨b2, rfl, hb, h0, hN⟩
  case inl =>
    have hlook : ∀ W, (Instr.lookup 114 (.map none) (.string X) true).run Tryz.prog W = .ok (.tuple #[.agg #[], .bool false]) W := fun W => Maps.look_nil true keyLaw Tryz.underlying114 (zeroUnit W) hkey
    have HKey := Lib.hid hkey
    have heq : ∀ W, (binOp .eql 114 (.map none) (.map none)).run Tryz.prog W = .ok (.bool true) W := fun W => run_eql_map_nil W _ _ _ none Tryz.underlying114
    clear hkey
    go_enter Tryz.func77, Tryz.ntmps77
    go_wp2_with fail
    go_region
    generalize hW1 : World.drew _ = W1
    have hb1 : Below w.heap.size w W1 := by
      rw [← hW1]
      exact (((Below.refl _ w).alloc (Nat.le_refl _) _).alloc (by simp) _).drew
    have hs1 : W1.heap.size = w.heap.size + 1 + 1 := by rw [← hW1]; simp
    have hbox : BoxAt W1 w.heap.size #[.string X, .int .i64 k, .string t, .string nn, .string a, .slice A1 n1 c1, .pointer p, .slice A2 n2 c2] 58 := by
      rw [← hW1]
      exact (BoxAt.new w _ _).alloc _
    clear hW1
    have hg1 : W1.heap[g]? = some (.cells cs 116 (0, 0)) := (hb1.block g hgl).trans HG.out
    have e7 : W1.cell? ⟨g, o + 7, none⟩ = some (.map none) := (hb1.cell (p := ⟨g, o + 7, none⟩) hgl).trans d7
    have f7 : W1.frozen? ⟨g, o + 7, none⟩ = false := Lib.frozen_of_heap hg1 (o + 7)
    have hgl1 : g < W1.heap.size := by omega
    have q0 := hbox.cell 0
    simp at q0
    have HBox := Lib.hid hbox
    have HG1 := Lib.hid hg1
    have HB1 := Lib.hid hb1
    have HS1 := Lib.hid hs1
    clear hbox hg1 hb1 hs1 d7 d4
    go_wp2_with fail
    generalize hW2 : World.alloc (World.setCell _ _ _) _ = W2
    have hM := NamesAt.made (W1.setCell ⟨g, o + 7, none⟩ (.map (some W1.heap.size)))
    rw [hW2, World.size_setCell] at hM
    have hszs : (W1.setCell ⟨g, o + 7, none⟩ (.map (some W1.heap.size))).heap.size = W1.heap.size := World.size_setCell _ _ _
    have hold : ∀ k, k < W1.heap.size → k ≠ g → W2.heap[k]? = W1.heap[k]? := fun k hk hne => by
      rw [← hW2, Lib.alloc_old _ _ k (by rw [hszs]; exact hk), Below.heap_setCell _ _ _ k hne]
    have hg2 : W2.heap[g]? = some (.cells (cs.setIfInBounds (o + 7) (.map (some W1.heap.size))) 116 (0, 0)) := by
      rw [← hW2, Lib.alloc_old _ _ g (by rw [hszs]; exact hgl1)]
      exact heap_setCell_same _ g (o + 7) cs _ _ HG1.out
    have hb2 : Below B w W2 := by
      rw [← hW2]
      exact ((HB1.out.mono hBw).setCell (p := ⟨g, o + 7, none⟩) hBg _).alloc (by rw [hszs, HS1.out]; omega) _
    have hk2 : ∀ k, k < w.heap.size → k ≠ g → W2.heap[k]? = w.heap[k]? := fun k hk hne => (hold k (by rw [HS1.out]; omega) hne).trans (HB1.out.block k hk)
    have hbx2 : BoxAt W2 w.heap.size #[.string X, .int .i64 k, .string t, .string nn, .string a, .slice A1 n1 c1, .pointer p, .slice A2 n2 c2] 58 := (hold _ (by rw [HS1.out]; omega) (by omega)).trans HBox.out
    have hN2 : NamesAt W2 W1.heap.size n [] := hM.mono (Nat.zero_le n)
    have hal2 : W2.ownsRow B 58 8 (.slice Al n cl) n ys := row_blocks HAl.out fun b hb => hk2 b (HAl.out.lt b hb).2 (fun e => hNe.out (by rw [hb, e]))
    have hnb : B ≤ W1.heap.size := by rw [HS1.out]; omega
    have hnv : (Value.map (some W1.heap.size)) = Value.map none ∨ ∃ b, Value.map (some W1.heap.size) = .map (some b) ∧ w.heap.size ≤ b := .inr ⟨_, rfl, by rw [HS1.out]; omega⟩
    have hsz2 : w.heap.size < W2.heap.size := hbx2.lt
    have hzM : memB X ([] : List ByteArray) = false := rfl
    have hkb : ∀ k, k < w.heap.size → Value.map none ≠ .map (some k) → k ≠ W1.heap.size := fun k hk _ => by rw [HS1.out]; omega
    obtain ⟨b2, hb2e⟩ : ∃ b2, W1.heap.size = b2 := ⟨_, rfl⟩
    rw [hb2e] at hg2 hN2 hnb hnv hkb hszs hM hW2
    clear hold hszs hM hW2 hb2e hgl1 HG1 HB1 HS1 HBox e7 f7 q0
    --TAIL1
    have hgl2 := (Array.getElem?_eq_some_iff.1 hg2).1
    have hmp := owns_map hN2.choose_spec.1
    obtain ⟨D, hD1, hD2, hD3⟩ := hN2
    have e7' : W2.cell? ⟨g, o + 7, none⟩ = some (.map (some b2)) := by
      rw [cell_of_row W2 g (o + 7) _ _ (0, 0) hg2, Array.getElem?_setIfInBounds, if_pos rfl, if_pos (by omega)]
    have qX := hbx2.cell 0
    simp at qX
    have him : n < maxLen := by unfold maxLen; omega
    have HD1 := Lib.hid hD1
    have HD2 := Lib.hid hD2
    have HD3 := Lib.hid hD3
    have HIm := Lib.hid him
    have HG2 := Lib.hid hg2
    have HBx2 := Lib.hid hbx2
    have HMp := Lib.hid hmp
    have HAl2 := Lib.hid hal2
    have HB2 := Lib.hid hb2
    have HK2 := Lib.hid hk2
    have HKB := Lib.hid hkb
    have HNv := Lib.hid hnv
    have HZM := Lib.hid hzM
    have Hsz2 := Lib.hid hsz2
    have Hnb := Lib.hid hnb
    clear hD1 hD2 hD3 him hg2 hbx2 hmp hal2 hb2 hk2 hkb hnv hzM hsz2 hnb
    go_still_tail 7, (by kernel_rfl)
    change wpList _ _ _ _ _ W2.drew
    go_wp2_with (at_mapUpdate; refine wpList_mapUpdate_own _ rfl _ _ _ 114 rfl 9 151 keyLaw Tryz.underlying114 (unitElem (H := Unit)) b2 n D rfl HD1.out.drew HIm.out _ _ _ rfl rfl HKey.out _ [] unitElem_mk ?_; intro w6 hown6 hg6; skip)
    have hput := names_put (HD1.out.tidy keyLaw) HD2.out HD3.out X HZM.out (.agg [])
    have hgr : w6.heap[g]? = some (.cells (cs.setIfInBounds (o + 7) (.map (some b2))) 116 (0, 0)) := grown_cells hg6 HMp.out HG2.out
    have hbox : BoxAt w6 w.heap.size #[.string X, .int .i64 k, .string t, .string nn, .string a, .slice A1 n1 c1, .pointer p, .slice A2 n2 c2] 58 := grown_cells hg6 HMp.out HBx2.out
    have hb6 : Below B w w6 := HB2.out.drew.grown hg6 (Nat.le_trans hBw HB2.out.size) (fun kk e => by have := Option.some.inj e; have := Hnb.out; omega)
    have hk6 : ∀ k, k < w.heap.size → k ≠ g → Value.map none ≠ .map (some k) → w6.heap[k]? = w.heap[k]? := fun k h1 h2 h3 => by
      rw [hg6.block k (show k < W2.heap.size from Nat.lt_trans h1 Hsz2.out) (fun e => HKB.out k h1 h3 (Option.some.inj e))]
      exact HK2.out k h1 h2
    have hal6 : w6.ownsRow B 58 8 (.slice Al n cl) n ys := row_blocks HAl2.out fun b hb => hg6.block b (show b < W2.heap.size from (HAl2.out.lt b hb).2) (fun e => by
      obtain ⟨c0, t0, fz, hh⟩ := own_cells HAl2.out hb
      obtain ⟨es, c, hm⟩ := HMp.out
      have := Option.some.inj e
      subst this
      rw [hm] at hh; cases hh)
    have hnm6 : NmOk B w6 (.map (some b2)) (X :: []) (n + 1) := .inr ⟨b2, rfl, Hnb.out, by simp, D.put (.string X.data.toList) (.agg []), hown6, hput.1, hput.2⟩
    have hbl := hbox.lt
    have hg6l := (Array.getElem?_eq_some_iff.1 hgr).1
    have e4 : w6.cell? ⟨g, o + 4, none⟩ = some (.slice Al n cl) := by
      rw [cell_of_row w6 g (o + 4) _ _ (0, 0) hgr, Array.getElem?_setIfInBounds, if_neg (by omega)]
      exact Hc4.out
    obtain ⟨q0, q1, q2, q3, q4, q5, q6, q7, p0, p1, p2, p3, p4, p5, p6, p7⟩ := cells8 hbox
    have HGr := Lib.hid hgr
    have HB6 := Lib.hid hb6
    have HK6 := Lib.hid hk6
    have HAl1 := Lib.hid hal6
    have HNm6 := Lib.hid hnm6
    clear hput hgr hbox hb6 hk6 hal6 hnm6 hown6 hg6 qX e7' hgl2
    have hn0 : (n : Int) ≤ 1000000 := by omega
    have fg : ∀ j, w6.frozen? ⟨g, j, none⟩ = false := fun j => Lib.frozen_of_heap HGr.out j
    have hAL := Lib.hid HAl1.out.1
    have hg1 : g < w6.heap.size := hg6l
    have E4 := Lib.hid (fun ob : Obj => (((Below.refl w6.heap.size w6).alloc (Nat.le_refl _) ob).cell (p := ⟨g, o + 4, none⟩) hg1).trans e4)
    have hG2 := Lib.hid (fun ob : Obj => show g < (w6.alloc ob).heap.size by rw [World.size_alloc]; omega)
    have F4 := Lib.hid (fun ob : Obj => (((Below.refl w6.heap.size w6).alloc (Nat.le_refl _) ob).frozen (p := ⟨g, o + 4, none⟩) hg1).trans (fg (o + 4)))
    have x1 : (n : Int) < (n : Int) + 1 := by omega
    have x2 : (n : Int) < ((n + 1 : Nat) : Int) := by omega
    have x3 : (0 : Int) ≤ (n : Int) := by omega
    have B1 := Lib.hid (show n + 1 ≤ maxLen by unfold maxLen; omega)
    have B2 := Lib.hid (show (n + 1) * 128 ≤ 140737488355328 by omega)
    have B3 := Lib.hid (show B ≤ w6.heap.size by omega)
    go_wp2_with fail
    dsimp only [Act.put]
    go_cut [] (fun wx => AddMid B g o (cs.setIfInBounds (o + 7) (.map (some b2))) (.slice Al n cl) n ys [.string X, .int .i64 k, .string t, .string nn, .string a, .slice A1 n1 c1, .pointer p, .slice A2 n2 c2] w6 wx)
    case first =>
      go_region_law (refine step_append_own rfl (.tmp 57) (.tmp 60) 25 rfl B 58 i0 (.agg #[.string ⟨#[]⟩, .int .i64 0, .string ⟨#[]⟩, .string ⟨#[]⟩, .string ⟨#[]⟩, .slice none 0 0, .pointer none, .slice none 0 0]) 8 128 Tryz.underlying25 hi0 hz0 hz1 hz2 rfl (by decide) (.slice Al n cl) n ys (by simp [Act.eval, Act.put]) (HAl1.out.drew.alloc _) ⟨w6.heap.size, 0, none⟩ 1 1 [.string ⟨#[]⟩, .int .i64 0, .string ⟨#[]⟩, .string ⟨#[]⟩, .string ⟨#[]⟩, .slice none 0 0, .pointer none, .slice none 0 0] (by simp [Act.eval, Act.put]) rfl (new8 _ _) (by simp [Value.oneCell']) B1.out B2.out (by show B ≤ (w6.alloc _).heap.size; rw [World.size_alloc]; exact Nat.le_succ_of_le B3.out) (by decide) ?_; intro v' w' hown hgrow hwh; obtain ⟨gA, cA, rfl⟩ := own_some hown; have hZ := hown.1; have s0 := row_at0 hown (ys := ys) hAL.out _ rfl; have s1 := row_at hown (ys := ys) hAL.out 1 _ rfl; have s2 := row_at hown (ys := ys) hAL.out 2 _ rfl; have s3 := row_at hown (ys := ys) hAL.out 3 _ rfl; have s4 := row_at hown (ys := ys) hAL.out 4 _ rfl; have s5 := row_at hown (ys := ys) hAL.out 5 _ rfl; have s6 := row_at hown (ys := ys) hAL.out 6 _ rfl; have s7 := row_at hown (ys := ys) hAL.out 7 _ rfl; have sf := fun j => hown.frozenAt j; have s4' := hgrow.cell (a := ⟨g, o + 4, none⟩) (E4.out _) hNe.out; have ng := own_ne hwh hNe.out (hG2.out _); have ng2 := own_ne' hwh hNe.out (hG2.out _); have f4' := (World.frozen?_of_block (a := ⟨g, o + 4, none⟩) (hgrow.block g (hG2.out _) hNe.out)).trans (F4.out _); have hOwn := Lib.hid hown; have hGrow := Lib.hid hgrow; have hWh := Lib.hid hwh; clear hown hgrow hwh)
      all_goals (go_wp2_with fail; go_meet)
      all_goals first | with_reducible exact mid_a B3.out (Below.alloc (Below.refl _ _) (Nat.le_refl _) _).drew (by simp) HGr.out hBg HAl1.out hNe.out hGrow.out hOwn.out hWh.out ng | with_reducible exact mid_b B3.out (Below.alloc (Below.refl _ _) (Nat.le_refl _) _).drew (by simp) HGr.out hBg HAl1.out hNe.out hGrow.out hOwn.out hWh.out ng
    case rest =>
    have Hcut := Lib.hid hcut
    obtain ⟨_, ⟨al', hm2, _, _⟩, _⟩ := hcut
    have k8 : wc.cell? ⟨g, o + 8, none⟩ = some c8 := by
      rw [cell_of_row wc g (o + 8) _ _ (0, 0) hm2, Array.getElem?_setIfInBounds, if_neg (by omega), Array.getElem?_setIfInBounds, if_neg (by omega)]
      exact hc8
    have f8 : wc.frozen? ⟨g, o + 8, none⟩ = false := Lib.frozen_of_heap hm2 (o + 8)
    clear hm2
    go_wp2
    go_ret
    have hE := added_end (nv := Value.map none) (nv' := .map (some b2)) HB6.out HK6.out HGr.out hBg HAl1.out HNm6.out HNv.out Hcut.out
    exact ⟨rfl, hE.1, fun _ => hE.2⟩
    --END1
  case inr =>
    obtain ⟨D0, hD01, hD02, hD03⟩ := hN
    have hN : NamesAt w b2 n seen := ⟨D0, hD01, hD02, hD03⟩
    obtain ⟨z, hz⟩ : ∃ z, memB X seen = z := ⟨_, rfl⟩
    have hl0 : ∀ W, W.heap[b2]? = w.heap[b2]? → (Instr.lookup 114 (.map (some b2)) (.string X) true).run Tryz.prog W = .ok (.tuple #[.agg #[], .bool z]) W := fun W hW => by
      obtain ⟨es, clock, h1, h2⟩ := hD01
      obtain ⟨v, ps, hrun, hv⟩ := World.ownsMap.look_ok (w := W) (zd := .agg []) (zp := []) ⟨es, clock, hW.trans h1, h2⟩ keyLaw Tryz.underlying114 (zeroUnit W) unitElem_mk hkey
      obtain ⟨rfl, _⟩ := unitElem_inv hv
      rw [hrun, hD02 X, hz]
    have hbl : b2 < w.heap.size := by obtain ⟨es, clock, h1, h2⟩ := hD01; exact (Array.getElem?_eq_some_iff.1 h1).1
    have hlook1 : ∀ o1, (Instr.lookup 114 (.map (some b2)) (.string X) true).run Tryz.prog (w.alloc o1).drew = .ok (.tuple #[.agg #[], .bool z]) (w.alloc o1).drew := fun o1 => hl0 _ (Lib.alloc_old _ _ b2 hbl)
    have hlook2 : ∀ o1 o2, (Instr.lookup 114 (.map (some b2)) (.string X) true).run Tryz.prog ((w.alloc o1).alloc o2).drew = .ok (.tuple #[.agg #[], .bool z]) ((w.alloc o1).alloc o2).drew := fun o1 o2 => hl0 _ ((Lib.alloc_old _ _ b2 (by rw [World.size_alloc]; omega)).trans (Lib.alloc_old _ _ b2 hbl))
    have heq : ∀ W, (binOp .eql 114 (.map (some b2)) (.map none)).run Tryz.prog W = .ok (.bool false) W := fun W => run_eql_map_nil W _ _ _ (some b2) Tryz.underlying114
    have HKey := Lib.hid hkey
    have HN := Lib.hid hN
    have Hz := Lib.hid hz
    rw [hz]
    clear hkey hN hz hl0 hD01 hD02 hD03
    cases z
    case true =>
      go_enter Tryz.func77, Tryz.ntmps77
      go_wp2_with fail
      go_region
      go_wp2
      go_ret
      exact ⟨rfl, (((Below.refl B w).alloc hBw _).alloc (by rw [World.size_alloc]; omega) _).drew, fun h => by cases h⟩
    go_enter Tryz.func77, Tryz.ntmps77
    go_wp2_with fail
    go_region
    generalize hW1 : World.drew _ = W2
    have hb1 : Below w.heap.size w W2 := by
      rw [← hW1]
      exact (((Below.refl _ w).alloc (Nat.le_refl _) _).alloc (by simp) _).drew
    have hbx2 : BoxAt W2 w.heap.size #[.string X, .int .i64 k, .string t, .string nn, .string a, .slice A1 n1 c1, .pointer p, .slice A2 n2 c2] 58 := by
      rw [← hW1]
      exact (BoxAt.new w _ _).alloc _
    clear hW1
    have hg2 : W2.heap[g]? = some (.cells (cs.setIfInBounds (o + 7) (.map (some b2))) 116 (0, 0)) := by
      rw [hset]
      exact (hb1.block g hgl).trans HG.out
    have e7 : W2.cell? ⟨g, o + 7, none⟩ = some (.map (some b2)) := (hb1.cell (p := ⟨g, o + 7, none⟩) hgl).trans d7
    have q0 := hbx2.cell 0
    simp at q0
    have hb2 : Below B w W2 := hb1.mono hBw
    have hk2 : ∀ k, k < w.heap.size → k ≠ g → W2.heap[k]? = w.heap[k]? := fun k hk _ => hb1.block k hk
    have hal2 : W2.ownsRow B 58 8 (.slice Al n cl) n ys := row_blocks HAl.out fun bb hbb => hb1.block bb (HAl.out.lt bb hbb).2
    have hN2 : NamesAt W2 b2 n seen := HN.out.later hb1
    have hnb := hb
    have hnv : (Value.map (some b2)) = Value.map (some b2) ∨ ∃ b', Value.map (some b2) = .map (some b') ∧ w.heap.size ≤ b' := .inl rfl
    have hsz2 : w.heap.size < W2.heap.size := hbx2.lt
    have hzM : memB X seen = false := Hz.out
    have hkb : ∀ k, k < w.heap.size → Value.map (some b2) ≠ .map (some k) → k ≠ b2 := fun k _ h e => h (by rw [e])
    go_wp2_with fail
    --TAIL2
    have hgl2 := (Array.getElem?_eq_some_iff.1 hg2).1
    have hmp := owns_map hN2.choose_spec.1
    obtain ⟨D, hD1, hD2, hD3⟩ := hN2
    have e7' : W2.cell? ⟨g, o + 7, none⟩ = some (.map (some b2)) := by
      rw [cell_of_row W2 g (o + 7) _ _ (0, 0) hg2, Array.getElem?_setIfInBounds, if_pos rfl, if_pos (by omega)]
    have qX := hbx2.cell 0
    simp at qX
    have him : n < maxLen := by unfold maxLen; omega
    have HD1 := Lib.hid hD1
    have HD2 := Lib.hid hD2
    have HD3 := Lib.hid hD3
    have HIm := Lib.hid him
    have HG2 := Lib.hid hg2
    have HBx2 := Lib.hid hbx2
    have HMp := Lib.hid hmp
    have HAl2 := Lib.hid hal2
    have HB2 := Lib.hid hb2
    have HK2 := Lib.hid hk2
    have HKB := Lib.hid hkb
    have HNv := Lib.hid hnv
    have HZM := Lib.hid hzM
    have Hsz2 := Lib.hid hsz2
    have Hnb := Lib.hid hnb
    clear hD1 hD2 hD3 him hg2 hbx2 hmp hal2 hb2 hk2 hkb hnv hzM hsz2 hnb
    go_still_tail 7, (by kernel_rfl)
    change wpList _ _ _ _ _ W2.drew
    go_wp2_with (at_mapUpdate; refine wpList_mapUpdate_own _ rfl _ _ _ 114 rfl 9 151 keyLaw Tryz.underlying114 (unitElem (H := Unit)) b2 n D rfl HD1.out.drew HIm.out _ _ _ rfl rfl HKey.out _ [] unitElem_mk ?_; intro w6 hown6 hg6; skip)
    have hput := names_put (HD1.out.tidy keyLaw) HD2.out HD3.out X HZM.out (.agg [])
    have hgr : w6.heap[g]? = some (.cells (cs.setIfInBounds (o + 7) (.map (some b2))) 116 (0, 0)) := grown_cells hg6 HMp.out HG2.out
    have hbox : BoxAt w6 w.heap.size #[.string X, .int .i64 k, .string t, .string nn, .string a, .slice A1 n1 c1, .pointer p, .slice A2 n2 c2] 58 := grown_cells hg6 HMp.out HBx2.out
    have hb6 : Below B w w6 := HB2.out.drew.grown hg6 (Nat.le_trans hBw HB2.out.size) (fun kk e => by have := Option.some.inj e; have := Hnb.out; omega)
    have hk6 : ∀ k, k < w.heap.size → k ≠ g → Value.map (some b2) ≠ .map (some k) → w6.heap[k]? = w.heap[k]? := fun k h1 h2 h3 => by
      rw [hg6.block k (show k < W2.heap.size from Nat.lt_trans h1 Hsz2.out) (fun e => HKB.out k h1 h3 (Option.some.inj e))]
      exact HK2.out k h1 h2
    have hal6 : w6.ownsRow B 58 8 (.slice Al n cl) n ys := row_blocks HAl2.out fun b hb => hg6.block b (show b < W2.heap.size from (HAl2.out.lt b hb).2) (fun e => by
      obtain ⟨c0, t0, fz, hh⟩ := own_cells HAl2.out hb
      obtain ⟨es, c, hm⟩ := HMp.out
      have := Option.some.inj e
      subst this
      rw [hm] at hh; cases hh)
    have hnm6 : NmOk B w6 (.map (some b2)) (X :: seen) (n + 1) := .inr ⟨b2, rfl, Hnb.out, by simp, D.put (.string X.data.toList) (.agg []), hown6, hput.1, hput.2⟩
    have hbl := hbox.lt
    have hg6l := (Array.getElem?_eq_some_iff.1 hgr).1
    have e4 : w6.cell? ⟨g, o + 4, none⟩ = some (.slice Al n cl) := by
      rw [cell_of_row w6 g (o + 4) _ _ (0, 0) hgr, Array.getElem?_setIfInBounds, if_neg (by omega)]
      exact Hc4.out
    obtain ⟨q0, q1, q2, q3, q4, q5, q6, q7, p0, p1, p2, p3, p4, p5, p6, p7⟩ := cells8 hbox
    have HGr := Lib.hid hgr
    have HB6 := Lib.hid hb6
    have HK6 := Lib.hid hk6
    have HAl1 := Lib.hid hal6
    have HNm6 := Lib.hid hnm6
    clear hput hgr hbox hb6 hk6 hal6 hnm6 hown6 hg6 qX e7' hgl2
    have hn0 : (n : Int) ≤ 1000000 := by omega
    have fg : ∀ j, w6.frozen? ⟨g, j, none⟩ = false := fun j => Lib.frozen_of_heap HGr.out j
    have hAL := Lib.hid HAl1.out.1
    have hg1 : g < w6.heap.size := hg6l
    have E4 := Lib.hid (fun ob : Obj => (((Below.refl w6.heap.size w6).alloc (Nat.le_refl _) ob).cell (p := ⟨g, o + 4, none⟩) hg1).trans e4)
    have hG2 := Lib.hid (fun ob : Obj => show g < (w6.alloc ob).heap.size by rw [World.size_alloc]; omega)
    have F4 := Lib.hid (fun ob : Obj => (((Below.refl w6.heap.size w6).alloc (Nat.le_refl _) ob).frozen (p := ⟨g, o + 4, none⟩) hg1).trans (fg (o + 4)))
    have x1 : (n : Int) < (n : Int) + 1 := by omega
    have x2 : (n : Int) < ((n + 1 : Nat) : Int) := by omega
    have x3 : (0 : Int) ≤ (n : Int) := by omega
    have B1 := Lib.hid (show n + 1 ≤ maxLen by unfold maxLen; omega)
    have B2 := Lib.hid (show (n + 1) * 128 ≤ 140737488355328 by omega)
    have B3 := Lib.hid (show B ≤ w6.heap.size by omega)
    go_wp2_with fail
    dsimp only [Act.put]
    go_cut [] (fun wx => AddMid B g o (cs.setIfInBounds (o + 7) (.map (some b2))) (.slice Al n cl) n ys [.string X, .int .i64 k, .string t, .string nn, .string a, .slice A1 n1 c1, .pointer p, .slice A2 n2 c2] w6 wx)
    case first =>
      go_region_law (refine step_append_own rfl (.tmp 57) (.tmp 60) 25 rfl B 58 i0 (.agg #[.string ⟨#[]⟩, .int .i64 0, .string ⟨#[]⟩, .string ⟨#[]⟩, .string ⟨#[]⟩, .slice none 0 0, .pointer none, .slice none 0 0]) 8 128 Tryz.underlying25 hi0 hz0 hz1 hz2 rfl (by decide) (.slice Al n cl) n ys (by simp [Act.eval, Act.put]) (HAl1.out.drew.alloc _) ⟨w6.heap.size, 0, none⟩ 1 1 [.string ⟨#[]⟩, .int .i64 0, .string ⟨#[]⟩, .string ⟨#[]⟩, .string ⟨#[]⟩, .slice none 0 0, .pointer none, .slice none 0 0] (by simp [Act.eval, Act.put]) rfl (new8 _ _) (by simp [Value.oneCell']) B1.out B2.out (by show B ≤ (w6.alloc _).heap.size; rw [World.size_alloc]; exact Nat.le_succ_of_le B3.out) (by decide) ?_; intro v' w' hown hgrow hwh; obtain ⟨gA, cA, rfl⟩ := own_some hown; have hZ := hown.1; have s0 := row_at0 hown (ys := ys) hAL.out _ rfl; have s1 := row_at hown (ys := ys) hAL.out 1 _ rfl; have s2 := row_at hown (ys := ys) hAL.out 2 _ rfl; have s3 := row_at hown (ys := ys) hAL.out 3 _ rfl; have s4 := row_at hown (ys := ys) hAL.out 4 _ rfl; have s5 := row_at hown (ys := ys) hAL.out 5 _ rfl; have s6 := row_at hown (ys := ys) hAL.out 6 _ rfl; have s7 := row_at hown (ys := ys) hAL.out 7 _ rfl; have sf := fun j => hown.frozenAt j; have s4' := hgrow.cell (a := ⟨g, o + 4, none⟩) (E4.out _) hNe.out; have ng := own_ne hwh hNe.out (hG2.out _); have ng2 := own_ne' hwh hNe.out (hG2.out _); have f4' := (World.frozen?_of_block (a := ⟨g, o + 4, none⟩) (hgrow.block g (hG2.out _) hNe.out)).trans (F4.out _); have hOwn := Lib.hid hown; have hGrow := Lib.hid hgrow; have hWh := Lib.hid hwh; clear hown hgrow hwh)
      all_goals (go_wp2_with fail; go_meet)
      all_goals first | with_reducible exact mid_a B3.out (Below.alloc (Below.refl _ _) (Nat.le_refl _) _).drew (by simp) HGr.out hBg HAl1.out hNe.out hGrow.out hOwn.out hWh.out ng | with_reducible exact mid_b B3.out (Below.alloc (Below.refl _ _) (Nat.le_refl _) _).drew (by simp) HGr.out hBg HAl1.out hNe.out hGrow.out hOwn.out hWh.out ng
    case rest =>
    have Hcut := Lib.hid hcut
    obtain ⟨_, ⟨al', hm2, _, _⟩, _⟩ := hcut
    have k8 : wc.cell? ⟨g, o + 8, none⟩ = some c8 := by
      rw [cell_of_row wc g (o + 8) _ _ (0, 0) hm2, Array.getElem?_setIfInBounds, if_neg (by omega), Array.getElem?_setIfInBounds, if_neg (by omega)]
      exact hc8
    have f8 : wc.frozen? ⟨g, o + 8, none⟩ = false := Lib.frozen_of_heap hm2 (o + 8)
    clear hm2
    go_wp2
    go_ret
    have hE := added_end (nv := Value.map (some b2)) (nv' := .map (some b2)) HB6.out HK6.out HGr.out hBg HAl1.out HNm6.out (.inl rfl) Hcut.out
    exact ⟨rfl, hE.1, fun _ => hE.2⟩
    --END2
end Go.Proofs.YtnogdojdjehakaaGreatDoor

/-
  Package expr: add.
-/
namespace Go.Proofs.YtnogdojdjehakaaGreatDoor
open Go.RowKit Go.Maps
set_option linter.unusedVariables false

theorem add_any {B g o : Nat} (cs : Array Value) (al nv : Value) (n : Nat) (ys : List Value) (seen : List ByteArray) (X : ByteArray) (k : Int) (t nn a : ByteArray) (A1 : Option Addr) (n1 c1 : Nat) (p : Option Addr) (A2 : Option Addr) (n2 c2 : Nat) (w : World)
    (hg : w.heap[g]? = some (.cells cs 116 (0, 0))) (hBg : B ≤ g) (ho : o + 9 ≤ cs.size) (hc4 : cs[o + 4]? = some al) (hc7 : cs[o + 7]? = some nv) {c8 : Value} (hc8 : cs[o + 8]? = some c8) (hal : w.ownsRow B 58 8 al n ys) (hne : al.ownBlock ≠ some g) (hnm : NmOk B w nv seen n) (hn : n ≤ 1000000) (hX : X.size ≤ 1000000) (ho2 : o ≤ 100000000) :
    Calls Tryz.prog 77 #[.pointer (some ⟨g, o, none⟩), arV X k t nn a A1 n1 c1 p A2 n2 c2] w fun e w' =>
      e = .returned (.bool (if emp X = true then decide (seen.length = 0) && !((k == 4) && !emp a) else !memB X seen)) ∧ Below B w w' ∧
      ((if emp X = true then decide (seen.length = 0) && !((k == 4) && !emp a) else !memB X seen) = true → Added B g o cs al nv n ys (if emp X = true then seen else X :: seen) [.string X, .int .i64 k, .string t, .string nn, .string a, .slice A1 n1 c1, .pointer p, .slice A2 n2 c2] w w') := by
  by_cases h : emp X = true
  · rw [if_pos h, if_pos h]
    exact add_empty cs al nv n ys seen X k t nn a A1 n1 c1 p A2 n2 c2 w hg hBg ho hc4 hc7 hc8 hal hne hnm hn hX ho2 h
  · rw [if_neg h, if_neg h]
    exact add_named cs al nv n ys seen X k t nn a A1 n1 c1 p A2 n2 c2 w hg hBg ho hc4 hc7 hc8 hal hne hnm hn hX ho2 (by simpa using h)
end Go.Proofs.YtnogdojdjehakaaGreatDoor

/-
  Package expr: inline: what is read ahead of arguments.
-/
namespace Go.Proofs.YtnogdojdjehakaaGreatDoor
open Go.RowKit Go.Maps
set_option linter.unusedVariables false
set_option linter.unusedSimpArgs false

def exName : EX → ByteArray | .mk _ _ n _ _ _ _ => n
section
variable {s : ByteArray} {P : Nat → Res} {i j : Nat} {e : EX}
theorem ext_le (s : ByteArray) (i j : Nat) : (s.extract i j).size ≤ s.size := by rw [ByteArray.size_extract]; omega
theorem quo_flat (h : quoS s i = some (e, j)) : exArgs e = [] ∧ (exName e).size ≤ s.size := by
  unfold quoS at h
  split at h
  · cases h; exact ⟨rfl, Nat.zero_le _⟩
  · cases h
theorem nub_flat (h : nubS s i = some (e, j)) : exArgs e = [] ∧ (exName e).size ≤ s.size := by
  unfold nubS at h
  split at h
  · cases h
  · cases h; exact ⟨rfl, Nat.zero_le _⟩
theorem ref_flat {k : Int} (h : refS k s i = some (e, j)) : exArgs e = [] ∧ (exName e).size ≤ s.size := by
  unfold refS at h
  split at h
  · cases h
  · split at h
    · split at h
      · cases h
      · cases h; exact ⟨rfl, ext_le _ _ _⟩
    · cases h; exact ⟨rfl, ext_le _ _ _⟩
theorem head_flat (h : headS P s i = some (e, j)) : exArgs e = [] ∧ (exName e).size ≤ s.size := by
  unfold headS at h
  rcases or_some h with h | h
  · exact quo_flat h
  rcases or_some h with h | h
  · unfold varS at h
    split at h
    · cases h; exact ⟨rfl, ext_le _ _ _⟩
    · cases h
  rcases or_some h with h | h
  · unfold nestS at h
    split at h
    · cases h; exact ⟨rfl, Nat.zero_le _⟩
    · cases h
  rcases or_some h with h | h
  · unfold terS at h
    split at h
    · exact ref_flat h
    · cases h
  rcases or_some h with h | h
  · exact ref_flat h
  · exact nub_flat h
theorem arg_flat {n : ByteArray} (h : argS P s i = some (n, e, j)) : exArgs e = [] ∧ (exName e).size ≤ s.size ∧ n.size ≤ s.size := by
  unfold argS at h
  split at h
  · next hn =>
    cases h
    unfold namS at hn
    split at hn
    · cases hn
    · split at hn
      · split at hn
        · next ho =>
          cases hn
          have : exArgs e = [] ∧ (exName e).size ≤ s.size := by
            rcases or_some ho with ho | ho
            · exact quo_flat ho
            · exact nub_flat ho
          exact ⟨this.1, this.2, ext_le _ _ _⟩
        · cases hn
      · cases hn
  · split at h
    · next hh => cases h; exact ⟨(head_flat hh).1, (head_flat hh).2, Nat.zero_le _⟩
    · cases h
end
theorem ex_eta (e : EX) : ∃ k t n a i vs, exArgs e = [] → e = .mk k t n a [] i vs := by
  cases e with
  | mk k t n a al i vs => exact ⟨k, t, n, a, i, vs, fun h => by rw [show al = [] from h]⟩
/-- An expression that is opened, and its cells. -/
theorem exF_open {W : World} {F : Nat → Prop} {k : Int} {t n a : ByteArray} {al i vs : Value} {x : EX} (h : ExF W F x ⟨.int .i64 k, .string t, .string n, .string a, al, i, vs⟩) (isF : Bool) (hF : isFuncS x = isF) (hT : isF = false → isTermS x = true) :
    ExF W F (opnE x) ⟨.int .i64 (if isF then 5 else k), .string t, .string n, .string a, al, i, vs⟩ := by
  cases x with
  | mk k' t' n' a' al' i' vs' =>
    rw [ExF] at h
    obtain ⟨h1, h2, h3, h4, h5, h6, h7⟩ := h
    have hk : k = k' := by injection h1
    subst hk
    rw [opnE, ExF]
    refine ⟨?_, h2, h3, h4, h5, h6, h7⟩
    cases isF with
    | true =>
      have : k = 3 := by
        have h8 : ((k == 3) && emp a' && bigV n') = true := hF
        simp at h8
        exact h8.1.1
      rw [if_pos this]
      rfl
    | false =>
      have : k = 4 := by have := hT rfl; simpa [isTermS] using this
      rw [if_neg (show ¬ k = 3 by omega)]
      rfl
theorem exF_mk {W : World} {F : Nat → Prop} {k : Int} {t n a : ByteArray} {al i vs : Value} {x : EX} (h : ExF W F x ⟨.int .i64 k, .string t, .string n, .string a, al, i, vs⟩) : ∃ al' i' vs', x = .mk k t n a al' i' vs' := by
  cases x with
  | mk k' t' n' a' al' i' vs' =>
    rw [ExF] at h
    obtain ⟨h1, h2, h3, h4, _⟩ := h
    cases h1
    cases h2
    cases h3
    cases h4
    exact ⟨_, _, _, rfl⟩
theorem opn_fst {s : ByteArray} {e : EX} {i : Nat} (h : (opnS s e i).1 = true) : isFuncS e = true ∨ isTermS e = true := by
  unfold opnS at h
  split at h
  · next hc => simpa using hc
  · cases h
theorem exArgs_opn (e : EX) : exArgs (opnE e) = exArgs e := by cases e; rfl
theorem exF_nil {W : World} {F : Nat → Prop} {k : Int} {t n a : ByteArray} {al : List AR} {i : Option EX} {vs : List VA} {ck ct cn ca cal ci cvs : Value} (h : ExF W F (.mk k t n a al i vs) ⟨ck, ct, cn, ca, cal, ci, cvs⟩) (ha : al = []) : cal = .slice none 0 0 := by
  rw [ExF] at h
  exact h.2.2.2.2.1.2 (by rw [ha]; rfl)
theorem opened_world {rb : Nat} {s : ByteArray} {q : Nat} {w wm w3 : World} {eb : Nat} {isF : Bool} {k : Int} {t n a : ByteArray} {A1 : Option Addr} {n1 c1 : Nat} {p : Option Addr} {A2 : Option Addr} {n2 c2 : Nat} {T : TypeId} (h : (if (isF && true) = true then wm.setCell ⟨eb, 0, none⟩ (.int .i64 5) else wm) = w3)
    (hb : BoxAt wm eb #[.int .i64 k, .string t, .string n, .string a, .slice A1 n1 c1, .pointer p, .slice A2 n2 c2] T) (hne : rb ≠ eb) (hrb : rb < w.heap.size) (hwb : w.heap.size ≤ eb) (hr : Rd rb s q wm) (hk : Kp rb w wm) :
    BoxAt w3 eb #[.int .i64 (if isF then 5 else k), .string t, .string n, .string a, .slice A1 n1 c1, .pointer p, .slice A2 n2 c2] T ∧ Rd rb s q w3 ∧ Kp rb w w3 ∧ w3.heap.size = wm.heap.size ∧ ∀ b, b ≠ eb → w3.heap[b]? = wm.heap[b]? := by
  cases isF with
  | false =>
    simp at h
    subst h
    exact ⟨hb, hr, hk, rfl, fun _ _ => rfl⟩
  | true =>
    simp at h
    subst h
    refine ⟨?_, hr.setOther hne 0 _, hk.setNew hwb hrb 0 _, World.size_setCell _ _ _, fun b hb => Below.heap_setCell _ _ _ b hb⟩
    unfold BoxAt at hb ⊢
    simp [World.setCell, Array.getElem?_modify, hb]
theorem exF_shape {W : World} {F : Nat → Prop} {x : EX} {c : C7} (h : ExF W F x c) : ∃ k t n a A1 n1 c1 p A2 n2 c2, c = ⟨.int .i64 k, .string t, .string n, .string a, .slice A1 n1 c1, .pointer p, .slice A2 n2 c2⟩ ∧ termAttr x = ((k == 4) && !emp a) := by
  obtain ⟨ck, ct, cn, ca, cal, ci, cvs⟩ := c
  cases x with
  | mk k t n a al i vs =>
    rw [ExF] at h
    obtain ⟨h1, h2, h3, h4, ⟨⟨A1, c1, h5, _⟩, _⟩, h6, ⟨A2, c2, h7, _⟩⟩ := h
    dsimp only at h1 h2 h3 h4 h5 h6 h7
    subst h1 h2 h3 h4 h5 h7
    cases i with
    | none => simp only [OF] at h6; subst h6; exact ⟨_, _, _, _, _, _, _, _, _, _, _, rfl, rfl⟩
    | some e => simp only [OF] at h6; obtain ⟨b, o, c, rfl, _⟩ := h6; exact ⟨_, _, _, _, _, _, _, _, _, _, _, rfl, rfl⟩
theorem addOk_eq (xs : List AR) (n : ByteArray) (e : EX) : addOk xs n e = (if emp n = true then decide ((seenOf xs).length = 0) && !termAttr e else !memB n (seenOf xs)) := by
  unfold addOk
  by_cases h : emp n = true
  · rw [if_pos h, if_pos h, seenOf_empty]
  · rw [if_neg h, if_neg h, seenOf_mem xs n (by simpa using h)]
theorem Kp.more {rb : Nat} {w a b : World} (h : Kp rb w a) (g : Below (w.heap.size + 1) a b) (hr : rb < w.heap.size) : Kp rb w b :=
  ⟨h.below.trans (g.mono (by omega)), fun k hk hn => (g.block k (by omega)).trans (h.others k hk hn)⟩
theorem Rd.more {rb B : Nat} {s : ByteArray} {i : Nat} {a b : World} (h : Rd rb s i a) (g : Below B a b) (hr : rb < B) : Rd rb s i b := (g.block rb hr).trans h
theorem BoxAt.more {B k : Nat} {cs : Array Value} {t : TypeId} {a b : World} (h : BoxAt a k cs t) (g : Below B a b) (hk : k < B) : BoxAt b k cs t := (g.block k hk).trans h
theorem StP.addWith {B g cap : Nat} {W : World} {cs : Array Value} {x1 ys : List Value} {c : C7} {nv : Value} {b1 b2 : List Nat} {fs : List Fr} {top : Fr} (h : StP B W g cap cs x1 ys c nv b1 b2 fs top) (X : ByteArray) (y : EX) (k : Int) (t nn a : ByteArray) (A1 : Option Addr) (n1 d1 : Nat) (p : Option Addr) (A2 : Option Addr) (n2 d2 : Nat)
    (hy : ExF W (FS B W g b1 b2) y ⟨.int .i64 k, .string t, .string nn, .string a, .slice A1 n1 d1, .pointer p, .slice A2 n2 d2⟩) (hn : top.xs.length ≤ 1000000) (hX : X.size ≤ 1000000) (hf : fs.length ≤ 1000000) :
    Calls Tryz.prog 77 #[.pointer (some ⟨g, fs.length * 9, none⟩), .agg #[.string X, .int .i64 k, .string t, .string nn, .string a, .slice A1 n1 d1, .pointer p, .slice A2 n2 d2]] W fun e W' =>
      e = .returned (.bool (addOk top.xs X y)) ∧ Below B W W' ∧ (addOk top.xs X y = true → StAt B W' (.slice (some ⟨g, 0, none⟩) (fs.length + 1) cap) fs ⟨top.e, top.xs ++ [.mk X y], true⟩) := by
  obtain ⟨_, _, _, _, _, _, _, _, _, _, _, hce, hta⟩ := exF_shape hy
  cases hce
  have hnd := List.nodup_cons.1 h.nodup
  have hA := add_any cs c.al nv top.xs.length ys (seenOf top.xs) X k t nn a A1 n1 d1 p A2 n2 d2 W h.hg h.hB (by rw [h.hcs]; have := h.hc1; omega) (h.cell 4 _ rfl) (h.cell 7 _ rfl) (h.cell 8 _ rfl) h.hal (fun e => hnd.1 (List.mem_append_right _ (h.al_mem e))) h.hnm hn hX (by omega)
  rw [← hta, ← addOk_eq] at hA
  refine hA.mono ?_
  rintro e W' ⟨h1, h2, h3⟩
  refine ⟨h1, h2, fun hq => h.added hy ?_⟩
  rw [seenOf_snoc]
  exact h3 hq
theorem opened_world8 {rb : Nat} {s : ByteArray} {q : Nat} {w wm w3 : World} {eb : Nat} {isF : Bool} {X : ByteArray} {k : Int} {t n a : ByteArray} {A1 : Option Addr} {n1 c1 : Nat} {p : Option Addr} {A2 : Option Addr} {n2 c2 : Nat} {T : TypeId} (h : (if (isF && true) = true then wm.setCell ⟨eb, 1, none⟩ (.int .i64 5) else wm) = w3)
    (hb : BoxAt wm eb #[.string X, .int .i64 k, .string t, .string n, .string a, .slice A1 n1 c1, .pointer p, .slice A2 n2 c2] T) (hne : rb ≠ eb) (hrb : rb < w.heap.size) (hwb : w.heap.size ≤ eb) (hr : Rd rb s q wm) (hk : Kp rb w wm) :
    BoxAt w3 eb #[.string X, .int .i64 (if isF then 5 else k), .string t, .string n, .string a, .slice A1 n1 c1, .pointer p, .slice A2 n2 c2] T ∧ Rd rb s q w3 ∧ Kp rb w w3 ∧ w3.heap.size = wm.heap.size ∧ ∀ b, b ≠ eb → w3.heap[b]? = wm.heap[b]? := by
  cases isF with
  | false =>
    simp at h
    subst h
    exact ⟨hb, hr, hk, rfl, fun _ _ => rfl⟩
  | true =>
    simp at h
    subst h
    refine ⟨?_, hr.setOther hne 1 _, hk.setNew hwb hrb 1 _, World.size_setCell _ _ _, fun b hb => Below.heap_setCell _ _ _ b hb⟩
    unfold BoxAt at hb ⊢
    simp [World.setCell, Array.getElem?_modify, hb]
theorem new9 (w : World) (t : TypeId) {x0 x1 x2 x3 x4 x5 x6 x7 x8 : Value} : ∀ j u, ([x0, x1, x2, x3, x4, x5, x6, x7, x8] : List Value)[j]? = some u → (w.alloc (.cells #[x0, x1, x2, x3, x4, x5, x6, x7, x8] t)).cell? ((⟨w.heap.size, 0, none⟩ : Addr).add j) = some u := by
  intro j u hj
  rw [Addr.add_mid, Nat.zero_add]
  have := BoxAt.cell (BoxAt.new w #[x0, x1, x2, x3, x4, x5, x6, x7, x8] t) j
  rw [this]
  simpa using hj
set_option maxHeartbeats 2000000 in
set_option maxRecDepth 100000 in
theorem opens_flat (rb : Nat) (k : Int) (h3 : k ≠ 3) (h4 : k ≠ 4) (eb eo : Nat) (w : World) (h0 : w.cell? ⟨eb, eo, none⟩ = some (.int .i64 k)) :
    Calls Tryz.prog 76 #[pt rb, .pointer (some ⟨eb, eo, none⟩)] w fun e w' => e = .returned (.bool false) ∧ w' = w := by
  have z3 : (k == 3) = false := beq_eq_false_iff_ne.2 h3
  have z4 : (k == 4) = false := beq_eq_false_iff_ne.2 h4
  have y4 : (k != 4) = true := by rw [bne, z4]; rfl
  unfold pt
  go_enter Tryz.func76, Tryz.ntmps76
  go_wp2
  go_ret
  exact ⟨rfl, rfl⟩
theorem StP.push2 {B g cap : Nat} {W W' : World} {cs : Array Value} {x1 ys : List Value} {c : C7} {nv v : Value} {b1 b2 : List Nat} {fs : List Fr} {top : Fr} {o : Obj} (h : StP B W g cap cs x1 ys c nv b1 b2 fs top) {e : EX} {ce : C7} (he : ExF W (FS B W g b1 b2) e ce) (hea : exArgs e = []) (hn : ce.al = .slice none 0 0)
    (ho : W'.ownsRow B 116 9 v (fs.length + 1 + 1) (x1 ++ [c.k, c.t, c.n, c.a, c.al, c.i, c.vs, nv, .bool top.want] ++ [ce.k, ce.t, ce.n, ce.a, ce.al, ce.i, ce.vs, .map none, .bool false]))
    (hgr : (W.alloc o).grownBy W' (some g)) (hw : v.ownBlock = some g ∨ v.ownBlock = some (W.heap.size + 1)) : StAt B W' v (fs ++ [top]) ⟨e, [], false⟩ := by
  have h2 := h.kept (W' := W.alloc o) (by rw [World.size_alloc]; omega) (fun b _ hb => Lib.alloc_old _ _ b hb)
  exact h2.push (ExF.carry (fun b hb => ⟨⟨hb.1, by rw [World.size_alloc]; have := hb.2.1; omega, hb.2.2⟩, Lib.alloc_old _ _ b hb.2.1⟩) _ _ he) hea hn ho hgr (by rw [World.size_alloc]; exact hw)
/-- What inline's loop holds. -/
structure InAt (rb : Nat) (s : ByteArray) (P : Nat → Res) (R : Res) (w : World) (v : Value) (fs : List Fr) (top : Fr) (j : Nat) (wr : World) : Prop where
  hj : j ≤ s.size
  hf : fs.length ≤ j
  hn : ∀ f ∈ fs, f.xs.length ≤ j
  ht : top.xs.length ≤ j
  ans : runS P s top fs.reverse j = R
  rd : Rd rb s j wr
  kp : Kp rb w wr
  st : StAt (w.heap.size + 1) wr v fs top
  box : BoxAt wr w.heap.size zE 29
set_option maxHeartbeats 4000000 in
set_option maxRecDepth 100000 in
theorem inline_any {rb : Nat} {s : ByteArray} {d : Nat} {P : Nat → Res} (hs : s.size ≤ 1000000) (hd : d ≤ 4000) (hP : WayTo rb s 25 #[pt rb, .int .i64 ((d + 1 : Nat) : Int)] P) (hPos : PosOk s P) :
    WayTo rb s 51 #[pt rb, .int .i64 d] (inlS P s) := by
  intro i w hr hi
  have HR := Lib.hid hr
  have hlt := hr.lt
  obtain ⟨R, hRR⟩ : ∃ R, inlS P s i = R := ⟨_, rfl⟩
  rw [hRR]
  have hH := fun W h => head_way (rb := rb) hs hd hP i W h hi
  obtain ⟨r0, hr0⟩ : ∃ r, headS P s i = r := ⟨_, rfl⟩
  rw [hr0] at hH
  have HH := Lib.hid hH
  have hd0 : (d : Int) ≤ 4000 := by omega
  clear hH hr
  unfold pt at HH ⊢
  cases r0 with
  | none =>
    rw [inl_none hr0] at hRR
    subst hRR
    clear hr0
    go_enter Tryz.func51, Tryz.ntmps51
    go_wp2_with fail
    go_at_call 75
    refine (HH.out _ (HR.out.alloc _)).mono ?_
    rintro e w1 ⟨⟨h1, k, t, n, a, A1, n1, c1', p, A2, n2, c2', j, rfl, h2, hj, h3⟩, hz⟩
    have hc := BoxAt.kp (BoxAt.new w zE 29) h1 (by omega)
    have HK := Lib.hid (((Kp.refl rb w).alloc (Nat.le_of_lt hlt) (.cells zE 29)).trans h1)
    have HC := Lib.hid hc
    have H2 := Lib.hid h2
    have hl := hc.lt
    have hl2 := h2.lt
    obtain ⟨q0, q1, q2, q3, q4, q5, q6, p0, p1, p2, p3, p4, p5, p6⟩ := cells7 hc
    clear h1 h2 h3 hz hc
    unfold exV
    go_wp2
    exact end7w Tryz.results51 ((box_set7 HC.out _ _ _ _ _ _ _).alloc _) rfl rfl rfl ⟨(HK.out.set7 (Nat.le_refl _) hlt _ _ _ _ _ _ _).alloc (by rw [set7_size]; omega) _, k, t, n, a, A1, n1, c1', p, A2, n2, c2', j, rfl, (H2.out.set7 (by omega) _ _ _ _ _ _ _).alloc _, hj, fun x m h => by cases h⟩
  | some ej =>
    obtain ⟨x, j0⟩ := ej
    have hfl := head_flat hr0
    have hpos0 := head_pos hPos hi hr0
    rw [inl_run hr0] at hRR
    have hoB := opn_pos (s := s) x hpos0.2
    obtain ⟨b, hb⟩ : ∃ b, (opnS s x j0).1 = b := ⟨_, rfl⟩
    obtain ⟨q, hq⟩ : ∃ q, (opnS s x j0).2 = q := ⟨_, rfl⟩
    have hob := opn_fst (s := s) (e := x) (i := j0)
    rw [hb] at hRR hob
    rw [hq] at hRR hoB
    have HOb := Lib.hid hob
    obtain ⟨isF, hisF⟩ : ∃ f, isFuncS x = f := ⟨_, rfl⟩
    rw [hisF] at HOb
    have HRR := Lib.hid hRR
    have Hfl := Lib.hid hfl
    have Hb := Lib.hid hb
    have Hq := Lib.hid hq
    have HisF := Lib.hid hisF
    have HA := Lib.hid (fun m W (h : Rd rb s m W) hm => argument_any (rb := rb) hs hd hP m W h hm)
    clear hr0 hRR hfl hb hq hisF hob
    go_enter Tryz.func51, Tryz.ntmps51
    go_wp2_with fail
    go_at_call 75
    refine (HH.out _ (HR.out.alloc _)).mono ?_
    rintro e w1 ⟨⟨h1, k, t, n, a, A1, n1, c1', p, A2, n2, c2', j, rfl, h2, hj, h3⟩, hz⟩
    have hc := BoxAt.kp (BoxAt.new w zE 29) h1 (by omega)
    have HK := Lib.hid (((Kp.refl rb w).alloc (Nat.le_of_lt hlt) (.cells zE 29)).trans h1)
    obtain ⟨rfl, hx⟩ := h3 x j0 rfl
    have HX := Lib.hid hx
    have HC := Lib.hid hc
    have H2 := Lib.hid h2
    have hl := hc.lt
    have hl2 := h2.lt
    have hs1 := h1.size
    rw [World.size_alloc] at hs1
    obtain ⟨al', i', vs', rfl⟩ := exF_mk hx
    have hO := fun W h1 h2 h3 h4 h5 h6 h7 h8 => opens_any (rb := rb) hs k t n a al' i' vs' w1.heap.size 0 j0 W h1 hpos0.2 h2 h3 h4 h5 h6 h7 h8
    rw [HisF.out, Hb.out, Hq.out] at hO
    have HO := Lib.hid hO
    have hn4 : n.size ≤ 4000000 := by have := Hfl.out.2; have : n.size ≤ s.size := this; omega
    clear h1 h2 h3 hz hc hx hO
    unfold exV pt at *
    go_wp2_with fail
    go_at_call 76
    have hbx := BoxAt.new w1 #[.int .i64 k, .string t, .string n, .string a, .slice A1 n1 c1', .pointer p, .slice A2 n2 c2'] 29
    have HBx := Lib.hid hbx
    refine (HO.out _ (H2.out.alloc _) hn4 (by simp) (by omega) (hbx.cell 0) (hbx.cell 2) (hbx.cell 3) (Lib.frozen_of_heap hbx 0)).mono ?_
    rintro e w3 ⟨rfl, wm, g1, g2, g3, rfl⟩
    have hbm : BoxAt wm w1.heap.size #[.int .i64 k, .string t, .string n, .string a, .slice A1 n1 c1', .pointer p, .slice A2 n2 c2'] 29 := BoxAt.kp hbx g1 (by omega)
    have G1 := Lib.hid g1
    have G2 := Lib.hid g2
    have HBm := Lib.hid hbm
    have hcm : BoxAt wm w.heap.size zE 29 := BoxAt.kp (BoxAt.alloc HC.out (.cells #[.int .i64 k, .string t, .string n, .string a, .slice A1 n1 c1', .pointer p, .slice A2 n2 c2'] 29)) g1 (by omega)
    have hKm := ((HK.out.alloc (Nat.le_of_lt (show rb < w1.heap.size by omega)) (.cells #[.int .i64 k, .string t, .string n, .string a, .slice A1 n1 c1', .pointer p, .slice A2 n2 c2'] 29)).trans g1)
    have hxm : ExF wm (fun q => Since (w.heap.size + 1) wm q ∧ q < w1.heap.size) (.mk k t n a al' i' vs') ⟨.int .i64 k, .string t, .string n, .string a, .slice A1 n1 c1', .pointer p, .slice A2 n2 c2'⟩ := ExF.carry (fun z hz => by
      obtain ⟨hz1, hz2⟩ := hz
      rw [World.size_alloc] at hz1
      have hg := g1.size
      rw [World.size_alloc] at hg
      exact ⟨⟨⟨hz1, by omega⟩, hz2⟩, (g1.others z (by rw [World.size_alloc]; omega) (by omega)).trans (Lib.alloc_old _ _ z hz2)⟩) _ _ HX.out
    have HCm := Lib.hid hcm
    have HKm := Lib.hid hKm
    have HXm := Lib.hid hxm
    have hlm := hcm.lt
    have hlm2 := HBm.out.lt
    clear g1 g2 hbx hbm hcm hKm hxm HX HBx HH HO
    cases b
    case false =>
      have hR := HRR.out
      rw [if_neg (by simp)] at hR
      subst hR
      simp only [Bool.and_false, Bool.false_eq_true, if_false]
      obtain ⟨q0, q1, q2, q3, q4, q5, q6, p0, p1, p2, p3, p4, p5, p6⟩ := cells7 HCm.out
      obtain ⟨r0, r1, r2, r3, r4, r5, r6, f0, f1, f2, f3, f4, f5, f6⟩ := cells7 HBm.out
      go_wp2
      exact end7 Tryz.results51 HCm.out rfl rfl rfl rfl (got_fin (b := w.heap.size) HKm.out (Nat.le_refl _) hlt G2.out g3 rfl (fun y m h => by
        cases h
        exact ⟨rfl, ExF.carry (fun z hz => ⟨⟨⟨by have := hz.1.1; omega, hz.1.2⟩, by have := hz.1.1; omega⟩, rfl⟩) _ _ HXm.out⟩))
    have hR := HRR.out
    rw [if_pos rfl] at hR
    have HRun := Lib.hid hR
    clear hR HRR
    obtain ⟨w3, hw3⟩ : ∃ w3, (if (isF && true) = true then wm.setCell ⟨w1.heap.size, 0, none⟩ (.int .i64 5) else wm) = w3 := ⟨_, rfl⟩
    rw [hw3]
    obtain ⟨hb3, hr3, hk3, hs3, hh3⟩ := opened_world hw3 HBm.out (show rb ≠ w1.heap.size by omega) hlt (by omega) G2.out HKm.out
    have hcm3 : BoxAt w3 w.heap.size zE 29 := (hh3 _ (by omega)).trans HCm.out
    have hx3 : ExF w3 (fun q => Since (w.heap.size + 1) w3 q ∧ q < w1.heap.size) (opnE (.mk k t n a al' i' vs')) ⟨.int .i64 (if isF then 5 else k), .string t, .string n, .string a, .slice A1 n1 c1', .pointer p, .slice A2 n2 c2'⟩ :=
      exF_open (ExF.carry (fun z hz => ⟨⟨⟨hz.1.1, by rw [hs3]; exact hz.1.2⟩, hz.2⟩, hh3 z (by have := hz.2; omega)⟩) _ _ HXm.out) isF HisF.out (fun h => by
        rcases HOb.out rfl with h1 | h1
        · rw [h] at h1; cases h1
        · exact h1)
    have hnil := exF_nil HXm.out Hfl.out.1
    simp only [Value.slice.injEq] at hnil
    obtain ⟨rfl, rfl, rfl⟩ := hnil
    obtain ⟨k2, hk2⟩ : ∃ k2, (if isF = true then 5 else k) = k2 := ⟨_, rfl⟩
    rw [hk2] at hb3 hx3
    have hea : exArgs (opnE (.mk k t n a al' i' vs')) = [] := by rw [exArgs_opn]; exact Hfl.out.1
    have hst := st_first (B := w.heap.size + 1) hx3 (fun z hz => ⟨hz.1.1, hz.1.2⟩) (by omega) hea rfl
    have hIn : InAt rb s P R w (.slice (some ⟨w3.heap.size, 0, none⟩) 1 1) [] ⟨opnE (.mk k t n a al' i' vs'), [], false⟩ q (w3.alloc (.cells #[.int .i64 k2, .string t, .string n, .string a, .slice none 0 0, .pointer p, .slice A2 n2 c2', .map none, .bool false] 116)) :=
      ⟨hoB.2, Nat.zero_le _, (fun f hf => by cases hf), Nat.zero_le _, HRun.out, hr3.alloc _, hk3.alloc (by omega) _, hst, hcm3.alloc _⟩
    have HIn := Lib.hid hIn
    obtain ⟨r0, r1, r2, r3, r4, r5, r6, f0, f1, f2, f3, f4, f5, f6⟩ := cells7 hb3
    clear hw3 hb3 hr3 hk3 hs3 hh3 hcm3 hx3 hk2 hea hst hIn HRun HXm HCm HKm HBm G1 G2 H2 HK HC hlm hlm2
    go_wp2
    go_loopw [7, 8] (fun t7 t8 wr => ∃ ok, t7 = .bool ok ∧ (ok = true → ∃ fs top j, Hid (InAt rb s P R w t8 fs top j wr)) ∧ (ok = false → ∃ j, Hid (Rd rb s j wr) ∧ j ≤ s.size ∧ Hid (Kp rb w wr) ∧ Hid (BoxAt wr w.heap.size zE 29) ∧ Hid (none = R)))
      (fun t7 _ wr => match t7 with | .bool true => s.size - posOf rb wr + 1 | _ => 0)
    case atStart => exact ⟨true, rfl, fun _ => ⟨_, _, _, HIn⟩, fun h => by cases h⟩
    case round =>
      obtain ⟨ok, rfl, hok1, hok2⟩ := hrel
      cases ok
      case false =>
        obtain ⟨j, HR, hj, HK, HC, HN⟩ := hok2 rfl
        obtain ⟨q0, q1, q2, q3, q4, q5, q6, p0, p1, p2, p3, p4, p5, p6⟩ := cells7 HC.out
        clear hok1 hok2
        go_wp2
        exact end7 Tryz.results51 HC.out rfl rfl rfl rfl (got_fin (b := w.heap.size) HK.out (Nat.le_refl _) hlt HR.out hj (by rw [← HN.out]; rfl) (fun y m h => by rw [← HN.out] at h; cases h))
      obtain ⟨fs, top, j, HI⟩ := hok1 rfl
      clear hok1 hok2
      obtain ⟨hj, hf, hn, ht, hans, hrd, hkp, ⟨g, cap, cs, x1, ys, c, nv, b1, b2, rfl, hS⟩, hbox⟩ := HI.out
      have hB := bl_ok s j hj
      have hP1 := fun W (h : Rd rb s j W) => pass_any endBlank W h (by omega) hj
      obtain ⟨p, hp⟩ : ∃ p, bl s j = p := ⟨_, rfl⟩
      have Hp := Lib.hid hp
      rw [hp] at hB hP1
      have hT1 := fun W (h : Rd rb s p W) => take_any 41 W h (by omega) hB.2
      obtain ⟨b, hb⟩ : ∃ b, isAt s p 41 = b := ⟨_, rfl⟩
      have Hb := Lib.hid hb
      rw [hb] at hT1
      have HP1 := Lib.hid hP1
      have HT1 := Lib.hid hT1
      obtain ⟨m, hm⟩ : ∃ m, fs.length = m := ⟨_, rfl⟩
      have Hm := Lib.hid hm
      rw [hm] at hf ⊢
      have Hans := Lib.hid hans
      have Hn := Lib.hid hn
      have Hpos := Lib.hid hrd.pos
      have Hrd := Lib.hid hrd
      have HS := Lib.hid hS
      have Hkp := Lib.hid hkp
      have Hbox := Lib.hid hbox
      have hm0 : (m : Int) ≤ 1000000 := by omega
      have x1' : (m : Int) < (m : Int) + 1 := by omega
      have x2' : (0 : Int) ≤ (m : Int) := by omega
      unfold pt at HP1 HT1
      clear hp hP1 hb hT1 hm hans hn hrd hS hkp hbox HI
      go_wp2_with fail
      go_at_call 49
      refine (HP1.out _ Hrd.out).mono ?_
      rintro e w5 ⟨rfl, g1, g2⟩
      have G1 := Lib.hid g1
      have HK5 := Lib.hid (Hkp.out.trans g2)
      have HS5 := Lib.hid (HS.out.kept g2.size (fun b h1 h2 => g2.others b h2 (by omega)))
      have HB5 := Lib.hid (Hbox.out.kp g2 (by omega))
      clear g1 g2
      go_wp2_with fail
      go_at_call 48
      refine (HT1.out _ G1.out).mono ?_
      rintro e w6 ⟨rfl, g1, g2⟩
      have HK6 := Lib.hid (HK5.out.trans g2)
      have HS6 := Lib.hid (HS5.out.kept g2.size (fun b h1 h2 => g2.others b h2 (by omega)))
      have HB6 := Lib.hid (HB5.out.kp g2 (by omega))
      cases b
      case true =>
        have G6 := Lib.hid (show Rd rb s (p + 1) w6 by simpa using g1)
        have hp1 : p + 1 ≤ s.size := isAt_lt Hb.out
        have hans := Hans.out
        rw [runS_close (by rw [Hp.out]; exact Hb.out), Hp.out] at hans
        clear g1 g2 HS5 HB5 HK5 G1 Hkp Hbox HS Hrd
        rcases List.eq_nil_or_concat fs with rfl | ⟨fs', f2, rfl⟩
        · have hm0' : m = 0 := Hm.out.symm
          subst hm0'
          have hw := HS6.out.whole (F := fun z => Since w.heap.size w6 z ∧ z ≠ w.heap.size) (fun z hz => ⟨⟨by have := hz.1; omega, hz.2.1⟩, by have := hz.1; omega⟩) (fun z hz => by
            have := HS6.out.own z (List.mem_append_right _ (HS6.out.al_mem hz))
            exact ⟨⟨by omega, this.2⟩, by omega⟩)
          rw [List.reverse_nil, upS] at hans
          obtain ⟨k', t', n', a', B1, m1, d1, p', B2, m2, d2, rfl, _⟩ := exF_shape hw
          have hcell := fun j u hu => (cell_of_row w6 g j _ _ (0, 0) HS6.out.hg).trans ((by simpa using HS6.out.cell j u hu) : cs[j]? = some u)
          have q0 := hcell 0 _ rfl
          have q1 := hcell 1 _ rfl
          have q2 := hcell 2 _ rfl
          have q3 := hcell 3 _ rfl
          have q4 := hcell 4 _ rfl
          have q5 := hcell 5 _ rfl
          have q6 := hcell 6 _ rfl
          obtain ⟨r0, r1, r2, r3, r4, r5, r6, f0, f1, f2, f3, f4, f5, f6⟩ := cells7 HB6.out
          have Hw := Lib.hid hw
          have HAns := Lib.hid hans
          clear hw hans hcell
          go_wp2
          exact end7 Tryz.results51 HB6.out rfl rfl rfl rfl (got_fin (b := w.heap.size) HK6.out (Nat.le_refl _) hlt G6.out hp1 (by rw [← HAns.out]; rfl) (fun y mm h => by rw [← HAns.out] at h; cases h; exact ⟨rfl, Hw.out⟩))
        · obtain ⟨m', hm'⟩ : ∃ m', fs'.length = m' := ⟨_, rfl⟩
          have hmm : m = m' + 1 := by rw [← Hm.out, ← hm']; simp
          subst hmm
          rw [List.concat_eq_append] at HS6 Hn hans
          rw [List.reverse_append, List.reverse_singleton, List.singleton_append, upS_cons] at hans
          obtain ⟨x1', ys', c', nv', b1', b2', hS', hw⟩ := HS6.out.pop
          have hc1 := HS6.out.hc1
          rw [List.length_append, List.length_singleton, hm'] at hc1
          obtain ⟨k', t', n', a', B1, m1, d1, p', B2, m2, d2, rfl, hta⟩ := exF_shape hw
          have hlen : (fs' ++ [f2]).length = m' + 1 := by rw [List.length_append, List.length_singleton, hm']
          have hcell0 := HS6.out.cell
          rw [hlen] at hcell0
          have hcell := fun jj u hu => (cell_of_row w6 g ((m' + 1) * 9 + jj) _ _ (0, 0) HS6.out.hg).trans (hcell0 jj u hu)
          have q0 := hcell 0 _ rfl
          have q1 := hcell 1 _ rfl
          have q2 := hcell 2 _ rfl
          have q3 := hcell 3 _ rfl
          have q4 := hcell 4 _ rfl
          have q5 := hcell 5 _ rfl
          have q6 := hcell 6 _ rfl
          rw [Nat.add_zero] at q0
          have Hta := Lib.hid hta
          have Hw := Lib.hid hw
          have HS' := Lib.hid hS'
          have HAns := Lib.hid hans
          have Hm' := Lib.hid hm'
          have z1 : (((m' + 1 : Nat) : Int) == 0) = false := beq_eq_false_iff_ne.2 (by omega)
          have z2 : ((m' : Int) + 1 == 0) = false := beq_eq_false_iff_ne.2 (by omega)
          have z3 : ((m' + 1 : Nat) : Int) ≤ (cap : Int) := by omega
          have z4 : (m' : Int) + 1 ≤ (cap : Int) := by omega
          have z5 : (m' : Int) < (m' : Int) + 1 := by omega
          have z6 : (0 : Int) ≤ (m' : Int) := by omega
          have z7 : IntKind.i64.wrap (m' : Int) = (m' : Int) := IntWalk.i64_in _ (by omega)
          have z8 : IntKind.i64.wrap ((m' : Int) + 1 - 1) = (m' : Int) := by rw [Int.add_sub_cancel]; exact z7
          clear hw hans hcell hcell0 hlen hta hS' hm'
          go_wp2_with fail
          go_still_tail 9, (by kernel_rfl)
          change wpList _ _ _ _ _ w6.drew
          have hfl2 : f2.xs.length ≤ j := Hn.out f2 (by simp)
          have hSD := HS'.out.kept (W' := w6.drew) (Nat.le_refl _) (fun _ _ _ => rfl)
          have hWD : ExF w6.drew (FS (w.heap.size + 1) w6.drew g b1' b2') (withArgs top.e top.xs) ⟨.int .i64 k', .string t', .string n', .string a', .slice B1 m1 d1, .pointer p', .slice B2 m2 d2⟩ := ExF.carry (W := w6) (W' := w6.drew) (F := FS (w.heap.size + 1) w6 g b1' b2') (F' := FS (w.heap.size + 1) w6.drew g b1' b2') (fun b hb => ⟨hb, rfl⟩) _ _ Hw.out
          have hAdd := hSD.addWith E0 (withArgs top.e top.xs) k' t' n' a' B1 m1 d1 p' B2 m2 d2 hWD (by omega) (Nat.zero_le _) (by have := Hm'.out; omega)
          rw [Hm'.out] at hAdd
          obtain ⟨ok, hok⟩ : ∃ ok, addOk f2.xs E0 (withArgs top.e top.xs) = ok := ⟨_, rfl⟩
          rw [hok] at hAdd
          have HAdd := Lib.hid hAdd
          have Hok := Lib.hid hok
          clear hAdd hok hSD hWD
          go_wp2_with fail
          go_at_call 77
          refine HAdd.out.mono ?_
          rintro e w8 ⟨rfl, h8, h8s⟩
          have HK8 := Lib.hid (HK6.out.drew.more h8 hlt)
          have G8 := Lib.hid (Rd.more (a := w6.drew) G6.out h8 (by omega))
          have HB8 := Lib.hid (BoxAt.more (a := w6.drew) HB6.out h8 (by omega))
          have H8s := Lib.hid h8s
          clear h8 h8s
          cases ok
          case false =>
            have hR := HAns.out
            rw [Hok.out, if_neg (by simp)] at hR
            have HR' := Lib.hid hR
            clear hR
            go_wp2
            go_roundw
            case rel => exact ⟨false, rfl, (fun h => by cases h), fun _ => ⟨p + 1, G8, hp1, HK8, HB8, HR'⟩⟩
            case measure => simp
          have hR := HAns.out
          rw [Hok.out, if_pos rfl] at hR
          have HR' := Lib.hid hR
          clear hR
          go_wp2
          go_roundw
          case rel =>
            refine ⟨true, rfl, fun _ => ⟨fs', ⟨f2.e, f2.xs ++ [.mk E0 (withArgs top.e top.xs)], true⟩, p + 1, ⟨hp1, ?_, ?_, ?_, HR'.out, G8.out, HK8.out, ?_, HB8.out⟩⟩, (fun h => by cases h)⟩
            · have := Hm'.out; omega
            · intro f hfm
              have := Hn.out f (List.mem_append_left _ hfm)
              omega
            · show (f2.xs ++ _).length ≤ p + 1
              rw [List.length_append, List.length_singleton]; omega
            · first | exact H8s.out rfl | exact H8s.out trivial
          case measure =>
            show s.size - posOf rb _ + 1 < s.size - posOf rb wr + 1
            rw [G8.out.pos, Hpos.out]
            omega
      case false =>
        have G6 := Lib.hid (show Rd rb s p w6 by simpa using g1)
        clear g1 g2 HS5 HB5 HK5 G1 Hkp Hbox HS Hrd
        have hc8 : w6.cell? ⟨g, m * 9 + 8, none⟩ = some (.bool top.want) := (cell_of_row w6 g (m * 9 + 8) _ _ (0, 0) HS6.out.hg).trans (by have := HS6.out.cell 8 _ rfl; rw [Hm.out] at this; exact this)
        have hans := Hans.out
        have hcb : isAt s (bl s j) 41 = false := by rw [Hp.out]; exact Hb.out
        have hgl := HS6.out.lt
        have hnd := List.nodup_cons.1 HS6.out.nodup
        have Hnd := Lib.hid hnd
        clear hnd
        cases hwt : top.want
        case true =>
          rw [runS_comma hcb hwt, Hp.out] at hans
          rw [hwt] at hc8
          have hT2 := fun W (h : Rd rb s p W) => take_any 44 W h (by omega) hB.2
          obtain ⟨b3, hb3⟩ : ∃ b, isAt s p 44 = b := ⟨_, rfl⟩
          have hp2 : b3 = true → p + 1 ≤ s.size := fun h => isAt_lt (hb3.trans h)
          rw [hb3] at hT2 hans
          have HT2 := Lib.hid hT2
          have Hp2 := Lib.hid hp2
          have HAns := Lib.hid hans
          have Hwt := Lib.hid hwt
          have HAnsO := Hans
          unfold pt at HT2
          clear hT2 hb3 hans hwt hcb hp2
          go_wp2_with fail
          go_at_call 48
          refine (HT2.out _ G6.out).mono ?_
          rintro e w7 ⟨rfl, g1, g2⟩
          have HK7 := Lib.hid (HK6.out.trans g2)
          have hs7 := HS6.out.kept g2.size (fun b h1 h2 => g2.others b h2 (by omega))
          have hw7 := hs7.wantSet false
          rw [Hm.out] at hw7
          have HS7 := Lib.hid hw7
          have HB7 := Lib.hid (HB6.out.kp g2 (by omega))
          have k8 : w7.cell? ⟨g, m * 9 + 8, none⟩ = some (.bool true) := (cell_same (g2.others g hgl (by have := HS6.out.hB; omega)) _).trans hc8
          have f8 : w7.frozen? ⟨g, m * 9 + 8, none⟩ = false := Lib.frozen_of_heap hs7.hg _
          have hgB := HS6.out.hB
          have hgl7 := hs7.lt
          have G7 := Lib.hid g1
          clear g1 g2 hs7 hw7
          cases b3
          case false =>
            have hR := HAns.out
            rw [if_neg (by simp)] at hR
            have HR' := Lib.hid hR
            have G7' := Lib.hid (show Rd rb s p w7 by simpa using G7.out)
            clear hR HAns
            go_wp2
            go_roundw
            case rel => exact ⟨false, rfl, (fun h => by cases h), fun _ => ⟨p, G7'.out.setOther (by omega) _ _, hB.2, HK7.out.setNew (by omega) hlt _ _, HB7.out.kept_cell (by omega) _ _, HR'⟩⟩
            case measure => simp
          have hR := HAns.out
          rw [if_pos rfl] at hR
          have HR' := Lib.hid hR
          have G7' := Lib.hid (show Rd rb s (p + 1) w7 by simpa using G7.out)
          have hp2' : p + 1 ≤ s.size := Hp2.out rfl
          clear hR HAns
          go_wp2
          go_roundw
          case rel =>
            refine ⟨true, rfl, fun _ => ⟨fs, ⟨top.e, top.xs, false⟩, p + 1, ⟨hp2', ?_, ?_, ?_, HR'.out, G7'.out.setOther (by omega) _ _, HK7.out.setNew (by omega) hlt _ _, ?_, HB7.out.kept_cell (by omega) _ _⟩⟩, (fun h => by cases h)⟩
            · have := Hm.out; omega
            · intro f hfm
              have := Hn.out f hfm
              omega
            · show top.xs.length ≤ p + 1
              omega
            · exact ⟨_, _, _, _, _, _, _, _, _, by rw [Hm.out], HS7.out⟩
          case measure =>
            show s.size - posOf rb _ + 1 < s.size - posOf rb wr + 1
            rw [(G7'.out.setOther (by omega) _ _).pos, Hpos.out]
            omega
        case false =>
          rw [hwt] at hc8
          have hl6 := HB6.out.lt
          have hlr6 := G6.out.lt
          have hA0 := fun W h => HA.out p W h hB.2
          obtain ⟨r, hr⟩ : ∃ r, argS P s p = r := ⟨_, rfl⟩
          rw [hr] at hA0
          have HA0 := Lib.hid hA0
          have Hr := Lib.hid hr
          have Hwt := Lib.hid hwt
          have Hcb := Lib.hid hcb
          have Hans2 := Lib.hid hans
          clear hA0 hr hwt hcb hans
          go_wp2_with fail
          go_at_call 78
          refine (HA0.out _ (G6.out.alloc _)).mono ?_
          rintro e w7 ⟨h1, X, k', t', n', a', B1, m1, d1, p', B2, m2, d2, j1, rfl, h2, hj1, h0, h3⟩
          have hab := BoxAt.kp (BoxAt.new w6 zA 58) h1 (by omega)
          have hcb7 := BoxAt.kp (BoxAt.alloc HB6.out (.cells zA 58)) h1 (by omega)
          have hK7 := (HK6.out.alloc (by omega) (.cells zA 58)).trans h1
          have hs7 := h1.size
          rw [World.size_alloc] at hs7
          have hold : ∀ z, z < w6.heap.size → z ≠ rb → w7.heap[z]? = w6.heap[z]? := fun z hz hn => (h1.others z (by rw [World.size_alloc]; omega) hn).trans (Lib.alloc_old _ _ z hz)
          have Hold := Lib.hid hold
          have HK7 := Lib.hid hK7
          have HAb := Lib.hid hab
          have HCb := Lib.hid hcb7
          have H2 := Lib.hid h2
          have H3 := Lib.hid h3
          have H0 := Lib.hid h0
          obtain ⟨q0, q1, q2, q3, q4, q5, q6, q7, p0, p1, p2, p3, p4, p5, p6, p7⟩ := cells8 hab
          clear h1 h2 h3 h0 hab hcb7 hK7 hold
          unfold arV
          go_upto_region 11 with fail
          generalize hw8 : World.setCell (World.setCell (World.setCell (World.setCell (World.setCell (World.setCell (World.setCell (World.setCell w7 _ _) _ _) _ _) _ _) _ _) _ _) _ _) _ _ = w8
          have hw8' : set8 w7 w6.heap.size (.string X) (.int .i64 k') (.string t') (.string n') (.string a') (.slice B1 m1 d1) (.pointer p') (.slice B2 m2 d2) = w8 := hw8
          clear hw8
          have hs8 : w8.heap.size = w7.heap.size := by rw [← hw8', set8_size]
          have h8 : ∀ z, z ≠ w6.heap.size → w8.heap[z]? = w7.heap[z]? := fun z hz => by rw [← hw8', set8_heap _ _ _ _ _ _ _ _ _ _ z hz]
          have hbx8 : BoxAt w8 w6.heap.size #[.string X, .int .i64 k', .string t', .string n', .string a', .slice B1 m1 d1, .pointer p', .slice B2 m2 d2] 58 := by
            rw [← hw8']
            exact box_set8 HAb.out _ _ _ _ _ _ _ _
          have hr8 : Rd rb s j1 w8 := by
            rw [← hw8']
            exact H2.out.set8 (by omega) _ _ _ _ _ _ _ _
          have hk8 : Kp rb w w8 := by
            rw [← hw8']
            exact HK7.out.set8 (by omega) hlt _ _ _ _ _ _ _ _
          have hc8' : BoxAt w8 w.heap.size zE 29 := (h8 _ (by omega)).trans HCb.out
          have HOld8 := Lib.hid (fun z (hz : z < w6.heap.size) (hn : z ≠ rb) => (h8 z (by omega)).trans (Hold.out z hz hn))
          have hst8 := HS6.out.kept (W' := w8) (by omega) (fun z hz1 hz2 => (h8 z (by omega)).trans (Hold.out z hz2 (by omega)))
          have hx8 : ∀ x y mm, r = some (x, y, mm) → x = X ∧ mm = j1 ∧ ExF w8 (fun z => FS (w.heap.size + 1) w8 g b1 b2 z ∧ w6.heap.size < z) y ⟨.int .i64 k', .string t', .string n', .string a', .slice B1 m1 d1, .pointer p', .slice B2 m2 d2⟩ := fun x y mm h => by
            obtain ⟨e1, e2, e3⟩ := H3.out x y mm h
            refine ⟨e1, e2, ExF.carry (fun z hz => ?_) _ _ e3⟩
            obtain ⟨hz1, hz2⟩ := hz
            rw [World.size_alloc] at hz1
            refine ⟨⟨⟨by omega, by omega, fun hm => ?_⟩, by omega⟩, h8 z (by omega)⟩
            rcases List.mem_cons.1 hm with e | hm
            · omega
            · have := (HS6.out.own z hm).2; omega
          have HS8 := Lib.hid hst8
          have HX8 := Lib.hid hx8
          have HB8 := Lib.hid hbx8
          have HR8 := Lib.hid hr8
          have HK8 := Lib.hid hk8
          have HC8 := Lib.hid hc8'
          have hlb8 := hbx8.lt
          have hX : r ≠ none → X.size ≤ 1000000 := fun h => by
            obtain ⟨⟨x, y, mm⟩, he⟩ : ∃ v, r = some v := Option.ne_none_iff_exists'.1 h
            obtain ⟨e1, _, _⟩ := H3.out x y mm he
            have := (arg_flat (Hr.out.trans he)).2.2
            rw [e1] at this
            omega
          have HXs := Lib.hid hX
          clear hw8' hs8 h8 hbx8 hr8 hk8 hc8' hst8 hx8 hX HAb H2 H3 HK7 HCb Hold q0 q1 q2 q3 q4 q5 q6 q7 p0 p1 p2 p3 p4 p5 p6 p7 hs7 hc8
          obtain ⟨q0, q1, q2, q3, q4, q5, q6, q7, p0, p1, p2, p3, p4, p5, p6, p7⟩ := cells8 HB8.out
          cases hXe : X.toList.isEmpty
          case false =>
            have hemp : emp X = false := hXe
            cases r with
            | none =>
              have hR := Hans2.out
              rw [runS_none Hcb.out Hwt.out (by rw [Hp.out]; exact Hr.out)] at hR
              have HR' := Lib.hid hR
              clear hR hemp Hans2
              go_wp2
              go_roundw
              case rel => exact ⟨false, rfl, (fun h => by cases h), fun _ => ⟨j1, HR8, hj1, HK8, HC8, HR'⟩⟩
              case measure => simp
            | some xy =>
              obtain ⟨x, y, mm⟩ := xy
              obtain ⟨rfl, rfl, hy⟩ := HX8.out x y mm rfl
              have hpos := arg_pos hPos hB.2 Hr.out
              have hR := Hans2.out
              rw [runS_add hPos hj Hcb.out Hwt.out (by rw [Hp.out]; exact Hr.out) (by rw [hemp]; rfl), if_neg (show ¬ emp x = true by rw [hemp]; simp)] at hR
              have HAns := Lib.hid hR
              have HX1 := Lib.hid (HXs.out (by simp))
              have Hy := Lib.hid (ExF.carry (F' := FS (w.heap.size + 1) w8 g b1 b2) (fun b hb => ⟨hb.1, rfl⟩) _ _ hy)
              clear hR hemp Hans2 hy
              have hAdd := HS8.out.addWith x y k' t' n' a' B1 m1 d1 p' B2 m2 d2 Hy.out (by omega) HX1.out (by have := Hm.out; omega)
              rw [Hm.out] at hAdd
              obtain ⟨ok, hok⟩ : ∃ ok, addOk top.xs x y = ok := ⟨_, rfl⟩
              rw [hok] at hAdd
              have HAdd := Lib.hid hAdd
              have Hok := Lib.hid hok
              clear hAdd hok
              go_wp2_with fail
              go_at_call 77
              refine HAdd.out.mono ?_
              rintro e wz ⟨rfl, hz1, hz2⟩
              have HKz := Lib.hid (HK8.out.more hz1 hlt)
              have Gz := Lib.hid (Rd.more HR8.out hz1 (by omega))
              have HBz := Lib.hid (BoxAt.more HC8.out hz1 (by omega))
              have Hz2 := Lib.hid hz2
              clear hz1 hz2
              cases ok
              case false =>
                have hR := HAns.out
                rw [Hok.out, if_neg (by simp)] at hR
                have HR' := Lib.hid hR
                clear hR
                go_wp2
                go_roundw
                case rel => exact ⟨false, rfl, (fun h => by cases h), fun _ => ⟨mm, Gz, hpos.2, HKz, HBz, HR'⟩⟩
                case measure => simp
              have hR := HAns.out
              rw [Hok.out, if_pos rfl] at hR
              have HR' := Lib.hid hR
              have Hzs := Lib.hid (Hz2.out rfl)
              clear hR
              go_wp2
              go_roundw
              case rel =>
                refine ⟨true, rfl, fun _ => ⟨fs, ⟨top.e, top.xs ++ [.mk x y], true⟩, mm, ⟨hpos.2, ?_, ?_, ?_, HR'.out, Gz.out, HKz.out, ?_, HBz.out⟩⟩, (fun h => by cases h)⟩
                · have := Hm.out; omega
                · intro f hfm
                  have := Hn.out f hfm
                  omega
                · show (top.xs ++ _).length ≤ mm
                  rw [List.length_append, List.length_singleton]; omega
                · exact Hzs.out
              case measure =>
                show s.size - posOf rb _ + 1 < s.size - posOf rb wr + 1
                rw [Gz.out.pos, Hpos.out]
                omega
          case true =>
            have hemp : emp X = true := hXe
            cases r with
            | none =>
              obtain rfl := H0.out rfl
              have hR := Hans2.out
              rw [runS_none Hcb.out Hwt.out (by rw [Hp.out]; exact Hr.out)] at hR
              have HR' := Lib.hid hR
              have hO := opens_flat rb 0 (by decide) (by decide) w6.heap.size 1 w8 q1
              have HO := Lib.hid hO
              clear hR hemp Hans2 hO
              unfold pt at HO
              go_wp2_with fail
              go_at_call 76
              refine HO.out.mono ?_
              rintro e w9 ⟨rfl, rfl⟩
              go_wp2
              go_roundw
              case rel => exact ⟨false, rfl, (fun h => by cases h), fun _ => ⟨j1, HR8, hj1, HK8, HC8, HR'⟩⟩
              case measure => simp
            | some xy =>
              obtain ⟨x, y, mm⟩ := xy
              obtain ⟨rfl, rfl, hy⟩ := HX8.out x y mm rfl
              have hpos := arg_pos hPos hB.2 Hr.out
              have hfl := arg_flat Hr.out
              have hop := opn_pos (s := s) y hpos.2
              obtain ⟨al', i', vs', rfl⟩ := exF_mk hy
              obtain ⟨o, ho⟩ : ∃ o, (opnS s (.mk k' t' n' a' al' i' vs') mm).1 = o := ⟨_, rfl⟩
              obtain ⟨jq, hjq⟩ : ∃ jq, (opnS s (.mk k' t' n' a' al' i' vs') mm).2 = jq := ⟨_, rfl⟩
              have hob := opn_fst (s := s) (e := .mk k' t' n' a' al' i' vs') (i := mm)
              rw [ho] at hob
              rw [hjq] at hop
              obtain ⟨isF, hisF⟩ : ∃ f, isFuncS (.mk k' t' n' a' al' i' vs') = f := ⟨_, rfl⟩
              rw [hisF] at hob
              have hO := opens_any (rb := rb) hs k' t' n' a' al' i' vs' w6.heap.size 1 mm w8 HR8.out hpos.2 (by have : n'.size ≤ s.size := hfl.2.1; omega) hlb8 (by omega) q1 q3 q4 p1
              rw [ho, hjq, hisF] at hO
              have HO := Lib.hid hO
              have Hy := Lib.hid hy
              have Hfl := Lib.hid hfl
              have HisF := Lib.hid hisF
              have Hob := Lib.hid hob
              have Ho := Lib.hid ho
              have Hjq := Lib.hid hjq
              have Hemp := Lib.hid hemp
              unfold pt at HO
              clear hO hy hfl hisF hob ho hjq hemp
              go_wp2_with fail
              go_at_call 76
              refine HO.out.mono ?_
              rintro e w9 ⟨rfl, wm, g1, g2, g3, rfl⟩
              have hbm := BoxAt.kp HB8.out g1 (by omega)
              have hcm := BoxAt.kp HC8.out g1 (by omega)
              have hsm := g1.size
              have HOldm := Lib.hid (fun z (hz : z < w6.heap.size) (hn : z ≠ rb) => (g1.others z (by omega) hn).trans (HOld8.out z hz hn))
              have HSm := Lib.hid (HS8.out.kept g1.size (fun b h1 h2 => g1.others b h2 (by omega)))
              have hym : ExF wm (fun z => FS (w.heap.size + 1) wm g b1 b2 z ∧ w6.heap.size < z) (.mk k' t' n' a' al' i' vs') ⟨.int .i64 k', .string t', .string n', .string a', .slice B1 m1 d1, .pointer p', .slice B2 m2 d2⟩ :=
                ExF.carry (fun z hz => ⟨⟨⟨hz.1.1, Nat.lt_of_lt_of_le hz.1.2.1 hsm, hz.1.2.2⟩, hz.2⟩, g1.others z hz.1.2.1 (by have := hz.1.1; omega)⟩) _ _ Hy.out
              have HKm := Lib.hid (HK8.out.trans g1)
              have HRm := Lib.hid g2
              have HCm := Lib.hid hcm
              have HBm := Lib.hid hbm
              have Hym := Lib.hid hym
              have hlm := hbm.lt
              clear g1 g2 hbm hcm hym HB8 HS8 HR8 HK8 HC8 HX8 q0 q1 q2 q3 q4 q5 q6 q7 p0 p1 p2 p3 p4 p5 p6 p7
              cases o
              case false =>
                simp only [Bool.and_false, Bool.false_eq_true, if_false]
                have hR := Hans2.out
                rw [runS_add hPos hj Hcb.out Hwt.out (by rw [Hp.out]; exact Hr.out) (by rw [Ho.out, Bool.and_false]), if_pos Hemp.out, Hjq.out] at hR
                have HAns := Lib.hid hR
                have HX1 := Lib.hid (HXs.out (by simp))
                have Hy2 := Lib.hid (ExF.carry (F' := FS (w.heap.size + 1) wm g b1 b2) (fun b hb => ⟨hb.1, rfl⟩) _ _ Hym.out)
                obtain ⟨q0, q1, q2, q3, q4, q5, q6, q7, p0, p1, p2, p3, p4, p5, p6, p7⟩ := cells8 HBm.out
                clear hR Hans2
                have hAdd := HSm.out.addWith x (.mk k' t' n' a' al' i' vs') k' t' n' a' B1 m1 d1 p' B2 m2 d2 Hy2.out (by omega) HX1.out (by have := Hm.out; omega)
                rw [Hm.out] at hAdd
                obtain ⟨ok, hok⟩ : ∃ ok, addOk top.xs x (.mk k' t' n' a' al' i' vs') = ok := ⟨_, rfl⟩
                rw [hok] at hAdd
                have HAdd := Lib.hid hAdd
                have Hok := Lib.hid hok
                clear hAdd hok
                go_wp2_with fail
                go_at_call 77
                refine HAdd.out.mono ?_
                rintro e wz ⟨rfl, hz1, hz2⟩
                have HKz := Lib.hid (HKm.out.more hz1 hlt)
                have Gz := Lib.hid (Rd.more HRm.out hz1 (by omega))
                have HBz := Lib.hid (BoxAt.more HCm.out hz1 (by omega))
                have Hz2 := Lib.hid hz2
                clear hz1 hz2
                cases ok
                case false =>
                  have hR := HAns.out
                  rw [Hok.out, if_neg (by simp)] at hR
                  have HR' := Lib.hid hR
                  clear hR
                  go_wp2
                  go_roundw
                  case rel => exact ⟨false, rfl, (fun h => by cases h), fun _ => ⟨jq, Gz, g3, HKz, HBz, HR'⟩⟩
                  case measure => simp
                have hR := HAns.out
                rw [Hok.out, if_pos rfl] at hR
                have HR' := Lib.hid hR
                have Hzs := Lib.hid (Hz2.out rfl)
                clear hR
                go_wp2
                go_roundw
                case rel =>
                  refine ⟨true, rfl, fun _ => ⟨fs, ⟨top.e, top.xs ++ [.mk x (.mk k' t' n' a' al' i' vs')], true⟩, jq, ⟨g3, ?_, ?_, ?_, HR'.out, Gz.out, HKz.out, ?_, HBz.out⟩⟩, (fun h => by cases h)⟩
                  · have := Hm.out; omega
                  · intro f hfm
                    have := Hn.out f hfm
                    omega
                  · show (top.xs ++ _).length ≤ jq
                    rw [List.length_append, List.length_singleton]; omega
                  · exact Hzs.out
                case measure =>
                  show s.size - posOf rb _ + 1 < s.size - posOf rb wr + 1
                  rw [Gz.out.pos, Hpos.out]
                  omega
              have hR := Hans2.out
              rw [runS_open hPos hj Hcb.out Hwt.out (by rw [Hp.out]; exact Hr.out) (by rw [Ho.out, Hemp.out]; rfl), Hjq.out] at hR
              have HAns := Lib.hid hR
              clear hR Hans2
              obtain ⟨w9, hw9⟩ : ∃ w9, (if (isF && true) = true then wm.setCell ⟨w6.heap.size, 1, none⟩ (.int .i64 5) else wm) = w9 := ⟨_, rfl⟩
              rw [hw9]
              obtain ⟨hb9, hr9, hk9, hs9, hh9⟩ := opened_world8 hw9 HBm.out (show rb ≠ w6.heap.size by omega) hlt (by omega) HRm.out HKm.out
              have hc9 : BoxAt w9 w.heap.size zE 29 := (hh9 _ (by omega)).trans HCm.out
              have hS9 := HS6.out.kept (W' := w9) (by omega) (fun z hz1 hz2 => (hh9 z (by omega)).trans (HOldm.out z hz2 (by omega)))
              obtain ⟨k2', hk2'⟩ : ∃ k2, (if isF = true then 5 else k') = k2 := ⟨_, rfl⟩
              have hy9 := exF_open (ExF.carry (W' := w9) (F' := FS (w.heap.size + 1) w9 g b1 b2) (fun z hz => ⟨⟨hz.1.1, by rw [hs9]; exact hz.1.2.1, hz.1.2.2⟩, hh9 z (by have := hz.2; omega)⟩) _ _ Hym.out) isF HisF.out (fun h => by
                rcases Hob.out rfl with h1 | h1
                · rw [h] at h1; cases h1
                · exact h1)
              have hnil := exF_nil Hym.out Hfl.out.1
              simp only [Value.slice.injEq] at hnil
              obtain ⟨rfl, rfl, rfl⟩ := hnil
              rw [hk2'] at hb9 hy9
              have hea : exArgs (opnE (.mk k' t' n' a' al' i' vs')) = [] := by rw [exArgs_opn]; exact Hfl.out.1
              have hrow := (hS9.row).alloc (.cells #[.int .i64 k2', .string t', .string n', .string a', .slice none 0 0, .pointer p', .slice B2 m2 d2, .map none, .bool false] 116)
              rw [Hm.out] at hrow
              obtain ⟨ic, hi0, hz0, hz1, hz2⟩ := info_parts infoC
              have HS9 := Lib.hid hS9
              have Hy9 := Lib.hid hy9
              have Hea := Lib.hid hea
              have HK9 := Lib.hid hk9
              have HR9 := Lib.hid hr9
              have HC9 := Lib.hid hc9
              have hgB9 := hS9.hB
              have hl9 : w6.heap.size < w9.heap.size := by omega
              obtain ⟨r0, r1, r2, r3, r4, r5, r6, r7, f0, f1, f2, f3, f4, f5, f6, f7⟩ := cells8 hb9
              clear hs9 hw9 hb9 hr9 hk9 hc9 hh9 hS9 hy9 hea hk2' HBm HSm HRm HKm HCm Hym
              go_wp2_with (at_builtin; refine wpList_append_where _ rfl _ _ 117 rfl (w.heap.size + 1) 116 ic (.agg #[.int .i64 0, .string ⟨#[]⟩, .string ⟨#[]⟩, .string ⟨#[]⟩, .slice none 0 0, .pointer none, .slice none 0 0, .map none, .bool false]) 9 128 Tryz.underlying117 hi0 hz0 hz1 hz2 rfl (by decide) _ _ _ rfl hrow ⟨w9.heap.size, 0, none⟩ 1 1 [.int .i64 k2', .string t', .string n', .string a', .slice none 0 0, .pointer p', .slice B2 m2 d2, .map none, .bool false] rfl rfl ?c1 ?c2 ?c3 ?c4 ?c5 ?c6 ?_)
              case c1 => exact new9 _ _
              case c2 => intro u hu; simp at hu; rcases hu with rfl | rfl | rfl | rfl | rfl | rfl | rfl | rfl | rfl <;> rfl
              case c3 => unfold maxLen; omega
              case c4 => omega
              case c5 => simp; omega
              case c6 => decide
              intro v' wA hown' hgrow hwh
              have hst := HS9.out.push2 Hy9.out Hea.out rfl (by rw [Hm.out, List.append_assoc]; exact hown') hgrow (by simpa [Value.ownBlock] using hwh)
              obtain ⟨A3, c3, rfl⟩ := own_form hown'
              have HSt := Lib.hid hst
              have HKA := Lib.hid (Kp.grown (HK9.out.alloc (by omega) (.cells #[.int .i64 k2', .string t', .string n', .string a', .slice none 0 0, .pointer p', .slice B2 m2 d2, .map none, .bool false] 116)) hgrow (fun kk e => by have := Option.some.inj e; simp at this; omega) hlt)
              have HRA := Lib.hid ((HR9.out.alloc (.cells #[.int .i64 k2', .string t', .string n', .string a', .slice none 0 0, .pointer p', .slice B2 m2 d2, .map none, .bool false] 116)).grown hgrow (fun kk e => by have := Option.some.inj e; simp at this; omega))
              have HCA : Hid (BoxAt wA w.heap.size zE 29) := Lib.hid ((hgrow.block w.heap.size (by simp; omega) (fun e => by have := Option.some.inj e; simp at this; omega)).trans (BoxAt.alloc HC9.out (.cells #[.int .i64 k2', .string t', .string n', .string a', .slice none 0 0, .pointer p', .slice B2 m2 d2, .map none, .bool false] 116)))
              clear hown' hgrow hwh hst
              go_wp2
              go_roundw
              case rel =>
                refine ⟨true, rfl, fun _ => ⟨fs ++ [top], ⟨opnE (.mk k' t' n' a' al' i' vs'), [], false⟩, jq, ⟨g3, ?_, ?_, Nat.zero_le _, ?_, HRA.out, HKA.out, HSt.out, HCA.out⟩⟩, (fun h => by cases h)⟩
                · rw [List.length_append, List.length_singleton, Hm.out]; omega
                · intro f hfm
                  rcases List.mem_append.1 hfm with h | h
                  · have := Hn.out f h; omega
                  · rw [List.mem_singleton.1 h]; omega
                · rw [List.reverse_append, List.reverse_singleton, List.singleton_append]
                  exact HAns.out
              case measure =>
                show s.size - posOf rb _ + 1 < s.size - posOf rb wr + 1
                rw [HRA.out.pos, Hpos.out]
                omega
end Go.Proofs.YtnogdojdjehakaaGreatDoor

/-
  Package expr: Place, given inline.
-/
namespace Go.Proofs.YtnogdojdjehakaaGreatDoor
open Go.RowKit
set_option linter.unusedVariables false
set_option linter.unusedSimpArgs false

/-- What Place gives. -/
def GotTop (s : ByteArray) (w : World) (r : Res) (e : Ending) (w' : World) : Prop :=
  Below w.heap.size w w' ∧ ∃ (k : Int) (t n a : ByteArray) (A1 : Option Addr) (n1 c1 : Nat) (p : Option Addr) (A2 : Option Addr) (n2 c2 : Nat) (j : Nat),
    e = .returned (.tuple #[exV k t n a A1 n1 c1 p A2 n2 c2, .int .i64 j, .bool r.isSome]) ∧ j ≤ s.size ∧ (r = none → e = .returned (.tuple #[exV 0 E0 E0 E0 none 0 0 none none 0 0, .int .i64 0, .bool false])) ∧
    ∀ x m, r = some (x, m) → m = j ∧ ExF w' (Since w.heap.size w') x ⟨.int .i64 k, .string t, .string n, .string a, .slice A1 n1 c1, .pointer p, .slice A2 n2 c2⟩
theorem rd_new (w : World) (s : ByteArray) (i : Nat) : Rd w.heap.size s i (w.alloc (.cells #[.string s, .int .i64 (i : Nat)] 62)) := BoxAt.new _ _ _
set_option maxRecDepth 100000 in
theorem res7t {fn : Func} {A M N : Nat} {tmps : Array Value} {w : World} {b : Nat} {x0 x1 x2 x3 x4 x5 x6 u v : Value} {t : TypeId} (hres : fn.results = #[.cell A 29, .tmp M, .tmp N]) (ha : tmps.getD A undef = .pointer (some ⟨b, 0, none⟩)) (hm : tmps.getD M undef = u) (hn : tmps.getD N undef = v)
    (hb : BoxAt w b #[x0, x1, x2, x3, x4, x5, x6] t) : (results fn tmps).run Tryz.prog w = .ok (.tuple #[.agg #[x0, x1, x2, x3, x4, x5, x6], u, v]) w := by
  obtain ⟨q0, q1, q2, q3, q4, q5, q6, _⟩ := cells7 hb
  have ha' : tmps[A]?.getD undef = .pointer (some ⟨b, 0, none⟩) := by rw [← ha]; simp
  have hm' : tmps[M]?.getD undef = u := by rw [← hm]; simp
  have hn' : tmps[N]?.getD undef = v := by rw [← hn]; simp
  simp [results, hres, ha', hm', hn', go_sem, q0, q1, q2, q3, q4, q5, q6]
theorem end7t {fn : Func} {R : Ending → World → Prop} {a : Act} {w2 : World} {A M N b : Nat} {x0 x1 x2 x3 x4 x5 x6 u v : Value} {t : TypeId} (hres : fn.results = #[.cell A 29, .tmp M, .tmp N]) (hbox : BoxAt w2 b #[x0, x1, x2, x3, x4, x5, x6] t)
    (ha : a.tmps.getD A undef = .pointer (some ⟨b, 0, none⟩)) (hm : a.tmps.getD M undef = u) (hn : a.tmps.getD N undef = v) (hd : a.defers = []) (hR : R (.returned (.tuple #[.agg #[x0, x1, x2, x3, x4, x5, x6], u, v])) w2) : bodyPost Tryz.prog fn R .ret a w2 :=
  bodyPost_ret (res7t hres ha hm hn hbox) hd hR
theorem below_set7t {B : Nat} {w W : World} (h : Below B w W) {b : Nat} (hb : B ≤ b) (x0 x1 x2 x3 x4 x5 x6 : Value) : Below B w (set7 W b x0 x1 x2 x3 x4 x5 x6) :=
  ((((((h.setCell (p := ⟨b, 0, none⟩) hb x0).setCell (p := ⟨b, 1, none⟩) hb x1).setCell (p := ⟨b, 2, none⟩) hb x2).setCell (p := ⟨b, 3, none⟩) hb x3).setCell (p := ⟨b, 4, none⟩) hb x4).setCell (p := ⟨b, 5, none⟩) hb x5).setCell (p := ⟨b, 6, none⟩) hb x6
set_option maxHeartbeats 2000000 in
set_option maxRecDepth 100000 in
theorem place_top {s : ByteArray} {i : Nat} (hs : s.size ≤ 1000000) (hIn : ∀ rb, InKnot rb s) (hi : i ≤ s.size) (w : World) : Calls Tryz.prog 10 #[.string s, .int .i64 i] w (GotTop s w (placeS s 20 i)) := by
  have hK : ∀ (rb : Nat) (W : World), Rd rb s i W → Calls Tryz.prog 25 #[pt rb, .int .i64 1] W (Got rb s W (placeS s 20 i)) := fun rb W h => place_knot hs (hIn rb) 20 1 rfl i W h hi
  obtain ⟨r, hr⟩ : ∃ r, placeS s 20 i = r := ⟨_, rfl⟩
  rw [hr] at hK ⊢
  have HK := Lib.hid hK
  have z1 : decide ((i : Int) < 0) = false := decide_eq_false (by omega)
  have z2 : decide ((s.size : Int) < (i : Int)) = false := decide_eq_false (by omega)
  have z3 : ¬ (i : Int) < 0 := by omega
  have z4 : ¬ (s.size : Int) < (i : Int) := by omega
  have hi0 : (i : Int) ≤ 1000000 := by omega
  clear hK hr hIn
  unfold pt at HK
  go_enter Tryz.func10, Tryz.ntmps10
  go_wp2_with fail
  go_at_call 25
  refine (HK.out _ _ (BoxAt.new' _ _ _ _ (by simp))).mono ?_
  rintro e w2 ⟨h1, k, t, n, a, A1, n1, c1, p, A2, n2, c2, j, rfl, h2, hj, h3⟩
  have hc := BoxAt.kp ((BoxAt.new w zE 29).alloc (.cells #[.string s, .int .i64 i] 62)) h1 (by omega)
  have hcl := hc.lt
  have HC := Lib.hid hc
  have HB := Lib.hid ((((Below.refl w.heap.size w).alloc (Nat.le_refl _) (.cells zE 29)).alloc (by simp) (.cells #[.string s, .int .i64 i] 62)).trans (h1.below.mono (by omega)))
  have H3 := Lib.hid h3
  have d1 := h2.c1
  have hl2 := h2.lt
  obtain ⟨q0, q1, q2, q3, q4, q5, q6, p0, p1, p2, p3, p4, p5, p6⟩ := cells7 hc
  have hj0 : (j : Int) ≤ 1000000 := by omega
  clear h1 h2 h3 hc HK
  unfold exV
  cases r with
  | none =>
    go_wp2
    exact end7t Tryz.results10 ((box_set7 HC.out _ _ _ _ _ _ _).alloc _) rfl rfl rfl rfl ⟨(below_set7t HB.out (Nat.le_refl _) _ _ _ _ _ _ _).alloc (by rw [set7_size]; omega) _, 0, E0, E0, E0, none, 0, 0, none, none, 0, 0, 0, rfl, Nat.zero_le _, fun _ => rfl, fun x m h => by cases h⟩
  | some xm =>
    obtain ⟨x, m⟩ := xm
    obtain ⟨rfl, hx⟩ := H3.out x m rfl
    have HX := Lib.hid hx
    clear hx
    go_wp2
    go_region
    go_wp2
    refine end7t (u := .int .i64 m) (v := .bool true) Tryz.results10 (((box_set7 HC.out _ _ _ _ _ _ _).alloc _).drew) rfl rfl rfl rfl ?_
    refine ⟨((below_set7t HB.out (Nat.le_refl _) (.int .i64 k) (.string t) (.string n) (.string a) (.slice A1 n1 c1) (.pointer p) (.slice A2 n2 c2)).alloc (by rw [set7_size]; omega) _).drew, k, t, n, a, A1, n1, c1, p, A2, n2, c2, m, rfl, hj, (fun h => by cases h), fun x' m' h => ?_⟩
    cases h
    refine ⟨rfl, ExF.carry (fun b hb => ?_) _ _ HX.out⟩
    obtain ⟨hb1, hb2⟩ := hb
    rw [World.size_alloc, World.size_alloc] at hb1
    have hb4 : b < (set7 w2 w.heap.size (.int .i64 k) (.string t) (.string n) (.string a) (.slice A1 n1 c1) (.pointer p) (.slice A2 n2 c2)).heap.size := by rw [set7_size]; exact hb2
    exact ⟨⟨by omega, since_set7 _ hb4⟩, heap_set7 _ (by omega) hb4⟩
end Go.Proofs.YtnogdojdjehakaaGreatDoor

/-
  Package expr: Place and Pattern; what they read of the document's examples.
-/
namespace Go.Proofs.YtnogdojdjehakaaGreatDoor
open Go.RowKit
set_option linter.unusedVariables false
set_option linter.unusedSimpArgs false

theorem in_knot {s : ByteArray} (hs : s.size ≤ 1000000) (rb : Nat) : InKnot rb s := fun d P hd hP hPos => inline_any hs (by omega) hP hPos
theorem place_call {s : ByteArray} {i : Nat} (hs : s.size ≤ 1000000) (hi : i ≤ s.size) (w : World) : Calls Tryz.prog 10 #[.string s, .int .i64 i] w (GotTop s w (placeS s 20 i)) := place_top hs (in_knot hs) hi w
theorem not_b {b : Bool} (h : b = false) : ¬ b = true := by rw [h]; simp
abbrev s1 : ByteArray := ⟨#[32, 97, 32, 123, 36, 120, 125, 10, 32, 32, 98, 10, 46, 99]⟩
abbrev s2 : ByteArray := ⟨#[123, 32, 70, 40, 49, 44, 32, 111, 58, 32, 34, 115, 34, 41, 32, 125, 33]⟩
theorem s1_q : quoS s1 4 = none := by kernel_rfl
theorem s1_v : varS s1 4 = some (.mk 2 E0 ⟨#[120]⟩ E0 [] none [], 6) := by kernel_rfl
theorem s1_place : placeS s1 20 3 = some (.mk 2 E0 ⟨#[120]⟩ E0 [] none [], 7) := by
  rw [placeS, if_pos (by kernel_rfl)]
  have h : inlS (placeS s1 19) s1 (bl s1 4) = some (.mk 2 E0 ⟨#[120]⟩ E0 [] none [], 6) := by
    rw [show bl s1 4 = 4 by kernel_rfl]
    unfold inlS headS
    rw [s1_q, s1_v]
    rfl
  rw [h]
  rfl
abbrev vX : EX := .mk 2 E0 ⟨#[120]⟩ E0 [] none []
abbrev ps1 : List EL := [.mk ⟨#[97, 32]⟩ none, .mk E0 (some vX)]
theorem s1_parts : partsS (placeS s1 20) s1 [] 1 = some (ps1, 7) := by
  rw [partsS, if_pos (by kernel_rfl), show tx s1 1 = 3 by kernel_rfl, s1_place]
  dsimp only
  rw [dif_pos (of_decide_eq_true (by kernel_rfl)), partsS, if_neg (not_b (by kernel_rfl))]
  kernel_rfl
theorem s1_parts2 : partsS (placeS s1 20) s1 [] 10 = some ([.mk ⟨#[98]⟩ none], 11) := by
  rw [partsS, if_neg (not_b (by kernel_rfl))]
  kernel_rfl
theorem s1_nl : nlS s1 0 7 7 = (1, 8, 10) := by
  rw [nlS, dif_pos (of_decide_eq_true (by kernel_rfl)), nlS, dif_neg (not_b (by kernel_rfl))]
  kernel_rfl
theorem s1_nl2 : nlS s1 0 11 11 = (1, 12, 12) := by
  rw [nlS, dif_pos (of_decide_eq_true (by kernel_rfl)), nlS, dif_neg (not_b (by kernel_rfl))]
  kernel_rfl
theorem s1_next : nextS s1 7 = some (1, 2, 10) := by
  unfold nextS
  rw [s1_nl]
  kernel_rfl
theorem s1_next2 : nextS s1 11 = none := by
  unfold nextS
  rw [s1_nl2]
  kernel_rfl
theorem s1_lines : linesS (placeS s1 20) s1 [] 0 0 1 = some ([⟨0, 0, ps1⟩, ⟨1, 2, [.mk ⟨#[98]⟩ none]⟩], 11) := by
  rw [linesS, s1_parts]
  dsimp only
  rw [s1_next]
  dsimp only
  rw [dif_pos (of_decide_eq_true (by kernel_rfl)), linesS, s1_parts2]
  dsimp only
  rw [s1_next2]
  kernel_rfl
theorem s1_pat : patS (placeS s1 20) s1 0 = some ([.mk ⟨#[97, 32]⟩ none, .mk E0 (some vX), .mk ⟨#[10, 98]⟩ none], 11) := by
  unfold patS
  rw [show sp s1 0 = 1 by kernel_rfl, s1_lines]
  kernel_rfl
abbrev eN1 : EX := .mk 1 ⟨#[49]⟩ E0 E0 [] none []
abbrev eS1 : EX := .mk 0 ⟨#[115]⟩ E0 E0 [] none []
theorem s2_head : headS (placeS s2 19) s2 2 = some (.mk 3 E0 ⟨#[70]⟩ E0 [] none [], 3) := by
  unfold headS nestS
  rw [show placeS s2 19 2 = none by rw [placeS, if_neg (not_b (by kernel_rfl))]]
  kernel_rfl
theorem s2_arg1 : argS (placeS s2 19) s2 4 = some (E0, eN1, 5) := by
  unfold argS
  rw [show namS s2 4 = none by kernel_rfl]
  unfold headS nestS
  rw [show placeS s2 19 4 = none by rw [placeS, if_neg (not_b (by kernel_rfl))]]
  kernel_rfl
theorem s2_arg2 : argS (placeS s2 19) s2 7 = some (⟨#[111]⟩, eS1, 13) := by
  unfold argS
  rw [show namS s2 7 = some (⟨#[111]⟩, eS1, 13) by kernel_rfl]
theorem s2_args : argsS (placeS s2 19) s2 [] false 4 = some ([.mk E0 eN1, .mk ⟨#[111]⟩ eS1], 14) := by
  rw [argsS, if_neg (not_b (by kernel_rfl)), if_neg (by simp), show bl s2 4 = 4 by kernel_rfl, s2_arg1]
  dsimp only
  rw [if_neg (not_b (by kernel_rfl)), dif_pos (of_decide_eq_true (by kernel_rfl)), if_pos (by kernel_rfl), show (if emp E0 = true then (opnS s2 eN1 5).2 else 5) = 5 by kernel_rfl]
  rw [argsS, if_neg (not_b (by kernel_rfl)), if_pos rfl, show bl s2 5 = 5 by kernel_rfl, dif_pos (of_decide_eq_true (by kernel_rfl))]
  rw [argsS, if_neg (not_b (by kernel_rfl)), if_neg (by simp), show bl s2 6 = 7 by kernel_rfl, s2_arg2]
  dsimp only
  rw [if_neg (not_b (by kernel_rfl)), dif_pos (of_decide_eq_true (by kernel_rfl)), if_pos (by kernel_rfl), show (if emp ⟨#[111]⟩ = true then (opnS s2 eS1 13).2 else 13) = 13 by kernel_rfl]
  rw [argsS, if_pos (by kernel_rfl)]
  kernel_rfl
theorem s2_place : placeS s2 20 0 = some (.mk 5 E0 ⟨#[70]⟩ E0 [.mk E0 eN1, .mk ⟨#[111]⟩ eS1] none [], 16) := by
  have h : inlS (placeS s2 19) s2 2 = some (.mk 5 E0 ⟨#[70]⟩ E0 [.mk E0 eN1, .mk ⟨#[111]⟩ eS1] none [], 14) := by
    unfold inlS
    rw [s2_head]
    dsimp only
    rw [if_pos (by kernel_rfl), show (opnS s2 (.mk 3 E0 ⟨#[70]⟩ E0 [] none []) 3).2 = 4 by kernel_rfl, s2_args]
    kernel_rfl
  rw [placeS, if_pos (by kernel_rfl), show bl s2 (0 + 1) = 2 by kernel_rfl, h]
  dsimp only
  rw [if_pos (by kernel_rfl)]
  exact (if_neg (show ¬ termAttr (.mk 5 E0 ⟨#[70]⟩ E0 [.mk E0 eN1, .mk ⟨#[111]⟩ eS1] none []) = true by simp [termAttr])).trans (congrArg (fun n => some ((EX.mk 5 E0 ⟨#[70]⟩ E0 [.mk E0 eN1, .mk ⟨#[111]⟩ eS1] none []), n)) (show bl s2 14 + 1 = 16 by kernel_rfl))
/-- What Pattern gives, where it gives something. -/
def GotPT (s : ByteArray) (w : World) (l : List EL) (j : Nat) (e : Ending) (w' : World) : Prop :=
  Below w.heap.size w w' ∧ ∃ (A : Option Addr) (c : Nat), e = .returned (.tuple #[.slice A l.length c, .int .i64 j, .bool true]) ∧ PatF w' (Since w.heap.size w') l (.slice A l.length c)
set_option maxHeartbeats 2000000 in
set_option maxRecDepth 100000 in
theorem pattern_call {s : ByteArray} {i : Nat} (hs : s.size ≤ 1000000) (hi : i ≤ s.size) {l : List EL} {j : Nat} (h : patS (placeS s 20) s i = some (l, j)) (w : World) : Calls Tryz.prog 23 #[.string s, .int .i64 i] w (GotPT s w l j) := by
  have hK : ∀ (rb : Nat) (W : World), Rd rb s i W → Calls Tryz.prog 46 #[pt rb, .int .i64 0] W (GotP rb s W (some (l, j))) := fun rb W hr => by
    have := pattern_any (rb := rb) hs (d := 0) (by omega) (place_knot hs (in_knot hs rb) 20 1 rfl) (place_pos s 20) i W hr hi
    rw [h] at this
    exact this
  have HK := Lib.hid hK
  have z1 : decide ((i : Int) < 0) = false := decide_eq_false (by omega)
  have z2 : decide ((s.size : Int) < (i : Int)) = false := decide_eq_false (by omega)
  have z3 : ¬ (i : Int) < 0 := by omega
  have z4 : ¬ (s.size : Int) < (i : Int) := by omega
  have hi0 : (i : Int) ≤ 1000000 := by omega
  clear hK h
  unfold pt at HK
  go_enter Tryz.func23, Tryz.ntmps23
  go_wp2_with fail
  go_at_call 46
  refine (HK.out _ _ (BoxAt.new' _ _ _ _ (by simp))).mono ?_
  rintro e w2 ⟨h1, A, n, c, j', rfl, h2, hj, hn4, h3⟩
  obtain ⟨rfl, rfl, hp⟩ := h3 l j rfl
  have HB := Lib.hid (((Below.refl w.heap.size w).alloc (Nat.le_refl _) (.cells #[.string s, .int .i64 i] 62)).trans (h1.below.mono (by omega)))
  have HP := Lib.hid hp
  have d1 := h2.c1
  have hl2 := h2.lt
  have hj0 : (j : Int) ≤ 1000000 := by omega
  clear h1 h2 h3 hp HK
  go_wp2
  go_region
  go_wp2
  refine bodyPost_ret (v := .tuple #[.slice A l.length c, .int .i64 j, .bool true]) (by simp [results, Tryz.results23, go_sem]) rfl ?_
  refine ⟨HB.out.drew, A, c, rfl, PatF.carry (fun b hb => ?_) HP.out⟩
  obtain ⟨hb1, hb2⟩ := hb
  rw [World.size_alloc] at hb1
  exact ⟨⟨by omega, hb2⟩, rfl⟩
theorem pat_three {W : World} {F : Nat → Prop} {A : Option Addr} {n c : Nat} {t0 t1 t2 : ByteArray} {p1 : Option EX} (h : PatF W F [.mk t0 none, .mk t1 p1, .mk t2 none] (.slice A n c)) :
    ∃ b o, A = some ⟨b, o, none⟩ ∧ n = 3 ∧ F b ∧ W.cell? ⟨b, o, none⟩ = some (.string t0) ∧ W.cell? ⟨b, o + 4, none⟩ = some (.string t2) := by
  obtain ⟨A', c', e, _, _, h2⟩ := h
  simp only [Value.slice.injEq] at e
  obtain ⟨rfl, rfl, rfl⟩ := e
  obtain ⟨b, o, rfl, h3⟩ := h2 (by simp)
  rw [EsF, EsF, EsF] at h3
  obtain ⟨hb, h4, _, _, _, _, _, h5, _⟩ := h3
  exact ⟨b, o, rfl, rfl, hb, h4, h5⟩
theorem ex_two {W : World} {F : Nat → Prop} {k : Int} {t n a : ByteArray} {A1 : Option Addr} {n1 c1 : Nat} {ci cv : Value} {n' x1 x2 : ByteArray} {e1 e2 : EX} (h : ExF W F (.mk 5 E0 n' E0 [.mk x1 e1, .mk x2 e2] none []) ⟨.int .i64 k, .string t, .string n, .string a, .slice A1 n1 c1, ci, cv⟩) :
    k = 5 ∧ n1 = 2 ∧ ∃ b o, A1 = some ⟨b, o, none⟩ ∧ F b ∧ W.cell? ⟨b, o + 8, none⟩ = some (.string x2) := by
  rw [ExF] at h
  obtain ⟨h1, _, _, _, ⟨⟨A', c', e, _, _, h2⟩, _⟩, _⟩ := h
  cases h1
  simp only [Value.slice.injEq] at e
  obtain ⟨rfl, rfl, rfl⟩ := e
  obtain ⟨b, o, rfl, h3⟩ := h2 (by simp)
  rw [AsF, AsF] at h3
  obtain ⟨hb, _, _, _, h5, _⟩ := h3
  exact ⟨rfl, rfl, b, o, rfl, hb, h5⟩
set_option maxHeartbeats 2000000 in
set_option maxRecDepth 100000 in
theorem head08_any (w : World) : Calls Tryz.prog 8 #[] w fun e w' => e = .returned (.bool true) ∧ Below w.heap.size w w' := by
  have HP := Lib.hid (fun W => pattern_call (by decide) (Nat.zero_le _) s1_pat W)
  have hE := fun W => place_call (s := s2) (i := 0) (by decide) (Nat.zero_le _) W
  rw [s2_place] at hE
  have HE := Lib.hid hE
  clear hE
  go_enter Tryz.func8, Tryz.ntmps8
  go_wp2_with fail
  go_at_call 23
  refine (HP.out _).mono ?_
  rintro e w1 ⟨h1, A, c, rfl, h2⟩
  obtain ⟨b, o, rfl, _, hb, q0, q4⟩ := pat_three h2
  have HB1 := Lib.hid h1
  have hbl : b < w1.heap.size := hb.2
  clear h1 h2 hb
  go_wp2_with fail
  go_at_call 10
  refine (HE.out _).mono ?_
  rintro e w2 ⟨h1, k, t, n, a, A1, n1, c1, p, A2, n2, c2, j, rfl, hj, _, h3⟩
  obtain ⟨rfl, hx⟩ := h3 _ _ rfl
  obtain ⟨rfl, rfl, b2, o2, rfl, hb2, q8⟩ := ex_two hx
  have hbl2 : b2 < w2.heap.size := hb2.2
  have HB2 := Lib.hid (HB1.out.trans (h1.mono HB1.out.size))
  have e0 : w2.cell? ⟨b, o, none⟩ = some (.string ⟨#[97, 32]⟩) := (h1.cell (p := ⟨b, o, none⟩) hbl).trans q0
  have e4 : w2.cell? ⟨b, o + 4, none⟩ = some (.string ⟨#[10, 98]⟩) := (h1.cell (p := ⟨b, o + 4, none⟩) hbl).trans q4
  have hbl' : b < w2.heap.size := Nat.lt_of_lt_of_le hbl h1.size
  clear h1 h3 hx hb2 q0 q4
  unfold exV
  go_wp2
  go_ret
  exact ⟨rfl, HB2.out.alloc (by have := HB2.out.size; omega) _⟩
end Go.Proofs.YtnogdojdjehakaaGreatDoor

/-
  expr.Pattern of whatever place, whatever is read: what entry's functions ask of it.
-/
namespace Go.Proofs.YtnogdojdjehakaaGreatDoor
open Go.RowKit
set_option linter.unusedVariables false
set_option linter.unusedSimpArgs false

set_option maxHeartbeats 2000000 in
set_option maxRecDepth 100000 in
theorem pat_calls {s : ByteArray} (hs : s.size ≤ 1000000) : PatCall s := by
  intro i w hi
  have hK : ∀ (rb : Nat) (W : World), Rd rb s i W → Calls Tryz.prog 46 #[pt rb, .int .i64 0] W (GotP rb s W (patS (placeS s 20) s i)) := fun rb W hr =>
    pattern_any (rb := rb) hs (d := 0) (by omega) (place_knot hs (in_knot hs rb) 20 1 rfl) (place_pos s 20) i W hr hi
  obtain ⟨r, hr⟩ : ∃ r, patS (placeS s 20) s i = r := ⟨_, rfl⟩
  rw [hr] at hK ⊢
  have HK := Lib.hid hK
  have z1 : decide ((i : Int) < 0) = false := decide_eq_false (by omega)
  have z2 : decide ((s.size : Int) < (i : Int)) = false := decide_eq_false (by omega)
  have z3 : ¬ (i : Int) < 0 := by omega
  have z4 : ¬ (s.size : Int) < (i : Int) := by omega
  have hi0 : (i : Int) ≤ 1000000 := by omega
  clear hK hr
  unfold pt at HK
  go_enter Tryz.func23, Tryz.ntmps23
  go_wp2_with fail
  go_at_call 46
  refine (HK.out _ _ (BoxAt.new' _ _ _ _ (by simp))).mono ?_
  rintro e w2 ⟨h1, A, n, c, j', rfl, h2, hj, hn4, h3⟩
  have HB := Lib.hid (((Below.refl w.heap.size w).alloc (Nat.le_refl _) (.cells #[.string s, .int .i64 i] 62)).trans (h1.below.mono (by omega)))
  have H3 := Lib.hid h3
  have d1 := h2.c1
  have hl2 := h2.lt
  have hj0 : (j' : Int) ≤ 1000000 := by omega
  clear h1 h2 h3 HK
  cases r with
  | none =>
    go_wp2
    refine bodyPost_ret (v := .tuple #[.slice none 0 0, .int .i64 0, .bool false]) (by simp [results, Tryz.results23, go_sem]) rfl ?_
    exact ⟨HB.out, none, 0, 0, 0, rfl, Nat.zero_le _, Nat.zero_le _, fun l m h => by cases h⟩
  | some v =>
    obtain ⟨l, m⟩ := v
    obtain ⟨rfl, rfl, hp⟩ := H3.out l m rfl
    have HP := Lib.hid hp
    clear hp H3
    go_wp2
    go_region
    go_wp2
    refine bodyPost_ret (v := .tuple #[.slice A l.length c, .int .i64 m, .bool true]) (by simp [results, Tryz.results23, go_sem]) rfl ?_
    refine ⟨HB.out.drew, A, l.length, c, m, rfl, hj, hn4, fun l' m' h => ?_⟩
    cases h
    refine ⟨rfl, rfl, PatF.carry (fun b hb => ?_) HP.out⟩
    obtain ⟨hb1, hb2⟩ := hb
    rw [World.size_alloc] at hb1
    exact ⟨⟨by omega, hb2⟩, rfl⟩
end Go.Proofs.YtnogdojdjehakaaGreatDoor

/-
  What entry.Parse reads of law09's example.
-/
namespace Go.Proofs.YtnogdojdjehakaaGreatDoor
open Go.RowKit
set_option linter.unusedVariables false
set_option linter.unusedSimpArgs false

abbrev h9 : ByteArray := ⟨#[97, 32, 61, 32, 49, 10, 46, 98, 10, 99, 32, 61, 10, 32, 32, 46, 100, 32, 61, 32, 50, 10]⟩
theorem h9_nl1 : nlS h9 0 5 5 = (1, 6, 6) := by
  rw [nlS, dif_pos (of_decide_eq_true (by kernel_rfl)), nlS, dif_neg (not_b (by kernel_rfl))]
  kernel_rfl
theorem h9_nl2 : nlS h9 0 12 12 = (1, 13, 15) := by
  rw [nlS, dif_pos (of_decide_eq_true (by kernel_rfl)), nlS, dif_neg (not_b (by kernel_rfl))]
  kernel_rfl
theorem h9_nl3 : nlS h9 0 21 21 = (1, 22, 22) := by
  rw [nlS, dif_pos (of_decide_eq_true (by kernel_rfl)), nlS, dif_neg (not_b (by kernel_rfl))]
  kernel_rfl
theorem h9_next1 : nextS h9 5 = none := by
  unfold nextS
  rw [h9_nl1]
  kernel_rfl
theorem h9_next2 : nextS h9 12 = none := by
  unfold nextS
  rw [h9_nl2]
  kernel_rfl
theorem h9_next3 : nextS h9 21 = none := by
  unfold nextS
  rw [h9_nl3]
  kernel_rfl
theorem h9_parts1 (P : Nat → Res) : partsS P h9 [] 4 = some ([.mk ⟨#[49]⟩ none], 5) := by
  rw [partsS, if_neg (not_b (by kernel_rfl))]
  kernel_rfl
theorem h9_parts2 (P : Nat → Res) : partsS P h9 [] 12 = some ([], 12) := by
  rw [partsS, if_neg (not_b (by kernel_rfl))]
  kernel_rfl
theorem h9_parts3 (P : Nat → Res) : partsS P h9 [] 20 = some ([.mk ⟨#[50]⟩ none], 21) := by
  rw [partsS, if_neg (not_b (by kernel_rfl))]
  kernel_rfl
theorem h9_pat1 (P : Nat → Res) : patS P h9 3 = some ([.mk ⟨#[49]⟩ none], 5) := by
  unfold patS
  rw [show sp h9 3 = 4 by kernel_rfl, linesS, h9_parts1]
  dsimp only
  rw [h9_next1]
  kernel_rfl
theorem h9_pat2 (P : Nat → Res) : patS P h9 12 = some ([], 12) := by
  unfold patS
  rw [show sp h9 12 = 12 by kernel_rfl, linesS, h9_parts2]
  dsimp only
  rw [h9_next2]
  kernel_rfl
theorem h9_pat3 (P : Nat → Res) : patS P h9 19 = some ([.mk ⟨#[50]⟩ none], 21) := by
  unfold patS
  rw [show sp h9 19 = 20 by kernel_rfl, linesS, h9_parts3]
  dsimp only
  rw [h9_next3]
  kernel_rfl
theorem h9_named1 : namedS h9 0 = some (⟨#[97]⟩, [.mk ⟨#[49]⟩ none], 5) := by
  unfold namedS
  rw [show nm h9 0 = 1 by kernel_rfl, show sp h9 1 = 2 by kernel_rfl, if_neg (by decide), if_pos (by kernel_rfl), h9_pat1]
  dsimp only
  rw [if_pos (Or.inr (by kernel_rfl))]
  kernel_rfl
theorem h9_named2 : namedS h9 9 = some (⟨#[99]⟩, [], 12) := by
  unfold namedS
  rw [show nm h9 9 = 10 by kernel_rfl, show sp h9 10 = 11 by kernel_rfl, if_neg (by decide), if_pos (by kernel_rfl), h9_pat2]
  dsimp only
  rw [if_pos (Or.inr (by kernel_rfl))]
  kernel_rfl
theorem h9_named3 : namedS h9 16 = some (⟨#[100]⟩, [.mk ⟨#[50]⟩ none], 21) := by
  unfold namedS
  rw [show nm h9 16 = 17 by kernel_rfl, show sp h9 17 = 18 by kernel_rfl, if_neg (by decide), if_pos (by kernel_rfl), h9_pat3]
  dsimp only
  rw [if_pos (Or.inr (by kernel_rfl))]
  kernel_rfl
theorem h9_namedJ : namedS h9 6 = none := by
  unfold namedS
  rw [if_pos (by kernel_rfl)]
theorem h9_attr1 : attrS h9 5 = none := by
  unfold attrS
  rw [if_neg (not_b (by kernel_rfl))]
theorem h9_attr2 : attrS h9 12 = some (⟨#[100]⟩, [.mk ⟨#[50]⟩ none], 21) := by
  unfold attrS
  rw [if_pos (by kernel_rfl), show bl h9 12 + 1 = 16 by kernel_rfl, h9_named3]
  kernel_rfl
theorem h9_attr3 : attrS h9 21 = none := by
  unfold attrS
  rw [if_neg (not_b (by kernel_rfl))]
theorem h9_ats1 : atsS h9 [] 5 = ([], 5) := by rw [atsS, h9_attr1]
theorem h9_ats2 : atsS h9 [] 12 = ([.mk ⟨#[100]⟩ [.mk ⟨#[50]⟩ none]], 21) := by
  rw [atsS, h9_attr2]
  dsimp only
  rw [dif_pos (of_decide_eq_true (by kernel_rfl)), atsS, h9_attr3]
  rfl
theorem h9_read1 : readS h9 0 = ⟨1, 0, E0, ⟨#[97]⟩, [.mk ⟨#[49]⟩ none], [], 0, 6⟩ := by
  unfold readS comS
  rw [if_pos (by kernel_rfl)]
  dsimp only
  unfold msgS
  rw [show (if isAt h9 0 45 = true then 0 + 1 else 0) = 0 by kernel_rfl, h9_named1]
  dsimp only
  rw [h9_ats1]
  kernel_rfl
theorem h9_junk : junkTo h9 9 = 9 := by
  rw [junkTo, dif_neg (fun h => by have := h.2; rw [show mayB h9 9 = true by kernel_rfl] at this; cases this)]
theorem h9_read2 : readS h9 6 = ⟨3, 0, ⟨#[46, 98, 10]⟩, E0, [], [], 6, 9⟩ := by
  unfold readS comS
  rw [if_pos (by kernel_rfl)]
  dsimp only
  unfold msgS
  rw [show (if isAt h9 6 45 = true then 6 + 1 else 6) = 6 by kernel_rfl, h9_namedJ]
  dsimp only
  unfold junkS
  rw [show beh h9 6 = 9 by kernel_rfl, h9_junk]
  kernel_rfl
theorem h9_read3 : readS h9 9 = ⟨1, 0, E0, ⟨#[99]⟩, [], [.mk ⟨#[100]⟩ [.mk ⟨#[50]⟩ none]], 9, 22⟩ := by
  unfold readS comS
  rw [if_pos (by kernel_rfl)]
  dsimp only
  unfold msgS
  rw [show (if isAt h9 9 45 = true then 9 + 1 else 9) = 9 by kernel_rfl, h9_named2]
  dsimp only
  rw [h9_ats2]
  kernel_rfl
theorem h9_pass (k : Nat) (h : k = 0 ∨ k = 6 ∨ k = 9) : passE h9 k = k := by
  rcases h with rfl | rfl | rfl
  · rw [passE, dif_pos (by decide), if_pos ⟨of_decide_eq_true (by kernel_rfl), by kernel_rfl⟩]
  · rw [passE, dif_pos (by decide), if_pos ⟨of_decide_eq_true (by kernel_rfl), by kernel_rfl⟩]
  · rw [passE, dif_pos (by decide), if_pos ⟨of_decide_eq_true (by kernel_rfl), by kernel_rfl⟩]
theorem h9_passE : passE h9 22 = 22 := by rw [passE, dif_neg (by decide)]
abbrev l9 : List EN := [⟨1, 0, E0, ⟨#[97]⟩, [.mk ⟨#[49]⟩ none], [], 0, 6⟩, ⟨3, 0, ⟨#[46, 98, 10]⟩, E0, [], [], 6, 9⟩, ⟨1, 0, E0, ⟨#[99]⟩, [], [.mk ⟨#[100]⟩ [.mk ⟨#[50]⟩ none]], 9, 22⟩]
theorem h9_parse : parseS h9 = l9 := by
  unfold parseS
  rw [h9_pass 0 (by decide), (parseGo_step h9 [] 0 (by decide)).1, h9_read1]
  dsimp only
  rw [h9_pass 6 (by decide), (parseGo_step h9 _ 6 (by decide)).1, h9_read2]
  dsimp only
  rw [h9_pass 9 (by decide), (parseGo_step h9 _ 9 (by decide)).1, h9_read3]
  dsimp only
  rw [h9_passE, parseGo_end h9 _ 22 (by decide)]
  rfl
/-- The cells of an entry in a list. -/
theorem NsF.get {W : World} {F : Nat → Prop} : ∀ {l : List EN} {b o : Nat} (j : Nat) {x : EN}, NsF W F l b o → l[j]? = some x →
    F b ∧ (∃ (A : Option Addr) (c : Nat) (B : Option Addr) (d : Nat), W.cell? ⟨b, o + j * 8, none⟩ = some (.int .i64 x.ty) ∧ W.cell? ⟨b, o + j * 8 + 1, none⟩ = some (.int .i64 x.lv) ∧ W.cell? ⟨b, o + j * 8 + 2, none⟩ = some (.string x.tx) ∧ W.cell? ⟨b, o + j * 8 + 3, none⟩ = some (.string x.nm) ∧
      W.cell? ⟨b, o + j * 8 + 4, none⟩ = some (.slice A x.val.length c) ∧ W.cell? ⟨b, o + j * 8 + 5, none⟩ = some (.slice B x.ats.length d) ∧ W.cell? ⟨b, o + j * 8 + 6, none⟩ = some (.int .i64 x.fr) ∧ W.cell? ⟨b, o + j * 8 + 7, none⟩ = some (.int .i64 x.tu) ∧
      PatF W F x.val (.slice A x.val.length c) ∧ AtsF W F x.ats (.slice B x.ats.length d))
  | [], b, o, j, x, h, hj => by simp at hj
  | y :: r, b, o, 0, x, h, hj => by
    rw [NsF] at h
    simp at hj
    subst hj
    rw [Nat.zero_mul]
    exact ⟨h.1, h.2.1⟩
  | y :: r, b, o, j + 1, x, h, hj => by
    rw [NsF] at h
    have := NsF.get j h.2.2 (by simpa using hj)
    rw [show o + (j + 1) * 8 = o + 8 + j * 8 by omega]
    exact this
theorem list_at {W : World} {F : Nat → Prop} {l : List EN} {A : Option Addr} {c : Nat} (h : ListF W F l (.slice A l.length c)) (h0 : 0 < l.length) : ∃ b o, A = some ⟨b, o, none⟩ ∧ NsF W F l b o := by
  obtain ⟨A', c', e, _, _, h2⟩ := h
  simp only [Value.slice.injEq] at e
  obtain ⟨rfl, _, rfl⟩ := e
  exact h2 h0
set_option maxHeartbeats 4000000 in
set_option maxRecDepth 100000 in
theorem head09_any (w : World) : Calls Tryz.prog 14 #[] w fun e w' => e = .returned (.bool true) ∧ Below w.heap.size w w' := by
  have hP := fun W => parse_call (pat_calls (s := h9) (by decide)) (by decide) W
  rw [h9_parse] at hP
  have HP := Lib.hid hP
  clear hP
  go_enter Tryz.func14, Tryz.ntmps14
  go_wp2_with fail
  go_at_call 15
  refine (HP.out _).mono ?_
  rintro e w1 ⟨hb1, A, c, rfl, hl⟩
  have HB1 := Lib.hid hb1
  obtain ⟨b, o, rfl, hn⟩ := list_at hl (by decide)
  obtain ⟨_, A0, c0, B0, d0, p0, _⟩ := hn.get 0 rfl
  obtain ⟨_, A1, c1, B1, d1, q0, _, q2, _⟩ := hn.get 1 rfl
  obtain ⟨_, A2, c2, B2, d2, r0, _, _, _, r4, r5, _⟩ := hn.get 2 rfl
  clear hb1 hl hn HP
  simp only [Nat.zero_mul, Nat.one_mul, Nat.add_zero, List.length_nil, List.length_cons] at p0 q0 q2 r0 r4 r5
  go_wp2
  go_ret
  exact ⟨rfl, HB1.out⟩
end Go.Proofs.YtnogdojdjehakaaGreatDoor

/-
  law07.patterns of two patterns that are the same and have no places.
-/
namespace Go.Proofs.YtnogdojdjehakaaGreatDoor
open Go.RowKit
set_option linter.unusedVariables false
set_option linter.unusedSimpArgs false

theorem EsAt.at2 {W : World} : ∀ {l : List EL} {b o : Nat} (j : Nat) {t : ByteArray} {p : Option EX}, EsAt W l b o → l[j]? = some (.mk t p) →
    b < W.heap.size ∧ W.cell? ⟨b, o + j * 2, none⟩ = some (.string t) ∧ ∃ u, W.cell? ⟨b, o + j * 2 + 1, none⟩ = some u ∧ OAt W p u
  | [], b, o, j, t, p, h, hj => by simp at hj
  | .mk t' p' :: r, b, o, 0, t, p, h, hj => by
    rw [EsAt] at h
    simp at hj
    obtain ⟨rfl, rfl⟩ := hj
    obtain ⟨h0, h1, h2, _⟩ := h
    exact ⟨h0, by simpa using h1, by simpa using h2⟩
  | .mk t' p' :: r, b, o, j + 1, t, p, h, hj => by
    rw [EsAt] at h
    have := EsAt.at2 j h.2.2.2 (by simpa using hj)
    rw [show o + (j + 1) * 2 = o + 2 + j * 2 by omega]
    exact this
theorem pat_at2 {W : World} {l : List EL} {v : Value} (h : PatAt W l v) {i : Nat} (hi : i < l.length) : ∃ b o c, v = .slice (some ⟨b, o, none⟩) l.length c ∧ b < W.heap.size ∧
    ∀ j t p, l[j]? = some (.mk t p) → W.cell? ⟨b, o + j * 2, none⟩ = some (.string t) ∧ ∃ u, W.cell? ⟨b, o + j * 2 + 1, none⟩ = some u ∧ OAt W p u := by
  obtain ⟨A, c, rfl, _, _, h2⟩ := h
  obtain ⟨b, o, rfl, h3⟩ := h2 (by omega)
  have h0 : l[0]? = some l[0] := List.getElem?_eq_getElem (by omega)
  refine ⟨b, o, c, rfl, ?_, fun j t p hj => ⟨(h3.at2 j hj).2.1, (h3.at2 j hj).2.2⟩⟩
  cases e : l[0]'(by omega) with
  | mk t p => rw [e] at h0; exact (h3.at2 0 h0).1
theorem cell_under {W W' : World} (hb : Below W.heap.size W W') {b o : Nat} {v : Value} (h : W.cell? ⟨b, o, none⟩ = some v) : W'.cell? ⟨b, o, none⟩ = some v := (hb.cell (p := ⟨b, o, none⟩) (World.block_lt_of_cell? W _ h)).trans h
/-- Same tells that two of this expression are the same. -/
def SameTo (W0 : World) (e : EX) : Prop := ∀ (w : World) (c1 c2 : C7), Below W0.heap.size W0 w → ExAt W0 e c1 → ExAt W0 e c2 → Calls Tryz.prog 12 #[.agg c1.arr, .agg c2.arr] w fun e w' => e = .returned (.bool true) ∧ Below w.heap.size w w'
set_option maxHeartbeats 8000000 in
set_option maxRecDepth 1000000 in
theorem pats_text {W0 : World} (l : List EL) {v1 v2 : Value} (h1 : PatAt W0 l v1) (h2 : PatAt W0 l v2) (hl : l.length ≤ 8000000) (hS : ∀ t e, EL.mk t (some e) ∉ l) (w : World) (hb : Below W0.heap.size W0 w) :
    Calls Tryz.prog 34 #[v1, v2] w fun e w' => e = .returned (.bool true) ∧ Below w.heap.size w w' := by
  have hg1 := fun i (hi : i < l.length) => pat_at2 h1 hi
  have hg2 := fun i (hi : i < l.length) => pat_at2 h2 hi
  obtain ⟨A1, c1, rfl, _⟩ := h1
  obtain ⟨A2, c2, rfl, _⟩ := h2
  have HG1 := Lib.hid hg1
  have HG2 := Lib.hid hg2
  have HS := Lib.hid hS
  have HB := Lib.hid hb
  have hl0 : (l.length : Int) ≤ 8000000 := by omega
  have d0 : ((l.length : Int) != (l.length : Int)) = false := bne_self_eq_false _
  clear hg1 hg2 hS hb
  go_enter Tryz.func34, Tryz.ntmps34
  go_wp2
  go_loopw [15] (fun t15 wr => ∃ i : Nat, t15 = .int .i64 i ∧ i ≤ l.length ∧ Hid (Below w.heap.size w wr)) (fun t15 _ => l.length - (intOf t15).toNat)
  case atStart => exact ⟨0, rfl, Nat.zero_le _, Below.refl _ _⟩
  case round =>
    obtain ⟨i, rfl, hi, HBel⟩ := hrel
    have hi0 : (i : Int) ≤ 8000000 := by omega
    by_cases hlt : i < l.length
    case neg =>
      have d1 : decide ((i : Int) < (l.length : Int)) = false := decide_eq_false (by omega)
      have d2 : ¬ (i : Int) < (l.length : Int) := by omega
      go_wp2
      go_ret
      exact ⟨rfl, HBel.out⟩
    have d1 : decide ((i : Int) < (l.length : Int)) = true := decide_eq_true (by omega)
    have d2 : (i : Int) < (l.length : Int) := by omega
    obtain ⟨b1, o1, c1', e1', hb1, g1⟩ := HG1.out i hlt
    obtain ⟨b2, o2, c2', e2', hb2, g2⟩ := HG2.out i hlt
    cases e1'
    cases e2'
    have hli : l[i]? = some l[i] := List.getElem?_eq_getElem hlt
    have hmem : l[i] ∈ l := List.getElem_mem hlt
    obtain ⟨t, p, hx⟩ : ∃ t p, l[i] = EL.mk t p := by cases h : l[i]; exact ⟨_, _, rfl⟩
    rw [hx] at hli hmem
    obtain ⟨k1, u1, k2, ho1⟩ := g1 i t p hli
    obtain ⟨m1, u2, m2, ho2⟩ := g2 i t p hli
    have hcell : ∀ (b o : Nat) v, b < W0.heap.size → W0.cell? ⟨b, o, none⟩ = some v → wr.cell? ⟨b, o, none⟩ = some v := fun b o v hb h =>
      (HBel.out.cell (p := ⟨b, o, none⟩) (Nat.lt_of_lt_of_le hb HB.out.size)).trans ((HB.out.cell (p := ⟨b, o, none⟩) hb).trans h)
    have e1 := hcell _ _ _ hb1 k1
    have e1p := hcell _ _ _ hb1 k2
    have e2 := hcell _ _ _ hb2 m1
    have e2p := hcell _ _ _ hb2 m2
    have hbw1 : b1 < wr.heap.size := Nat.lt_of_lt_of_le hb1 (Nat.le_trans HB.out.size HBel.out.size)
    have hbw2 : b2 < wr.heap.size := Nat.lt_of_lt_of_le hb2 (Nat.le_trans HB.out.size HBel.out.size)
    have Hcell := Lib.hid hcell
    have Hmem := Lib.hid hmem
    clear hcell hmem hli hx k1 k2 m1 m2 g1 g2 hb1 hb2
    cases p with
    | none =>
      simp only [OAt] at ho1 ho2
      subst ho1
      subst ho2
      go_wp2_with fail
      go_region
      all_goals (go_wp2_with fail)
      refine ⟨⟨i + 1, by go_num, hlt, ?_⟩, by simp [intOf]; omega⟩
      exact Lib.hid HBel.out.drew
    | some e =>
      exact absurd Hmem.out (HS.out t e)
end Go.Proofs.YtnogdojdjehakaaGreatDoor

/-
  law07.SameEntry of two entries that are the same and have no attributes.
-/
namespace Go.Proofs.YtnogdojdjehakaaGreatDoor
open Go.RowKit
set_option linter.unusedVariables false
set_option linter.unusedSimpArgs false

set_option maxHeartbeats 4000000 in
set_option maxRecDepth 100000 in
theorem entry_same0 {W0 : World} (ty lv : Int) (tx nm : ByteArray) (l : List EL) {v1 v2 : Value} (A B : Option Addr) (d d' : Nat) (f1 t1 f2 t2 : Int) (h1 : PatAt W0 l v1) (h2 : PatAt W0 l v2) (hl : l.length ≤ 8000000)
    (hS : ∀ t e, EL.mk t (some e) ∉ l) (w : World) (hb : Below W0.heap.size W0 w) :
    Calls Tryz.prog 17 #[entV ty lv tx nm v1 (.slice A 0 d) f1 t1, entV ty lv tx nm v2 (.slice B 0 d') f2 t2] w fun e w' => e = .returned (.bool true) ∧ Below w.heap.size w w' := by
  have hP := fun W (h : Below W0.heap.size W0 W) => pats_text l h1 h2 hl hS W h
  obtain ⟨A1, c1, rfl, _⟩ := h1
  obtain ⟨A2, c2, rfl, _⟩ := h2
  have HP := Lib.hid hP
  have HB := Lib.hid hb
  have hs0 := hb.size
  have z1 : (tx.toList != tx.toList) = false := bne_self_eq_false _
  have z2 : (nm.toList != nm.toList) = false := bne_self_eq_false _
  have z3 : (ty != ty) = false := bne_self_eq_false _
  have z4 : (lv != lv) = false := bne_self_eq_false _
  clear hP hS hb
  unfold entV
  go_enter Tryz.func17, Tryz.ntmps17
  go_wp2
  go_loopw [44] (fun t44 wr => t44 = .int .i64 0 ∧ wr = (w.alloc (.cells #[.int .i64 ty, .int .i64 lv, .string tx, .string nm, .slice A1 l.length c1, .slice A 0 d, .int .i64 f1, .int .i64 t1] 45)).alloc (.cells #[.int .i64 ty, .int .i64 lv, .string tx, .string nm, .slice A2 l.length c2, .slice B 0 d', .int .i64 f2, .int .i64 t2] 45)) (fun _ _ => 0)
  case atStart => exact ⟨rfl, rfl⟩
  case round =>
  obtain ⟨rfl, rfl⟩ := hrel
  go_wp2_with fail
  go_at_call 34
  refine (HP.out _ ((HB.out.alloc hs0 _).alloc (by simp; omega) _)).mono ?_
  rintro e w1 ⟨rfl, hb1⟩
  have HB1 := Lib.hid ((((Below.refl w.heap.size w).alloc (Nat.le_refl _) _).alloc (by simp) _).trans (hb1.mono (by simp; omega)))
  clear hb1
  go_wp2
  go_ret
  exact ⟨rfl, HB1.out⟩
end Go.Proofs.YtnogdojdjehakaaGreatDoor

/-
  Package expr: braces within braces, as they are read.
-/
namespace Go.Proofs.YtnogdojdjehakaaGreatDoor
open Go.RowKit
set_option linter.unusedVariables false
set_option linter.unusedSimpArgs false

section
variable (A R : List UInt8) (c d : UInt8)
theorem mkB_list (L : List UInt8) : (mkB L).data.toList = L := by simp [mkB]
theorem at0_app : at0 (A ++ c :: R) A.length = c := by
  unfold at0
  simp
theorem isAt_app : isAt (mkB (A ++ c :: R)) A.length d = (c == d) := by
  unfold isAt
  rw [mkB_list, at0_app, mkB_size]
  have : A.length < (A ++ c :: R).length := by simp
  rw [decide_eq_true this, Bool.true_and]
theorem behN_app (p : UInt8 → Bool) : behN p (A ++ R) A.length = A.length + (R.takeWhile p).length := by
  unfold behN
  rw [List.drop_left]
theorem bl_app : bl (mkB (A ++ R)) A.length = A.length + (R.takeWhile blB).length := by
  unfold bl
  rw [mkB_list, behN_app]
theorem quo_none (h : c ≠ 34) : quoS (mkB (A ++ c :: R)) A.length = none := by
  unfold quoS unqAll
  rw [extract_drop, mkB_list, List.drop_left, if_neg]
  simp [Lib.hasPrefix, Ne.symm h]
theorem nm_none (h : leB c = false) : nm (mkB (A ++ c :: R)) A.length = A.length := by
  unfold nm
  rw [mkB_list, at0_app, h, if_neg (by simp)]
theorem nu_none (h : dgB c = false) (h2 : c ≠ 45) : nu (mkB (A ++ c :: R)) A.length = A.length := by
  unfold nu numN
  rw [mkB_list, at0_app]
  have e : behN dgB (A ++ c :: R) A.length = A.length := by rw [behN_app, List.takeWhile_cons, h]; rfl
  dsimp only
  simp only [h2, and_false, if_false, e, Nat.lt_irrefl]
end
def ub (b : Bool) : List UInt8 := if b then [123, 10, 32] else [123]
def nestX : Nat → EX
  | 0 => .mk 2 E0 ⟨#[120]⟩ E0 [] none []
  | k + 1 => .mk 6 E0 E0 E0 [] (some (nestX k)) []
def braces (b : Bool) (k : Nat) : List UInt8 := (List.replicate k (ub b)).flatten
theorem braces_succ (b : Bool) (k : Nat) : braces b (k + 1) = ub b ++ braces b k := by simp [braces, List.replicate_succ]
theorem braces_length (b : Bool) (k : Nat) : (braces b k).length = k * (ub b).length := by
  induction k with
  | zero => simp [braces]
  | succ k ih => rw [braces_succ, List.length_append, ih, Nat.succ_mul]; omega
theorem bl_ub (A : List UInt8) (b : Bool) (c : UInt8) (R : List UInt8) (h : blB c = false) : bl (mkB (A ++ (ub b ++ c :: R))) (A.length + 1) = A.length + (ub b).length := by
  cases b with
  | false =>
    have e : A ++ (ub false ++ c :: R) = (A ++ [123]) ++ c :: R := by simp [ub]
    have e2 : A.length + 1 = (A ++ [(123 : UInt8)]).length := by simp
    rw [e, e2, bl_app, List.takeWhile_cons, h]
    simp [ub]
  | true =>
    have e : A ++ (ub true ++ c :: R) = (A ++ [123]) ++ 10 :: 32 :: c :: R := by simp [ub]
    have e2 : A.length + 1 = (A ++ [(123 : UInt8)]).length := by simp
    rw [e, e2, bl_app, List.takeWhile_cons, List.takeWhile_cons, List.takeWhile_cons, h]
    simp [ub, show blB 10 = true by decide, show blB 32 = true by decide]
theorem var_x (A R : List UInt8) : varS (mkB (A ++ 36 :: 120 :: 125 :: R)) A.length = some (.mk 2 E0 ⟨#[120]⟩ E0 [] none [], A.length + 2) := by
  have e : A ++ 36 :: 120 :: 125 :: R = (A ++ [36]) ++ 120 :: 125 :: R := by simp
  have e2 : A.length + 1 = (A ++ [(36 : UInt8)]).length := by simp
  have hn : nm (mkB (A ++ 36 :: 120 :: 125 :: R)) (A.length + 1) = A.length + 2 := by
    rw [e, e2]
    unfold nm
    rw [mkB_list, at0_app, mkB_size, if_pos ⟨by simp, by decide⟩, behN_app, List.takeWhile_cons, List.takeWhile_cons]
    simp [show naB 120 = true by decide, show naB 125 = false by decide]
  unfold varS
  rw [isAt_app, hn]
  have hx : (mkB (A ++ 36 :: 120 :: 125 :: R)).extract (A.length + 1) (A.length + 2) = ⟨#[120]⟩ := by
    apply bytes_eq
    rw [e]
    simp [mkB, ByteArray.extract, ByteArray.copySlice]
  rw [hx]
  simp
def txt (b : Bool) (k : Nat) (C : List UInt8) : List UInt8 := braces b k ++ (36 :: 120 :: (List.replicate k 125 ++ C))
theorem txt_zero (b : Bool) (C : List UInt8) : txt b 0 C = 36 :: 120 :: C := rfl
theorem txt_succ (b : Bool) (k : Nat) (C : List UInt8) : txt b (k + 1) C = ub b ++ txt b k (125 :: C) := by
  unfold txt
  rw [braces_succ, List.replicate_succ', List.append_assoc, List.append_assoc]
  rfl
theorem ub_cons (b : Bool) : ∃ u, ub b = 123 :: u := by cases b <;> exact ⟨_, rfl⟩
theorem end_brace (A C : List UInt8) : bl (mkB (A ++ 125 :: C)) A.length = A.length ∧ isAt (mkB (A ++ 125 :: C)) A.length 125 = true := by
  refine ⟨?_, by rw [isAt_app]; rfl⟩
  rw [bl_app, List.takeWhile_cons, show blB 125 = false by decide]
  rfl
theorem head_none (P : Nat → Res) (A R : List UInt8) (h : P A.length = none) : headS P (mkB (A ++ 123 :: R)) A.length = none := by
  unfold headS
  rw [quo_none A R 123 (by decide)]
  have hv : varS (mkB (A ++ 123 :: R)) A.length = none := by unfold varS; rw [isAt_app]; rfl
  have ht : terS (mkB (A ++ 123 :: R)) A.length = none := by unfold terS; rw [isAt_app]; rfl
  have hr : refS 3 (mkB (A ++ 123 :: R)) A.length = none := by unfold refS; rw [nm_none A R 123 (by decide), if_pos rfl]
  have hn : nubS (mkB (A ++ 123 :: R)) A.length = none := by unfold nubS; rw [nu_none A R 123 (by decide) (by decide), if_pos rfl]
  rw [hv, ht, hr, hn]
  unfold nestS
  rw [h]
  rfl
theorem head_nest (P : Nat → Res) (A R : List UInt8) {e : EX} {j : Nat} (h : P A.length = some (e, j)) : headS P (mkB (A ++ 123 :: R)) A.length = some (.mk 6 E0 E0 E0 [] (some e) [], j) := by
  unfold headS
  rw [quo_none A R 123 (by decide)]
  have hv : varS (mkB (A ++ 123 :: R)) A.length = none := by unfold varS; rw [isAt_app]; rfl
  rw [hv]
  unfold nestS
  rw [h]
  rfl
theorem inl_flat (P : Nat → Res) (s : ByteArray) (i : Nat) {k : Int} {t n a : ByteArray} {al : List AR} {ie : Option EX} {vs : List VA} {j : Nat} (h : headS P s i = some (.mk k t n a al ie vs, j)) (h3 : k ≠ 3) (h4 : k ≠ 4) : inlS P s i = some (.mk k t n a al ie vs, j) := by
  have ho : opnS s (.mk k t n a al ie vs) j = (false, j) := by
    unfold opnS
    rw [if_neg]
    simp [isFuncS, isTermS, h3, h4]
  unfold inlS
  rw [h]
  dsimp only
  rw [ho]
  rfl
theorem deepS (b : Bool) : ∀ (k r : Nat) (A C : List UInt8), placeS (mkB (A ++ txt b (k + 1) C)) r A.length = if k + 1 ≤ r then some (nestX k, A.length + (k + 1) * (ub b).length + 2 + (k + 1)) else none
  | k, 0, A, C => by rw [placeS, if_neg (by omega)]
  | 0, r + 1, A, C => by
    obtain ⟨u, hu⟩ := ub_cons b
    have e1 : A ++ txt b 1 C = A ++ (ub b ++ 36 :: (120 :: 125 :: C)) := by rw [txt_succ, txt_zero]
    have e2 : A ++ txt b 1 C = A ++ 123 :: (u ++ 36 :: (120 :: 125 :: C)) := by rw [e1, hu]; rfl
    have e3 : A ++ txt b 1 C = (A ++ ub b) ++ 36 :: 120 :: 125 :: C := by rw [e1]; simp
    have e4 : A ++ txt b 1 C = (A ++ ub b ++ [36, 120]) ++ 125 :: C := by rw [e1]; simp
    have hb : bl (mkB (A ++ txt b 1 C)) (A.length + 1) = (A ++ ub b).length := by
      rw [e1, bl_ub A b 36 _ (by decide), List.length_append]
    have hi : inlS (placeS (mkB (A ++ txt b 1 C)) r) (mkB (A ++ txt b 1 C)) (A ++ ub b).length = some (.mk 2 E0 ⟨#[120]⟩ E0 [] none [], (A ++ ub b).length + 2) := by
      refine inl_flat _ _ _ ?_ (by decide) (by decide)
      rw [e3]
      unfold headS
      rw [quo_none _ _ 36 (by decide), var_x]
      rfl
    have he := end_brace (A ++ ub b ++ [36, 120]) C
    have hl : (A ++ ub b ++ [(36 : UInt8), 120]).length = (A ++ ub b).length + 2 := by simp only [List.length_append, List.length_cons, List.length_nil]
    rw [← e4, hl] at he
    rw [placeS, if_pos (by rw [e2, isAt_app]; rfl), hb, hi]
    dsimp only
    rw [he.1, if_pos he.2, if_neg (by simp [termAttr]), if_pos (by omega)]
    rw [List.length_append, nestX]
    congr 2
    omega
  | k + 1, r + 1, A, C => by
    obtain ⟨u, hu⟩ := ub_cons b
    have e1 : A ++ txt b (k + 2) C = A ++ (ub b ++ 123 :: (u ++ txt b k (125 :: 125 :: C))) := by rw [txt_succ, txt_succ, hu]; rfl
    have e2 : A ++ txt b (k + 2) C = A ++ 123 :: (u ++ 123 :: (u ++ txt b k (125 :: 125 :: C))) := by rw [e1, hu]; rfl
    have e3 : A ++ txt b (k + 2) C = (A ++ ub b) ++ txt b (k + 1) (125 :: C) := by rw [txt_succ]; simp
    have e5 : A ++ txt b (k + 2) C = (A ++ ub b) ++ 123 :: (u ++ txt b k (125 :: 125 :: C)) := by rw [e1]; simp
    have hb : bl (mkB (A ++ txt b (k + 2) C)) (A.length + 1) = (A ++ ub b).length := by
      rw [e1, bl_ub A b 123 _ (by decide), List.length_append]
    have ih := deepS b k r (A ++ ub b) (125 :: C)
    rw [← e3] at ih
    rw [placeS, if_pos (by rw [e2, isAt_app]; rfl), hb]
    by_cases hk : k + 1 ≤ r
    · rw [if_pos hk] at ih
      have hh := head_nest (placeS (mkB (A ++ txt b (k + 2) C)) r) (A ++ ub b) (u ++ txt b k (125 :: 125 :: C)) ih
      rw [← e5] at hh
      rw [inl_flat _ _ _ hh (by decide) (by decide)]
      dsimp only
      have e4 : A ++ txt b (k + 2) C = (A ++ ub b ++ (braces b (k + 1) ++ 36 :: 120 :: List.replicate (k + 1) 125)) ++ 125 :: C := by
        rw [e3]
        unfold txt
        simp
      have he := end_brace (A ++ ub b ++ (braces b (k + 1) ++ 36 :: 120 :: List.replicate (k + 1) 125)) C
      have hl : (A ++ ub b ++ (braces b (k + 1) ++ 36 :: 120 :: List.replicate (k + 1) 125)).length = (A ++ ub b).length + (k + 1) * (ub b).length + 2 + (k + 1) := by
        simp only [List.length_append, braces_length, List.length_cons, List.length_replicate]
        omega
      rw [← e4, hl] at he
      rw [he.1, if_pos he.2, if_neg (by simp [termAttr]), if_pos (by omega)]
      rw [List.length_append, nestX]
      congr 2
      rw [Nat.succ_mul (k + 1)]
      omega
    · rw [if_neg hk] at ih
      have hh := head_none (placeS (mkB (A ++ txt b (k + 2) C)) r) (A ++ ub b) (u ++ txt b k (125 :: 125 :: C)) ih
      rw [← e5] at hh
      rw [inl_none hh, if_neg (by omega)]
end Go.Proofs.YtnogdojdjehakaaGreatDoor
