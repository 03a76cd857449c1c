/-
  Several texts put together (part 34): what the law and the program call, walked; their contracts.
-/
import Derived.Test.YtgdkpamlkpncgaaGreatDoorQ33
import Derived.WalkSpells
namespace Go.Proofs.YtgdkpamlkpncgaaGreatDoor
open Go.RowKit Go.Maps
open _root_.Go.Lib (hid)
set_option linter.unusedVariables false
set_option linter.unusedSimpArgs false
set_option maxHeartbeats 4000000 in
set_option maxRecDepth 100000 in
theorem add_named {B g o : Nat} (cs : Array Value) (al nv : Value) (n : Nat) (ys : List Value) (seen : List ByteArray) (X : ByteArray) (k : Int) (t nn a : ByteArray) (A1 : Option Addr) (n1 c1 : Nat) (p : Option Addr) (A2 : Option Addr) (n2 c2 : Nat) (w : World)
  (hg : w.heap[g]? = some (.cells cs 369 (0,0))) (hBg : B <= g) (ho : o + 9 <= cs.size) (hc4 : cs[o + 4]? = some al) (hc7 : cs[o + 7]? = some nv) {c8 : Value} (hc8 : cs[o + 8]? = some c8) (hal : w.ownsRow B 127 8 al n ys) (hne : al.ownBlock ≠ some g) (hnm : NmOk B w nv seen n) (hn : n <= 1000000000) (hX : X.size <= 1000000000) (ho2 : o <= 100000000000) (hx : emp X = false) :
  Calls Tryz.prog 266 #[.pointer (some ⟨g,o,none⟩),arV X k t nn a A1 n1 c1 p A2 n2 c2] w fun e w' =>
   e = .returned (.bool !memB X seen) /\ Below B w w' /\
   ((!memB X seen) = true -> Added B g o cs al nv n ys (X :: seen) [.string X,.int .i64 k,.string t,.string nn,.string a,.slice A1 n1 c1,.pointer p,.slice A2 n2 c2] w w') := by
 have hgl := (Array.getElem?_eq_some_iff.1 hg).1
 obtain ⟨Al,cl,rfl⟩ : ∃ A c,al = .slice A n c := own_form hal
 obtain ⟨i0,hi0,hz0,hz1,hz2⟩ := info_parts infoA
 have d4 : w.cell? ⟨g,o + 4,none⟩ = some (.slice Al n cl) := (cell_of_row w g (o + 4) cs _ (0,0) hg).trans hc4
 have d7 : w.cell? ⟨g,o + 7,none⟩ = some nv := (cell_of_row w g (o + 7) cs _ (0,0) hg).trans hc7
 have hBw : B <= w.heap.size := by omega
 have HG := hid hg
 have HAl := hid hal
 unfold arV
 have hNe := hid (show some g ≠ (Value.slice Al n cl).ownBlock from fun h => hne h.symm)
 have hset := set_same hc7
 have Hc4 := hid hc4
 clear hg hal hne hc4 hc7
 have hx' : X.toList.isEmpty = false := hx
 have hkey := key_str X (by omega)
 have hmm := @run_makeMap_plain Tryz.prog
 clear hx
 rcases hnm with ⟨rfl,rfl⟩ | ⟨b2,rfl,hb,h0,hN⟩
 case inl =>
  have hlook : ∀ W,(Instr.lookup 264 (.map none) (.string X) true).run Tryz.prog W = .ok (.tuple #[.agg #[],.bool false]) W := fun W => Maps.look_nil true keyLaw Tryz.underlying264 (zeroUnit W) hkey
  have HKey := hid hkey
  have heq : ∀ W,(binOp .eql 264 (.map none) (.map none)).run Tryz.prog W = .ok (.bool true) W := fun W => run_eql_map_nil W _ _ _ none Tryz.underlying264
  clear hkey
  go_enter Tryz.func266,Tryz.ntmps266
  go_wp2_with fail
  go_region
  generalize hW1 : World.drew _ = W1
  have hb1 : Below w.heap.size w W1 := by
   rw [<- hW1]
   exact (((Below.refl _ w).alloc (Nat.le_refl _) _).alloc (by simp) _).drew
  have hs1 : W1.heap.size = w.heap.size + 1 + 1 := by rw [<- hW1]; simp
  have hbox : BoxAt W1 w.heap.size #[.string X,.int .i64 k,.string t,.string nn,.string a,.slice A1 n1 c1,.pointer p,.slice A2 n2 c2] 127 := by
   rw [<- hW1]
   exact (BoxAt.new w _ _).alloc _
  clear hW1
  have hg1 : W1.heap[g]? = some (.cells cs 369 (0,0)) := (hb1.block g hgl).trans HG.out
  have e7 : W1.cell? ⟨g,o + 7,none⟩ = some (.map none) := (hb1.cell (p := ⟨g,o + 7,none⟩) hgl).trans d7
  have f7 : W1.frozen? ⟨g,o + 7,none⟩ = false := Lib.frozen_of_heap hg1 (o + 7)
  have hgl1 : g < W1.heap.size := by omega
  have q0 := hbox.cell 0
  simp at q0
  have HBox := hid hbox
  have HG1 := hid hg1
  have HB1 := hid hb1
  have HS1 := hid hs1
  clear hbox hg1 hb1 hs1 d7 d4
  go_wp2_with fail
  generalize hW2 : World.alloc (World.setCell _ _ _) _ = W2
  have hM := NamesAt.made (W1.setCell ⟨g,o + 7,none⟩ (.map (some W1.heap.size)))
  rw [hW2,World.size_setCell] at hM
  have hszs : (W1.setCell ⟨g,o + 7,none⟩ (.map (some W1.heap.size))).heap.size = W1.heap.size := World.size_setCell _ _ _
  have hold : ∀ k,k < W1.heap.size -> k ≠ g -> W2.heap[k]? = W1.heap[k]? := fun k hk hne => by
   rw [<- hW2,Lib.alloc_old _ _ k (by rw [hszs]; exact hk),Below.heap_setCell _ _ _ k hne]
  have hg2 : W2.heap[g]? = some (.cells (cs.setIfInBounds (o + 7) (.map (some W1.heap.size))) 369 (0,0)) := by
   rw [<- hW2,Lib.alloc_old _ _ g (by rw [hszs]; exact hgl1)]
   exact heap_setCell_same _ g (o + 7) cs _ _ HG1.out
  have hb2 : Below B w W2 := by
   rw [<- hW2]
   exact ((HB1.out.mono hBw).setCell (p := ⟨g,o + 7,none⟩) hBg _).alloc (by rw [hszs,HS1.out]; omega) _
  have hk2 : ∀ k,k < w.heap.size -> k ≠ g -> W2.heap[k]? = w.heap[k]? := fun k hk hne => (hold k (by rw [HS1.out]; omega) hne).trans (HB1.out.block k hk)
  have hbx2 : BoxAt W2 w.heap.size #[.string X,.int .i64 k,.string t,.string nn,.string a,.slice A1 n1 c1,.pointer p,.slice A2 n2 c2] 127 := (hold _ (by rw [HS1.out]; omega) (by omega)).trans HBox.out
  have hN2 : NamesAt W2 W1.heap.size n [] := hM.mono (Nat.zero_le n)
  have hal2 : W2.ownsRow B 127 8 (.slice Al n cl) n ys := row_blocks HAl.out fun b hb => hk2 b (HAl.out.lt b hb).2 (fun e => hNe.out (by rw [hb,e]))
  have hnb : B <= W1.heap.size := by rw [HS1.out]; omega
  have hnv : (Value.map (some W1.heap.size)) = Value.map none ∨ ∃ b,Value.map (some W1.heap.size) = .map (some b) /\ w.heap.size <= b := .inr ⟨_,rfl,by rw [HS1.out]; omega⟩
  have hsz2 : w.heap.size < W2.heap.size := hbx2.lt
  have hzM : memB X ([] : List ByteArray) = false := rfl
  have hkb : ∀ k,k < w.heap.size -> Value.map none ≠ .map (some k) -> k ≠ W1.heap.size := fun k hk _ => by rw [HS1.out]; omega
  obtain ⟨b2,hb2e⟩ : ∃ b2,W1.heap.size = b2 := ⟨_,rfl⟩
  rw [hb2e] at hg2 hN2 hnb hnv hkb hszs hM hW2
  clear hold hszs hM hW2 hb2e hgl1 HG1 HB1 HS1 HBox e7 f7 q0
  --TAIL1
  have hgl2 := (Array.getElem?_eq_some_iff.1 hg2).1
  have hmp := owns_map hN2.choose_spec.1
  obtain ⟨D,hD1,hD2,hD3⟩ := hN2
  have e7' : W2.cell? ⟨g,o + 7,none⟩ = some (.map (some b2)) := by
   rw [cell_of_row W2 g (o + 7) _ _ (0,0) hg2,Array.getElem?_setIfInBounds,if_pos rfl,if_pos (by omega)]
  have qX := hbx2.cell 0
  simp at qX
  have him : n < maxLen := by unfold maxLen; omega
  have HD1 := hid hD1
  have HD2 := hid hD2
  have HD3 := hid hD3
  have HIm := hid him
  have HG2 := hid hg2
  have HBx2 := hid hbx2
  have HMp := hid hmp
  have HAl2 := hid hal2
  have HB2 := hid hb2
  have HK2 := hid hk2
  have HKB := hid hkb
  have HNv := hid hnv
  have HZM := hid hzM
  have Hsz2 := hid hsz2
  have Hnb := hid hnb
  clear hD1 hD2 hD3 him hg2 hbx2 hmp hal2 hb2 hk2 hkb hnv hzM hsz2 hnb
  go_still_tail 7,(by kernel_rfl)
  change wpList _ _ _ _ _ W2.drew
  go_wp2_with (at_mapUpdate; refine wpList_mapUpdate_own _ rfl _ _ _ 264 rfl 9 148 keyLaw Tryz.underlying264 (unitElem (H := Unit)) b2 n D rfl HD1.out.drew HIm.out _ _ _ rfl rfl HKey.out _ [] unitElem_mk ?_; intro w6 hown6 hg6; skip)
  have hput := names_put (HD1.out.tidy keyLaw) HD2.out HD3.out X HZM.out (.agg [])
  have hgr : w6.heap[g]? = some (.cells (cs.setIfInBounds (o + 7) (.map (some b2))) 369 (0,0)) := grown_cells hg6 HMp.out HG2.out
  have hbox : BoxAt w6 w.heap.size #[.string X,.int .i64 k,.string t,.string nn,.string a,.slice A1 n1 c1,.pointer p,.slice A2 n2 c2] 127 := grown_cells hg6 HMp.out HBx2.out
  have hb6 : Below B w w6 := HB2.out.drew.grown hg6 (Nat.le_trans hBw HB2.out.size) (fun kk e => by have := Option.some.inj e; have := Hnb.out; omega)
  have hk6 : ∀ k,k < w.heap.size -> k ≠ g -> Value.map none ≠ .map (some k) -> w6.heap[k]? = w.heap[k]? := fun k h1 h2 h3 => by
   rw [hg6.block k (show k < W2.heap.size from Nat.lt_trans h1 Hsz2.out) (fun e => HKB.out k h1 h3 (Option.some.inj e))]
   exact HK2.out k h1 h2
  have hal6 : w6.ownsRow B 127 8 (.slice Al n cl) n ys := row_blocks HAl2.out fun b hb => hg6.block b (show b < W2.heap.size from (HAl2.out.lt b hb).2) (fun e => by
   obtain ⟨c0,t0,fz,hh⟩ := own_cells HAl2.out hb
   obtain ⟨es,c,hm⟩ := HMp.out
   have := Option.some.inj e
   subst this
   rw [hm] at hh; cases hh)
  have hnm6 : NmOk B w6 (.map (some b2)) (X :: []) (n + 1) := .inr ⟨b2,rfl,Hnb.out,by simp,D.put (.string X.data.toList) (.agg []),hown6,hput.1,hput.2⟩
  have hbl := hbox.lt
  have hg6l := (Array.getElem?_eq_some_iff.1 hgr).1
  have e4 : w6.cell? ⟨g,o + 4,none⟩ = some (.slice Al n cl) := by
   rw [cell_of_row w6 g (o + 4) _ _ (0,0) hgr,Array.getElem?_setIfInBounds,if_neg (by omega)]
   exact Hc4.out
  obtain ⟨q0,q1,q2,q3,q4,q5,q6,q7,p0,p1,p2,p3,p4,p5,p6,p7⟩ := cells8 hbox
  have HGr := hid hgr
  have HB6 := hid hb6
  have HK6 := hid hk6
  have HAl1 := hid hal6
  have HNm6 := hid hnm6
  clear hput hgr hbox hb6 hk6 hal6 hnm6 hown6 hg6 qX e7' hgl2
  have hn0 : (n : Int) <= 1000000000 := by omega
  have fg : ∀ j,w6.frozen? ⟨g,j,none⟩ = false := fun j => Lib.frozen_of_heap HGr.out j
  have hAL := hid HAl1.out.1
  have hg1 : g < w6.heap.size := hg6l
  have E4 := hid (fun ob : Obj => (((Below.refl w6.heap.size w6).alloc (Nat.le_refl _) ob).cell (p := ⟨g,o + 4,none⟩) hg1).trans e4)
  have hG2 := hid (fun ob : Obj => show g < (w6.alloc ob).heap.size by rw [World.size_alloc]; omega)
  have F4 := hid (fun ob : Obj => (((Below.refl w6.heap.size w6).alloc (Nat.le_refl _) ob).frozen (p := ⟨g,o + 4,none⟩) hg1).trans (fg (o + 4)))
  have x1 : (n : Int) < (n : Int) + 1 := by omega
  have x2 : (n : Int) < ((n + 1 : Nat) : Int) := by omega
  have x3 : (0 : Int) <= (n : Int) := by omega
  have B1 := hid (show n + 1 <= maxLen by unfold maxLen; omega)
  have B2 := hid (show (n + 1) * 128 <= 140737488355328 by omega)
  have B3 := hid (show B <= w6.heap.size by omega)
  go_wp2_with fail
  dsimp only [Act.put]
  go_cut [] (fun wx => AddMid B g o (cs.setIfInBounds (o + 7) (.map (some b2))) (.slice Al n cl) n ys [.string X,.int .i64 k,.string t,.string nn,.string a,.slice A1 n1 c1,.pointer p,.slice A2 n2 c2] w6 wx)
  case first =>
   go_region_law (refine step_append_own rfl (.tmp 57) (.tmp 60) 45 rfl B 127 i0 (.agg #[.string ⟨#[]⟩,.int .i64 0,.string ⟨#[]⟩,.string ⟨#[]⟩,.string ⟨#[]⟩,.slice none 0 0,.pointer none,.slice none 0 0]) 8 128 Tryz.underlying45 hi0 hz0 hz1 hz2 rfl (by decide) (.slice Al n cl) n ys (by simp [Act.eval,Act.put]) (HAl1.out.drew.alloc _) ⟨w6.heap.size,0,none⟩ 1 1 [.string ⟨#[]⟩,.int .i64 0,.string ⟨#[]⟩,.string ⟨#[]⟩,.string ⟨#[]⟩,.slice none 0 0,.pointer none,.slice none 0 0] (by simp [Act.eval,Act.put]) rfl (new8 _ _) (by simp [Value.oneCell']) B1.out B2.out (by show B <= (w6.alloc _).heap.size; rw [World.size_alloc]; exact Nat.le_succ_of_le B3.out) (by decide) ?_; intro v' w' hown hgrow hwh; obtain ⟨gA,cA,rfl⟩ := own_some hown; have hZ := hown.1; have s0 := row_at0 hown (ys := ys) hAL.out _ rfl; have s1 := row_at hown (ys := ys) hAL.out 1 _ rfl; have s2 := row_at hown (ys := ys) hAL.out 2 _ rfl; have s3 := row_at hown (ys := ys) hAL.out 3 _ rfl; have s4 := row_at hown (ys := ys) hAL.out 4 _ rfl; have s5 := row_at hown (ys := ys) hAL.out 5 _ rfl; have s6 := row_at hown (ys := ys) hAL.out 6 _ rfl; have s7 := row_at hown (ys := ys) hAL.out 7 _ rfl; have sf := fun j => hown.frozenAt j; have s4' := hgrow.cell (a := ⟨g,o + 4,none⟩) (E4.out _) hNe.out; have ng := own_ne hwh hNe.out (hG2.out _); have ng2 := own_ne' hwh hNe.out (hG2.out _); have f4' := (World.frozen?_of_block (a := ⟨g,o + 4,none⟩) (hgrow.block g (hG2.out _) hNe.out)).trans (F4.out _); have hOwn := hid hown; have hGrow := hid hgrow; have hWh := hid hwh; clear hown hgrow hwh)
   all_goals (go_wp2_with fail; go_meet)
   all_goals first | with_reducible exact mid_a B3.out (Below.alloc (Below.refl _ _) (Nat.le_refl _) _).drew (by simp) HGr.out hBg HAl1.out hNe.out hGrow.out hOwn.out hWh.out ng | with_reducible exact mid_b B3.out (Below.alloc (Below.refl _ _) (Nat.le_refl _) _).drew (by simp) HGr.out hBg HAl1.out hNe.out hGrow.out hOwn.out hWh.out ng
  case rest =>
  have Hcut := hid hcut
  obtain ⟨_,⟨al',hm2,_,_⟩,_⟩ := hcut
  have k8 : wc.cell? ⟨g,o + 8,none⟩ = some c8 := by
   rw [cell_of_row wc g (o + 8) _ _ (0,0) hm2,Array.getElem?_setIfInBounds,if_neg (by omega),Array.getElem?_setIfInBounds,if_neg (by omega)]
   exact hc8
  have f8 : wc.frozen? ⟨g,o + 8,none⟩ = false := Lib.frozen_of_heap hm2 (o + 8)
  clear hm2
  go_wp2
  go_ret
  have hE := added_end (nv := Value.map none) (nv' := .map (some b2)) HB6.out HK6.out HGr.out hBg HAl1.out HNm6.out HNv.out Hcut.out
  exact ⟨rfl,hE.1,fun _ => hE.2⟩
  --END1
 case inr =>
  obtain ⟨D0,hD01,hD02,hD03⟩ := hN
  have hN : NamesAt w b2 n seen := ⟨D0,hD01,hD02,hD03⟩
  obtain ⟨z,hz⟩ : ∃ z,memB X seen = z := ⟨_,rfl⟩
  have hl0 : ∀ W,W.heap[b2]? = w.heap[b2]? -> (Instr.lookup 264 (.map (some b2)) (.string X) true).run Tryz.prog W = .ok (.tuple #[.agg #[],.bool z]) W := fun W hW => by
   obtain ⟨es,clock,h1,h2⟩ := hD01
   obtain ⟨v,ps,hrun,hv⟩ := World.ownsMap.look_ok (w := W) (zd := .agg []) (zp := []) ⟨es,clock,hW.trans h1,h2⟩ keyLaw Tryz.underlying264 (zeroUnit W) unitElem_mk hkey
   obtain ⟨rfl,_⟩ := unitElem_inv hv
   rw [hrun,hD02 X,hz]
  have hbl : b2 < w.heap.size := by obtain ⟨es,clock,h1,h2⟩ := hD01; exact (Array.getElem?_eq_some_iff.1 h1).1
  have hlook1 : ∀ o1,(Instr.lookup 264 (.map (some b2)) (.string X) true).run Tryz.prog (w.alloc o1).drew = .ok (.tuple #[.agg #[],.bool z]) (w.alloc o1).drew := fun o1 => hl0 _ (Lib.alloc_old _ _ b2 hbl)
  have hlook2 : ∀ o1 o2,(Instr.lookup 264 (.map (some b2)) (.string X) true).run Tryz.prog ((w.alloc o1).alloc o2).drew = .ok (.tuple #[.agg #[],.bool z]) ((w.alloc o1).alloc o2).drew := fun o1 o2 => hl0 _ ((Lib.alloc_old _ _ b2 (by rw [World.size_alloc]; omega)).trans (Lib.alloc_old _ _ b2 hbl))
  have heq : ∀ W,(binOp .eql 264 (.map (some b2)) (.map none)).run Tryz.prog W = .ok (.bool false) W := fun W => run_eql_map_nil W _ _ _ (some b2) Tryz.underlying264
  have HKey := hid hkey
  have HN := hid hN
  have Hz := hid hz
  rw [hz]
  clear hkey hN hz hl0 hD01 hD02 hD03
  cases z
  case true =>
   go_enter Tryz.func266,Tryz.ntmps266
   go_wp2_with fail
   go_region
   go_wp2
   go_ret
   exact ⟨rfl,(((Below.refl B w).alloc hBw _).alloc (by rw [World.size_alloc]; omega) _).drew,fun h => by cases h⟩
  go_enter Tryz.func266,Tryz.ntmps266
  go_wp2_with fail
  go_region
  generalize hW1 : World.drew _ = W2
  have hb1 : Below w.heap.size w W2 := by
   rw [<- hW1]
   exact (((Below.refl _ w).alloc (Nat.le_refl _) _).alloc (by simp) _).drew
  have hbx2 : BoxAt W2 w.heap.size #[.string X,.int .i64 k,.string t,.string nn,.string a,.slice A1 n1 c1,.pointer p,.slice A2 n2 c2] 127 := by
   rw [<- hW1]
   exact (BoxAt.new w _ _).alloc _
  clear hW1
  have hg2 : W2.heap[g]? = some (.cells (cs.setIfInBounds (o + 7) (.map (some b2))) 369 (0,0)) := by
   rw [hset]
   exact (hb1.block g hgl).trans HG.out
  have e7 : W2.cell? ⟨g,o + 7,none⟩ = some (.map (some b2)) := (hb1.cell (p := ⟨g,o + 7,none⟩) hgl).trans d7
  have q0 := hbx2.cell 0
  simp at q0
  have hb2 : Below B w W2 := hb1.mono hBw
  have hk2 : ∀ k,k < w.heap.size -> k ≠ g -> W2.heap[k]? = w.heap[k]? := fun k hk _ => hb1.block k hk
  have hal2 : W2.ownsRow B 127 8 (.slice Al n cl) n ys := row_blocks HAl.out fun bb hbb => hb1.block bb (HAl.out.lt bb hbb).2
  have hN2 : NamesAt W2 b2 n seen := HN.out.later hb1
  have hnb := hb
  have hnv : (Value.map (some b2)) = Value.map (some b2) ∨ ∃ b',Value.map (some b2) = .map (some b') /\ w.heap.size <= b' := .inl rfl
  have hsz2 : w.heap.size < W2.heap.size := hbx2.lt
  have hzM : memB X seen = false := Hz.out
  have hkb : ∀ k,k < w.heap.size -> Value.map (some b2) ≠ .map (some k) -> k ≠ b2 := fun k _ h e => h (by rw [e])
  go_wp2_with fail
  --TAIL2
  have hgl2 := (Array.getElem?_eq_some_iff.1 hg2).1
  have hmp := owns_map hN2.choose_spec.1
  obtain ⟨D,hD1,hD2,hD3⟩ := hN2
  have e7' : W2.cell? ⟨g,o + 7,none⟩ = some (.map (some b2)) := by
   rw [cell_of_row W2 g (o + 7) _ _ (0,0) hg2,Array.getElem?_setIfInBounds,if_pos rfl,if_pos (by omega)]
  have qX := hbx2.cell 0
  simp at qX
  have him : n < maxLen := by unfold maxLen; omega
  have HD1 := hid hD1
  have HD2 := hid hD2
  have HD3 := hid hD3
  have HIm := hid him
  have HG2 := hid hg2
  have HBx2 := hid hbx2
  have HMp := hid hmp
  have HAl2 := hid hal2
  have HB2 := hid hb2
  have HK2 := hid hk2
  have HKB := hid hkb
  have HNv := hid hnv
  have HZM := hid hzM
  have Hsz2 := hid hsz2
  have Hnb := hid hnb
  clear hD1 hD2 hD3 him hg2 hbx2 hmp hal2 hb2 hk2 hkb hnv hzM hsz2 hnb
  go_still_tail 7,(by kernel_rfl)
  change wpList _ _ _ _ _ W2.drew
  go_wp2_with (at_mapUpdate; refine wpList_mapUpdate_own _ rfl _ _ _ 264 rfl 9 148 keyLaw Tryz.underlying264 (unitElem (H := Unit)) b2 n D rfl HD1.out.drew HIm.out _ _ _ rfl rfl HKey.out _ [] unitElem_mk ?_; intro w6 hown6 hg6; skip)
  have hput := names_put (HD1.out.tidy keyLaw) HD2.out HD3.out X HZM.out (.agg [])
  have hgr : w6.heap[g]? = some (.cells (cs.setIfInBounds (o + 7) (.map (some b2))) 369 (0,0)) := grown_cells hg6 HMp.out HG2.out
  have hbox : BoxAt w6 w.heap.size #[.string X,.int .i64 k,.string t,.string nn,.string a,.slice A1 n1 c1,.pointer p,.slice A2 n2 c2] 127 := grown_cells hg6 HMp.out HBx2.out
  have hb6 : Below B w w6 := HB2.out.drew.grown hg6 (Nat.le_trans hBw HB2.out.size) (fun kk e => by have := Option.some.inj e; have := Hnb.out; omega)
  have hk6 : ∀ k,k < w.heap.size -> k ≠ g -> Value.map (some b2) ≠ .map (some k) -> w6.heap[k]? = w.heap[k]? := fun k h1 h2 h3 => by
   rw [hg6.block k (show k < W2.heap.size from Nat.lt_trans h1 Hsz2.out) (fun e => HKB.out k h1 h3 (Option.some.inj e))]
   exact HK2.out k h1 h2
  have hal6 : w6.ownsRow B 127 8 (.slice Al n cl) n ys := row_blocks HAl2.out fun b hb => hg6.block b (show b < W2.heap.size from (HAl2.out.lt b hb).2) (fun e => by
   obtain ⟨c0,t0,fz,hh⟩ := own_cells HAl2.out hb
   obtain ⟨es,c,hm⟩ := HMp.out
   have := Option.some.inj e
   subst this
   rw [hm] at hh; cases hh)
  have hnm6 : NmOk B w6 (.map (some b2)) (X :: seen) (n + 1) := .inr ⟨b2,rfl,Hnb.out,by simp,D.put (.string X.data.toList) (.agg []),hown6,hput.1,hput.2⟩
  have hbl := hbox.lt
  have hg6l := (Array.getElem?_eq_some_iff.1 hgr).1
  have e4 : w6.cell? ⟨g,o + 4,none⟩ = some (.slice Al n cl) := by
   rw [cell_of_row w6 g (o + 4) _ _ (0,0) hgr,Array.getElem?_setIfInBounds,if_neg (by omega)]
   exact Hc4.out
  obtain ⟨q0,q1,q2,q3,q4,q5,q6,q7,p0,p1,p2,p3,p4,p5,p6,p7⟩ := cells8 hbox
  have HGr := hid hgr
  have HB6 := hid hb6
  have HK6 := hid hk6
  have HAl1 := hid hal6
  have HNm6 := hid hnm6
  clear hput hgr hbox hb6 hk6 hal6 hnm6 hown6 hg6 qX e7' hgl2
  have hn0 : (n : Int) <= 1000000000 := by omega
  have fg : ∀ j,w6.frozen? ⟨g,j,none⟩ = false := fun j => Lib.frozen_of_heap HGr.out j
  have hAL := hid HAl1.out.1
  have hg1 : g < w6.heap.size := hg6l
  have E4 := hid (fun ob : Obj => (((Below.refl w6.heap.size w6).alloc (Nat.le_refl _) ob).cell (p := ⟨g,o + 4,none⟩) hg1).trans e4)
  have hG2 := hid (fun ob : Obj => show g < (w6.alloc ob).heap.size by rw [World.size_alloc]; omega)
  have F4 := hid (fun ob : Obj => (((Below.refl w6.heap.size w6).alloc (Nat.le_refl _) ob).frozen (p := ⟨g,o + 4,none⟩) hg1).trans (fg (o + 4)))
  have x1 : (n : Int) < (n : Int) + 1 := by omega
  have x2 : (n : Int) < ((n + 1 : Nat) : Int) := by omega
  have x3 : (0 : Int) <= (n : Int) := by omega
  have B1 := hid (show n + 1 <= maxLen by unfold maxLen; omega)
  have B2 := hid (show (n + 1) * 128 <= 140737488355328 by omega)
  have B3 := hid (show B <= w6.heap.size by omega)
  go_wp2_with fail
  dsimp only [Act.put]
  go_cut [] (fun wx => AddMid B g o (cs.setIfInBounds (o + 7) (.map (some b2))) (.slice Al n cl) n ys [.string X,.int .i64 k,.string t,.string nn,.string a,.slice A1 n1 c1,.pointer p,.slice A2 n2 c2] w6 wx)
  case first =>
   go_region_law (refine step_append_own rfl (.tmp 57) (.tmp 60) 45 rfl B 127 i0 (.agg #[.string ⟨#[]⟩,.int .i64 0,.string ⟨#[]⟩,.string ⟨#[]⟩,.string ⟨#[]⟩,.slice none 0 0,.pointer none,.slice none 0 0]) 8 128 Tryz.underlying45 hi0 hz0 hz1 hz2 rfl (by decide) (.slice Al n cl) n ys (by simp [Act.eval,Act.put]) (HAl1.out.drew.alloc _) ⟨w6.heap.size,0,none⟩ 1 1 [.string ⟨#[]⟩,.int .i64 0,.string ⟨#[]⟩,.string ⟨#[]⟩,.string ⟨#[]⟩,.slice none 0 0,.pointer none,.slice none 0 0] (by simp [Act.eval,Act.put]) rfl (new8 _ _) (by simp [Value.oneCell']) B1.out B2.out (by show B <= (w6.alloc _).heap.size; rw [World.size_alloc]; exact Nat.le_succ_of_le B3.out) (by decide) ?_; intro v' w' hown hgrow hwh; obtain ⟨gA,cA,rfl⟩ := own_some hown; have hZ := hown.1; have s0 := row_at0 hown (ys := ys) hAL.out _ rfl; have s1 := row_at hown (ys := ys) hAL.out 1 _ rfl; have s2 := row_at hown (ys := ys) hAL.out 2 _ rfl; have s3 := row_at hown (ys := ys) hAL.out 3 _ rfl; have s4 := row_at hown (ys := ys) hAL.out 4 _ rfl; have s5 := row_at hown (ys := ys) hAL.out 5 _ rfl; have s6 := row_at hown (ys := ys) hAL.out 6 _ rfl; have s7 := row_at hown (ys := ys) hAL.out 7 _ rfl; have sf := fun j => hown.frozenAt j; have s4' := hgrow.cell (a := ⟨g,o + 4,none⟩) (E4.out _) hNe.out; have ng := own_ne hwh hNe.out (hG2.out _); have ng2 := own_ne' hwh hNe.out (hG2.out _); have f4' := (World.frozen?_of_block (a := ⟨g,o + 4,none⟩) (hgrow.block g (hG2.out _) hNe.out)).trans (F4.out _); have hOwn := hid hown; have hGrow := hid hgrow; have hWh := hid hwh; clear hown hgrow hwh)
   all_goals (go_wp2_with fail; go_meet)
   all_goals first | with_reducible exact mid_a B3.out (Below.alloc (Below.refl _ _) (Nat.le_refl _) _).drew (by simp) HGr.out hBg HAl1.out hNe.out hGrow.out hOwn.out hWh.out ng | with_reducible exact mid_b B3.out (Below.alloc (Below.refl _ _) (Nat.le_refl _) _).drew (by simp) HGr.out hBg HAl1.out hNe.out hGrow.out hOwn.out hWh.out ng
  case rest =>
  have Hcut := hid hcut
  obtain ⟨_,⟨al',hm2,_,_⟩,_⟩ := hcut
  have k8 : wc.cell? ⟨g,o + 8,none⟩ = some c8 := by
   rw [cell_of_row wc g (o + 8) _ _ (0,0) hm2,Array.getElem?_setIfInBounds,if_neg (by omega),Array.getElem?_setIfInBounds,if_neg (by omega)]
   exact hc8
  have f8 : wc.frozen? ⟨g,o + 8,none⟩ = false := Lib.frozen_of_heap hm2 (o + 8)
  clear hm2
  go_wp2
  go_ret
  have hE := added_end (nv := Value.map (some b2)) (nv' := .map (some b2)) HB6.out HK6.out HGr.out hBg HAl1.out HNm6.out (.inl rfl) Hcut.out
  exact ⟨rfl,hE.1,fun _ => hE.2⟩
  --END2
theorem add_any {B g o : Nat} (cs : Array Value) (al nv : Value) (n : Nat) (ys : List Value) (seen : List ByteArray) (X : ByteArray) (k : Int) (t nn a : ByteArray) (A1 : Option Addr) (n1 c1 : Nat) (p : Option Addr) (A2 : Option Addr) (n2 c2 : Nat) (w : World)
  (hg : w.heap[g]? = some (.cells cs 369 (0,0))) (hBg : B <= g) (ho : o + 9 <= cs.size) (hc4 : cs[o + 4]? = some al) (hc7 : cs[o + 7]? = some nv) {c8 : Value} (hc8 : cs[o + 8]? = some c8) (hal : w.ownsRow B 127 8 al n ys) (hne : al.ownBlock ≠ some g) (hnm : NmOk B w nv seen n) (hn : n <= 1000000000) (hX : X.size <= 1000000000) (ho2 : o <= 100000000000) :
  Calls Tryz.prog 266 #[.pointer (some ⟨g,o,none⟩),arV X k t nn a A1 n1 c1 p A2 n2 c2] w fun e w' =>
   e = .returned (.bool (if emp X = true then decide (seen.length = 0) && !((k == 4) && !emp a) else !memB X seen)) /\ Below B w w' /\
   ((if emp X = true then decide (seen.length = 0) && !((k == 4) && !emp a) else !memB X seen) = true -> Added B g o cs al nv n ys (if emp X = true then seen else X :: seen) [.string X,.int .i64 k,.string t,.string nn,.string a,.slice A1 n1 c1,.pointer p,.slice A2 n2 c2] w w') := by
 by_cases h : emp X = true
 ·rw [if_pos h,if_pos h]
  exact add_empty cs al nv n ys seen X k t nn a A1 n1 c1 p A2 n2 c2 w hg hBg ho hc4 hc7 hc8 hal hne hnm hn hX ho2 h
 ·rw [if_neg h,if_neg h]
  exact add_named cs al nv n ys seen X k t nn a A1 n1 c1 p A2 n2 c2 w hg hBg ho hc4 hc7 hc8 hal hne hnm hn hX ho2 (by simpa using h)
end Go.Proofs.YtgdkpamlkpncgaaGreatDoor
