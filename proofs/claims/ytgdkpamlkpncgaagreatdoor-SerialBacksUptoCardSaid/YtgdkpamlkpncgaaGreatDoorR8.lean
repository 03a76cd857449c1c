/-
  Several texts put together (part 8): what the law and the program call, walked; their contracts.
-/
import Derived.Test.YtgdkpamlkpncgaaGreatDoorR4
import Derived.Test.YtgdkpamlkpncgaaGreatDoorR6
import Derived.Shelf.Strings.BuilderF
import Derived.Lib.FrozenHead2
import Derived.Lib.OthersKept
import Derived.Shelf.Strings.BuilderRune
import Derived.BigCall
import Derived.Laws.BitsLemmas
import Derived.OwnWalk
import Derived.Lib.Bytealg
import Derived.Lib.Strings
import Derived.LoopN
import Derived.Test.YtgdkpamlkpncgaaGreatDoorR7
import Derived.Lib.IndexAny
import Derived.Test.YtgdkpamlkpncgaaGreatDoorR3
import Derived.Laws.RangeAny
import Derived.Laws.RangeString
import Derived.Lib.TrimU
import Derived.WalkMore
import Derived.Deep.LoopGhost
import Derived.Deep.QuietTactic
import Derived.BigQuiet
namespace Go.Proofs.YtgdkpamlkpncgaaGreatDoor
open Go.RowKit
open _root_.Go.Lib (hid)
set_option linter.unusedVariables false
set_option linter.unusedSimpArgs false
theorem sizeBld : (Tryz.prog.info? 54).map (·.size) = some 2:=by kernel_rfl
theorem liesBld : liesAt Tryz.prog Tryz.prog.depth 54 (2 / Tryz.prog.cellsOf 54) 0 54 1 = true:=by kernel_rfl
theorem infoByte : (Tryz.prog.info? 5).map (fun i=>(i.zero,i.size,i.bytes)) = some (some (.int .u8 0),1,1):=by kernel_rfl
set_option maxHeartbeats 1000000 in
set_option maxRecDepth 100000 in
theorem bld_copyCheck_used (b : Nat) (w : World) (h0 : w.cell? ⟨b,0,none⟩ = some (.pointer (some ⟨b,0,none⟩))) :
  Calls Tryz.prog 85 #[.pointer (some ⟨b,0,none⟩)] w fun e w'=>e = .returned (.tuple #[]) /\ w = w':=by
 obtain ⟨j,hj,_⟩:=Option.map_eq_some_iff.1 sizeBld
 go_enter Tryz.func85,Tryz.ntmps85
 go_wp2
 rw [Lib.run_neq_ptr_same w _ Tryz.underlying52 hj]
 go_wp2
 go_end0
 exact ⟨rfl,rfl⟩
set_option maxHeartbeats 1000000 in
set_option maxRecDepth 100000 in
theorem bld_copyCheck_fresh (b : Nat) (w : World) (h0 : w.cell? ⟨b,0,none⟩ = some (.pointer none)) (hsh : w.shape? b = some (54,2)) (hfz : w.frozen? ⟨b,0,none⟩ = false) :
  Calls Tryz.prog 85 #[.pointer (some ⟨b,0,none⟩)] w fun e w'=>e = .returned (.tuple #[]) /\ w' = w.setCell ⟨b,0,none⟩ (.pointer (some ⟨b,0,none⟩)):=by
 obtain ⟨j,hj,hjs⟩:=Option.map_eq_some_iff.1 sizeBld
 go_enter Tryz.func85,Tryz.ntmps85
 go_wp2
 rw [Lib.run_to_unsafe w ⟨b,0,none⟩ Tryz.underlying52 Tryz.underlying227 hj (by rw [hjs]; decide) hsh (Nat.zero_lt_succ 1)]
 simp only [Result.andThen]
 rw [Oper.upon_value]
 go_wp2
 rw [run_callFunc_extern Tryz.func114 (by kernel_rfl) (by kernel_rfl) (by kernel_rfl) (e:=Extern.AbiNoEscape.same) (by kernel_rfl)]
 rw [Lib.run_noEscape]
 simp only [Result.andThen]
 rw [Oper.upon_value]
 go_wp2
 rw [Lib.run_from_unsafe w ⟨b,0,none⟩ Tryz.underlying227 Tryz.underlying52 hj hsh liesBld]
 simp only [Result.andThen]
 rw [Oper.upon_value]
 go_wp2
 go_end0
 exact ⟨rfl,rfl⟩
theorem bld_copyCheck (B b : Nat) (bs : List Value) (w : World) (h : Lib.IsBuilderF 54 5 B b bs w) :
  Calls Tryz.prog 85 #[.pointer (some ⟨b,0,none⟩)] w fun e w'=>e = .returned (.tuple #[]) /\ (Lib.BuilderAtF 54 5 B b (.pointer (some ⟨b,0,none⟩)) bs w' /\ Below B w w' /\ Lib.OthersKept 5 (some b) w w'):=by
 rcases h with h | h
 ·refine (bld_copyCheck_fresh b w h.cell0 h.shape h.frozen0).mono ?_
  rintro e w' ⟨rfl,rfl⟩
  exact ⟨rfl,h.used _,(Below.refl B w).setCell (p:=⟨b,0,none⟩) h.1 _,(Lib.OthersKept.refl _ _ w).setCell ⟨b,0,none⟩ rfl _⟩
 ·refine (bld_copyCheck_used b w h.cell0).mono ?_
  rintro e w' ⟨rfl,rfl⟩
  exact ⟨rfl,h,Below.refl B _,Lib.OthersKept.refl _ _ _⟩
set_option maxHeartbeats 2000000 in
set_option maxRecDepth 100000 in
theorem bld_WriteString (B b : Nat) (bs : List Value) (s : ByteArray) (w : World) (h : Lib.IsBuilderF 54 5 B b bs w) (hlen : bs.length + s.size <= 140737488355328) (hBw : B <= w.heap.size) :
  Calls Tryz.prog 57 #[.pointer (some ⟨b,0,none⟩),.string s] w fun e w'=>e = .returned (.tuple #[.int .i64 s.size,.nilIface]) /\ (Lib.BuilderAtF 54 5 B b (.pointer (some ⟨b,0,none⟩)) (bs ++ Lib.strCells s) w' /\ Below B w w' /\ Lib.OthersKept 5 (some b) w w'):=by
 obtain ⟨i0,hi,hz0,hz1,hz2⟩:=info_parts infoByte
 go_enter Tryz.func57,Tryz.ntmps57
 go_wp2_with (go_at_call 85; refine (bld_copyCheck B b bs _ h).mono ?_)
 rintro e w1 ⟨rfl,h1,hb1,hk1⟩
 obtain ⟨hB,v,hbk,hown,hne⟩:=h1
 have c0 : w1.cell? ⟨b,0,none⟩ = some (.pointer (some ⟨b,0,none⟩)):=by rw [Lib.cell_of_heap hbk]; rfl
 have c1 : w1.cell? ⟨b,1,none⟩ = some v:=by rw [Lib.cell_of_heap hbk]; rfl
 go_wp2_with (at_builtin; refine Lib.wpList_append_own_stringF _ rfl _ _ 41 9 rfl B 5 i0 Tryz.underlying41 Tryz.underlying9 hi hz0 hz1 hz2 _ _ _ rfl hown s rfl ?c3 ?c4 ?c5 ?_)
 case c3=>unfold maxLen; omega
 case c4=>omega
 case c5=>have:=hb1.size; omega
 intro v' w2 hown' hgrow _
 have hlt : b < w1.heap.size:=by
  rcases Nat.lt_or_ge b w1.heap.size with h' | h'
  ·exact h'
  ·simp [Array.getElem?_eq_none h'] at hbk
 have hb2 : w2.heap[b]? = some (.cells #[.pointer (some ⟨b,0,none⟩),v] 54 (0,0)):=by
  rw [hgrow.block b hlt (fun e=>hne e.symm)]
  exact hbk
 have d0 : w2.cell? ⟨b,0,none⟩ = some (.pointer (some ⟨b,0,none⟩)):=by rw [Lib.cell_of_heap hb2]; rfl
 have d1 : w2.cell? ⟨b,1,none⟩ = some v:=by rw [Lib.cell_of_heap hb2]; rfl
 have f1 : w2.frozen? ⟨b,1,none⟩ = false:=Lib.frozen_of_heap hb2 1
 obtain ⟨ao,n',cap,rfl⟩ : ∃ ao n' cap,v' = .slice ao n' cap:=by
  rcases hown'.2 with ⟨hv,_⟩ | ⟨g,cap,cur,fz,hv,_⟩
  ·exact ⟨_,_,_,hv⟩
  ·exact ⟨_,_,_,hv⟩
 go_wp2
 go_ret2
 refine ⟨rfl,?_,?_,(hk1.grown hgrow (Lib.ownsRowF_kind hown)).setCell ⟨b,1,none⟩ rfl _⟩
 ·exact Lib.BuilderAtF.put (T:=54) (e:=5) hB hb2 (bs':=bs ++ Lib.strCells s) (by simpa [Lib.strCells_length] using hown') (by decide)
 ·exact (hb1.grown hgrow (by have:=hb1.size; omega) (fun k hk=>(hown.lt k hk).1)).setCell (p:=⟨b,1,none⟩) hB _
def runeRen : Go.Shelf.Ren:=⟨fun | 242=>225 | 278=>255 | n=>n,fun | 72=>54 | 37=>41 | 21=>21 | 51=>151 | 4=>4 | 5=>5 | 46=>122 | n=>n,fun | n=>n⟩
theorem runeLays : Go.Proofs.Lays.n242 Tryz.prog runeRen:={
 mixed:=by kernel_rfl
 f242:=Tryz.func225.trans (congrArg some (by kernel_rfl))
 f278:=Tryz.func255.trans (congrArg some (by kernel_rfl))
 t4:=Tryz.underlying4
 a4:=Tryz.isAgg4
 z4:=Tryz.sizeOf4
 v4:=Tryz.zeroValue4
 t5:=Tryz.underlying5
 a5:=Tryz.isAgg5
 z5:=Tryz.sizeOf5
 v5:=Tryz.zeroValue5
 t21:=Tryz.underlying21
 a21:=Tryz.isAgg21
 z21:=Tryz.sizeOf21
 v21:=Tryz.zeroValue21
 t37:=Tryz.underlying41
 a37:=Tryz.isAgg41
 z37:=Tryz.sizeOf41
 v37:=Tryz.zeroValue41
 t46:=Tryz.underlying122
 a46:=Tryz.isAgg122
 z46:=Tryz.sizeOf122
 v46:=Tryz.zeroValue122
 t51:=Tryz.underlying151
 a51:=Tryz.isAgg151
 z51:=Tryz.sizeOf151
 v51:=Tryz.zeroValue151 }
theorem runeExtra : Builder.Extra Tryz.prog runeRen:={
 sizeBuilder:=by kernel_rfl
 liesBuilder:=by kernel_rfl
 t5:=Tryz.underlying5
 a5:=Tryz.isAgg5
 z5:=Tryz.sizeOf5
 v5:=Tryz.zeroValue5
 infoByte:=by kernel_rfl
 cellsByte:=by kernel_rfl
 sizeByte:=by kernel_rfl
 neB5:=by decide }
set_option maxHeartbeats 2000000 in
set_option maxRecDepth 100000 in
theorem bld_WriteRune (B b : Nat) (bs : List Value) (r : Int) (hr0 : -2147483648 <= r) (hr1 : r <= 2147483647) (w : World) (h : Lib.IsBuilderF 54 5 B b bs w) (hlen : bs.length + 4 <= 140737488355328) (hBw : B <= w.heap.size) :
  Calls Tryz.prog 195 #[.pointer (some ⟨b,0,none⟩),.int .i32 r] w fun e w'=>e = .returned (.tuple #[.int .i64 (Lib.runeCells r).length,.nilIface]) /\ (Lib.BuilderAtF 54 5 B b (.pointer (some ⟨b,0,none⟩)) (bs ++ Lib.runeCells r) w' /\ Below B w w' /\ Lib.OthersKept 5 (some b) w w'):=by
 have hk4:=Lib.runeCells_le r
 go_enter Tryz.func195,Tryz.ntmps195
 go_wp2_with (go_at_call 85; refine (bld_copyCheck B b bs _ h).mono ?_)
 rintro e w1 ⟨rfl,h1,hb1,hk1⟩
 obtain ⟨hB,v,hbk,hown,hne⟩:=h1
 obtain ⟨ao,cap,rfl⟩ : ∃ ao cap,v = .slice ao bs.length cap:=by
  rcases hown.2 with ⟨hv,h0⟩ | ⟨g,cap,cur,fz,hv,_⟩
  ·exact ⟨none,0,by rw [hv,h0]⟩
  ·exact ⟨_,_,hv⟩
 have c0 : w1.cell? ⟨b,0,none⟩ = some (.pointer (some ⟨b,0,none⟩)):=by rw [Lib.cell_of_heap hbk]; rfl
 have c1 : w1.cell? ⟨b,1,none⟩ = some (.slice ao bs.length cap):=by rw [Lib.cell_of_heap hbk]; rfl
 go_wp2_with (go_at_call 225; refine (Any.utf8_AppendRune_own runeLays runeExtra B _ bs.length bs r hr0 hr1 _ hown hlen (by have:=hb1.size; omega)).mono ?_)
 rintro e w2 ⟨v',rfl,hown',o,hgrow⟩
 have hlt : b < w1.heap.size:=by
  rcases Nat.lt_or_ge b w1.heap.size with h' | h'
  ·exact h'
  ·simp [Array.getElem?_eq_none h'] at hbk
 have hb2 : w2.heap[b]? = some (.cells #[.pointer (some ⟨b,0,none⟩),.slice ao bs.length cap] 54 (0,0)):=by
  rw [hgrow.block b (by simp; omega) (fun e=>hne e.symm),Lib.alloc_old w1 _ b hlt]
  exact hbk
 have d0 : w2.cell? ⟨b,0,none⟩ = some (.pointer (some ⟨b,0,none⟩)):=by rw [Lib.cell_of_heap hb2]; rfl
 have d1 : w2.cell? ⟨b,1,none⟩ = some (.slice ao bs.length cap):=by rw [Lib.cell_of_heap hb2]; rfl
 have f1 : w2.frozen? ⟨b,1,none⟩ = false:=Lib.frozen_of_heap hb2 1
 obtain ⟨g,cap',rfl⟩ : ∃ g cap',v' = .slice (some ⟨g,0,none⟩) (bs.length + (Lib.runeCells r).length) cap':=by
  rcases hown'.2 with ⟨_,h0⟩ | ⟨g,cap',cur,fz,hv,_⟩
  ·omega
  ·exact ⟨g,cap',hv⟩
 go_wp2
 go_ret2
 refine ⟨?_,?_,?_,((hk1.alloc _).grown hgrow (Lib.ownsRowF_kind (hown.alloc _))).setCell ⟨b,1,none⟩ rfl _⟩
 ·have e : ((bs.length : Int) + ((Lib.runeCells r).length : Int) - (bs.length : Int)) = ((Lib.runeCells r).length : Int):=by omega
  simp [e]
 ·exact Lib.BuilderAtF.put (T:=54) (e:=5) hB hb2 (bs':=bs ++ Lib.runeCells r) (by have hq : w2.ownsRowF B 5 1 _ _ _:=hown'; simpa using hq) (by decide)
 ·exact ((hb1.alloc (by have:=hb1.size; omega) _).grown hgrow (by have:=hb1.size; simp; omega) (fun k hk=>(hown.lt k hk).1)).setCell (p:=⟨b,1,none⟩) hB _
def hexV (c : UInt8) : Int × Bool :=
 if 48 <= c.toNat /\ c.toNat <= 57 then ((c.toNat : Int) - 48,true) else if 97 <= c.toNat /\ c.toNat <= 102 then ((c.toNat : Int) - 97 + 10,true) else if 65 <= c.toNat /\ c.toNat <= 70 then ((c.toNat : Int) - 65 + 10,true) else (0,false)
theorem hexV_range (c : UInt8) : 0 <= (hexV c).1 /\ (hexV c).1 <= 15:=by
 unfold hexV
 (repeat' split) <;> (dsimp only) <;> omega
set_option maxHeartbeats 1000000 in
theorem hexValue_any (c : UInt8) (w : World) : Calls Tryz.prog 373 #[.int .u8 (c.toNat : Int)] w fun e w'=>e = .returned (.tuple #[.int .i32 (hexV c).1,.bool (hexV c).2]) /\ w = w':=by
 have h256:=c.toNat_lt
 have hx : ((c.toNat : Int) < 48 /\ hexV c = (0,false)) ∨ (48 <= (c.toNat : Int) /\ (c.toNat : Int) <= 57 /\ hexV c = ((c.toNat : Int) - 48,true)) ∨ (58 <= (c.toNat : Int) /\ (c.toNat : Int) <= 64 /\ hexV c = (0,false)) ∨ (65 <= (c.toNat : Int) /\ (c.toNat : Int) <= 70 /\ hexV c = ((c.toNat : Int) - 65 + 10,true)) ∨ (71 <= (c.toNat : Int) /\ (c.toNat : Int) <= 96 /\ hexV c = (0,false)) ∨ (97 <= (c.toNat : Int) /\ (c.toNat : Int) <= 102 /\ hexV c = ((c.toNat : Int) - 97 + 10,true)) ∨ (103 <= (c.toNat : Int) /\ hexV c = (0,false)):=by
  unfold hexV
  by_cases h1 : 48 <= c.toNat /\ c.toNat <= 57
  ·rw [if_pos h1]; right; left; exact ⟨by omega,by omega,rfl⟩
  ·rw [if_neg h1]
   by_cases h2 : 97 <= c.toNat /\ c.toNat <= 102
   ·rw [if_pos h2]; right; right; right; right; right; left; exact ⟨by omega,by omega,rfl⟩
   ·rw [if_neg h2]
    by_cases h3 : 65 <= c.toNat /\ c.toNat <= 70
    ·rw [if_pos h3]; right; right; right; left; exact ⟨by omega,by omega,rfl⟩
    ·rw [if_neg h3]
     by_cases a1 : c.toNat < 48
     ·left; exact ⟨by omega,rfl⟩
     ·by_cases a2 : c.toNat <= 64
      ·right; right; left; exact ⟨by omega,by omega,rfl⟩
      ·by_cases a3 : c.toNat <= 96
       ·right; right; right; right; left; exact ⟨by omega,by omega,rfl⟩
       ·right; right; right; right; right; right; exact ⟨by omega,rfl⟩
 generalize hexV c = v at *
 rcases hx with ⟨h1,rfl⟩ | ⟨h1,h2,rfl⟩ | ⟨h1,h2,rfl⟩ | ⟨h1,h2,rfl⟩ | ⟨h1,h2,rfl⟩ | ⟨h1,h2,rfl⟩ | ⟨h1,rfl⟩
 all_goals
  go_enter Tryz.func373,Tryz.ntmps373
  go_wp2
  go_ret2
  exact ⟨rfl,rfl⟩
def hexN (l : List UInt8) : Int:=l.foldl (fun n c=>16 * n + (hexV c).1) 0
theorem hexN_snoc (l : List UInt8) (c : UInt8) : hexN (l ++ [c]) = 16 * hexN l + (hexV c).1:=by
 unfold hexN
 rw [List.foldl_append]
 rfl
theorem hexN_range (l : List UInt8) : ∀ j,j <= l.length -> 0 <= hexN (l.take j) /\ hexN (l.take j) < ((16 ^ j : Nat) : Int)
 | 0,_=>⟨by simp [hexN],by simp [hexN]⟩
 | j + 1,h=>by
  have ih:=hexN_range l j (by omega)
  have:=hexV_range (l[j]'(by omega))
  rw [List.take_succ_eq_append_getElem (by omega),hexN_snoc,Nat.pow_succ,Int.natCast_mul]
  omega
theorem hexV_take_succ (l : List UInt8) (j : Nat) (hj : j < l.length) : hexN (l.take (j + 1)) = 16 * hexN (l.take j) + (hexV l[j]).1:=by
 rw [List.take_succ_eq_append_getElem hj,hexN_snoc]
theorem hexOk_take_succ (l : List UInt8) (j : Nat) (hj : j < l.length) : (l.take (j + 1)).all (fun c=>(hexV c).2) = ((l.take j).all (fun c=>(hexV c).2) && (hexV l[j]).2):=by
 rw [List.take_succ_eq_append_getElem hj,List.all_append]
 simp
theorem or_sixteen (n v : Int) (h0 : 0 <= n) (h1 : n < 16777216) (v0 : 0 <= v) (v1 : v < 16) : bits BinOp.or IntKind.i32 (n * 16) v = 16 * n + v:=by
 rw [bits_join .i32 31 (by decide) wraps_i32 4 (n * 16) v (by omega) (by omega) (by omega) v0 (by omega) (by omega)]
 omega
def runeOk (n : Int) : Int:=if Lib.validRune n = true then n else 65533
def numV (l : List UInt8) (d : Nat) : Int × Nat:=if 2 + d <= l.length /\ ((l.drop 2).take d).all (fun c=>(hexV c).2) = true then (runeOk (hexN ((l.drop 2).take d)),2 + d) else (0,0)
set_option maxHeartbeats 2000000 in
set_option maxRecDepth 100000 in
theorem numbered_any (s : ByteArray) (d : Nat) (hd : d <= 6) (w : World) (hs : s.size <= 1000000000) : Calls Tryz.prog 358 #[.string s,.int .i64 d] w fun e w'=>e = .returned (.tuple #[.int .i32 (numV s.data.toList d).1,.int .i64 (numV s.data.toList d).2]) /\ w = w':=by
 by_cases hlen : (s.size : Int) < 2 + d
 ·have hv : numV s.data.toList d = (0,0):=by
   unfold numV
   rw [if_neg (by rw [size_data]; omega)]
  rw [hv]
  go_enter Tryz.func358,Tryz.ntmps358
  go_wp2
  go_ret2
  exact ⟨rfl,rfl⟩
 ·have hql : ((s.data.toList.drop 2).take d).length = d:=by rw [List.length_take,List.length_drop,size_data]; omega
  have hqa : ∀ j (_ : j < d) (hb : 2 + j < s.size),((s.data.toList.drop 2).take d)[j]? = some (s[2 + j]'hb):=by
   intro j hj hb
   rw [List.getElem?_take_of_lt hj,List.getElem?_drop,List.getElem?_eq_getElem (by rw [size_data]; omega)]
   rfl
  have hnum : numV s.data.toList d = if ((s.data.toList.drop 2).take d).all (fun c=>(hexV c).2) = true then (runeOk (hexN ((s.data.toList.drop 2).take d)),2 + d) else (0,0):=by
   unfold numV
   by_cases hall : ((s.data.toList.drop 2).take d).all (fun c=>(hexV c).2) = true
   ·rw [if_pos ⟨by rw [size_data]; omega,hall⟩,if_pos hall]
   ·rw [if_neg (fun h=>hall h.2),if_neg hall]
  generalize numV s.data.toList d = r at *
  generalize (s.data.toList.drop 2).take d = q at *
  have Hnum:=hid hnum
  clear hnum
  have Hql:=hid hql
  have Hqa:=hid hqa
  clear hql hqa
  go_enter Tryz.func358,Tryz.ntmps358
  go_wp2
  go_loop [7,18] (fun n i=>∃ (j : Nat) (z : Int),j <= d /\ n = .int .i32 z /\ i = .int .i64 j /\ Hid (z = hexN (q.take j)) /\ Hid ((q.take j).all (fun c=>(hexV c).2) = true)) (fun _ i=>d - (intOf i).toNat)
  case atStart=>exact ⟨0,0,Nat.zero_le _,rfl,rfl,rfl,rfl⟩
  case round =>
   obtain ⟨j,n,hj,rfl,rfl,hn,hok⟩:=hrel
   by_cases hlt : j < d
   ·have hr:=hexN_range q j (by rw [Hql.out]; omega)
    have hjl : j < q.length:=by rw [Hql.out]; exact hlt
    have hq : q[j] = s[2 + j]'(by omega):=by
     have:=Hqa.out j hlt (by omega)
     rw [List.getElem?_eq_getElem hjl] at this
     exact Option.some.inj this
    have h1:=hexV_take_succ q j hjl
    have h2:=hexOk_take_succ q j hjl
    rw [hq] at h1 h2
    rw [hok.out,Bool.true_and] at h2
    have hvr:=hexV_range (s[2 + j]'(by omega))
    have hp : (16 ^ j : Nat) <= 16 ^ 5:=Nat.pow_le_pow_right (by decide) (by omega)
    have hr1:=hr.1
    have hr2 : hexN (q.take j) < 1048576:=by
     have : (16 ^ 5 : Nat) = 1048576:=by decide
     omega
    have hi0 : (0 : Int) <= 2 + (j : Int):=by omega
    have hi1 : 2 + (j : Int) < s.size:=by omega
    have hi2 : (2 + (j : Int)).toNat = 2 + j:=by omega
    have H1:=hid h1
    have H2:=hid h2
    have hv0:=hvr.1
    have hv1:=hvr.2
    clear hq hr hjl h1 h2 hvr hp
    have hcall:=fun W=>hexValue_any (s[2 + j]'(by omega)) W
    rw [<- hn.out] at hr1 hr2
    generalize hx : hexV (s[2 + j]'(by omega)) = hv at *
    obtain ⟨v,ok⟩:=hv
    have Hx:=hid hx
    clear hx
    dsimp only at hv0 hv1 hcall
    cases ok
    ·go_wp2_with fail
     go_at_call 373
     refine (hcall _).mono ?_
     rintro e w2 ⟨rfl,rfl⟩
     go_wp2
     go_ret2
     have hall : ¬ q.all (fun c=>(hexV c).2) = true:=by
      intro h
      have h3 : (q.take (j + 1)).all (fun c=>(hexV c).2) = true:=List.all_eq_true.2 (fun c hc=>List.all_eq_true.1 h c (List.mem_of_mem_take hc))
      rw [H2.out] at h3
      exact absurd h3 (by decide)
     have hr0:=Hnum.out
     rw [if_neg hall] at hr0
     rw [hr0]
     exact ⟨rfl,rfl⟩
    ·go_wp2_with fail
     go_at_call 373
     refine (hcall _).mono ?_
     rintro e w2 ⟨rfl,rfl⟩
     have hor:=or_sixteen n v hr1 (by omega) hv0 (by omega)
     go_wp2
     go_round
     case rel=>exact ⟨j + 1,_,by omega,rfl,by go_num,by show _ = _; rw [H1.out,hn.out],H2.out⟩
     case measure=>simp [intOf]; omega
   ·obtain rfl : j = d:=by omega
    have hqt : q.take j = q:=List.take_of_length_le (by rw [Hql.out]; exact Nat.le_refl _)
    rw [hqt] at hok
    have hn':=hn.out
    rw [hqt] at hn'
    have hr:=hexN_range q j (by rw [Hql.out]; exact Nat.le_refl _)
    rw [hqt,<- hn'] at hr
    have hr0:=Hnum.out
    rw [if_pos hok.out,<- hn'] at hr0
    unfold runeOk at hr0
    clear hqt hn' Hnum hok hn
    by_cases hv : Lib.validRune n = true
    ·rw [if_pos hv] at hr0
     subst hr0
     go_wp2_with fail
     go_at_call 235
     refine (Tryz.utf8_ValidRune _ _).mono ?_
     rintro e w2 ⟨rfl,rfl⟩
     go_wp2
     go_ret2
     exact ⟨by simp,rfl⟩
    ·rw [if_neg hv] at hr0
     subst hr0
     have hvf : Lib.validRune n = false:=by simpa using hv
     go_wp2_with fail
     go_at_call 235
     refine (Tryz.utf8_ValidRune _ _).mono ?_
     rintro e w2 ⟨rfl,rfl⟩
     go_wp2
     go_ret2
     exact ⟨by simp,rfl⟩
theorem width_pos (s : ByteArray) (pos : Nat) (h : pos < s.size) : 1 <= (Utf8.decode s pos).2:=by
 by_cases ha : (s[pos]'h).toNat < 128
 ·rw [decode_ascii s pos h ha]
  exact Nat.le_refl _
 ·exact (decode_high s pos h (by omega)).2
def escV (l : List UInt8) : Int × Nat :=
 if l.length < 2 then (0,0)
 else if l.getD 1 0 = 34 ∨ l.getD 1 0 = 92 then (((l.getD 1 0).toNat : Int),2)
 else if l.getD 1 0 = 117 then numV l 4
 else if l.getD 1 0 = 85 then numV l 6
 else (0,0)
theorem runeOk_range (n : Int) (h0 : 0 <= n) (h1 : n < 2147483648) : 0 <= runeOk n /\ runeOk n < 2147483648:=by
 unfold runeOk
 split <;> omega
theorem numV_range (l : List UInt8) (d : Nat) (hd : d <= 6) : 0 <= (numV l d).1 /\ (numV l d).1 < 2147483648 /\ (numV l d).2 <= l.length:=by
 unfold numV
 split
 ·rename_i h
  have hl : ((l.drop 2).take d).length = d:=by rw [List.length_take,List.length_drop]; omega
  have hr:=hexN_range ((l.drop 2).take d) d (by omega)
  rw [List.take_of_length_le (by omega)] at hr
  have hp : (16 ^ d : Nat) <= 16 ^ 6:=Nat.pow_le_pow_right (by decide) hd
  have he : (16 ^ 6 : Nat) = 16777216:=by decide
  have:=runeOk_range (hexN ((l.drop 2).take d)) hr.1 (by omega)
  exact ⟨this.1,this.2,h.1⟩
 ·exact ⟨Int.le_refl _,by decide,Nat.zero_le _⟩
theorem escV_range (l : List UInt8) : 0 <= (escV l).1 /\ (escV l).1 < 2147483648 /\ (escV l).2 <= l.length:=by
 unfold escV
 split
 ·exact ⟨Int.le_refl _,by decide,Nat.zero_le _⟩
 ·split
  ·have:=(l.getD 1 0).toNat_lt
   exact ⟨by dsimp only; omega,by dsimp only; omega,by dsimp only; omega⟩
  ·split
   ·exact numV_range l 4 (by decide)
   ·split
    ·exact numV_range l 6 (by decide)
    ·exact ⟨Int.le_refl _,by decide,Nat.zero_le _⟩
set_option maxHeartbeats 1000000 in
theorem escaped_any (s : ByteArray) (w : World) (hs : s.size <= 1000000000) : Calls Tryz.prog 337 #[.string s] w fun e w'=>e = .returned (.tuple #[.int .i32 (escV s.data.toList).1,.int .i64 (escV s.data.toList).2]) /\ w = w':=by
 by_cases h2 : s.size < 2
 ·have hv : escV s.data.toList = (0,0):=by unfold escV; rw [if_pos (by rw [size_data]; exact h2)]
  rw [hv]
  go_enter Tryz.func337,Tryz.ntmps337
  go_wp2
  go_ret2
  exact ⟨rfl,rfl⟩
 ·have hlt : 1 < s.size:=by omega
  have hg : s.data.toList.getD 1 0 = s[1]:=by
   rw [List.getD_eq_getElem?_getD,List.getElem?_eq_getElem (by rw [size_data]; exact hlt),Option.getD_some]
   rfl
  have hv : escV s.data.toList = if s[1] = 34 ∨ s[1] = 92 then ((s[1].toNat : Int),2) else if s[1] = 117 then numV s.data.toList 4 else if s[1] = 85 then numV s.data.toList 6 else (0,0):=by
   unfold escV
   rw [if_neg (by rw [size_data]; exact h2),hg]
  rw [hv]
  clear hv hg
  have h256:=s[1].toNat_lt
  have inj : ∀ (b : UInt8),(s[1].toNat : Int) = (b.toNat : Int) -> s[1] = b:=fun b h=>UInt8.toNat_inj.mp (by omega)
  by_cases a1 : s[1] = 34
  ·have e1 : ((s[1].toNat : Int) == 34) = true:=by rw [a1]; rfl
   rw [if_pos (Or.inl a1)]
   clear inj a1
   go_enter Tryz.func337,Tryz.ntmps337
   go_wp2
   go_ret2
   exact ⟨rfl,rfl⟩
  have e1 : ((s[1].toNat : Int) == 34) = false:=by
   rw [beq_eq_false_iff_ne]; exact fun h=>a1 (inj 34 h)
  by_cases a2 : s[1] = 92
  ·have e2 : ((s[1].toNat : Int) == 92) = true:=by rw [a2]; rfl
   rw [if_pos (Or.inr a2)]
   clear inj a1 a2
   go_enter Tryz.func337,Tryz.ntmps337
   go_wp2
   go_ret2
   exact ⟨rfl,rfl⟩
  have e2 : ((s[1].toNat : Int) == 92) = false:=by
   rw [beq_eq_false_iff_ne]; exact fun h=>a2 (inj 92 h)
  rw [if_neg (by rintro (h | h); exact a1 h; exact a2 h)]
  by_cases a3 : s[1] = 117
  ·have e3 : ((s[1].toNat : Int) == 117) = true:=by rw [a3]; rfl
   rw [if_pos a3]
   clear inj a1 a2 a3
   have hcall:=fun W=>numbered_any s 4 (by decide) W hs
   generalize numV s.data.toList 4 = r at *
   go_enter Tryz.func337,Tryz.ntmps337
   go_wp2_with fail
   go_at_call 358
   refine (hcall _).mono ?_
   rintro e w2 ⟨rfl,rfl⟩
   go_wp2
   go_ret2
   exact ⟨rfl,rfl⟩
  have e3 : ((s[1].toNat : Int) == 117) = false:=by
   rw [beq_eq_false_iff_ne]; exact fun h=>a3 (inj 117 h)
  rw [if_neg a3]
  by_cases a4 : s[1] = 85
  ·have e4 : ((s[1].toNat : Int) == 85) = true:=by rw [a4]; rfl
   rw [if_pos a4]
   clear inj a1 a2 a3 a4
   have hcall:=fun W=>numbered_any s 6 (by decide) W hs
   generalize numV s.data.toList 6 = r at *
   go_enter Tryz.func337,Tryz.ntmps337
   go_wp2_with fail
   go_at_call 358
   refine (hcall _).mono ?_
   rintro e w2 ⟨rfl,rfl⟩
   go_wp2
   go_ret2
   exact ⟨rfl,rfl⟩
  have e4 : ((s[1].toNat : Int) == 85) = false:=by
   rw [beq_eq_false_iff_ne]; exact fun h=>a4 (inj 85 h)
  rw [if_neg a4]
  clear inj a1 a2 a3 a4
  go_enter Tryz.func337,Tryz.ntmps337
  go_wp2
  go_ret2
  exact ⟨rfl,rfl⟩
def unqFrom (s : ByteArray) : Nat -> Nat -> Nat -> List UInt8 -> Option (List UInt8 × Nat)
 | 0,_,_,_=>none
 | f + 1,pos,next,acc =>
  if pos < s.size then
   if pos < next then unqFrom s f (pos + (Utf8.decode s pos).2) next acc
   else if (Utf8.decode s pos).1 = 34 then some (acc,pos + 1)
   else if (Utf8.decode s pos).1 = 10 then none
   else if (Utf8.decode s pos).1 = 92 then
    if (escV (s.data.toList.drop pos)).2 = 0 then none
    else unqFrom s f (pos + (Utf8.decode s pos).2) (pos + (escV (s.data.toList.drop pos)).2) (acc ++ Lib.encodeRune (escV (s.data.toList.drop pos)).1)
   else unqFrom s f (pos + (Utf8.decode s pos).2) next (acc ++ Lib.encodeRune (Utf8.decode s pos).1)
  else none
def unqAll (s : ByteArray) : Option (List UInt8 × Nat):=if Lib.hasPrefix s.data.toList [34] = true then unqFrom s s.size 0 1 [] else none
def unqVal : Option (List UInt8 × Nat) -> Value
 | some (a,n)=>.tuple #[.string ⟨a.toArray⟩,.int .i64 n,.bool true]
 | none=>.tuple #[.string ⟨#[]⟩,.int .i64 0,.bool false]
theorem unqFrom_end (s : ByteArray) (f pos next : Nat) (acc : List UInt8) (h : ¬ pos < s.size) : unqFrom s f pos next acc = none:=by
 cases f with
 | zero=>rfl
 | succ f=>rw [unqFrom,if_neg h]
set_option maxHeartbeats 8000000 in
set_option maxRecDepth 1000000 in
theorem unquote_any (s : ByteArray) (w : World) (hs : s.size <= 1000000000) :
  Calls Tryz.prog 317 #[.string s] w fun e w'=>e = .returned (unqVal (unqAll s)) /\ Below w.heap.size w w':=by
 obtain ⟨r,hr⟩ : ∃ r,r = unqAll s:=⟨_,rfl⟩
 rw [<- hr]
 unfold unqAll at hr
 have hpre:=fun W=>Tryz.strings_HasPrefix s ⟨#[34]⟩ W
 have e34 : (⟨#[34]⟩ : ByteArray).data.toList = [34]:=rfl
 rw [e34] at hpre
 clear e34
 cases hp : Lib.hasPrefix s.data.toList [34]
 ·rw [hp] at hpre hr
  rw [if_neg (by decide)] at hr
  subst hr
  go_enter Tryz.func317,Tryz.ntmps317
  go_wp2_with fail
  go_at_call 65
  refine (hpre _).mono ?_
  rintro e w2 ⟨rfl,hw⟩
  rw [hw]
  clear hw
  go_wp2
  go_ret3
  exact ⟨rfl,Below.refl _ _⟩
 rw [hp] at hpre hr
 rw [if_pos rfl] at hr
 have Hr:=hid hr
 clear hr hp
 go_enter Tryz.func317,Tryz.ntmps317
 go_wp2_with fail
 go_at_call 65
 refine (hpre _).mono ?_
 rintro e w2 ⟨rfl,hw⟩
 rw [hw]
 clear hw hpre
 go_wp2
 go_loopw [6] (fun nx wr=>∃ (pos fuel next : Nat) (acc : List UInt8),nx = .int .i64 next /\ Lib.IsBuilderF 54 5 w.heap.size w.heap.size (Lib.byteCells acc) wr /\ wr.heap[w.heap.size + 1]? = some (.stringIter s pos) /\ Below w.heap.size w wr /\ Hid (unqFrom s fuel pos next acc = r) /\ Hid (s.size <= pos + fuel) /\ Hid (acc.length <= 4 * pos) /\ Hid (next <= s.size + 1)) (fun _ wr=>s.size - wr.iterPos (w.heap.size + 1))
 case atStart =>
  refine ⟨0,s.size,1,[],rfl,(Lib.IsBuilderF.of (Lib.fresh_isBuilder 54 5 w)).alloc _,?_,((Below.refl _ w).alloc (Nat.le_refl _) _).alloc (by simp) _,Hr.out.symm,by show s.size <= 0 + s.size; omega,by show 0 <= _; omega,by show 1 <= _; omega⟩
  have:=World.iter_heap (w.alloc (.cells #[.pointer none,.slice none 0 0] 54)) s 0
  simpa using this
 case round =>
  obtain ⟨pos,fuel,next,acc,rfl,hI,hit,hbw,Hacc,Hfu,Hal,Hnx⟩:=hrel
  have hsz : w.heap.size + 1 < wr.heap.size:=(Array.getElem?_eq_some_iff.1 hit).1
  clear Hr
  by_cases hp : pos < s.size
  ·have hnx : ∀ ty,(Instr.next (.pointer (some ⟨w.heap.size + 1,0,none⟩)) true ty).run Tryz.prog wr = _:=fun ty=>Lib.run_next_any_at wr (w.heap.size + 1) s pos ty hit hp
   have hwd:=width_pos s pos hp
   have hd1:=decode_le s pos
   have hI2:=hI.iterAt hit (pos + (Utf8.decode s pos).2)
   have hit2:=Lib.iterAt_heap wr (w.heap.size + 1) s pos (pos + (Utf8.decode s pos).2) hit
   have hbw2:=Lib.below_iterAt hbw (k:=w.heap.size + 1) (by omega) s (pos + (Utf8.decode s pos).2)
   have hsz2 : w.heap.size <= (wr.iterAt (w.heap.size + 1) s (pos + (Utf8.decode s pos).2)).heap.size:=by rw [Lib.iterAt_size]; omega
   obtain ⟨f,rfl⟩ : ∃ f,fuel = f + 1:=⟨fuel - 1,by have:=Hfu.out; omega⟩
   have hstep:=Hacc.out
   rw [unqFrom,if_pos hp] at hstep
   have Hit:=hid hit
   have Hnn:=Hnx.out
   clear Hacc hit hI
   by_cases hlt : pos < next
   ·rw [if_pos hlt] at hstep
    have Hstep:=hid hstep
    clear hstep
    have hlt' : (pos : Int) < next:=by omega
    go_wp2
    go_roundw
    case rel=>exact ⟨pos + (Utf8.decode s pos).2,f,next,acc,rfl,hI2,hit2,hbw2,Hstep.out,by have:=Hfu.out; show s.size <= _; omega,by have:=Hal.out; show _ <= _; omega,Hnx⟩
    case measure =>
     simp only [World.iterPos,hit2,Hit.out]
     omega
   rw [if_neg hlt] at hstep
   have hlt' : ¬ (pos : Int) < next:=by omega
   by_cases h34 : (Utf8.decode s pos).1 = 34
   ·rw [if_pos h34] at hstep
    subst hstep
    go_wp2_with fail
    go_at_call 22
    refine (Tryz.Builder_String_any_k w.heap.size w.heap.size acc _ hI2 hsz2).mono ?_
    rintro e W1 ⟨rfl,_,b1,_⟩
    go_wp2
    go_ret3
    exact ⟨rfl,hbw2.trans b1⟩
   rw [if_neg h34] at hstep
   by_cases h10 : (Utf8.decode s pos).1 = 10
   ·rw [if_pos h10] at hstep
    subst hstep
    go_wp2
    go_ret3
    exact ⟨rfl,hbw2⟩
   rw [if_neg h10] at hstep
   by_cases h92 : (Utf8.decode s pos).1 = 92
   ·rw [if_pos h92] at hstep
    have hes:=escV_range (s.data.toList.drop pos)
    have hcall:=fun W=>escaped_any (s.extract pos s.size) W (by simp; omega)
    have hed:=extract_drop s pos
    rw [hed] at hcall
    clear hed
    rw [List.length_drop,size_data] at hes
    generalize escV (s.data.toList.drop pos) = ev at *
    obtain ⟨sg,wd⟩:=ev
    dsimp only at hes hcall hstep
    obtain ⟨q0,q1,q2⟩:=hes
    by_cases hw0 : wd = 0
    ·subst hw0
     rw [if_pos rfl] at hstep
     subst hstep
     go_wp2_with fail
     go_at_call 337
     refine (hcall _).mono ?_
     rintro e W1 ⟨rfl,rfl⟩
     go_wp2
     go_ret3
     exact ⟨rfl,hbw2⟩
    ·rw [if_neg hw0] at hstep
     have Hstep:=hid hstep
     clear hstep
     have hwb : ((wd : Int) == 0) = false:=by rw [beq_eq_false_iff_ne]; omega
     clear hw0
     go_wp2_with fail
     go_at_call 337
     refine (hcall _).mono ?_
     rintro e W1 ⟨rfl,rfl⟩
     go_wp2_with fail
     go_at_call 195
     refine (bld_WriteRune w.heap.size w.heap.size _ _ (by omega) (by omega) _ hI2 (by rw [Lib.byteCells_length]; have:=Hal.out; omega) hsz2).mono ?_
     rintro e W2 ⟨rfl,h1,b1,k1⟩
     go_wp2
     go_roundw
     case rel =>
      have hl4:=(Lib.runeCells_le sg).2
      rw [Lib.runeCells_length] at hl4
      refine ⟨pos + (Utf8.decode s pos).2,f,pos + wd,acc ++ Lib.encodeRune sg,by go_num,?_,k1.iter hit2 (by omega),hbw2.trans b1,Hstep.out,by have:=Hfu.out; show s.size <= _; omega,by have:=Hal.out; show _ <= _; simp; omega,by show _ <= _; omega⟩
      rw [Lib.byteCells_append,Lib.byteCells_encodeRune]; exact Or.inr h1
     case measure =>
      simp only [World.iterPos,k1.iter hit2 (by omega),Hit.out]
      omega
   ·rw [if_neg h92] at hstep
    have Hstep:=hid hstep
    clear hstep
    go_wp2_with fail
    go_at_call 195
    refine (bld_WriteRune w.heap.size w.heap.size _ _ (by omega) (by omega) _ hI2 (by rw [Lib.byteCells_length]; have:=Hal.out; omega) hsz2).mono ?_
    rintro e W2 ⟨rfl,h1,b1,k1⟩
    go_wp2
    go_roundw
    case rel =>
     have hl4:=(Lib.runeCells_le ((Utf8.decode s pos).1 : Int)).2
     rw [Lib.runeCells_length] at hl4
     refine ⟨pos + (Utf8.decode s pos).2,f,next,acc ++ Lib.encodeRune (Utf8.decode s pos).1,rfl,?_,k1.iter hit2 (by omega),hbw2.trans b1,Hstep.out,by have:=Hfu.out; show s.size <= _; omega,by have:=Hal.out; show _ <= _; simp; omega,Hnx⟩
     rw [Lib.byteCells_append,Lib.byteCells_encodeRune]; exact Or.inr h1
    case measure =>
     simp only [World.iterPos,k1.iter hit2 (by omega),Hit.out]
     omega
  ·have hnx : ∀ ty,(Instr.next (.pointer (some ⟨w.heap.size + 1,0,none⟩)) true ty).run Tryz.prog wr = _:=fun ty=>Lib.run_next_end_at wr (w.heap.size + 1) s pos ty hit hp
   have hstep:=Hacc.out
   rw [unqFrom_end s fuel pos next acc hp] at hstep
   subst hstep
   go_wp2
   go_ret3
   exact ⟨rfl,hbw⟩
theorem Utf8Tabs.below {g3 g4 : Nat} {w w1 : World} (h : Lib.Utf8Tabs g3 g4 w) (hb : Below w.heap.size w w1) : Lib.Utf8Tabs g3 g4 w1:=by
 have lt : ∀ {b o : Nat} {v : Value},w.cell? ⟨b,o,none⟩ = some v -> b < w.heap.size:=fun hc=>World.block_lt_of_cell? w _ hc
 obtain ⟨h1,h2⟩:=h
 exact ⟨fun c hc=>by rw [(bcell hb).1 _ _ (lt (h1 c hc))]; exact h1 c hc,
  fun i hi=>⟨by rw [(bcell hb).1 _ _ (lt (h2 i hi).1)]; exact (h2 i hi).1,by rw [(bcell hb).1 _ _ (lt (h2 i hi).2)]; exact (h2 i hi).2⟩⟩
def TabU (w : World) : Prop:=Lib.Utf8Tabs 0 1 w
theorem TabU.below {w w1 : World} (h : TabU w) (hb : Below w.heap.size w w1) : TabU w1:=Utf8Tabs.below h hb
def nlB (c : UInt8) : Bool:=!(c == 10)
def lineI (l : List UInt8) (i : Int) : Int:=if 0 <= i /\ i < l.length then (behN nlB l i.toNat : Int) else i
theorem index_line : ∀ l : List UInt8,(Lib.indexByte l 10 = -1 /\ (l.takeWhile nlB).length = l.length) ∨ (0 <= Lib.indexByte l 10 /\ Lib.indexByte l 10 = ((l.takeWhile nlB).length : Int))
 | []=>.inl ⟨rfl,rfl⟩
 | c :: l=>by
  rw [List.takeWhile_cons,Lib.indexByte]
  by_cases h : c = 10
  ·subst h
   right
   exact ⟨by simp,by simp [nlB]⟩
  ·have h1 : (c == 10) = false:=by simpa using h
   have h2 : nlB c = true:=by simp [nlB,h1]
   rw [h1,h2]
   simp only [Bool.false_eq_true,if_false,if_true]
   rcases index_line l with ⟨a,b⟩ | ⟨a,b⟩
   ·left
    rw [a]
    exact ⟨by simp,by simp [b]⟩
   ·right
    have : (Lib.indexByte l 10 == -1) = false:=by simp; omega
    rw [this]
    simp only [Bool.false_eq_true,if_false,List.length_cons]
    omega
set_option maxHeartbeats 1000000 in
theorem line_any (s : ByteArray) (i : Int) (w : World) (hs : s.size <= 9223372036854775807) :
  Calls Tryz.prog 62 #[.string s,.int .i64 i] w fun e w'=>e = .returned (.int .i64 (lineI s.data.toList i)) /\ w = w':=by
 by_cases hin : 0 <= i /\ i < s.size
 ·obtain ⟨h0,h1⟩:=hin
  obtain ⟨j,rfl⟩ : ∃ j : Nat,i = (j : Int):=⟨i.toNat,by omega⟩
  have hj : j < s.size:=by omega
  have e : lineI s.data.toList (j : Int) = (behN nlB s.data.toList j : Int):=by
   unfold lineI
   rw [if_pos ⟨h0,by rw [size_data]; exact h1⟩,Int.toNat_natCast]
  have hx:=index_line (s.data.toList.drop j)
  have hI:=fun W=>Tryz.strings_IndexByte (s.extract j s.size) 10 W
  rw [extract_drop] at hI
  rw [show (10 : Int).toNat.toUInt8 = 10 from rfl] at hI
  unfold behN at e
  have hlen : (s.data.toList.drop j).length = s.size - j:=by rw [List.length_drop,size_data]
  have htl : ((s.data.toList.drop j).takeWhile nlB).length <= s.size - j:=by rw [<- hlen]; exact takeWhile_le _ _
  rw [hlen] at hx
  generalize Lib.indexByte (s.data.toList.drop j) 10 = n at *
  generalize ((s.data.toList.drop j).takeWhile nlB).length = m at *
  have E:=hid e
  have HI:=hid hI
  clear e hI hlen
  rcases hx with ⟨rfl,hm⟩ | ⟨hn,rfl⟩
  ·have Hm:=hid hm
   clear hm
   go_enter Tryz.func62,Tryz.ntmps62
   go_wp2_with (first | (go_at_call 89; refine (within_yes _ _ _ h0 h1).mono ?_; rintro e w' ⟨rfl,rfl⟩) | (go_at_call 90; refine (HI.out _).mono ?_; rintro e w' ⟨rfl,rfl⟩))
   go_ret
   exact ⟨ret_int (by rw [E.out,Hm.out]; omega),rfl⟩
  ·go_enter Tryz.func62,Tryz.ntmps62
   go_wp2_with (first | (go_at_call 89; refine (within_yes _ _ _ h0 h1).mono ?_; rintro e w' ⟨rfl,rfl⟩) | (go_at_call 90; refine (HI.out _).mono ?_; rintro e w' ⟨rfl,rfl⟩))
   go_ret
   exact ⟨ret_int (by rw [E.out]; omega),rfl⟩
 ·have e : lineI s.data.toList i = i:=by
   unfold lineI
   rw [if_neg]
   rw [size_data]
   exact hin
  have E:=hid e
  clear e
  go_enter Tryz.func62,Tryz.ntmps62
  go_wp2_with (go_at_call 89; refine (within_no _ _ _ (by omega)).mono ?_; rintro e w' ⟨rfl,rfl⟩)
  go_ret
  exact ⟨ret_int E.out.symm,rfl⟩
set_option maxHeartbeats 2000000 in
set_option maxRecDepth 100000 in
theorem bld_WriteByte (B b : Nat) (bs : List Value) (c : Int) (w : World) (h : Lib.IsBuilderF 54 5 B b bs w) (hlen : bs.length + 1 <= 140737488355328) (hBw : B <= w.heap.size) :
  Calls Tryz.prog 184 #[.pointer (some ⟨b,0,none⟩),.int .u8 c] w fun e w'=>e = .returned .nilIface /\ (Lib.BuilderAtF 54 5 B b (.pointer (some ⟨b,0,none⟩)) (bs ++ [.int .u8 c]) w' /\ Below B w w' /\ Lib.OthersKept 5 (some b) w w'):=by
 obtain ⟨i0,hi,hz0,hz1,hz2⟩:=info_parts infoByte
 go_enter Tryz.func184,Tryz.ntmps184
 go_wp2_with (go_at_call 85; refine (bld_copyCheck B b bs _ h).mono ?_)
 rintro e w1 ⟨rfl,h1,hb1,hk1⟩
 obtain ⟨hB,v,hbk,hown,hne⟩:=h1
 have c0 : w1.cell? ⟨b,0,none⟩ = some (.pointer (some ⟨b,0,none⟩)):=by rw [Lib.cell_of_heap hbk]; rfl
 have c1 : w1.cell? ⟨b,1,none⟩ = some v:=by rw [Lib.cell_of_heap hbk]; rfl
 go_wp2_with (at_builtin; refine wpList_append_ownF _ rfl _ _ 41 rfl B 5 i0 (.int .u8 0) 1 1 Tryz.underlying41 hi hz0 hz1 hz2 rfl (by decide) _ _ _ rfl (hown.alloc _) ⟨w1.heap.size,0,none⟩ 1 1 [.int .u8 c] rfl rfl ?c1 ?c2 ?c3 ?c4 ?c5 ?_)
 case c1 =>
  intro j u hj
  match j,hj with
  | 0,hj=>simp at hj; subst hj; simp [Addr.add]
 case c2=>intro u hu; simp at hu; subst hu; rfl
 case c3=>unfold maxLen; omega
 case c4=>omega
 case c5=>have:=hb1.size; simp; omega
 intro v' w2 hown' hgrow _
 have hlt : b < w1.heap.size:=by
  rcases Nat.lt_or_ge b w1.heap.size with h' | h'
  ·exact h'
  ·simp [Array.getElem?_eq_none h'] at hbk
 have hb2 : w2.heap[b]? = some (.cells #[.pointer (some ⟨b,0,none⟩),v] 54 (0,0)):=by
  rw [hgrow.block b (by simp; omega) (fun e=>hne e.symm),Lib.alloc_old w1 _ b hlt]
  exact hbk
 have d0 : w2.cell? ⟨b,0,none⟩ = some (.pointer (some ⟨b,0,none⟩)):=by rw [Lib.cell_of_heap hb2]; rfl
 have d1 : w2.cell? ⟨b,1,none⟩ = some v:=by rw [Lib.cell_of_heap hb2]; rfl
 have f1 : w2.frozen? ⟨b,1,none⟩ = false:=Lib.frozen_of_heap hb2 1
 obtain ⟨g,cap,rfl⟩ : ∃ g cap,v' = .slice (some ⟨g,0,none⟩) (bs.length + 1) cap:=by
  rcases hown'.2 with ⟨_,h0⟩ | ⟨g,cap,cur,fz,hv,_⟩
  ·omega
  ·exact ⟨g,cap,hv⟩
 go_wp2
 go_ret
 refine ⟨rfl,?_,?_,((hk1.alloc _).grown hgrow (Lib.ownsRowF_kind (hown.alloc _))).setCell ⟨b,1,none⟩ rfl _⟩
 ·exact Lib.BuilderAtF.put (T:=54) (e:=5) hB hb2 (bs':=bs ++ [.int .u8 c]) (by simpa using hown') (by decide)
 ·exact ((hb1.alloc (by have:=hb1.size; omega) _).grown hgrow (by have:=hb1.size; simp; omega) (fun k hk=>(hown.lt k hk).1)).setCell (p:=⟨b,1,none⟩) hB _
def hexC (n : Nat) : UInt8:=if n < 10 then UInt8.ofNat (48 + n) else UInt8.ofNat (55 + n)
def quoteR (r : Nat) : List UInt8 :=
 if r = 34 ∨ r = 92 then 92 :: Lib.encodeRune r
 else if r < 32 ∨ r = 127 then [92,117,48,48,hexC (r / 16),hexC (r % 16)]
 else Lib.encodeRune r
def quoteFrom (s : ByteArray) : Nat -> Nat -> List UInt8
 | 0,_=>[]
 | fuel + 1,pos=>if pos < s.size then quoteR (Utf8.decode s pos).1 ++ quoteFrom s fuel (pos + (Utf8.decode s pos).2) else []
def quoteAll (s : ByteArray) : List UInt8:=34 :: (quoteFrom s s.size 0 ++ [34])
theorem quoteFrom_end (s : ByteArray) (fuel pos : Nat) (h : ¬ pos < s.size) : quoteFrom s fuel pos = []:=by
 cases fuel with
 | zero=>rfl
 | succ f=>simp [quoteFrom,h]
theorem hexTab_at : ∀ i : Fin 16,(#[48,49,50,51,52,53,54,55,56,57,65,66,67,68,69,70] : Array UInt8)[i.val]'i.isLt = hexC i.val:=by decide
theorem hexIdx (x : Nat) (hx : x < 16) (h : x < (⟨#[48,49,50,51,52,53,54,55,56,57,65,66,67,68,69,70]⟩ : ByteArray).size) : (⟨#[48,49,50,51,52,53,54,55,56,57,65,66,67,68,69,70]⟩ : ByteArray)[x]'h = hexC x:=hexTab_at ⟨x,hx⟩
theorem and_fifteen (x : Nat) (h : x < 2147483648) : bits BinOp.and IntKind.i32 (x : Int) 15 = ((x % 16 : Nat) : Int):=by
 have:=bits_mask .i32 31 (by decide) wraps_i32 4 (by decide) (x : Int) (by omega) (by omega)
 rw [show ((15 : Int)) = 2 ^ 4 - 1 from by decide,this]
 omega
set_option maxHeartbeats 2000000 in
set_option maxRecDepth 100000 in
theorem writeNumber_any (B b : Nat) (bs : List Value) (r : Nat) (hr : r < 128) (w : World) (h : Lib.IsBuilderF 54 5 B b bs w) (hlen : bs.length + 6 <= 140737488355328) (hBw : B <= w.heap.size) :
  Calls Tryz.prog 290 #[.pointer (some ⟨b,0,none⟩),.int .i32 r] w fun e w'=>e = .returned (.tuple #[]) /\ (Lib.BuilderAtF 54 5 B b (.pointer (some ⟨b,0,none⟩)) (bs ++ Lib.byteCells [92,117,48,48,hexC (r / 16),hexC (r % 16)]) w' /\ Below B w w' /\ Lib.OthersKept 5 (some b) w w'):=by
 have e12 : bits BinOp.and IntKind.i32 ((r : Int) / 4096) 15 = 0:=by
  have h0 : (r : Int) / 4096 = ((0 : Nat) : Int):=by omega
  rw [h0]; exact and_fifteen 0 (by decide)
 have e8 : bits BinOp.and IntKind.i32 ((r : Int) / 256) 15 = 0:=by
  have h0 : (r : Int) / 256 = ((0 : Nat) : Int):=by omega
  rw [h0]; exact and_fifteen 0 (by decide)
 have e4 : bits BinOp.and IntKind.i32 ((r : Int) / 16) 15 = ((r / 16 : Nat) : Int):=by
  have h0 : (r : Int) / 16 = ((r / 16 : Nat) : Int):=by omega
  rw [h0,and_fifteen (r / 16) (by omega)]
  omega
 have e0 : bits BinOp.and IntKind.i32 (r : Int) 15 = ((r % 16 : Nat) : Int):=and_fifteen r (by omega)
 have y4 : r / 16 < 16:=by omega
 have y0 : r % 16 < 16:=by omega
 generalize hq4 : r / 16 = x4 at *
 generalize hq0 : r % 16 = x0 at *
 have Hq4:=hid hq4
 have Hq0:=hid hq0
 clear hq4 hq0
 go_enter Tryz.func290,Tryz.ntmps290
 go_wp2_with fail
 go_at_call 57
 refine (bld_WriteString B b bs ⟨#[92,117]⟩ _ h (by show bs.length + 2 <= _; omega) hBw).mono ?_
 rintro e w1 ⟨rfl,h1,b1,k1⟩
 have hl1 : (bs ++ Lib.strCells ⟨#[92,117]⟩).length = bs.length + 2:=by rw [List.length_append,Lib.strCells_length]; rfl
 have Hl1:=hid hl1
 have H1:=hid h1
 clear hl1 h1 h
 go_wp2
 refine wp_loop_rounds 5 ?_
 rw [rounds_succ]
 go_wp2_with fail
 simp only [hexIdx 0 (by decide)]
 go_at_call 184
 refine (bld_WriteByte B b _ _ _ (Or.inr H1.out) (by rw [Hl1.out]; omega) (by have:=b1.size; omega)).mono ?_
 rintro e w2 ⟨rfl,h2,b2,k2⟩
 have H2:=hid h2
 clear h2
 go_wp2
 rw [rounds_succ]
 go_wp2_with fail
 simp only [hexIdx 0 (by decide)]
 go_at_call 184
 refine (bld_WriteByte B b _ _ _ (Or.inr H2.out) (by simp only [List.length_append,Hl1.out,List.length_singleton]; omega) (by have:=b1.size; have:=b2.size; omega)).mono ?_
 rintro e w3 ⟨rfl,h3,b3,k3⟩
 have H3:=hid h3
 clear h3
 go_wp2
 rw [rounds_succ]
 go_wp2_with fail
 simp only [hexIdx x4 y4]
 go_at_call 184
 refine (bld_WriteByte B b _ _ _ (Or.inr H3.out) (by simp only [List.length_append,Hl1.out,List.length_singleton]; omega) (by have:=b1.size; have:=b2.size; have:=b3.size; omega)).mono ?_
 rintro e w4 ⟨rfl,h4,b4,k4⟩
 have H4:=hid h4
 clear h4
 go_wp2
 rw [rounds_succ]
 go_wp2_with fail
 simp only [hexIdx x0 y0]
 go_at_call 184
 refine (bld_WriteByte B b _ _ _ (Or.inr H4.out) (by simp only [List.length_append,Hl1.out,List.length_singleton]; omega) (by have:=b1.size; have:=b2.size; have:=b3.size; have:=b4.size; omega)).mono ?_
 rintro e w5 ⟨rfl,h5,b5,k5⟩
 have H5:=hid h5
 clear h5
 go_wp2
 rw [rounds_succ]
 go_wp2
 go_end0
 have hh:=H5.out
 rw [List.append_assoc,List.append_assoc,List.append_assoc,List.append_assoc] at hh
 exact ⟨rfl,hh,(((b1.trans b2).trans b3).trans b4).trans b5,(((k1.trans k2).trans k3).trans k4).trans k5⟩
theorem quoteR_length (r : Nat) : (quoteR r).length <= 6:=by
 unfold quoteR
 split
 ·have:=(Lib.runeCells_le (r : Int)).2
  rw [Lib.runeCells_length] at this
  rw [List.length_cons]; omega
 ·split
  ·exact Nat.le_refl _
  ·have:=(Lib.runeCells_le (r : Int)).2
   rw [Lib.runeCells_length] at this
   omega
theorem quoteFrom_length (s : ByteArray) : ∀ fuel pos,(quoteFrom s fuel pos).length <= 6 * (s.size - pos)
 | 0,_=>by simp [quoteFrom]
 | f + 1,pos=>by
  unfold quoteFrom
  by_cases hp : pos < s.size
  ·rw [if_pos hp,List.length_append]
   have ih:=quoteFrom_length s f (pos + (Utf8.decode s pos).2)
   have hw:=width_pos s pos hp
   have h4:=quoteR_length (Utf8.decode s pos).1
   omega
  ·rw [if_neg hp]; simp
set_option maxHeartbeats 8000000 in
set_option maxRecDepth 1000000 in
theorem quote_any (s : ByteArray) (w : World) (hs : s.size <= 4000000) :
  Calls Tryz.prog 262 #[.string s] w fun e w'=>e = .returned (.string ⟨(quoteAll s).toArray⟩) /\ Below w.heap.size w w':=by
 have hbk:=heap_alloc_new w (.cells #[.pointer none,.slice none 0 0] 54)
 have Hbk:=hid hbk
 clear hbk
 have hn2 : ((s.size : Int) + 2) = ((s.size + 2 : Nat) : Int):=by omega
 have Hn2:=hid hn2
 clear hn2
 go_enter Tryz.func262,Tryz.ntmps262
 go_wp2_with fail
 rw [Hn2.out]
 go_at_call 93
 refine (Tryz.Builder_Grow_fresh w.heap.size w.heap.size (s.size + 2) _ (Nat.le_refl _) Hbk.out (by simp) (by omega)).mono ?_
 rintro e w1 ⟨rfl,hI0,hb0⟩
 have hB0 : Below w.heap.size w w1:=((Below.refl _ _).alloc (Nat.le_refl _) _).trans hb0
 have hK0 : w.heap.size < w1.heap.size:=by have:=hb0.size; simp at this; omega
 clear hb0
 go_wp2_with fail
 go_at_call 184
 refine (bld_WriteByte w.heap.size w.heap.size [] _ _ (Lib.IsBuilderF.of (Or.inr hI0)) (by simp) (by omega)).mono ?_
 rintro e w2 ⟨rfl,hI1,hb1, -⟩
 have hB1:=hB0.trans hb1
 have hK : w.heap.size < w2.heap.size:=Nat.lt_of_lt_of_le hK0 hb1.size
 have HI1:=hid hI1
 have HB1:=hid hB1
 clear hI0 hI1 hB0 hB1 hb1 Hn2
 go_wp2
 go_loopw [] (fun wr=>∃ (pos fuel : Nat) (acc : List UInt8),Lib.IsBuilderF 54 5 w.heap.size w.heap.size (Lib.byteCells (34 :: acc)) wr /\ wr.heap[w2.heap.size]? = some (.stringIter s pos) /\ Below w.heap.size w wr /\ Hid (acc ++ quoteFrom s fuel pos = quoteFrom s s.size 0) /\ Hid (s.size <= pos + fuel) /\ Hid (acc.length <= 6 * pos)) (fun wr=>s.size - wr.iterPos w2.heap.size)
 case atStart =>
  refine ⟨0,s.size,[],Lib.IsBuilderF.alloc (Or.inr HI1.out) _,?_,HB1.out.alloc (by omega) _,rfl,by show s.size <= 0 + s.size; omega,by show 0 <= _; omega⟩
  exact World.iter_heap w2 s 0
 case round =>
  obtain ⟨pos,fuel,acc,hI,hit,hbw,Hacc,Hfu,Hal⟩:=hrel
  have hsz : w2.heap.size < wr.heap.size:=(Array.getElem?_eq_some_iff.1 hit).1
  clear HI1 HB1
  by_cases hp : pos < s.size
  ·have hnx : ∀ ty,(Instr.next (.pointer (some ⟨w2.heap.size,0,none⟩)) true ty).run Tryz.prog wr = _:=fun ty=>Lib.run_next_any_at wr w2.heap.size s pos ty hit hp
   have hwd:=width_pos s pos hp
   have hd1:=decode_le s pos
   have hI2:=hI.iterAt hit (pos + (Utf8.decode s pos).2)
   have hit2:=Lib.iterAt_heap wr w2.heap.size s pos (pos + (Utf8.decode s pos).2) hit
   have hbw2:=Lib.below_iterAt hbw (k:=w2.heap.size) (by omega) s (pos + (Utf8.decode s pos).2)
   have hsz2 : w.heap.size <= (wr.iterAt w2.heap.size s (pos + (Utf8.decode s pos).2)).heap.size:=by rw [Lib.iterAt_size]; omega
   obtain ⟨f,rfl⟩ : ∃ f,fuel = f + 1:=⟨fuel - 1,by have:=Hfu.out; omega⟩
   have hstep:=Hacc.out
   rw [quoteFrom,if_pos hp] at hstep
   have hq6:=quoteR_length (Utf8.decode s pos).1
   have Hq6:=hid hq6
   have hlen : (Lib.byteCells (34 :: acc)).length + 10 <= 140737488355328:=by rw [Lib.byteCells_length,List.length_cons]; have:=Hal.out; omega
   have Hlen:=hid hlen
   have Hit:=hid hit
   have Hstep:=hid hstep
   clear Hacc hit hI hq6 hlen hstep
   by_cases h1 : (Utf8.decode s pos).1 = 34 ∨ (Utf8.decode s pos).1 = 92
   ·have hqr : quoteR (Utf8.decode s pos).1 = 92 :: Lib.encodeRune (Utf8.decode s pos).1:=by unfold quoteR; rw [if_pos h1]
    have Hqr:=hid hqr
    clear hqr
    rcases h1 with h1 | h1
    all_goals
     go_wp2_with fail
     go_at_call 184
     refine (bld_WriteByte w.heap.size w.heap.size _ _ _ hI2 (by have:=Hlen.out; omega) hsz2).mono ?_
     rintro e W1 ⟨rfl,g1,b1,k1⟩
     have hsz3 : w.heap.size <= W1.heap.size:=Nat.le_trans hsz2 b1.size
     have G1:=hid g1
     clear g1
     go_wp2_with fail
     go_at_call 195
     refine (bld_WriteRune w.heap.size w.heap.size _ _ (by decide) (by decide) _ (Or.inr G1.out) (by simp only [List.length_append,List.length_singleton]; have:=Hlen.out; omega) hsz3).mono ?_
     rintro e W2 ⟨rfl,g2,b2,k2⟩
     have G2:=hid g2
     clear g2
     go_wp2
     go_roundw
     case rel =>
      refine ⟨pos + (Utf8.decode s pos).2,f,acc ++ quoteR (Utf8.decode s pos).1,Or.inr ?_,(k1.trans k2).iter hit2 (by omega),(hbw2.trans b1).trans b2,?_,by have:=Hfu.out; show s.size <= _; omega,by have:=Hal.out; have:=Hq6.out; show _ <= _; rw [List.length_append]; omega⟩
      ·have:=G2.out
       rw [Hqr.out,h1]
       rw [<- Lib.byteCells_encodeRune] at this
       simpa [Lib.byteCells] using this
      ·show _ = _
       rw [<- Hstep.out,List.append_assoc]
     case measure =>
      simp only [World.iterPos,(k1.trans k2).iter hit2 (by omega),Hit.out]
      omega
   by_cases h2 : (Utf8.decode s pos).1 < 32 ∨ (Utf8.decode s pos).1 = 127
   ·have hqr : quoteR (Utf8.decode s pos).1 = [92,117,48,48,hexC ((Utf8.decode s pos).1 / 16),hexC ((Utf8.decode s pos).1 % 16)]:=by unfold quoteR; rw [if_neg h1,if_pos h2]
    have Hqr:=hid hqr
    clear hqr
    have n34 : (((Utf8.decode s pos).1 : Int) == 34) = false:=by rw [beq_eq_false_iff_ne]; omega
    have n92 : (((Utf8.decode s pos).1 : Int) == 92) = false:=by rw [beq_eq_false_iff_ne]; omega
    have hc : (((Utf8.decode s pos).1 : Int) < 32) ∨ (¬ ((Utf8.decode s pos).1 : Int) < 32 /\ (((Utf8.decode s pos).1 : Int) == 127) = true):=by
     rcases h2 with h | h
     ·left; omega
     ·right; exact ⟨by omega,by rw [h]; rfl⟩
    have h128 : (Utf8.decode s pos).1 < 128:=by omega
    have H12:=hid h1
    clear h1 h2
    rcases hc with hc | ⟨hc,hc2⟩
    all_goals
     go_wp2_with fail
     go_at_call 290
     refine (writeNumber_any w.heap.size w.heap.size _ _ h128 _ hI2 (by have:=Hlen.out; omega) hsz2).mono ?_
     rintro e W1 ⟨rfl,g1,b1,k1⟩
     have G1:=hid g1
     clear g1
     go_wp2
     go_roundw
     case rel =>
      refine ⟨pos + (Utf8.decode s pos).2,f,acc ++ quoteR (Utf8.decode s pos).1,Or.inr ?_,k1.iter hit2 (by omega),hbw2.trans b1,?_,by have:=Hfu.out; show s.size <= _; omega,by have:=Hal.out; have:=Hq6.out; show _ <= _; rw [List.length_append]; omega⟩
      ·have:=G1.out
       rw [Hqr.out]
       simpa [Lib.byteCells] using this
      ·show _ = _
       rw [<- Hstep.out,List.append_assoc]
     case measure =>
      simp only [World.iterPos,k1.iter hit2 (by omega),Hit.out]
      omega
   ·have hqr : quoteR (Utf8.decode s pos).1 = Lib.encodeRune (Utf8.decode s pos).1:=by unfold quoteR; rw [if_neg h1,if_neg h2]
    have Hqr:=hid hqr
    clear hqr
    have n34 : (((Utf8.decode s pos).1 : Int) == 34) = false:=by rw [beq_eq_false_iff_ne]; omega
    have n92 : (((Utf8.decode s pos).1 : Int) == 92) = false:=by rw [beq_eq_false_iff_ne]; omega
    have n32 : ¬ ((Utf8.decode s pos).1 : Int) < 32:=by omega
    have n127 : (((Utf8.decode s pos).1 : Int) == 127) = false:=by rw [beq_eq_false_iff_ne]; omega
    clear h1 h2
    go_wp2_with fail
    go_at_call 195
    refine (bld_WriteRune w.heap.size w.heap.size _ _ (by omega) (by omega) _ hI2 (by have:=Hlen.out; omega) hsz2).mono ?_
    rintro e W1 ⟨rfl,g1,b1,k1⟩
    have G1:=hid g1
    clear g1
    go_wp2
    go_roundw
    case rel =>
     refine ⟨pos + (Utf8.decode s pos).2,f,acc ++ quoteR (Utf8.decode s pos).1,Or.inr ?_,k1.iter hit2 (by omega),hbw2.trans b1,?_,by have:=Hfu.out; show s.size <= _; omega,by have:=Hal.out; have:=Hq6.out; show _ <= _; rw [List.length_append]; omega⟩
     ·have:=G1.out
      rw [Hqr.out]
      rw [<- Lib.byteCells_encodeRune] at this
      simpa [Lib.byteCells] using this
     ·show _ = _
      rw [<- Hstep.out,List.append_assoc]
    case measure =>
     simp only [World.iterPos,k1.iter hit2 (by omega),Hit.out]
     omega
  ·have hnx : ∀ ty,(Instr.next (.pointer (some ⟨w2.heap.size,0,none⟩)) true ty).run Tryz.prog wr = _:=fun ty=>Lib.run_next_end_at wr w2.heap.size s pos ty hit hp
   have hstep:=Hacc.out
   rw [quoteFrom_end s fuel pos hp,List.append_nil] at hstep
   have hfin : acc = quoteFrom s s.size 0:=hstep
   have Hfin:=hid hfin
   clear hstep hfin Hacc
   go_wp2_with fail
   go_at_call 184
   refine (bld_WriteByte w.heap.size w.heap.size _ _ _ hI (by rw [Lib.byteCells_length,List.length_cons,Hfin.out]; have:=quoteFrom_length s s.size 0; omega) (by omega)).mono ?_
   rintro e W1 ⟨rfl,g1,b1, -⟩
   have hsz3 : w.heap.size <= W1.heap.size:=Nat.le_trans (by omega) b1.size
   have g2 : Lib.IsBuilderF 54 5 w.heap.size w.heap.size (Lib.byteCells (34 :: (acc ++ [34]))) W1:=Or.inr (by simpa [Lib.byteCells] using g1)
   clear g1
   go_wp2_with fail
   go_at_call 22
   refine (Tryz.Builder_String_any_k w.heap.size w.heap.size _ _ g2 hsz3).mono ?_
   rintro e W2 ⟨rfl,_,b2,_⟩
   go_wp2
   go_ret
   exact ⟨by rw [Hfin.out]; rfl,(hbw.trans b1).trans b2⟩
def tmB (c : UInt8) : Bool:=!(c == 46 || c == 42 || c == 91)
theorem idxAny_twM (chars : List UInt8) : ∀ l : List UInt8,Lib.indexAny l chars = if (l.takeWhile (fun c=>!chars.contains c)).length < l.length then ((l.takeWhile (fun c=>!chars.contains c)).length : Int) else -1
 | []=>by simp [Lib.indexAny]
 | b :: l=>by
  have ih:=idxAny_twM chars l
  rw [Lib.indexAny,List.takeWhile_cons]
  generalize hT : l.takeWhile (fun c=>!chars.contains c) = T at ih ⊢
  by_cases h : chars.contains b = true
  ·have h2 : ¬ ((!chars.contains b) = true):=by rw [h]; decide
   rw [if_pos h,if_neg h2,if_pos (by simp)]
   rfl
  ·have h2 : (!chars.contains b) = true:=by rw [Bool.eq_false_iff.2 h]; rfl
   rw [if_neg h,if_pos h2,ih,List.length_cons,List.length_cons]
   by_cases hl : T.length < l.length
   ·rw [if_pos hl]
    have h3 : ¬ (((T.length : Int) == -1) = true):=by rw [beq_iff_eq]; omega
    rw [if_neg h3,if_pos (show T.length + 1 < l.length + 1 by omega)]
    omega
   ·rw [if_neg hl,if_neg (show ¬ T.length + 1 < l.length + 1 by omega)]
    rfl
def brM : ByteArray:=⟨#[46,42,91]⟩
theorem brM_list : brM.data.toList = [46,42,91]:=rfl
def runeM (r : Nat) : Int:=if r = 46 then 0 else if r = 42 then 1 else if r = 91 then 2 else -1
theorem tmB_iff (c : UInt8) : tmB c = true ↔ c.toNat ≠ 46 /\ c.toNat ≠ 42 /\ c.toNat ≠ 91:=by
 unfold tmB
 rw [Bool.not_eq_true',Bool.or_eq_false_iff,Bool.or_eq_false_iff,beq_eq_false_iff_ne,beq_eq_false_iff_ne,beq_eq_false_iff_ne]
 have e : ∀ d : UInt8,c ≠ d ↔ c.toNat ≠ d.toNat:=fun d=>not_congr ⟨fun h=>by rw [h],fun h=>UInt8.toNat_inj.1 h⟩
 rw [e 46,e 42,e 91,and_assoc]
 rfl
theorem behN_skipM (p : UInt8 -> Bool) (l : List UInt8) (k : Nat) : ∀ n,(∀ j,j < n -> ∃ h : k + j < l.length,p l[k + j] = true) -> behN p l k = behN p l (k + n)
 | 0,_=>rfl
 | n + 1,h=>by
  rw [behN_skipM p l k n (fun j hj=>h j (by omega))]
  obtain ⟨h1,h2⟩:=h n (by omega)
  exact (behN_yes p l (k + n) h1 h2).symm
theorem tm_here (s : ByteArray) (pos : Nat) (hp : pos < s.size) (h : tmB (s.data.toList[pos]'(by rw [size_data]; exact hp)) = false) : behN tmB s.data.toList pos = pos:=by
 unfold behN
 rw [List.drop_eq_getElem_cons (by rw [size_data]; exact hp),List.takeWhile_cons,h]
 rfl
theorem tm_step (s : ByteArray) (pos : Nat) (hp : pos < s.size) (h : (Utf8.decode s pos).1 ≠ 46 /\ (Utf8.decode s pos).1 ≠ 42 /\ (Utf8.decode s pos).1 ≠ 91) : behN tmB s.data.toList pos = behN tmB s.data.toList (pos + (Utf8.decode s pos).2):=by
 refine behN_skipM tmB s.data.toList pos _ fun j hj=>?_
 by_cases h0 : j = 0
 ·subst h0
  refine ⟨by rw [size_data]; omega,?_⟩
  by_cases ha : (s[pos]'hp).toNat < 128
  ·rw [decode_ascii s pos hp ha] at h
   exact (tmB_iff _).2 h
  ·have : (s.data.toList[pos + 0]'(by rw [size_data]; omega)).toNat = (s[pos]'hp).toNat:=rfl
   refine (tmB_iff _).2 ⟨?_,?_,?_⟩ <;> omega
 ·have hc:=cont_high s pos j (by omega) hj
  refine ⟨by rw [size_data]; exact hc.1,?_⟩
  rw [get_bang s (pos + j) hc.1] at hc
  refine (tmB_iff _).2 ⟨?_,?_,?_⟩ <;> omega
theorem tm_met (s : ByteArray) (pos : Nat) (hp : pos < s.size) (h : (Utf8.decode s pos).1 = 46 ∨ (Utf8.decode s pos).1 = 42 ∨ (Utf8.decode s pos).1 = 91) : behN tmB s.data.toList pos = pos:=by
 have ha : (s[pos]'hp).toNat < 128:=by
  rcases Nat.lt_or_ge (s[pos]'hp).toNat 128 with h1 | h1
  ·exact h1
  ·have:=(decode_high s pos hp h1).1
   omega
 refine tm_here s pos hp ?_
 rw [decode_ascii s pos hp ha] at h
 rw [Bool.eq_false_iff]
 intro hb
 have:=(tmB_iff _).1 hb
 have e : (s.data.toList[pos]'(by rw [size_data]; exact hp)).toNat = (s[pos]'hp).toNat:=rfl
 rw [e] at this
 omega
theorem index_marks (r : Nat) (h : r < 128) : Lib.indexByte [46,42,91] ((r : Int).toNat.toUInt8) = runeM r:=by
 have h1 : ((r : Int).toNat.toUInt8).toNat = r:=by
  rw [Int.toNat_natCast]
  show r % 256 = r
  omega
 generalize (r : Int).toNat.toUInt8 = c at h1
 subst h1
 unfold runeM
 by_cases e0 : c = 46
 ·subst e0; rfl
 by_cases e1 : c = 42
 ·subst e1; rfl
 by_cases e2 : c = 91
 ·subst e2; rfl
 ·have n0 : ¬ c.toNat = 46:=fun e=>e0 (UInt8.toNat_inj.1 e)
  have n1 : ¬ c.toNat = 42:=fun e=>e1 (UInt8.toNat_inj.1 e)
  have n2 : ¬ c.toNat = 91:=fun e=>e2 (UInt8.toNat_inj.1 e)
  rw [if_neg n0,if_neg n1,if_neg n2]
  have m0 : ((46 : UInt8) == c) = false:=by simpa using fun e : 46 = c=>e0 e.symm
  have m1 : ((42 : UInt8) == c) = false:=by simpa using fun e : 42 = c=>e1 e.symm
  have m2 : ((91 : UInt8) == c) = false:=by simpa using fun e : 91 = c=>e2 e.symm
  simp [Lib.indexByte,m0,m1,m2]
theorem enc_formM (r : Nat) (h : 128 <= r) : 2 <= (Utf8.encode (r : Int)).size /\ (Utf8.encode (r : Int)).size <= 4 /\ (∀ x,(Utf8.encode (r : Int)).data.toList[(Utf8.encode (r : Int)).size - 1]? = some x -> 128 <= x.toNat):=by
 obtain ⟨c,hc,he⟩ : ∃ c : Nat,128 <= c /\ Utf8.encode (r : Int) = (if c < 0x80 then ⟨#[UInt8.ofNat c]⟩ else if c < 0x800 then ⟨#[UInt8.ofNat (0xC0 + c / 64),UInt8.ofNat (0x80 + c % 64)]⟩ else if c < 0x10000 then ⟨#[UInt8.ofNat (0xE0 + c / 4096),UInt8.ofNat (0x80 + c / 64 % 64),UInt8.ofNat (0x80 + c % 64)]⟩
   else ⟨#[UInt8.ofNat (0xF0 + c / 262144),UInt8.ofNat (0x80 + c / 4096 % 64),UInt8.ofNat (0x80 + c / 64 % 64),UInt8.ofNat (0x80 + c % 64)]⟩):=by
  refine ⟨if Utf8.valid (r : Int) then (r : Int).toNat else Utf8.runeError,?_,rfl⟩
  split
  ·rw [Int.toNat_natCast]; exact h
  ·unfold Utf8.runeError; omega
 rw [he]
 have hl : ∀ x : UInt8,some (UInt8.ofNat (0x80 + c % 64)) = some x -> 128 <= x.toNat:=fun x hx=>by
  cases hx
  rw [UInt8.toNat_ofNat']
  omega
 by_cases h1 : c < 0x80
 ·omega
 rw [if_neg h1]
 by_cases h2 : c < 0x800
 ·rw [if_pos h2]
  exact ⟨Nat.le_refl 2,by show 2 <= 4; omega,fun x hx=>hl x hx⟩
 rw [if_neg h2]
 by_cases h3 : c < 0x10000
 ·rw [if_pos h3]
  exact ⟨by show 2 <= 3; omega,by show 3 <= 4; omega,fun x hx=>hl x hx⟩
 ·rw [if_neg h3]
  exact ⟨by show 2 <= 4; omega,by show 4 <= 4; omega,fun x hx=>hl x hx⟩
set_option maxHeartbeats 4000000 in
set_option maxRecDepth 1000000 in
theorem rune_errM (w : World) : Calls Tryz.prog 206 #[.string brM,.int .i32 65533] w fun e w'=>e = .returned (.int .i64 (-1)) /\ Below w.heap.size w w':=by
 have hsz : brM.size = 3:=by decide
 have Hsz:=hid hsz
 clear hsz
 go_enter Tryz.func206,Tryz.ntmps206
 go_wp2
 go_loopw [] (fun wr=>∃ pos : Nat,wr.heap[w.heap.size]? = some (.stringIter brM pos) /\ Hid (Below w.heap.size w wr) /\ pos <= 3) (fun wr=>3 - wr.iterPos w.heap.size)
 case atStart=>exact ⟨0,World.iter_heap w brM 0,(Below.refl _ w).alloc (Nat.le_refl _) _,by omega⟩
 case round =>
  obtain ⟨pos,hit,Hb,hp2⟩:=hrel
  have hsz : w.heap.size < wr.heap.size:=(Array.getElem?_eq_some_iff.1 hit).1
  by_cases hp : pos < 3
  ·have hpz : pos < brM.size:=by rw [Hsz.out]; exact hp
   have hnx : ∀ ty,(Instr.next (.pointer (some ⟨w.heap.size,0,none⟩)) true ty).run Tryz.prog wr = _:=fun ty=>Lib.run_next_any_at wr w.heap.size brM pos ty hit hpz
   have hd : (Utf8.decode brM pos).2 = 1 /\ (Utf8.decode brM pos).1 < 128:=by
    rcases (by omega : pos = 0 ∨ pos = 1 ∨ pos = 2) with rfl | rfl | rfl <;> decide
   have hit2:=Lib.iterAt_heap wr w.heap.size brM pos (pos + (Utf8.decode brM pos).2) hit
   have hb2:=Lib.below_iterAt Hb.out (k:=w.heap.size) (by omega) brM (pos + (Utf8.decode brM pos).2)
   have hz : (((Utf8.decode brM pos).1 : Int) == 65533) = false:=by rw [beq_eq_false_iff_ne]; omega
   have Hd:=hid hd
   have Hb2:=hid hb2
   have Hit:=hid hit
   have Hit2:=hid hit2
   clear hd hb2 hit hit2
   go_wp2
   go_roundw
   case rel=>exact ⟨pos + (Utf8.decode brM pos).2,Hit2.out,Hb2.out,by have:=Hd.out.1; omega⟩
   case measure =>
    simp only [World.iterPos,Hit2.out,Hit.out]
    have:=Hd.out.1
    omega
  ·have hnx : ∀ ty,(Instr.next (.pointer (some ⟨w.heap.size,0,none⟩)) true ty).run Tryz.prog wr = _:=fun ty=>Lib.run_next_end_at wr w.heap.size brM pos ty hit (by rw [Hsz.out]; omega)
   go_wp2
   go_ret
   exact ⟨rfl,Hb.out⟩
set_option maxHeartbeats 4000000 in
set_option maxRecDepth 1000000 in
theorem rune_farM (r : Nat) (h : 128 <= r) (hr : r <= 1114111) (he : r ≠ 65533) (w : World) : Calls Tryz.prog 206 #[.string brM,.int .i32 r] w fun e w'=>e = .returned (.int .i64 (-1)) /\ Below w.heap.size w w':=by
 have hz1 : decide ((0 : Int) <= (r : Int)) = true:=decide_eq_true (by omega)
 have hz2 : decide ((r : Int) < 128) = false:=decide_eq_false (by omega)
 have hz2' : decide (r < 128) = false:=decide_eq_false (by omega)
 have hz3 : ((r : Int) == 65533) = false:=beq_eq_false_iff_ne.2 (by omega)
 have hrz : (r : Int) <= 1114111:=by omega
 have hV:=fun W=>Tryz.utf8_ValidRune (r : Int) W
 obtain ⟨v,hv⟩ : ∃ v,Lib.validRune (r : Int) = v:=⟨_,rfl⟩
 rw [hv] at hV
 have HV:=hid hV
 clear hV hv
 obtain ⟨hs2,hs4,hs1⟩:=enc_formM r h
 obtain ⟨E,hE⟩ : ∃ E,Utf8.encode (r : Int) = E:=⟨_,rfl⟩
 rw [hE] at hs2 hs4 hs1
 have H1:=hid hs1
 clear hs1
 cases v
 case false =>
  clear hE
  go_enter Tryz.func206,Tryz.ntmps206
  go_wp2_with fail
  go_at_call 235
  refine (HV.out _).mono ?_
  rintro e w' ⟨rfl,rfl⟩
  go_wp2
  go_ret
  exact ⟨rfl,Below.refl _ _⟩
 go_enter Tryz.func206,Tryz.ntmps206
 go_wp2_with fail
 go_at_call 235
 refine (HV.out _).mono ?_
 rintro e w' ⟨rfl,rfl⟩
 go_wp2
 go_step3
 go_wp2
 have hbs : brM.size = 3:=by decide
 have Hbs:=hid hbs
 clear hbs hE
 go_loopg [9] 1 (fun g s9 wr=>s9 = .int .i64 ((E.size : Int) - 1) /\ wr = w')
 case atStart=>exact ⟨rfl,rfl⟩
 case round =>
  obtain ⟨rfl,rfl⟩:=hrel
  by_cases h2 : E.size = 2
  ·have e1 : (E.size : Int) - 1 = 1:=by omega
   rw [e1]
   have h1z : decide ((1 : Int) < (brM.size : Int)) = true:=decide_eq_true (by rw [Hbs.out]; decide)
   have hlt1 : (1 : Int) < (brM.size : Int):=by rw [Hbs.out]; decide
   have hlt1n : 1 < brM.size:=by rw [Hbs.out]; decide
   have hlt2 : (1 : Int) < (E.size : Int):=by omega
   have hlt2n : 1 < E.size:=by omega
   have hne : ((brM[1].toNat : Int) != (E[1].toNat : Int)) = true:=by
    have hx:=H1.out E[1] (by rw [show E.size - 1 = 1 by omega,List.getElem?_eq_getElem (by rw [size_data]; exact hlt2n)]; rfl)
    have hy : brM[1].toNat = 42:=rfl
    rw [bne_iff_ne,hy]
    omega
   have hx1:=H1.out E[1] (by rw [show E.size - 1 = 1 by omega,List.getElem?_eq_getElem (by rw [size_data]; exact hlt2n)]; rfl)
   have hib : ∀ (W : World),Calls Tryz.prog 90 #[.string (brM.extract 2 brM.size),.int .u8 (E[1].toNat : Nat)] W fun e W'=>e = .returned (.int .i64 (-1)) /\ W' = W:=fun W=>(Tryz.strings_IndexByte (brM.extract 2 brM.size) (E[1].toNat : Int) W).mono fun e W' h=>⟨by
    rw [h.1,extract_drop,brM_list]
    have : Lib.indexByte [91] ((E[1].toNat : Int).toNat.toUInt8) = -1:=by
     have m2 : ¬ (91 : UInt8) = E[1]:=fun e=>by
      have:=hx1
      rw [<- e] at this
      exact absurd this (by decide)
     simp [Lib.indexByte,m2]
    rw [show List.drop 2 [46,42,91] = [(91 : UInt8)] from rfl,this],h.2⟩
   have HIB:=hid hib
   have H2:=hid h2
   clear h2 e1 hib hx1
   go_wp2
   go_step3
   go_wp2
   go_region
   go_wp2
   go_quiet ((go_at_call 90; exact (HIB.out _).mono fun _ _ h=>⟨h.1,_,h.2⟩))
   go_wp2
   rw [Exit.noGoto_ret]
   go_wp2
   rw [Exit.noGoto_ret]
   go_wp2
   go_ret
   exact ⟨rfl,Go.below_drewN (Below.refl _ _) _⟩
  by_cases h3 : E.size = 3
  ·have e1 : (E.size : Int) - 1 = 2:=by omega
   rw [e1]
   have h1z : decide ((2 : Int) < (brM.size : Int)) = true:=decide_eq_true (by rw [Hbs.out]; decide)
   have hlt1 : (2 : Int) < (brM.size : Int):=by rw [Hbs.out]; decide
   have hlt1n : 2 < brM.size:=by rw [Hbs.out]; decide
   have hlt2 : (2 : Int) < (E.size : Int):=by omega
   have hlt2n : 2 < E.size:=by omega
   have hne : ((brM[2].toNat : Int) != (E[2].toNat : Int)) = true:=by
    have hx:=H1.out E[2] (by rw [show E.size - 1 = 2 by omega,List.getElem?_eq_getElem (by rw [size_data]; exact hlt2n)]; rfl)
    have hy : brM[2].toNat = 91:=rfl
    rw [bne_iff_ne,hy]
    omega
   have hib : ∀ (x : Int) (W : World),Calls Tryz.prog 90 #[.string (brM.extract 3 brM.size),.int .u8 x] W fun e W'=>e = .returned (.int .i64 (-1)) /\ W' = W:=fun x W=>(Tryz.strings_IndexByte (brM.extract 3 brM.size) x W).mono fun e W' h=>⟨by rw [h.1,extract_drop]; rfl,h.2⟩
   have HIB:=hid hib
   have H2:=hid h3
   clear h3 h2 e1 hib
   go_wp2
   go_step3
   go_wp2
   go_region
   go_wp2
   go_quiet ((go_at_call 90; exact (HIB.out _ _).mono fun _ _ h=>⟨h.1,_,h.2⟩))
   go_wp2
   rw [Exit.noGoto_ret]
   go_wp2
   rw [Exit.noGoto_ret]
   go_wp2
   go_ret
   exact ⟨rfl,Go.below_drewN (Below.refl _ _) _⟩
  ·have hb2 : (brM.size : Int) = 3:=by rw [Hbs.out]; rfl
   have h1z : decide ((E.size : Int) - 1 < (brM.size : Int)) = false:=decide_eq_false (by omega)
   have hlt1 : ¬ (E.size : Int) - 1 < (brM.size : Int):=by omega
   clear hb2
   go_wp2
   go_ret
   exact ⟨rfl,Below.refl _ _⟩
theorem rune_anyM (r : Nat) (hr : r <= 1114111) (w : World) : Calls Tryz.prog 206 #[.string brM,.int .i32 r] w fun e w'=>e = .returned (.int .i64 (runeM r)) /\ Below w.heap.size w w':=by
 by_cases h : r < 128
 ·have:=Tryz.strings_IndexRune_ascii brM (r : Int) w (by omega) (by omega)
  rw [brM_list,index_marks r h] at this
  exact this.mono fun e w' h=>⟨h.1,by rw [h.2]; exact Below.refl _ _⟩
 ·have e : runeM r = -1:=by unfold runeM; rw [if_neg (by omega),if_neg (by omega),if_neg (by omega)]
  rw [e]
  by_cases he : r = 65533
  ·subst he; exact rune_errM w
  ·exact rune_farM r (by omega) hr he w
def tmI (s : ByteArray) : Int:=if behN tmB s.data.toList 0 < s.size then (behN tmB s.data.toList 0 : Nat) else -1
set_option maxHeartbeats 4000000 in
set_option maxRecDepth 1000000 in
theorem indexAny_shortM (s : ByteArray) (hs : s.size <= 8) (w : World) : Calls Tryz.prog 203 #[.string s,.string brM] w fun e w'=>e = .returned (.int .i64 (tmI s)) /\ Below w.heap.size w w':=by
 have hem : brM.toList.isEmpty = false:=by rw [Lib.toList_data]; rfl
 have hb2 : brM.size = 3:=by decide
 have hn1 : ((brM.size : Int) == 1) = false:=beq_eq_false_iff_ne.2 (by rw [hb2]; decide)
 have Hb2:=hid hb2
 have hU : ∀ W,Calls Tryz.prog 232 #[.int .i64 (s.size : Nat)] W fun e w'=>e = .returned (.bool false) /\ w' = W:=fun W=>by
  have:=Tryz.strings_shouldUseASCIISet (s.size : Int) W
  rw [decide_eq_false (by omega)] at this
  exact this
 have HU:=hid hU
 clear hb2 hU
 obtain ⟨ANS,hANS⟩ : ∃ b,tmI s = b:=⟨_,rfl⟩
 rw [hANS]
 have HA:=hid hANS
 clear hANS
 go_enter Tryz.func203,Tryz.ntmps203
 go_wp2_with fail
 go_at_call 232
 refine (HU.out _).mono ?_
 rintro e w' ⟨rfl,rfl⟩
 go_wp2
 go_loopw [] (fun wr=>∃ pos : Nat,wr.heap[w'.heap.size]? = some (.stringIter s pos) /\ Hid (Below w'.heap.size w' wr) /\ Hid (behN tmB s.data.toList 0 = behN tmB s.data.toList pos)) (fun wr=>s.size - wr.iterPos w'.heap.size)
 case atStart=>exact ⟨0,World.iter_heap w' s 0,(Below.refl _ w').alloc (Nat.le_refl _) _,rfl⟩
 case round =>
  obtain ⟨pos,hit,Hb,Hans⟩:=hrel
  have hsz : w'.heap.size < wr.heap.size:=(Array.getElem?_eq_some_iff.1 hit).1
  by_cases hp : pos < s.size
  ·have hnx : ∀ ty,(Instr.next (.pointer (some ⟨w'.heap.size,0,none⟩)) true ty).run Tryz.prog wr = _:=fun ty=>Lib.run_next_any_at wr w'.heap.size s pos ty hit hp
   have hit2:=Lib.iterAt_heap wr w'.heap.size s pos (pos + (Utf8.decode s pos).2) hit
   have hb2:=Lib.below_iterAt Hb.out (k:=w'.heap.size) (by omega) s (pos + (Utf8.decode s pos).2)
   have hR:=fun W=>rune_anyM (Utf8.decode s pos).1 (Lib.rune_le s pos) W
   have hwd:=Lib.width_pos s pos
   have hst:=tm_step s pos hp
   have hhr:=tm_met s pos hp
   have hpz : (0 : Int) <= (pos : Int):=by omega
   have hpz2 : (pos : Int) <= 8:=by omega
   have Hst:=hid hst
   have Hhr:=hid hhr
   have HR:=hid hR
   have Hb2':=hid hb2
   have Hit2:=hid hit2
   have Hit:=hid hit
   have Hwd:=hid hwd
   clear hst hhr hR hb2 hit2 hit hwd
   by_cases hbr : (Utf8.decode s pos).1 = 46 ∨ (Utf8.decode s pos).1 = 42 ∨ (Utf8.decode s pos).1 = 91
   ·have hge : decide ((0 : Int) <= runeM (Utf8.decode s pos).1) = true:=by
     unfold runeM
     rcases hbr with h | h | h <;> rw [h] <;> decide
    have hge2 : (0 : Int) <= runeM (Utf8.decode s pos).1:=of_decide_eq_true hge
    have Hbr:=hid hbr
    clear hbr
    go_wp2_with fail
    go_at_call 206
    refine (HR.out _).mono ?_
    rintro e w2 ⟨rfl,hbw⟩
    have HB:=hid (Hb2'.out.trans (hbw.mono Hb2'.out.size))
    clear hbw
    go_wp2
    go_ret
    refine ⟨?_,HB.out⟩
    have h1:=Hans.out.trans (Hhr.out Hbr.out)
    rw [<- HA.out]
    unfold tmI
    rw [h1,if_pos hp]
    rfl
   ·have hge : decide ((0 : Int) <= runeM (Utf8.decode s pos).1) = false:=by
     unfold runeM
     rw [if_neg (fun h=>hbr (.inl h)),if_neg (fun h=>hbr (.inr (.inl h))),if_neg (fun h=>hbr (.inr (.inr h)))]; decide
    have hge2 : ¬ (0 : Int) <= runeM (Utf8.decode s pos).1:=of_decide_eq_false hge
    have hnb:=Hst.out ⟨fun h=>hbr (.inl h),fun h=>hbr (.inr (.inl h)),fun h=>hbr (.inr (.inr h))⟩
    have Hnb:=hid hnb
    clear hbr hnb
    go_wp2_with fail
    go_at_call 206
    refine (HR.out _).mono ?_
    rintro e w2 ⟨rfl,hbw⟩
    have HB:=hid (Hb2'.out.trans (hbw.mono Hb2'.out.size))
    have hit3 : w2.heap[w'.heap.size]? = some (.stringIter s (pos + (Utf8.decode s pos).2)):=(hbw.block _ (Array.getElem?_eq_some_iff.1 Hit2.out).1).trans Hit2.out
    have Hit3:=hid hit3
    clear hbw hit3
    go_wp2
    go_roundw
    case rel=>exact ⟨pos + (Utf8.decode s pos).2,Hit3.out,HB.out,Hans.out.trans Hnb.out⟩
    case measure =>
     simp only [World.iterPos,Hit3.out,Hit.out]
     have:=Hwd.out
     omega
  ·have hnx : ∀ ty,(Instr.next (.pointer (some ⟨w'.heap.size,0,none⟩)) true ty).run Tryz.prog wr = _:=fun ty=>Lib.run_next_end_at wr w'.heap.size s pos ty hit hp
   go_wp2
   go_ret
   refine ⟨?_,Hb.out⟩
   have h1:=behN_ge tmB s.data.toList pos
   rw [<- HA.out]
   unfold tmI
   rw [Hans.out,if_neg (by omega)]
   rfl
theorem tmI_idx (s : ByteArray) : tmI s = Lib.indexAny s.data.toList [46,42,91]:=by
 rw [idxAny_twM]
 have e : (fun c : UInt8=>!([46,42,91] : List UInt8).contains c) = tmB:=by
  funext c
  unfold tmB
  rw [List.contains_cons,List.contains_cons,List.contains_cons,List.contains_nil,Bool.or_false,Bool.or_assoc]
 rw [e]
 unfold tmI behN
 rw [List.drop_zero,Nat.zero_add,size_data]
theorem indexAny_anyM (s : ByteArray) (hs : s.size <= 4000000) (w : World) : Calls Tryz.prog 203 #[.string s,.string ⟨#[46,42,91]⟩] w fun e w'=>e = .returned (.int .i64 (Lib.indexAny s.data.toList [46,42,91])) /\ Below w.heap.size w w':=by
 by_cases h8 : s.size <= 8
 ·rw [<- tmI_idx]
  exact indexAny_shortM s h8 w
 ·have hz:=(zero_of_info (P:=Tryz.prog) (t:=234) (v:=.agg (Array.replicate 256 (.bool false))) (n:=256) (by kernel_rfl)).1
  have:=Tryz.strings_IndexAny_long hz s brM w (by decide) (by omega) (by omega) (by decide) (by
   intro j b hj
   rw [brM_list] at hj
   have : j < 3:=(List.getElem?_eq_some_iff.1 hj).1
   match j,hj with
   | 0,hj=>simp at hj; subst hj; decide
   | 1,hj=>simp at hj; subst hj; decide
   | 2,hj=>simp at hj; subst hj; decide)
  refine this.mono ?_
  rintro e w' ⟨rfl,rfl⟩
  exact ⟨rfl,((Below.refl _ _).alloc (Nat.le_refl _) _).alloc (by simp) _⟩
end Go.Proofs.YtgdkpamlkpncgaaGreatDoor
