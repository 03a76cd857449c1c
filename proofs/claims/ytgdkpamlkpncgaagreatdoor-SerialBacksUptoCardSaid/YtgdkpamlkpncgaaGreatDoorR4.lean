/-
  Several texts put together (part 4): what the law and the program call, walked; their contracts.
-/
import Derived.Test.YtgdkpamlkpncgaaGreatDoorProg
import Derived.Lib.SmallJoins
import Derived.WalkKit
import Derived.WalkSpells
import Derived.WalkLawsBesides
import Derived.OpenShut
import Derived.Outline
import Derived.Lib.Hide
import Derived.Below
import Derived.Lib.Strings
import Derived.Test.YtgdkpamlkpncgaaGreatDoorR3
namespace Go.Proofs.YtgdkpamlkpncgaaGreatDoor
open Go.RowKit
open _root_.Go.Lib (hid)
set_option linter.unusedVariables false
set_option linter.unusedSimpArgs false
theorem size_data (s : ByteArray) : s.data.toList.length = s.size:=by simp
theorem size_mk (l : List UInt8) : (⟨l.toArray⟩ : ByteArray).size = l.length:=by show l.toArray.size = _; simp
theorem bcell {W w1 : World} (hb : Below W.heap.size W w1) : (∀ b o,b < W.heap.size -> w1.cell? ⟨b,o,none⟩ = W.cell? ⟨b,o,none⟩) /\ (∀ b o,b < W.heap.size -> w1.frozen? ⟨b,o,none⟩ = W.frozen? ⟨b,o,none⟩) :=
 ⟨fun b o h=>hb.cell (p:=⟨b,o,none⟩) h,fun b o h=>hb.frozen (p:=⟨b,o,none⟩) h⟩
theorem extract_take (a : ByteArray) (k : Nat) : (a.extract 0 k).data.toList = a.data.toList.take k:=by
 rw [Lib.extract_data]; simp
theorem bytes_eq {a b : ByteArray} (h : a.data.toList = b.data.toList) : a = b:=by
 cases a; cases b; simp at h; rw [h]
theorem extract_drop (a : ByteArray) (k : Nat) : (a.extract k a.size).data.toList = a.data.toList.drop k:=by
 rw [Lib.extract_data,<- size_data a,List.take_of_length_le (by simp)]
theorem Below.set3 {B : Nat} {a w : World} (h : Below B a w) {b : Nat} (hb : B <= b) (x y z : Value) : Below B a (((w.setCell ⟨b,0,none⟩ x).setCell ⟨b,1,none⟩ y).setCell ⟨b,2,none⟩ z) :=
 ((h.setCell (p:=⟨b,0,none⟩) hb _).setCell (p:=⟨b,1,none⟩) hb _).setCell (p:=⟨b,2,none⟩) hb _
theorem below_box {w w1 : World} {o : Obj} (h : Below (w.alloc o).heap.size (w.alloc o) w1) : Below w.heap.size w w1 :=
 ((Below.refl _ _).alloc (Nat.le_refl _) _).trans (h.mono (by simp))
theorem ret_bool {a b : Bool} (h : a = b) : Ending.returned (.bool a) = .returned (.bool b):=by rw [h]
theorem ret_int {k : IntKind} {a b : Int} (h : a = b) : Ending.returned (.int k a) = .returned (.int k b):=by rw [h]
theorem take_succ (s : ByteArray) (k : Nat) (h : k < s.size) : s.data.toList.take (k + 1) = s.data.toList.take k ++ [s[k]]:=by
 rw [List.take_succ_eq_append_getElem (by simpa using h)]; rfl
theorem within_yes (s : ByteArray) (i : Int) (w : World) (h0 : 0 <= i) (h1 : i < s.size) : Calls Tryz.prog 89 #[.string s,.int .i64 i] w fun e w'=>e = .returned (.bool true) /\ w = w':=by
 go_enter Tryz.func89,Tryz.ntmps89
 go_wp2
 go_ret
 exact ⟨rfl,rfl⟩
theorem within_no (s : ByteArray) (i : Int) (w : World) (h : i < 0 ∨ (s.size : Int) <= i) : Calls Tryz.prog 89 #[.string s,.int .i64 i] w fun e w'=>e = .returned (.bool false) /\ w = w':=by
 by_cases h0 : 0 <= i
 ·have h1 : ¬ i < s.size:=by omega
  go_enter Tryz.func89,Tryz.ntmps89
  go_wp2
  go_ret
  exact ⟨rfl,rfl⟩
 ·go_enter Tryz.func89,Tryz.ntmps89
  go_wp2
  go_ret
  exact ⟨rfl,rfl⟩
theorem capital_any (c : UInt8) (w : World) : Calls Tryz.prog 168 #[.int .u8 (c.toNat : Int)] w fun e w'=>e = .returned (.bool (caB c)) /\ w = w':=by
 by_cases h : (65 : Int) <= (c.toNat : Int)
 all_goals
  go_enter Tryz.func168,Tryz.ntmps168
  go_wp2
  go_ret
  refine ⟨ret_bool ?_,rfl⟩
  rw [Bool.eq_iff_iff]
  simp [caB]
  omega
theorem digit_any (c : UInt8) (w : World) : Calls Tryz.prog 128 #[.int .u8 (c.toNat : Int)] w fun e w'=>e = .returned (.bool (dgB c)) /\ w = w':=by
 by_cases h : (48 : Int) <= (c.toNat : Int)
 all_goals
  go_enter Tryz.func128,Tryz.ntmps128
  go_wp2
  go_ret
  refine ⟨ret_bool ?_,rfl⟩
  rw [Bool.eq_iff_iff]
  simp [dgB]
  omega
theorem joint_any (c : UInt8) (w : World) : Calls Tryz.prog 129 #[.int .u8 (c.toNat : Int)] w fun e w'=>e = .returned (.bool (joB c)) /\ w = w':=by
 go_enter Tryz.func129,Tryz.ntmps129
 go_wp2
 all_goals
  go_ret
  refine ⟨ret_bool ?_,rfl⟩
  rw [Bool.eq_iff_iff]
  simp [joB, *]
theorem letter_any (c : UInt8) (w : World) : Calls Tryz.prog 126 #[.int .u8 (c.toNat : Int)] w fun e w'=>e = .returned (.bool (leB c)) /\ w = w':=by
 by_cases h1 : (97 : Int) <= (c.toNat : Int)
 ·by_cases h2 : (c.toNat : Int) <= 122
  ·go_enter Tryz.func126,Tryz.ntmps126
   go_wp2_with (go_at_call 168; refine (capital_any c _).mono ?_; rintro e w' ⟨rfl,rfl⟩)
   go_ret
   refine ⟨ret_bool ?_,rfl⟩
   simp [leB,h1,h2]
  ·have hb : decide ((c.toNat : Int) <= 122) = false:=by simp; omega
   go_enter Tryz.func126,Tryz.ntmps126
   go_wp2_with (go_at_call 168; refine (capital_any c _).mono ?_; rintro e w' ⟨rfl,rfl⟩)
   go_ret
   refine ⟨ret_bool ?_,rfl⟩
   simp only [leB,caB]
   rw [Bool.eq_iff_iff]
   simp
   omega
 ·go_enter Tryz.func126,Tryz.ntmps126
  go_wp2_with (go_at_call 168; refine (capital_any c _).mono ?_; rintro e w' ⟨rfl,rfl⟩)
  go_ret
  refine ⟨ret_bool ?_,rfl⟩
  simp only [leB,caB]
  rw [Bool.eq_iff_iff]
  simp
  omega
def Tells (N : FuncId) (p : UInt8 -> Bool) : Prop:=∀ (c : UInt8) (w : World),Calls Tryz.prog N #[.int .u8 (c.toNat : Int)] w fun e w'=>e = .returned (.bool (p c)) /\ w = w'
theorem tells_digit : Tells 128 dgB:=digit_any
theorem tells_space : Tells 61 spB:=fun c w=>by
 go_enter Tryz.func61,Tryz.ntmps61
 go_wp2
 all_goals
  go_ret
  refine ⟨ret_bool ?_,rfl⟩
  rw [Bool.eq_iff_iff]
  simp [spB, *]
theorem tells_blank : Tells 173 blB:=fun c w=>by
 go_enter Tryz.func173,Tryz.ntmps173
 go_wp2
 all_goals
  go_ret
  refine ⟨ret_bool ?_,rfl⟩
  rw [Bool.eq_iff_iff]
  simp [blB, *]
theorem tells_name : Tells 127 naB:=fun c w=>by
 cases h1 : leB c
 ·cases h2 : dgB c
  ·go_enter Tryz.func127,Tryz.ntmps127
   go_wp2_with (first | (go_at_call 126; refine (letter_any c _).mono ?_; rw [h1]; rintro e w' ⟨rfl,rfl⟩) | (go_at_call 128; refine (digit_any c _).mono ?_; rw [h2]; rintro e w' ⟨rfl,rfl⟩) | (go_at_call 129; refine (joint_any c _).mono ?_; rintro e w' ⟨rfl,rfl⟩))
   go_ret
   exact ⟨ret_bool (by simp [naB,h1,h2]),rfl⟩
  ·go_enter Tryz.func127,Tryz.ntmps127
   go_wp2_with (first | (go_at_call 126; refine (letter_any c _).mono ?_; rw [h1]; rintro e w' ⟨rfl,rfl⟩) | (go_at_call 128; refine (digit_any c _).mono ?_; rw [h2]; rintro e w' ⟨rfl,rfl⟩) | (go_at_call 129; refine (joint_any c _).mono ?_; rintro e w' ⟨rfl,rfl⟩))
   go_ret
   exact ⟨ret_bool (by simp [naB,h1,h2]),rfl⟩
 ·go_enter Tryz.func127,Tryz.ntmps127
  go_wp2_with (first | (go_at_call 126; refine (letter_any c _).mono ?_; rw [h1]; rintro e w' ⟨rfl,rfl⟩) | (go_at_call 128; refine (digit_any c _).mono ?_; rintro e w' ⟨rfl,rfl⟩) | (go_at_call 129; refine (joint_any c _).mono ?_; rintro e w' ⟨rfl,rfl⟩))
  go_ret
  exact ⟨ret_bool (by simp [naB,h1]),rfl⟩
theorem tells_big : Tells 319 biB:=fun c w=>by
 cases h1 : caB c
 ·cases h2 : dgB c
  ·go_enter Tryz.func319,Tryz.ntmps319
   go_wp2_with (first | (go_at_call 168; refine (capital_any c _).mono ?_; rw [h1]; rintro e w' ⟨rfl,rfl⟩) | (go_at_call 128; refine (digit_any c _).mono ?_; rw [h2]; rintro e w' ⟨rfl,rfl⟩) | (go_at_call 129; refine (joint_any c _).mono ?_; rintro e w' ⟨rfl,rfl⟩))
   go_ret
   exact ⟨ret_bool (by simp [biB,h1,h2]),rfl⟩
  ·go_enter Tryz.func319,Tryz.ntmps319
   go_wp2_with (first | (go_at_call 168; refine (capital_any c _).mono ?_; rw [h1]; rintro e w' ⟨rfl,rfl⟩) | (go_at_call 128; refine (digit_any c _).mono ?_; rw [h2]; rintro e w' ⟨rfl,rfl⟩) | (go_at_call 129; refine (joint_any c _).mono ?_; rintro e w' ⟨rfl,rfl⟩))
   go_ret
   exact ⟨ret_bool (by simp [biB,h1,h2]),rfl⟩
 ·go_enter Tryz.func319,Tryz.ntmps319
  go_wp2_with (first | (go_at_call 168; refine (capital_any c _).mono ?_; rw [h1]; rintro e w' ⟨rfl,rfl⟩) | (go_at_call 128; refine (digit_any c _).mono ?_; rintro e w' ⟨rfl,rfl⟩) | (go_at_call 129; refine (joint_any c _).mono ?_; rintro e w' ⟨rfl,rfl⟩))
  go_ret
  exact ⟨ret_bool (by simp [biB,h1]),rfl⟩
set_option maxHeartbeats 1000000 in
theorem behind_sp (s : ByteArray) (i : Int) (w : World) (hs : s.size <= 9223372036854775807) :
  Calls Tryz.prog 60 #[.string s,.int .i64 i,.func (.func 61) #[] #[]] w fun e w'=>e = .returned (.int .i64 (behI spB s.data.toList i)) /\ w = w':=by
 have HN:=hid tells_space
 by_cases h0 : i < 0
 ·have e : behI spB s.data.toList i = i:=by unfold behI; rw [if_pos h0]
  have E:=hid e
  clear e
  go_enter Tryz.func60,Tryz.ntmps60
  go_wp2_with fail
  go_loop [1] (fun t=>t = .int .i64 i) (fun _=>0)
  case atStart=>rfl
  case round =>
   subst hrel
   go_wp2_with fail
   go_at_call 89
   refine (within_no _ _ _ (.inl h0)).mono ?_
   rintro e w' ⟨rfl,rfl⟩
   go_wp2_with fail
   go_ret
   exact ⟨ret_int E.out.symm,rfl⟩
 ·obtain ⟨k,rfl⟩ : ∃ k : Nat,i = (k : Int):=⟨i.toNat,by omega⟩
  obtain ⟨B,hB⟩ : ∃ B,behN spB s.data.toList k = B:=⟨_,rfl⟩
  have e : behI spB s.data.toList (k : Int) = (B : Int):=by unfold behI; rw [if_neg h0,Int.toNat_natCast,hB]
  have E:=hid e
  have HB:=hid hB
  clear e hB h0
  go_enter Tryz.func60,Tryz.ntmps60
  go_wp2_with fail
  go_loop [1] (fun t=>∃ j : Nat,t = .int .i64 j /\ Hid (behN spB s.data.toList j = B)) (fun t=>s.size - (intOf t).toNat)
  case atStart=>exact ⟨k,rfl,HB⟩
  case round =>
   obtain ⟨j,rfl,hj⟩:=hrel
   by_cases hlt : j < s.size
   ·have hlt' : j < s.data.toList.length:=by rw [size_data]; exact hlt
    have hi0 : (0 : Int) <= (j : Int):=by omega
    have hi1 : (j : Int) < (s.size : Int):=by omega
    cases hp : spB s[j]
    ·have hno:=hid (behN_no spB s.data.toList j hlt' hp)
     have Hp:=hid hp
     clear hp
     go_wp2_with fail
     go_at_call 89
     refine (within_yes _ _ _ hi0 hi1).mono ?_
     rintro e w' ⟨rfl,rfl⟩
     go_wp2_with fail
     go_at_call 61
     refine (HN.out s[j] _).mono ?_
     rw [Hp.out]
     rintro e w' ⟨rfl,rfl⟩
     go_wp2_with fail
     go_ret
     exact ⟨ret_int (by rw [E.out,<- hj.out,hno.out]),rfl⟩
    ·have hyes:=hid (behN_yes spB s.data.toList j hlt' hp)
     have Hp:=hid hp
     clear hp
     go_wp2_with fail
     go_at_call 89
     refine (within_yes _ _ _ hi0 hi1).mono ?_
     rintro e w' ⟨rfl,rfl⟩
     go_wp2_with fail
     go_at_call 61
     refine (HN.out s[j] _).mono ?_
     rw [Hp.out]
     rintro e w' ⟨rfl,rfl⟩
     go_wp2_with fail
     go_round
     case rel=>exact ⟨j + 1,by go_num,hid (by rw [hyes.out,hj.out])⟩
     case measure=>simp [intOf]; omega
   ·have hend:=hid (behN_end spB s.data.toList j (by rw [size_data]; omega))
    go_wp2_with fail
    go_at_call 89
    refine (within_no _ _ _ (.inr (by omega))).mono ?_
    rintro e w' ⟨rfl,rfl⟩
    go_wp2_with fail
    go_ret
    exact ⟨ret_int (by rw [E.out,<- hj.out,hend.out]),rfl⟩
set_option maxHeartbeats 1000000 in
theorem behind_bl (s : ByteArray) (i : Int) (w : World) (hs : s.size <= 9223372036854775807) :
  Calls Tryz.prog 60 #[.string s,.int .i64 i,.func (.func 173) #[] #[]] w fun e w'=>e = .returned (.int .i64 (behI blB s.data.toList i)) /\ w = w':=by
 have HN:=hid tells_blank
 by_cases h0 : i < 0
 ·have e : behI blB s.data.toList i = i:=by unfold behI; rw [if_pos h0]
  have E:=hid e
  clear e
  go_enter Tryz.func60,Tryz.ntmps60
  go_wp2_with fail
  go_loop [1] (fun t=>t = .int .i64 i) (fun _=>0)
  case atStart=>rfl
  case round =>
   subst hrel
   go_wp2_with fail
   go_at_call 89
   refine (within_no _ _ _ (.inl h0)).mono ?_
   rintro e w' ⟨rfl,rfl⟩
   go_wp2_with fail
   go_ret
   exact ⟨ret_int E.out.symm,rfl⟩
 ·obtain ⟨k,rfl⟩ : ∃ k : Nat,i = (k : Int):=⟨i.toNat,by omega⟩
  obtain ⟨B,hB⟩ : ∃ B,behN blB s.data.toList k = B:=⟨_,rfl⟩
  have e : behI blB s.data.toList (k : Int) = (B : Int):=by unfold behI; rw [if_neg h0,Int.toNat_natCast,hB]
  have E:=hid e
  have HB:=hid hB
  clear e hB h0
  go_enter Tryz.func60,Tryz.ntmps60
  go_wp2_with fail
  go_loop [1] (fun t=>∃ j : Nat,t = .int .i64 j /\ Hid (behN blB s.data.toList j = B)) (fun t=>s.size - (intOf t).toNat)
  case atStart=>exact ⟨k,rfl,HB⟩
  case round =>
   obtain ⟨j,rfl,hj⟩:=hrel
   by_cases hlt : j < s.size
   ·have hlt' : j < s.data.toList.length:=by rw [size_data]; exact hlt
    have hi0 : (0 : Int) <= (j : Int):=by omega
    have hi1 : (j : Int) < (s.size : Int):=by omega
    cases hp : blB s[j]
    ·have hno:=hid (behN_no blB s.data.toList j hlt' hp)
     have Hp:=hid hp
     clear hp
     go_wp2_with fail
     go_at_call 89
     refine (within_yes _ _ _ hi0 hi1).mono ?_
     rintro e w' ⟨rfl,rfl⟩
     go_wp2_with fail
     go_at_call 173
     refine (HN.out s[j] _).mono ?_
     rw [Hp.out]
     rintro e w' ⟨rfl,rfl⟩
     go_wp2_with fail
     go_ret
     exact ⟨ret_int (by rw [E.out,<- hj.out,hno.out]),rfl⟩
    ·have hyes:=hid (behN_yes blB s.data.toList j hlt' hp)
     have Hp:=hid hp
     clear hp
     go_wp2_with fail
     go_at_call 89
     refine (within_yes _ _ _ hi0 hi1).mono ?_
     rintro e w' ⟨rfl,rfl⟩
     go_wp2_with fail
     go_at_call 173
     refine (HN.out s[j] _).mono ?_
     rw [Hp.out]
     rintro e w' ⟨rfl,rfl⟩
     go_wp2_with fail
     go_round
     case rel=>exact ⟨j + 1,by go_num,hid (by rw [hyes.out,hj.out])⟩
     case measure=>simp [intOf]; omega
   ·have hend:=hid (behN_end blB s.data.toList j (by rw [size_data]; omega))
    go_wp2_with fail
    go_at_call 89
    refine (within_no _ _ _ (.inr (by omega))).mono ?_
    rintro e w' ⟨rfl,rfl⟩
    go_wp2_with fail
    go_ret
    exact ⟨ret_int (by rw [E.out,<- hj.out,hend.out]),rfl⟩
set_option maxHeartbeats 1000000 in
theorem behind_na (s : ByteArray) (i : Int) (w : World) (hs : s.size <= 9223372036854775807) :
  Calls Tryz.prog 60 #[.string s,.int .i64 i,.func (.func 127) #[] #[]] w fun e w'=>e = .returned (.int .i64 (behI naB s.data.toList i)) /\ w = w':=by
 have HN:=hid tells_name
 by_cases h0 : i < 0
 ·have e : behI naB s.data.toList i = i:=by unfold behI; rw [if_pos h0]
  have E:=hid e
  clear e
  go_enter Tryz.func60,Tryz.ntmps60
  go_wp2_with fail
  go_loop [1] (fun t=>t = .int .i64 i) (fun _=>0)
  case atStart=>rfl
  case round =>
   subst hrel
   go_wp2_with fail
   go_at_call 89
   refine (within_no _ _ _ (.inl h0)).mono ?_
   rintro e w' ⟨rfl,rfl⟩
   go_wp2_with fail
   go_ret
   exact ⟨ret_int E.out.symm,rfl⟩
 ·obtain ⟨k,rfl⟩ : ∃ k : Nat,i = (k : Int):=⟨i.toNat,by omega⟩
  obtain ⟨B,hB⟩ : ∃ B,behN naB s.data.toList k = B:=⟨_,rfl⟩
  have e : behI naB s.data.toList (k : Int) = (B : Int):=by unfold behI; rw [if_neg h0,Int.toNat_natCast,hB]
  have E:=hid e
  have HB:=hid hB
  clear e hB h0
  go_enter Tryz.func60,Tryz.ntmps60
  go_wp2_with fail
  go_loop [1] (fun t=>∃ j : Nat,t = .int .i64 j /\ Hid (behN naB s.data.toList j = B)) (fun t=>s.size - (intOf t).toNat)
  case atStart=>exact ⟨k,rfl,HB⟩
  case round =>
   obtain ⟨j,rfl,hj⟩:=hrel
   by_cases hlt : j < s.size
   ·have hlt' : j < s.data.toList.length:=by rw [size_data]; exact hlt
    have hi0 : (0 : Int) <= (j : Int):=by omega
    have hi1 : (j : Int) < (s.size : Int):=by omega
    cases hp : naB s[j]
    ·have hno:=hid (behN_no naB s.data.toList j hlt' hp)
     have Hp:=hid hp
     clear hp
     go_wp2_with fail
     go_at_call 89
     refine (within_yes _ _ _ hi0 hi1).mono ?_
     rintro e w' ⟨rfl,rfl⟩
     go_wp2_with fail
     go_at_call 127
     refine (HN.out s[j] _).mono ?_
     rw [Hp.out]
     rintro e w' ⟨rfl,rfl⟩
     go_wp2_with fail
     go_ret
     exact ⟨ret_int (by rw [E.out,<- hj.out,hno.out]),rfl⟩
    ·have hyes:=hid (behN_yes naB s.data.toList j hlt' hp)
     have Hp:=hid hp
     clear hp
     go_wp2_with fail
     go_at_call 89
     refine (within_yes _ _ _ hi0 hi1).mono ?_
     rintro e w' ⟨rfl,rfl⟩
     go_wp2_with fail
     go_at_call 127
     refine (HN.out s[j] _).mono ?_
     rw [Hp.out]
     rintro e w' ⟨rfl,rfl⟩
     go_wp2_with fail
     go_round
     case rel=>exact ⟨j + 1,by go_num,hid (by rw [hyes.out,hj.out])⟩
     case measure=>simp [intOf]; omega
   ·have hend:=hid (behN_end naB s.data.toList j (by rw [size_data]; omega))
    go_wp2_with fail
    go_at_call 89
    refine (within_no _ _ _ (.inr (by omega))).mono ?_
    rintro e w' ⟨rfl,rfl⟩
    go_wp2_with fail
    go_ret
    exact ⟨ret_int (by rw [E.out,<- hj.out,hend.out]),rfl⟩
set_option maxHeartbeats 1000000 in
theorem behind_dg (s : ByteArray) (i : Int) (w : World) (hs : s.size <= 9223372036854775807) :
  Calls Tryz.prog 60 #[.string s,.int .i64 i,.func (.func 128) #[] #[]] w fun e w'=>e = .returned (.int .i64 (behI dgB s.data.toList i)) /\ w = w':=by
 have HN:=hid tells_digit
 by_cases h0 : i < 0
 ·have e : behI dgB s.data.toList i = i:=by unfold behI; rw [if_pos h0]
  have E:=hid e
  clear e
  go_enter Tryz.func60,Tryz.ntmps60
  go_wp2_with fail
  go_loop [1] (fun t=>t = .int .i64 i) (fun _=>0)
  case atStart=>rfl
  case round =>
   subst hrel
   go_wp2_with fail
   go_at_call 89
   refine (within_no _ _ _ (.inl h0)).mono ?_
   rintro e w' ⟨rfl,rfl⟩
   go_wp2_with fail
   go_ret
   exact ⟨ret_int E.out.symm,rfl⟩
 ·obtain ⟨k,rfl⟩ : ∃ k : Nat,i = (k : Int):=⟨i.toNat,by omega⟩
  obtain ⟨B,hB⟩ : ∃ B,behN dgB s.data.toList k = B:=⟨_,rfl⟩
  have e : behI dgB s.data.toList (k : Int) = (B : Int):=by unfold behI; rw [if_neg h0,Int.toNat_natCast,hB]
  have E:=hid e
  have HB:=hid hB
  clear e hB h0
  go_enter Tryz.func60,Tryz.ntmps60
  go_wp2_with fail
  go_loop [1] (fun t=>∃ j : Nat,t = .int .i64 j /\ Hid (behN dgB s.data.toList j = B)) (fun t=>s.size - (intOf t).toNat)
  case atStart=>exact ⟨k,rfl,HB⟩
  case round =>
   obtain ⟨j,rfl,hj⟩:=hrel
   by_cases hlt : j < s.size
   ·have hlt' : j < s.data.toList.length:=by rw [size_data]; exact hlt
    have hi0 : (0 : Int) <= (j : Int):=by omega
    have hi1 : (j : Int) < (s.size : Int):=by omega
    cases hp : dgB s[j]
    ·have hno:=hid (behN_no dgB s.data.toList j hlt' hp)
     have Hp:=hid hp
     clear hp
     go_wp2_with fail
     go_at_call 89
     refine (within_yes _ _ _ hi0 hi1).mono ?_
     rintro e w' ⟨rfl,rfl⟩
     go_wp2_with fail
     go_at_call 128
     refine (HN.out s[j] _).mono ?_
     rw [Hp.out]
     rintro e w' ⟨rfl,rfl⟩
     go_wp2_with fail
     go_ret
     exact ⟨ret_int (by rw [E.out,<- hj.out,hno.out]),rfl⟩
    ·have hyes:=hid (behN_yes dgB s.data.toList j hlt' hp)
     have Hp:=hid hp
     clear hp
     go_wp2_with fail
     go_at_call 89
     refine (within_yes _ _ _ hi0 hi1).mono ?_
     rintro e w' ⟨rfl,rfl⟩
     go_wp2_with fail
     go_at_call 128
     refine (HN.out s[j] _).mono ?_
     rw [Hp.out]
     rintro e w' ⟨rfl,rfl⟩
     go_wp2_with fail
     go_round
     case rel=>exact ⟨j + 1,by go_num,hid (by rw [hyes.out,hj.out])⟩
     case measure=>simp [intOf]; omega
   ·have hend:=hid (behN_end dgB s.data.toList j (by rw [size_data]; omega))
    go_wp2_with fail
    go_at_call 89
    refine (within_no _ _ _ (.inr (by omega))).mono ?_
    rintro e w' ⟨rfl,rfl⟩
    go_wp2_with fail
    go_ret
    exact ⟨ret_int (by rw [E.out,<- hj.out,hend.out]),rfl⟩
set_option maxHeartbeats 1000000 in
theorem behind_bi (s : ByteArray) (i : Int) (w : World) (hs : s.size <= 9223372036854775807) :
  Calls Tryz.prog 60 #[.string s,.int .i64 i,.func (.func 319) #[] #[]] w fun e w'=>e = .returned (.int .i64 (behI biB s.data.toList i)) /\ w = w':=by
 have HN:=hid tells_big
 by_cases h0 : i < 0
 ·have e : behI biB s.data.toList i = i:=by unfold behI; rw [if_pos h0]
  have E:=hid e
  clear e
  go_enter Tryz.func60,Tryz.ntmps60
  go_wp2_with fail
  go_loop [1] (fun t=>t = .int .i64 i) (fun _=>0)
  case atStart=>rfl
  case round =>
   subst hrel
   go_wp2_with fail
   go_at_call 89
   refine (within_no _ _ _ (.inl h0)).mono ?_
   rintro e w' ⟨rfl,rfl⟩
   go_wp2_with fail
   go_ret
   exact ⟨ret_int E.out.symm,rfl⟩
 ·obtain ⟨k,rfl⟩ : ∃ k : Nat,i = (k : Int):=⟨i.toNat,by omega⟩
  obtain ⟨B,hB⟩ : ∃ B,behN biB s.data.toList k = B:=⟨_,rfl⟩
  have e : behI biB s.data.toList (k : Int) = (B : Int):=by unfold behI; rw [if_neg h0,Int.toNat_natCast,hB]
  have E:=hid e
  have HB:=hid hB
  clear e hB h0
  go_enter Tryz.func60,Tryz.ntmps60
  go_wp2_with fail
  go_loop [1] (fun t=>∃ j : Nat,t = .int .i64 j /\ Hid (behN biB s.data.toList j = B)) (fun t=>s.size - (intOf t).toNat)
  case atStart=>exact ⟨k,rfl,HB⟩
  case round =>
   obtain ⟨j,rfl,hj⟩:=hrel
   by_cases hlt : j < s.size
   ·have hlt' : j < s.data.toList.length:=by rw [size_data]; exact hlt
    have hi0 : (0 : Int) <= (j : Int):=by omega
    have hi1 : (j : Int) < (s.size : Int):=by omega
    cases hp : biB s[j]
    ·have hno:=hid (behN_no biB s.data.toList j hlt' hp)
     have Hp:=hid hp
     clear hp
     go_wp2_with fail
     go_at_call 89
     refine (within_yes _ _ _ hi0 hi1).mono ?_
     rintro e w' ⟨rfl,rfl⟩
     go_wp2_with fail
     go_at_call 319
     refine (HN.out s[j] _).mono ?_
     rw [Hp.out]
     rintro e w' ⟨rfl,rfl⟩
     go_wp2_with fail
     go_ret
     exact ⟨ret_int (by rw [E.out,<- hj.out,hno.out]),rfl⟩
    ·have hyes:=hid (behN_yes biB s.data.toList j hlt' hp)
     have Hp:=hid hp
     clear hp
     go_wp2_with fail
     go_at_call 89
     refine (within_yes _ _ _ hi0 hi1).mono ?_
     rintro e w' ⟨rfl,rfl⟩
     go_wp2_with fail
     go_at_call 319
     refine (HN.out s[j] _).mono ?_
     rw [Hp.out]
     rintro e w' ⟨rfl,rfl⟩
     go_wp2_with fail
     go_round
     case rel=>exact ⟨j + 1,by go_num,hid (by rw [hyes.out,hj.out])⟩
     case measure=>simp [intOf]; omega
   ·have hend:=hid (behN_end biB s.data.toList j (by rw [size_data]; omega))
    go_wp2_with fail
    go_at_call 89
    refine (within_no _ _ _ (.inr (by omega))).mono ?_
    rintro e w' ⟨rfl,rfl⟩
    go_wp2_with fail
    go_ret
    exact ⟨ret_int (by rw [E.out,<- hj.out,hend.out]),rfl⟩
theorem spaces_any (s : ByteArray) (i : Int) (w : World) (hs : s.size <= 9223372036854775807) :
  Calls Tryz.prog 39 #[.string s,.int .i64 i] w fun e w'=>e = .returned (.int .i64 (behI spB s.data.toList i)) /\ w = w':=by
 go_enter Tryz.func39,Tryz.ntmps39
 go_wp2_with (go_at_call 60; refine (behind_sp _ _ _ hs).mono ?_; rintro e w' ⟨rfl,rfl⟩)
 go_ret
 exact ⟨rfl,rfl⟩
theorem blank_any (s : ByteArray) (i : Int) (w : World) (hs : s.size <= 9223372036854775807) :
  Calls Tryz.prog 131 #[.string s,.int .i64 i] w fun e w'=>e = .returned (.int .i64 (behI blB s.data.toList i)) /\ w = w':=by
 go_enter Tryz.func131,Tryz.ntmps131
 go_wp2_with (go_at_call 60; refine (behind_bl _ _ _ hs).mono ?_; rintro e w' ⟨rfl,rfl⟩)
 go_ret
 exact ⟨rfl,rfl⟩
def nameI (l : List UInt8) (i : Int) : Int:=if 0 <= i /\ i < l.length /\ leB (l.getD i.toNat 0) = true then behI naB l i else i
theorem getD_data (s : ByteArray) (j : Nat) (h : j < s.size) : s.data.toList.getD j 0 = s[j]:=by
 rw [List.getD_eq_getElem?_getD,List.getElem?_eq_getElem (by rw [size_data]; exact h)]; rfl
set_option maxHeartbeats 1000000 in
theorem name_any (s : ByteArray) (i : Int) (w : World) (hs : s.size <= 9223372036854775807) :
  Calls Tryz.prog 95 #[.string s,.int .i64 i] w fun e w'=>e = .returned (.int .i64 (nameI s.data.toList i)) /\ w = w':=by
 by_cases hin : 0 <= i /\ i < s.size
 ·obtain ⟨h0,h1⟩:=hin
  obtain ⟨j,rfl⟩ : ∃ j : Nat,i = (j : Int):=⟨i.toNat,by omega⟩
  have hj : j < s.size:=by omega
  cases hl : leB s[j]
  ·have e : nameI s.data.toList (j : Int) = j:=by
    unfold nameI
    rw [if_neg]
    rintro ⟨_,_,h⟩
    rw [Int.toNat_natCast,getD_data s j hj,hl] at h
    cases h
   have E:=hid e
   have Hl:=hid hl
   clear e hl
   go_enter Tryz.func95,Tryz.ntmps95
   go_wp2_with (first | (go_at_call 89; refine (within_yes _ _ _ h0 h1).mono ?_; rintro e w' ⟨rfl,rfl⟩) | (go_at_call 126; refine (letter_any s[j] _).mono ?_; rw [Hl.out]; rintro e w' ⟨rfl,rfl⟩))
   go_ret
   exact ⟨ret_int E.out.symm,rfl⟩
  ·have e : nameI s.data.toList (j : Int) = behI naB s.data.toList j:=by
    unfold nameI
    rw [if_pos]
    exact ⟨h0,by rw [size_data]; exact h1,by rw [Int.toNat_natCast,getD_data s j hj,hl]⟩
   have E:=hid e
   have Hl:=hid hl
   clear e hl
   go_enter Tryz.func95,Tryz.ntmps95
   go_wp2_with (first | (go_at_call 89; refine (within_yes _ _ _ h0 h1).mono ?_; rintro e w' ⟨rfl,rfl⟩) | (go_at_call 126; refine (letter_any s[j] _).mono ?_; rw [Hl.out]; rintro e w' ⟨rfl,rfl⟩) | (go_at_call 60; refine (behind_na _ _ _ hs).mono ?_; rintro e w' ⟨rfl,rfl⟩))
   go_ret
   exact ⟨ret_int E.out.symm,rfl⟩
 ·have e : nameI s.data.toList i = i:=by
   unfold nameI
   rw [if_neg]
   rintro ⟨a,b,_⟩
   rw [size_data] at b
   exact hin ⟨a,b⟩
  have E:=hid e
  clear e
  go_enter Tryz.func95,Tryz.ntmps95
  go_wp2_with (go_at_call 89; refine (within_no _ _ _ (by omega)).mono ?_; rintro e w' ⟨rfl,rfl⟩)
  go_ret
  exact ⟨ret_int E.out.symm,rfl⟩
def sgnI (l : List UInt8) (c : UInt8) (i : Int) : Int:=if 0 <= i /\ i < l.length /\ l.getD i.toNat 0 = c then i + 1 else i
def numI (l : List UInt8) (i : Int) : Int :=
 if sgnI l 45 i < behI dgB l (sgnI l 45 i) then
  if sgnI l 46 (behI dgB l (sgnI l 45 i)) < behI dgB l (sgnI l 46 (behI dgB l (sgnI l 45 i))) then behI dgB l (sgnI l 46 (behI dgB l (sgnI l 45 i)))
  else behI dgB l (sgnI l 45 i)
 else i
theorem num1_any (s : ByteArray) (c : UInt8) (i : Int) (b : Nat) (w : World) (hs : s.size <= 9223372036854775807) (hc : w.cell? ⟨b,0,none⟩ = some (.string s)) :
  Calls Tryz.prog 320 #[.int .u8 (c.toNat : Int),.int .i64 i,.pointer (some ⟨b,0,none⟩)] w fun e w'=>e = .returned (.tuple #[.int .i64 (behI dgB s.data.toList (sgnI s.data.toList c i)),.bool (decide (sgnI s.data.toList c i < behI dgB s.data.toList (sgnI s.data.toList c i)))]) /\ w = w':=by
 by_cases hin : 0 <= i /\ i < s.size
 ·obtain ⟨h0,h1⟩:=hin
  obtain ⟨j,rfl⟩ : ∃ j : Nat,i = (j : Int):=⟨i.toNat,by omega⟩
  have hj : j < s.size:=by omega
  by_cases hl : s[j] = c
  ·have e : sgnI s.data.toList c (j : Int) = j + 1:=by
    unfold sgnI
    rw [if_pos]
    exact ⟨h0,by rw [size_data]; exact h1,by rw [Int.toNat_natCast,getD_data s j hj,hl]⟩
   rw [e]
   clear e
   have hq : ((s[j].toNat : Int) == (c.toNat : Int)) = true:=by rw [hl]; simp
   clear hl
   go_enter Tryz.func320,Tryz.ntmps320
   go_wp2_with (first | (go_at_call 89; refine (within_yes _ _ _ h0 h1).mono ?_; rintro e w' ⟨rfl,rfl⟩) | (go_at_call 60; refine (behind_dg _ _ _ hs).mono ?_; rintro e w' ⟨rfl,rfl⟩))
   go_ret2
   exact ⟨rfl,rfl⟩
  ·have e : sgnI s.data.toList c (j : Int) = j:=by
    unfold sgnI
    rw [if_neg]
    rintro ⟨_,_,h⟩
    rw [Int.toNat_natCast,getD_data s j hj] at h
    exact hl h
   rw [e]
   clear e
   have hq : ((s[j].toNat : Int) == (c.toNat : Int)) = false:=by
    apply beq_eq_false_iff_ne.2
    intro h
    exact hl (UInt8.toNat_inj.1 (by omega))
   clear hl
   go_enter Tryz.func320,Tryz.ntmps320
   go_wp2_with (first | (go_at_call 89; refine (within_yes _ _ _ h0 h1).mono ?_; rintro e w' ⟨rfl,rfl⟩) | (go_at_call 60; refine (behind_dg _ _ _ hs).mono ?_; rintro e w' ⟨rfl,rfl⟩))
   go_ret2
   exact ⟨rfl,rfl⟩
 ·have e : sgnI s.data.toList c i = i:=by
   unfold sgnI
   rw [if_neg]
   rintro ⟨a,b,_⟩
   rw [size_data] at b
   exact hin ⟨a,b⟩
  rw [e]
  clear e
  go_enter Tryz.func320,Tryz.ntmps320
  go_wp2_with (first | (go_at_call 89; refine (within_no _ _ _ (by omega)).mono ?_; rintro e w' ⟨rfl,rfl⟩) | (go_at_call 60; refine (behind_dg _ _ _ hs).mono ?_; rintro e w' ⟨rfl,rfl⟩))
  go_ret2
  exact ⟨rfl,rfl⟩
end Go.Proofs.YtgdkpamlkpncgaaGreatDoor
namespace Go.Proofs.YtgdkpamlkpncgaaGreatDoor
open _root_.Go.Lib (hid)
set_option linter.unusedVariables false
set_option linter.unusedSimpArgs false
def ptAt (t : List UInt8) (m : Nat) : Bool:=decide (at0 t m = 46 /\ 0 < m /\ m + 1 < t.length)
def okAt (t : List UInt8) (m : Nat) : Bool:=ptAt t m || dgB (at0 t m)
def cntP (t : List UInt8) : Nat -> Nat
 | 0=>0
 | m + 1=>cntP t m + if ptAt t m = true then 1 else 0
def numB (t : List UInt8) : Bool:=decide (0 < t.length /\ (∀ m,m < t.length -> okAt t m = true) /\ cntP t t.length <= 1)
def strip (x : List UInt8) : List UInt8:=if at0 x 0 = 45 then x.drop 1 else x
def lnumB (x : List UInt8) : Bool:=numB (strip x)
theorem cnt_mono (t : List UInt8) : ∀ (n m : Nat),m <= n -> cntP t m <= cntP t n
 | 0,m,h=>by rw [show m = 0 by omega]; exact Nat.le_refl _
 | n + 1,m,h=>by
  by_cases e : m = n + 1
  ·rw [e]; exact Nat.le_refl _
  ·have:=cnt_mono t n m (by omega)
   rw [cntP]; omega
theorem cnt_two (t : List UInt8) (p q n : Nat) (hpq : p < q) (hq : q < n) (h1 : ptAt t p = true) (h2 : ptAt t q = true) : 2 <= cntP t n:=by
 have a:=cnt_mono t n (q + 1) (by omega)
 have b:=cnt_mono t q (p + 1) (by omega)
 rw [cntP,if_pos h2] at a
 rw [cntP,if_pos h1] at b
 omega
theorem cnt_none (t : List UInt8) : ∀ n,(∀ m,m < n -> ptAt t m = false) -> cntP t n = 0
 | 0,_=>rfl
 | n + 1,h=>by
  rw [cntP,cnt_none t n (fun m hm=>h m (by omega)),if_neg (by rw [h n (by omega)]; decide)]
theorem cnt_one (t : List UInt8) (p : Nat) : ∀ n,(∀ m,m < n -> m ≠ p -> ptAt t m = false) -> cntP t n <= 1
 | 0,_=>by rw [cntP]; omega
 | n + 1,h=>by
  rw [cntP]
  by_cases e : n = p
  ·subst e
   rw [cnt_none t n (fun m hm=>h m (by omega) (by omega))]
   split <;> omega
  ·have:=cnt_one t p n (fun m hm=>h m (by omega))
   rw [if_neg (by rw [h n (by omega) e]; decide)]
   omega
theorem dg_46 : dgB 46 = false:=by decide
theorem strip_pc (l : List UInt8) (i k : Nat) (hik : i < k) (hk : k <= l.length) : strip (pc l i k) = pc l (if at0 l i = 45 then i + 1 else i) k:=by
 unfold strip
 rw [pc_at l i k 0 (by omega),Nat.add_zero]
 split
 ·unfold pc; rw [List.drop_drop]
 ·rfl
section
variable (l : List UInt8) (a k : Nat) (hk : k <= l.length)
include hk
theorem pt_pc (m : Nat) (h : a + m < k) : ptAt (pc l a k) m = decide (at0 l (a + m) = 46 /\ 0 < m /\ a + m + 1 < k):=by
 unfold ptAt
 rw [pc_at l a k m h,pc_length l a k hk]
 congr 1
 apply propext
 constructor
 ·rintro ⟨x,y,z⟩; exact ⟨x,y,by omega⟩
 ·rintro ⟨x,y,z⟩; exact ⟨x,y,by omega⟩
theorem ok_pc (m : Nat) (h : a + m < k) : okAt (pc l a k) m = (decide (at0 l (a + m) = 46 /\ 0 < m /\ a + m + 1 < k) || dgB (at0 l (a + m))):=by
 unfold okAt
 rw [pt_pc l a k hk m h,pc_at l a k m h]
theorem num_digits (h : a < k) (hd : ∀ m,a <= m -> m < k -> dgB (at0 l m) = true) : numB (pc l a k) = true:=by
 unfold numB
 rw [decide_eq_true_iff,pc_length l a k hk]
 refine ⟨by omega,fun m hm=>?_,?_⟩
 ·rw [ok_pc l a k hk m (by omega),hd _ (by omega) (by omega)]; simp
 ·rw [cnt_none]
  ·omega
  ·intro m hm
   rw [pt_pc l a k hk m (by omega)]
   apply decide_eq_false
   rintro ⟨x,_,_⟩
   have:=hd (a + m) (by omega) (by omega)
   rw [x,dg_46] at this
   cases this
theorem num_point (e : Nat) (hae : a < e) (hek : e + 1 < k) (hp : at0 l e = 46) (hd1 : ∀ m,a <= m -> m < e -> dgB (at0 l m) = true) (hd2 : ∀ m,e + 1 <= m -> m < k -> dgB (at0 l m) = true) : numB (pc l a k) = true:=by
 unfold numB
 rw [decide_eq_true_iff,pc_length l a k hk]
 have hdg : ∀ m,a <= m -> m < k -> m ≠ e -> dgB (at0 l m) = true:=fun m h1 h2 h3=>by
  by_cases h : m < e
  ·exact hd1 m h1 h
  ·exact hd2 m (by omega) h2
 refine ⟨by omega,fun m hm=>?_,?_⟩
 ·rw [ok_pc l a k hk m (by omega)]
  by_cases h : a + m = e
  ·rw [decide_eq_true ⟨by rw [h]; exact hp,by omega,by omega⟩]; rfl
  ·rw [hdg _ (by omega) (by omega) h]; simp
 ·apply cnt_one _ (e - a)
  intro m hm hne
  rw [pt_pc l a k hk m (by omega)]
  apply decide_eq_false
  rintro ⟨x,_,_⟩
  have:=hdg (a + m) (by omega) (by omega) (by omega)
  rw [x,dg_46] at this
  cases this
theorem num_bad (p : Nat) (h1 : a <= p) (h2 : p < k) (hd : dgB (at0 l p) = false) (hn : ¬ (at0 l p = 46 /\ a < p /\ p + 1 < k)) : numB (pc l a k) = false:=by
 unfold numB
 apply decide_eq_false
 rintro ⟨_,h,_⟩
 rw [pc_length l a k hk] at h
 have:=h (p - a) (by omega)
 rw [ok_pc l a k hk _ (by omega),show a + (p - a) = p by omega,hd,Bool.or_false,decide_eq_true_iff] at this
 exact hn ⟨this.1,by omega,this.2.2⟩
theorem num_two (p q : Nat) (h1 : a < p) (hpq : p < q) (h2 : q < k) (hp : at0 l p = 46) (hd : dgB (at0 l q) = false) : numB (pc l a k) = false:=by
 by_cases hq : at0 l q = 46 /\ a < q /\ q + 1 < k
 ·unfold numB
  apply decide_eq_false
  rintro ⟨_,_,h⟩
  rw [pc_length l a k hk] at h
  have:=cnt_two (pc l a k) (p - a) (q - a) (k - a) (by omega) (by omega) (by
   rw [pt_pc l a k hk _ (by omega),show a + (p - a) = p by omega]
   exact decide_eq_true ⟨hp,by omega,by omega⟩) (by
   rw [pt_pc l a k hk _ (by omega),show a + (q - a) = q by omega]
   exact decide_eq_true ⟨hq.1,by omega,by omega⟩)
  omega
 ·exact num_bad l a k hk q (by omega) h2 hd hq
omit hk in
theorem num_empty (h : k <= a) : numB (pc l a k) = false:=by
 unfold numB
 apply decide_eq_false
 rintro ⟨h0,_⟩
 have : (pc l a k).length = 0:=by unfold pc; rw [List.length_drop,List.length_take]; omega
 omega
end
def numN (l : List UInt8) (i : Nat) : Nat :=
 let a:=if i < l.length /\ at0 l i = 45 then i + 1 else i
 let e:=behN dgB l a
 let b:=if e < l.length /\ at0 l e = 46 then e + 1 else e
 let e2:=behN dgB l b
 if a < e then (if b < e2 then e2 else e) else i
theorem long_num (l : List UInt8) (i : Nat) (hi : i <= l.length) : longN lnumB l i l.length = numN l i:=by
 have hstrip : ∀ k,i < k -> k <= l.length -> lnumB (pc l i k) = numB (pc l (if i < l.length /\ at0 l i = 45 then i + 1 else i) k):=by
  intro k h1 h2
  unfold lnumB
  rw [strip_pc l i k h1 h2]
  by_cases h : at0 l i = 45
  ·rw [if_pos h,if_pos ⟨by omega,h⟩]
  ·rw [if_neg h,if_neg (fun x=>h x.2)]
 unfold numN
 dsimp only
 have hia : i <= (if i < l.length /\ at0 l i = 45 then i + 1 else i) /\ (if i < l.length /\ at0 l i = 45 then i + 1 else i) <= l.length:=by split <;> omega
 generalize (if i < l.length /\ at0 l i = 45 then i + 1 else i) = a at *
 have he1:=behN_ge dgB l a
 have he2:=behN_le dgB l a hia.2
 have hso:=behN_so dgB l a
 have hst:=behN_stop dgB l a
 generalize behN dgB l a = e at *
 by_cases hae : a < e
 ·rw [if_pos hae]
  by_cases hpt : e < l.length /\ at0 l e = 46
  ·rw [if_pos hpt]
   have hf1:=behN_ge dgB l (e + 1)
   have hf2:=behN_le dgB l (e + 1) (by omega)
   have hso2:=behN_so dgB l (e + 1)
   have hst2:=behN_stop dgB l (e + 1)
   generalize behN dgB l (e + 1) = e2 at *
   by_cases hb : e + 1 < e2
   ·rw [if_pos hb]
    apply longN_eq
    ·exact .inr ⟨by omega,by rw [hstrip _ (by omega) hf2]; exact num_point l a e2 hf2 e hae hb hpt.2 hso (fun m x y=>hso2 m x y)⟩
    ·exact .inl hf2
    ·intro k h1 h2
     rw [hstrip k (by omega) h2]
     exact num_two l a k h2 e e2 hae (by omega) h1 hpt.2 (hst2 (by omega))
   ·rw [if_neg hb]
    have e2e : e2 = e + 1:=by omega
    subst e2e
    apply longN_eq
    ·exact .inr ⟨by omega,by rw [hstrip _ (by omega) he2]; exact num_digits l a e he2 hae hso⟩
    ·exact .inl he2
    ·intro k h1 h2
     rw [hstrip k (by omega) h2]
     by_cases hk1 : k = e + 1
     ·exact num_bad l a k h2 e (by omega) h1 (hst (by omega)) (by omega)
     ·exact num_two l a k h2 e (e + 1) hae (by omega) (by omega) hpt.2 (hst2 (by omega))
  ·rw [if_neg hpt]
   have hb : behN dgB l e = e:=by
    by_cases h : e < l.length
    ·exact behN_no dgB l e h (by rw [<- at0_get l e h]; exact hst h)
    ·exact behN_end dgB l e (by omega)
   rw [hb,if_neg (by omega)]
   apply longN_eq
   ·exact .inr ⟨by omega,by rw [hstrip _ (by omega) he2]; exact num_digits l a e he2 hae hso⟩
   ·exact .inl he2
   ·intro k h1 h2
    rw [hstrip k (by omega) h2]
    exact num_bad l a k h2 e (by omega) h1 (hst (by omega)) (fun h=>hpt ⟨by omega,h.1⟩)
 ·rw [if_neg hae]
  apply longN_eq
  ·exact .inl rfl
  ·exact .inr rfl
  ·intro k h1 h2
   rw [hstrip k h1 h2]
   have : e = a:=by omega
   subst this
   by_cases hka : k <= e
   ·exact num_empty l e k hka
   ·exact num_bad l e k h2 e (Nat.le_refl _) (by omega) (hst (by omega)) (by omega)
theorem sgn_nat (l : List UInt8) (c : UInt8) (k : Nat) : sgnI l c (k : Int) = ((if k < l.length /\ at0 l k = c then k + 1 else k : Nat) : Int):=by
 unfold sgnI at0
 rw [Int.toNat_natCast]
 by_cases h : k < l.length /\ l.getD k 0 = c
 ·rw [if_pos h,if_pos ⟨by omega,by omega,h.2⟩]; rfl
 ·rw [if_neg h,if_neg (fun x=>h ⟨by omega,x.2.2⟩)]
theorem behI_nat (p : UInt8 -> Bool) (l : List UInt8) (k : Nat) : behI p l (k : Int) = (behN p l k : Int):=by
 unfold behI
 rw [if_neg (by omega),Int.toNat_natCast]
theorem numI_nat (l : List UInt8) (k : Nat) : numI l (k : Int) = (numN l k : Int):=by
 unfold numI numN
 dsimp only
 rw [sgn_nat,behI_nat,sgn_nat,behI_nat]
 generalize (if k < l.length /\ at0 l k = 45 then k + 1 else k) = a
 generalize behN dgB l a = e
 generalize (if e < l.length /\ at0 l e = 46 then e + 1 else e) = b
 generalize behN dgB l b = e2
 by_cases h1 : a < e
 ·by_cases h2 : b < e2
  ·rw [if_pos (by omega),if_pos (by omega),if_pos h1,if_pos h2]
  ·rw [if_pos (by omega),if_neg (by omega),if_pos h1,if_neg h2]
 ·rw [if_neg (by omega),if_neg h1]
end Go.Proofs.YtgdkpamlkpncgaaGreatDoor
namespace Go.Proofs.YtgdkpamlkpncgaaGreatDoor
open Go.RowKit
open _root_.Go.Lib (hid)
set_option linter.unusedVariables false
set_option linter.unusedSimpArgs false
set_option maxHeartbeats 1000000 in
theorem number_any (s : ByteArray) (i : Int) (w : World) (hs : s.size <= 9223372036854775807) :
  Calls Tryz.prog 300 #[.string s,.int .i64 i] w fun e w'=>e = .returned (.int .i64 (numI s.data.toList i)) /\ Below w.heap.size w w':=by
 have hmf : ∀ (fn : Fn) (first cap : Array Value) (w : World),(Instr.makeFunc fn first cap).run Tryz.prog w = .ok (.func fn first cap) w:=fun _ _ _ _=>rfl
 obtain ⟨a,ha⟩ : ∃ a,sgnI s.data.toList 45 i = a:=⟨_,rfl⟩
 obtain ⟨e1,he1⟩ : ∃ a1,behI dgB s.data.toList a = a1:=⟨_,rfl⟩
 obtain ⟨b,hb⟩ : ∃ b,sgnI s.data.toList 46 e1 = b:=⟨_,rfl⟩
 obtain ⟨e2,he2⟩ : ∃ a2,behI dgB s.data.toList b = a2:=⟨_,rfl⟩
 have hn : numI s.data.toList i = if a < e1 then if b < e2 then e2 else e1 else i:=by
  unfold numI
  rw [ha,he1,hb,he2]
 have H1 : ∀ W p,W.cell? ⟨p,0,none⟩ = some (.string s) -> Calls Tryz.prog 320 #[.int .u8 45,.int .i64 i,.pointer (some ⟨p,0,none⟩)] W fun e w'=>e = .returned (.tuple #[.int .i64 e1,.bool (decide (a < e1))]) /\ W = w':=by
  intro W p hc
  have h:=num1_any s 45 i p W hs hc
  rw [ha,he1] at h
  exact h
 have H2 : ∀ W p,W.cell? ⟨p,0,none⟩ = some (.string s) -> Calls Tryz.prog 320 #[.int .u8 46,.int .i64 e1,.pointer (some ⟨p,0,none⟩)] W fun e w'=>e = .returned (.tuple #[.int .i64 e2,.bool (decide (b < e2))]) /\ W = w':=by
  intro W p hc
  have h:=num1_any s 46 e1 p W hs hc
  rw [hb,he2] at h
  exact h
 have HN:=hid hn
 have K1:=hid H1
 have K2:=hid H2
 clear hn ha he1 hb he2 H1 H2
 by_cases h1 : a < e1
 ·by_cases h2 : b < e2
  ·have E:=hid (show numI s.data.toList i = e2 by rw [HN.out,if_pos h1,if_pos h2])
   have d1 : decide (a < e1) = true:=by simpa using h1
   have d2 : decide (b < e2) = true:=by simpa using h2
   go_enter Tryz.func300,Tryz.ntmps300
   go_wp2_with fail
   go_at_call 320
   refine (K1.out _ _ (by simp)).mono ?_
   rintro e w' ⟨rfl,rfl⟩
   go_wp2_with fail
   go_at_call 320
   refine (K2.out _ _ (by simp)).mono ?_
   rintro e w' ⟨rfl,rfl⟩
   go_wp2_with fail
   go_ret
   exact ⟨ret_int E.out.symm,(Below.refl _ _).alloc (Nat.le_refl _) _⟩
  ·have E:=hid (show numI s.data.toList i = e1 by rw [HN.out,if_pos h1,if_neg h2])
   have d1 : decide (a < e1) = true:=by simpa using h1
   have d2 : decide (b < e2) = false:=by simpa using h2
   go_enter Tryz.func300,Tryz.ntmps300
   go_wp2_with fail
   go_at_call 320
   refine (K1.out _ _ (by simp)).mono ?_
   rintro e w' ⟨rfl,rfl⟩
   go_wp2_with fail
   go_at_call 320
   refine (K2.out _ _ (by simp)).mono ?_
   rintro e w' ⟨rfl,rfl⟩
   go_wp2_with fail
   go_ret
   exact ⟨ret_int E.out.symm,(Below.refl _ _).alloc (Nat.le_refl _) _⟩
 ·have E:=hid (show numI s.data.toList i = i by rw [HN.out,if_neg h1])
  have d1 : decide (a < e1) = false:=by simpa using h1
  go_enter Tryz.func300,Tryz.ntmps300
  go_wp2_with fail
  go_at_call 320
  refine (K1.out _ _ (by simp)).mono ?_
  rintro e w' ⟨rfl,rfl⟩
  go_wp2_with fail
  go_ret
  exact ⟨ret_int E.out.symm,(Below.refl _ _).alloc (Nat.le_refl _) _⟩
def bigV (s : ByteArray) : Bool:=!s.data.toList.isEmpty && (behI biB s.data.toList 0 == (s.size : Int))
theorem big_any (s : ByteArray) (w : World) (hs : s.size <= 9223372036854775807) :
  Calls Tryz.prog 298 #[.string s] w fun e w'=>e = .returned (.bool (bigV s)) /\ w = w':=by
 have hv : bigV s = (!s.toList.isEmpty && (behI biB s.data.toList 0 == (s.size : Int))):=by unfold bigV; rw [Lib.toList_data]
 have HV:=hid hv
 clear hv
 go_enter Tryz.func298,Tryz.ntmps298
 go_wp2_with (go_at_call 60; refine (behind_bi _ _ _ hs).mono ?_; rintro e w' ⟨rfl,rfl⟩)
 all_goals
  go_ret
  exact ⟨ret_bool (by rw [HV.out] <;> simp [*]),rfl⟩
def isNameV (s : ByteArray) : Bool:=!s.data.toList.isEmpty && (nameI s.data.toList 0 == (s.size : Int))
end Go.Proofs.YtgdkpamlkpncgaaGreatDoor
