/-
  Several texts put together (part 23): what the law and the program call, walked; their contracts.
-/
import Derived.Test.YtgdkpamlkpncgaaGreatDoorQ18
import Derived.Lib.IndexAny
import Derived.Lib.Bytealg
import Derived.Test.YtgdkpamlkpncgaaGreatDoorQ3
import Derived.Test.YtgdkpamlkpncgaaGreatDoorQ7
import Derived.Lib.OthersKept
import Derived.Laws.RangeAny
import Derived.Laws.RangeString
import Derived.Lib.TrimU
import Derived.WalkMore
import Derived.Deep.LoopGhost
import Derived.Deep.QuietTactic
import Derived.BigQuiet
namespace Go.Proofs.YtgdkpamlkpncgaaGreatDoor
open Go.RowKit
open _root_.Go.Lib (hid)
set_option linter.unusedVariables false
set_option linter.unusedSimpArgs false
def tmB (c : UInt8) : Bool := !(c == 46 || c == 42 || c == 91)
theorem idxAny_twM (chars : List UInt8) : ∀ l : List UInt8,Lib.indexAny l chars = if (l.takeWhile (fun c => !chars.contains c)).length < l.length then ((l.takeWhile (fun c => !chars.contains c)).length : Int) else -1
 | [] => by simp [Lib.indexAny]
 | b :: l => by
  have ih := idxAny_twM chars l
  rw [Lib.indexAny,List.takeWhile_cons]
  generalize hT : l.takeWhile (fun c => !chars.contains c) = T at ih ⊢
  by_cases h : chars.contains b = true
  ·have h2 : ¬ ((!chars.contains b) = true) := by rw [h]; decide
   rw [if_pos h,if_neg h2,if_pos (by simp)]
   rfl
  ·have h2 : (!chars.contains b) = true := by rw [Bool.eq_false_iff.2 h]; rfl
   rw [if_neg h,if_pos h2,ih,List.length_cons,List.length_cons]
   by_cases hl : T.length < l.length
   ·rw [if_pos hl]
    have h3 : ¬ (((T.length : Int) == -1) = true) := by rw [beq_iff_eq]; omega
    rw [if_neg h3,if_pos (show T.length + 1 < l.length + 1 by omega)]
    omega
   ·rw [if_neg hl,if_neg (show ¬ T.length + 1 < l.length + 1 by omega)]
    rfl
def brM : ByteArray := ⟨#[46,42,91]⟩
theorem brM_list : brM.data.toList = [46,42,91] := rfl
def runeM (r : Nat) : Int := if r = 46 then 0 else if r = 42 then 1 else if r = 91 then 2 else -1
theorem tmB_iff (c : UInt8) : tmB c = true ↔ c.toNat ≠ 46 /\ c.toNat ≠ 42 /\ c.toNat ≠ 91 := by
 unfold tmB
 rw [Bool.not_eq_true',Bool.or_eq_false_iff,Bool.or_eq_false_iff,beq_eq_false_iff_ne,beq_eq_false_iff_ne,beq_eq_false_iff_ne]
 have e : ∀ d : UInt8,c ≠ d ↔ c.toNat ≠ d.toNat := fun d => not_congr ⟨fun h => by rw [h],fun h => UInt8.toNat_inj.1 h⟩
 rw [e 46,e 42,e 91,and_assoc]
 rfl
theorem behN_skipM (p : UInt8 -> Bool) (l : List UInt8) (k : Nat) : ∀ n,(∀ j,j < n -> ∃ h : k + j < l.length,p l[k + j] = true) -> behN p l k = behN p l (k + n)
 | 0,_ => rfl
 | n + 1,h => by
  rw [behN_skipM p l k n (fun j hj => h j (by omega))]
  obtain ⟨h1,h2⟩ := h n (by omega)
  exact (behN_yes p l (k + n) h1 h2).symm
theorem tm_here (s : ByteArray) (pos : Nat) (hp : pos < s.size) (h : tmB (s.data.toList[pos]'(by rw [size_data]; exact hp)) = false) : behN tmB s.data.toList pos = pos := by
 unfold behN
 rw [List.drop_eq_getElem_cons (by rw [size_data]; exact hp),List.takeWhile_cons,h]
 rfl
theorem tm_step (s : ByteArray) (pos : Nat) (hp : pos < s.size) (h : (Utf8.decode s pos).1 ≠ 46 /\ (Utf8.decode s pos).1 ≠ 42 /\ (Utf8.decode s pos).1 ≠ 91) : behN tmB s.data.toList pos = behN tmB s.data.toList (pos + (Utf8.decode s pos).2) := by
 refine behN_skipM tmB s.data.toList pos _ fun j hj => ?_
 by_cases h0 : j = 0
 ·subst h0
  refine ⟨by rw [size_data]; omega,?_⟩
  by_cases ha : (s[pos]'hp).toNat < 128
  ·rw [decode_ascii s pos hp ha] at h
   exact (tmB_iff _).2 h
  ·have : (s.data.toList[pos + 0]'(by rw [size_data]; omega)).toNat = (s[pos]'hp).toNat := rfl
   refine (tmB_iff _).2 ⟨?_,?_,?_⟩ <;> omega
 ·have hc := cont_high s pos j (by omega) hj
  refine ⟨by rw [size_data]; exact hc.1,?_⟩
  rw [get_bang s (pos + j) hc.1] at hc
  refine (tmB_iff _).2 ⟨?_,?_,?_⟩ <;> omega
theorem tm_met (s : ByteArray) (pos : Nat) (hp : pos < s.size) (h : (Utf8.decode s pos).1 = 46 ∨ (Utf8.decode s pos).1 = 42 ∨ (Utf8.decode s pos).1 = 91) : behN tmB s.data.toList pos = pos := by
 have ha : (s[pos]'hp).toNat < 128 := by
  rcases Nat.lt_or_ge (s[pos]'hp).toNat 128 with h1 | h1
  ·exact h1
  ·have := (decode_high s pos hp h1).1
   omega
 refine tm_here s pos hp ?_
 rw [decode_ascii s pos hp ha] at h
 rw [Bool.eq_false_iff]
 intro hb
 have := (tmB_iff _).1 hb
 have e : (s.data.toList[pos]'(by rw [size_data]; exact hp)).toNat = (s[pos]'hp).toNat := rfl
 rw [e] at this
 omega
theorem index_marks (r : Nat) (h : r < 128) : Lib.indexByte [46,42,91] ((r : Int).toNat.toUInt8) = runeM r := by
 have h1 : ((r : Int).toNat.toUInt8).toNat = r := by
  rw [Int.toNat_natCast]
  show r % 256 = r
  omega
 generalize (r : Int).toNat.toUInt8 = c at h1
 subst h1
 unfold runeM
 by_cases e0 : c = 46
 ·subst e0; rfl
 by_cases e1 : c = 42
 ·subst e1; rfl
 by_cases e2 : c = 91
 ·subst e2; rfl
 ·have n0 : ¬ c.toNat = 46 := fun e => e0 (UInt8.toNat_inj.1 e)
  have n1 : ¬ c.toNat = 42 := fun e => e1 (UInt8.toNat_inj.1 e)
  have n2 : ¬ c.toNat = 91 := fun e => e2 (UInt8.toNat_inj.1 e)
  rw [if_neg n0,if_neg n1,if_neg n2]
  have m0 : ((46 : UInt8) == c) = false := by simpa using fun e : 46 = c => e0 e.symm
  have m1 : ((42 : UInt8) == c) = false := by simpa using fun e : 42 = c => e1 e.symm
  have m2 : ((91 : UInt8) == c) = false := by simpa using fun e : 91 = c => e2 e.symm
  simp [Lib.indexByte,m0,m1,m2]
theorem enc_formM (r : Nat) (h : 128 <= r) : 2 <= (Utf8.encode (r : Int)).size /\ (Utf8.encode (r : Int)).size <= 4 /\ (∀ x,(Utf8.encode (r : Int)).data.toList[(Utf8.encode (r : Int)).size - 1]? = some x -> 128 <= x.toNat) := by
 obtain ⟨c,hc,he⟩ : ∃ c : Nat,128 <= c /\ Utf8.encode (r : Int) = (if c < 0x80 then ⟨#[UInt8.ofNat c]⟩ else if c < 0x800 then ⟨#[UInt8.ofNat (0xC0 + c / 64),UInt8.ofNat (0x80 + c % 64)]⟩ else if c < 0x10000 then ⟨#[UInt8.ofNat (0xE0 + c / 4096),UInt8.ofNat (0x80 + c / 64 % 64),UInt8.ofNat (0x80 + c % 64)]⟩
   else ⟨#[UInt8.ofNat (0xF0 + c / 262144),UInt8.ofNat (0x80 + c / 4096 % 64),UInt8.ofNat (0x80 + c / 64 % 64),UInt8.ofNat (0x80 + c % 64)]⟩) := by
  refine ⟨if Utf8.valid (r : Int) then (r : Int).toNat else Utf8.runeError,?_,rfl⟩
  split
  ·rw [Int.toNat_natCast]; exact h
  ·unfold Utf8.runeError; omega
 rw [he]
 have hl : ∀ x : UInt8,some (UInt8.ofNat (0x80 + c % 64)) = some x -> 128 <= x.toNat := fun x hx => by
  cases hx
  rw [UInt8.toNat_ofNat']
  omega
 by_cases h1 : c < 0x80
 ·omega
 rw [if_neg h1]
 by_cases h2 : c < 0x800
 ·rw [if_pos h2]
  exact ⟨Nat.le_refl 2,by show 2 <= 4; omega,fun x hx => hl x hx⟩
 rw [if_neg h2]
 by_cases h3 : c < 0x10000
 ·rw [if_pos h3]
  exact ⟨by show 2 <= 3; omega,by show 3 <= 4; omega,fun x hx => hl x hx⟩
 ·rw [if_neg h3]
  exact ⟨by show 2 <= 4; omega,by show 4 <= 4; omega,fun x hx => hl x hx⟩
set_option maxHeartbeats 4000000 in
set_option maxRecDepth 1000000 in
theorem rune_errM (w : World) : Calls Tryz.prog 206 #[.string brM,.int .i32 65533] w fun e w' => e = .returned (.int .i64 (-1)) /\ Below w.heap.size w w' := by
 have hsz : brM.size = 3 := by decide
 have Hsz := hid hsz
 clear hsz
 go_enter Tryz.func206,Tryz.ntmps206
 go_wp2
 go_loopw [] (fun wr => ∃ pos : Nat,wr.heap[w.heap.size]? = some (.stringIter brM pos) /\ Hid (Below w.heap.size w wr) /\ pos <= 3) (fun wr => 3 - wr.iterPos w.heap.size)
 case atStart => exact ⟨0,World.iter_heap w brM 0,(Below.refl _ w).alloc (Nat.le_refl _) _,by omega⟩
 case round =>
  obtain ⟨pos,hit,Hb,hp2⟩ := hrel
  have hsz : w.heap.size < wr.heap.size := (Array.getElem?_eq_some_iff.1 hit).1
  by_cases hp : pos < 3
  ·have hpz : pos < brM.size := by rw [Hsz.out]; exact hp
   have hnx : ∀ ty,(Instr.next (.pointer (some ⟨w.heap.size,0,none⟩)) true ty).run Tryz.prog wr = _ := fun ty => Lib.run_next_any_at wr w.heap.size brM pos ty hit hpz
   have hd : (Utf8.decode brM pos).2 = 1 /\ (Utf8.decode brM pos).1 < 128 := by
    rcases (by omega : pos = 0 ∨ pos = 1 ∨ pos = 2) with rfl | rfl | rfl <;> decide
   have hit2 := Lib.iterAt_heap wr w.heap.size brM pos (pos + (Utf8.decode brM pos).2) hit
   have hb2 := Lib.below_iterAt Hb.out (k := w.heap.size) (by omega) brM (pos + (Utf8.decode brM pos).2)
   have hz : (((Utf8.decode brM pos).1 : Int) == 65533) = false := by rw [beq_eq_false_iff_ne]; omega
   have Hd := hid hd
   have Hb2 := hid hb2
   have Hit := hid hit
   have Hit2 := hid hit2
   clear hd hb2 hit hit2
   go_wp2
   go_roundw
   case rel => exact ⟨pos + (Utf8.decode brM pos).2,Hit2.out,Hb2.out,by have := Hd.out.1; omega⟩
   case measure =>
    simp only [World.iterPos,Hit2.out,Hit.out]
    have := Hd.out.1
    omega
  ·have hnx : ∀ ty,(Instr.next (.pointer (some ⟨w.heap.size,0,none⟩)) true ty).run Tryz.prog wr = _ := fun ty => Lib.run_next_end_at wr w.heap.size brM pos ty hit (by rw [Hsz.out]; omega)
   go_wp2
   go_ret
   exact ⟨rfl,Hb.out⟩
set_option maxHeartbeats 4000000 in
set_option maxRecDepth 1000000 in
theorem rune_farM (r : Nat) (h : 128 <= r) (hr : r <= 1114111) (he : r ≠ 65533) (w : World) : Calls Tryz.prog 206 #[.string brM,.int .i32 r] w fun e w' => e = .returned (.int .i64 (-1)) /\ Below w.heap.size w w' := by
 have hz1 : decide ((0 : Int) <= (r : Int)) = true := decide_eq_true (by omega)
 have hz2 : decide ((r : Int) < 128) = false := decide_eq_false (by omega)
 have hz2' : decide (r < 128) = false := decide_eq_false (by omega)
 have hz3 : ((r : Int) == 65533) = false := beq_eq_false_iff_ne.2 (by omega)
 have hrz : (r : Int) <= 1114111 := by omega
 have hV := fun W => Tryz.utf8_ValidRune (r : Int) W
 obtain ⟨v,hv⟩ : ∃ v,Lib.validRune (r : Int) = v := ⟨_,rfl⟩
 rw [hv] at hV
 have HV := hid hV
 clear hV hv
 obtain ⟨hs2,hs4,hs1⟩ := enc_formM r h
 obtain ⟨E,hE⟩ : ∃ E,Utf8.encode (r : Int) = E := ⟨_,rfl⟩
 rw [hE] at hs2 hs4 hs1
 have H1 := hid hs1
 clear hs1
 cases v
 case false =>
  clear hE
  go_enter Tryz.func206,Tryz.ntmps206
  go_wp2_with fail
  go_at_call 235
  refine (HV.out _).mono ?_
  rintro e w' ⟨rfl,rfl⟩
  go_wp2
  go_ret
  exact ⟨rfl,Below.refl _ _⟩
 go_enter Tryz.func206,Tryz.ntmps206
 go_wp2_with fail
 go_at_call 235
 refine (HV.out _).mono ?_
 rintro e w' ⟨rfl,rfl⟩
 go_wp2
 go_step3
 go_wp2
 have hbs : brM.size = 3 := by decide
 have Hbs := hid hbs
 clear hbs hE
 go_loopg [9] 1 (fun g s9 wr => s9 = .int .i64 ((E.size : Int) - 1) /\ wr = w')
 case atStart => exact ⟨rfl,rfl⟩
 case round =>
  obtain ⟨rfl,rfl⟩ := hrel
  by_cases h2 : E.size = 2
  ·have e1 : (E.size : Int) - 1 = 1 := by omega
   rw [e1]
   have h1z : decide ((1 : Int) < (brM.size : Int)) = true := decide_eq_true (by rw [Hbs.out]; decide)
   have hlt1 : (1 : Int) < (brM.size : Int) := by rw [Hbs.out]; decide
   have hlt1n : 1 < brM.size := by rw [Hbs.out]; decide
   have hlt2 : (1 : Int) < (E.size : Int) := by omega
   have hlt2n : 1 < E.size := by omega
   have hne : ((brM[1].toNat : Int) != (E[1].toNat : Int)) = true := by
    have hx := H1.out E[1] (by rw [show E.size - 1 = 1 by omega,List.getElem?_eq_getElem (by rw [size_data]; exact hlt2n)]; rfl)
    have hy : brM[1].toNat = 42 := rfl
    rw [bne_iff_ne,hy]
    omega
   have hx1 := H1.out E[1] (by rw [show E.size - 1 = 1 by omega,List.getElem?_eq_getElem (by rw [size_data]; exact hlt2n)]; rfl)
   have hib : ∀ (W : World),Calls Tryz.prog 90 #[.string (brM.extract 2 brM.size),.int .u8 (E[1].toNat : Nat)] W fun e W' => e = .returned (.int .i64 (-1)) /\ W' = W := fun W => (Tryz.strings_IndexByte (brM.extract 2 brM.size) (E[1].toNat : Int) W).mono fun e W' h => ⟨by
    rw [h.1,extract_drop,brM_list]
    have : Lib.indexByte [91] ((E[1].toNat : Int).toNat.toUInt8) = -1 := by
     have m2 : ¬ (91 : UInt8) = E[1] := fun e => by
      have := hx1
      rw [<- e] at this
      exact absurd this (by decide)
     simp [Lib.indexByte,m2]
    rw [show List.drop 2 [46,42,91] = [(91 : UInt8)] from rfl,this],h.2⟩
   have HIB := hid hib
   have H2 := hid h2
   clear h2 e1 hib hx1
   go_wp2
   go_step3
   go_wp2
   go_region
   go_wp2
   go_quiet ((go_at_call 90; exact (HIB.out _).mono fun _ _ h => ⟨h.1,_,h.2⟩))
   go_wp2
   rw [Exit.noGoto_ret]
   go_wp2
   rw [Exit.noGoto_ret]
   go_wp2
   go_ret
   exact ⟨rfl,Go.below_drewN (Below.refl _ _) _⟩
  by_cases h3 : E.size = 3
  ·have e1 : (E.size : Int) - 1 = 2 := by omega
   rw [e1]
   have h1z : decide ((2 : Int) < (brM.size : Int)) = true := decide_eq_true (by rw [Hbs.out]; decide)
   have hlt1 : (2 : Int) < (brM.size : Int) := by rw [Hbs.out]; decide
   have hlt1n : 2 < brM.size := by rw [Hbs.out]; decide
   have hlt2 : (2 : Int) < (E.size : Int) := by omega
   have hlt2n : 2 < E.size := by omega
   have hne : ((brM[2].toNat : Int) != (E[2].toNat : Int)) = true := by
    have hx := H1.out E[2] (by rw [show E.size - 1 = 2 by omega,List.getElem?_eq_getElem (by rw [size_data]; exact hlt2n)]; rfl)
    have hy : brM[2].toNat = 91 := rfl
    rw [bne_iff_ne,hy]
    omega
   have hib : ∀ (x : Int) (W : World),Calls Tryz.prog 90 #[.string (brM.extract 3 brM.size),.int .u8 x] W fun e W' => e = .returned (.int .i64 (-1)) /\ W' = W := fun x W => (Tryz.strings_IndexByte (brM.extract 3 brM.size) x W).mono fun e W' h => ⟨by rw [h.1,extract_drop]; rfl,h.2⟩
   have HIB := hid hib
   have H2 := hid h3
   clear h3 h2 e1 hib
   go_wp2
   go_step3
   go_wp2
   go_region
   go_wp2
   go_quiet ((go_at_call 90; exact (HIB.out _ _).mono fun _ _ h => ⟨h.1,_,h.2⟩))
   go_wp2
   rw [Exit.noGoto_ret]
   go_wp2
   rw [Exit.noGoto_ret]
   go_wp2
   go_ret
   exact ⟨rfl,Go.below_drewN (Below.refl _ _) _⟩
  ·have hb2 : (brM.size : Int) = 3 := by rw [Hbs.out]; rfl
   have h1z : decide ((E.size : Int) - 1 < (brM.size : Int)) = false := decide_eq_false (by omega)
   have hlt1 : ¬ (E.size : Int) - 1 < (brM.size : Int) := by omega
   clear hb2
   go_wp2
   go_ret
   exact ⟨rfl,Below.refl _ _⟩
theorem rune_anyM (r : Nat) (hr : r <= 1114111) (w : World) : Calls Tryz.prog 206 #[.string brM,.int .i32 r] w fun e w' => e = .returned (.int .i64 (runeM r)) /\ Below w.heap.size w w' := by
 by_cases h : r < 128
 ·have := Tryz.strings_IndexRune_ascii brM (r : Int) w (by omega) (by omega)
  rw [brM_list,index_marks r h] at this
  exact this.mono fun e w' h => ⟨h.1,by rw [h.2]; exact Below.refl _ _⟩
 ·have e : runeM r = -1 := by unfold runeM; rw [if_neg (by omega),if_neg (by omega),if_neg (by omega)]
  rw [e]
  by_cases he : r = 65533
  ·subst he; exact rune_errM w
  ·exact rune_farM r (by omega) hr he w
def tmI (s : ByteArray) : Int := if behN tmB s.data.toList 0 < s.size then (behN tmB s.data.toList 0 : Nat) else -1
set_option maxHeartbeats 4000000 in
set_option maxRecDepth 1000000 in
theorem indexAny_shortM (s : ByteArray) (hs : s.size <= 8) (w : World) : Calls Tryz.prog 203 #[.string s,.string brM] w fun e w' => e = .returned (.int .i64 (tmI s)) /\ Below w.heap.size w w' := by
 have hem : brM.toList.isEmpty = false := by rw [Lib.toList_data]; rfl
 have hb2 : brM.size = 3 := by decide
 have hn1 : ((brM.size : Int) == 1) = false := beq_eq_false_iff_ne.2 (by rw [hb2]; decide)
 have Hb2 := hid hb2
 have hU : ∀ W,Calls Tryz.prog 232 #[.int .i64 (s.size : Nat)] W fun e w' => e = .returned (.bool false) /\ w' = W := fun W => by
  have := Tryz.strings_shouldUseASCIISet (s.size : Int) W
  rw [decide_eq_false (by omega)] at this
  exact this
 have HU := hid hU
 clear hb2 hU
 obtain ⟨ANS,hANS⟩ : ∃ b,tmI s = b := ⟨_,rfl⟩
 rw [hANS]
 have HA := hid hANS
 clear hANS
 go_enter Tryz.func203,Tryz.ntmps203
 go_wp2_with fail
 go_at_call 232
 refine (HU.out _).mono ?_
 rintro e w' ⟨rfl,rfl⟩
 go_wp2
 go_loopw [] (fun wr => ∃ pos : Nat,wr.heap[w'.heap.size]? = some (.stringIter s pos) /\ Hid (Below w'.heap.size w' wr) /\ Hid (behN tmB s.data.toList 0 = behN tmB s.data.toList pos)) (fun wr => s.size - wr.iterPos w'.heap.size)
 case atStart => exact ⟨0,World.iter_heap w' s 0,(Below.refl _ w').alloc (Nat.le_refl _) _,rfl⟩
 case round =>
  obtain ⟨pos,hit,Hb,Hans⟩ := hrel
  have hsz : w'.heap.size < wr.heap.size := (Array.getElem?_eq_some_iff.1 hit).1
  by_cases hp : pos < s.size
  ·have hnx : ∀ ty,(Instr.next (.pointer (some ⟨w'.heap.size,0,none⟩)) true ty).run Tryz.prog wr = _ := fun ty => Lib.run_next_any_at wr w'.heap.size s pos ty hit hp
   have hit2 := Lib.iterAt_heap wr w'.heap.size s pos (pos + (Utf8.decode s pos).2) hit
   have hb2 := Lib.below_iterAt Hb.out (k := w'.heap.size) (by omega) s (pos + (Utf8.decode s pos).2)
   have hR := fun W => rune_anyM (Utf8.decode s pos).1 (Lib.rune_le s pos) W
   have hwd := Lib.width_pos s pos
   have hst := tm_step s pos hp
   have hhr := tm_met s pos hp
   have hpz : (0 : Int) <= (pos : Int) := by omega
   have hpz2 : (pos : Int) <= 8 := by omega
   have Hst := hid hst
   have Hhr := hid hhr
   have HR := hid hR
   have Hb2' := hid hb2
   have Hit2 := hid hit2
   have Hit := hid hit
   have Hwd := hid hwd
   clear hst hhr hR hb2 hit2 hit hwd
   by_cases hbr : (Utf8.decode s pos).1 = 46 ∨ (Utf8.decode s pos).1 = 42 ∨ (Utf8.decode s pos).1 = 91
   ·have hge : decide ((0 : Int) <= runeM (Utf8.decode s pos).1) = true := by
     unfold runeM
     rcases hbr with h | h | h <;> rw [h] <;> decide
    have hge2 : (0 : Int) <= runeM (Utf8.decode s pos).1 := of_decide_eq_true hge
    have Hbr := hid hbr
    clear hbr
    go_wp2_with fail
    go_at_call 206
    refine (HR.out _).mono ?_
    rintro e w2 ⟨rfl,hbw⟩
    have HB := hid (Hb2'.out.trans (hbw.mono Hb2'.out.size))
    clear hbw
    go_wp2
    go_ret
    refine ⟨?_,HB.out⟩
    have h1 := Hans.out.trans (Hhr.out Hbr.out)
    rw [<- HA.out]
    unfold tmI
    rw [h1,if_pos hp]
    rfl
   ·have hge : decide ((0 : Int) <= runeM (Utf8.decode s pos).1) = false := by
     unfold runeM
     rw [if_neg (fun h => hbr (.inl h)),if_neg (fun h => hbr (.inr (.inl h))),if_neg (fun h => hbr (.inr (.inr h)))]; decide
    have hge2 : ¬ (0 : Int) <= runeM (Utf8.decode s pos).1 := of_decide_eq_false hge
    have hnb := Hst.out ⟨fun h => hbr (.inl h),fun h => hbr (.inr (.inl h)),fun h => hbr (.inr (.inr h))⟩
    have Hnb := hid hnb
    clear hbr hnb
    go_wp2_with fail
    go_at_call 206
    refine (HR.out _).mono ?_
    rintro e w2 ⟨rfl,hbw⟩
    have HB := hid (Hb2'.out.trans (hbw.mono Hb2'.out.size))
    have hit3 : w2.heap[w'.heap.size]? = some (.stringIter s (pos + (Utf8.decode s pos).2)) := (hbw.block _ (Array.getElem?_eq_some_iff.1 Hit2.out).1).trans Hit2.out
    have Hit3 := hid hit3
    clear hbw hit3
    go_wp2
    go_roundw
    case rel => exact ⟨pos + (Utf8.decode s pos).2,Hit3.out,HB.out,Hans.out.trans Hnb.out⟩
    case measure =>
     simp only [World.iterPos,Hit3.out,Hit.out]
     have := Hwd.out
     omega
  ·have hnx : ∀ ty,(Instr.next (.pointer (some ⟨w'.heap.size,0,none⟩)) true ty).run Tryz.prog wr = _ := fun ty => Lib.run_next_end_at wr w'.heap.size s pos ty hit hp
   go_wp2
   go_ret
   refine ⟨?_,Hb.out⟩
   have h1 := behN_ge tmB s.data.toList pos
   rw [<- HA.out]
   unfold tmI
   rw [Hans.out,if_neg (by omega)]
   rfl
theorem tmI_idx (s : ByteArray) : tmI s = Lib.indexAny s.data.toList [46,42,91] := by
 rw [idxAny_twM]
 have e : (fun c : UInt8 => !([46,42,91] : List UInt8).contains c) = tmB := by
  funext c
  unfold tmB
  rw [List.contains_cons,List.contains_cons,List.contains_cons,List.contains_nil,Bool.or_false,Bool.or_assoc]
 rw [e]
 unfold tmI behN
 rw [List.drop_zero,Nat.zero_add,size_data]
theorem indexAny_anyM (s : ByteArray) (hs : s.size <= 4000000) (w : World) : Calls Tryz.prog 203 #[.string s,.string ⟨#[46,42,91]⟩] w fun e w' => e = .returned (.int .i64 (Lib.indexAny s.data.toList [46,42,91])) /\ Below w.heap.size w w' := by
 by_cases h8 : s.size <= 8
 ·rw [<- tmI_idx]
  exact indexAny_shortM s h8 w
 ·have hz := (zero_of_info (P := Tryz.prog) (t := 234) (v := .agg (Array.replicate 256 (.bool false))) (n := 256) (by kernel_rfl)).1
  have := Tryz.strings_IndexAny_long hz s brM w (by decide) (by omega) (by omega) (by decide) (by
   intro j b hj
   rw [brM_list] at hj
   have : j < 3 := (List.getElem?_eq_some_iff.1 hj).1
   match j,hj with
   | 0,hj => simp at hj; subst hj; decide
   | 1,hj => simp at hj; subst hj; decide
   | 2,hj => simp at hj; subst hj; decide)
  refine this.mono ?_
  rintro e w' ⟨rfl,rfl⟩
  exact ⟨rfl,((Below.refl _ _).alloc (Nat.le_refl _) _).alloc (by simp) _⟩
end Go.Proofs.YtgdkpamlkpncgaaGreatDoor
