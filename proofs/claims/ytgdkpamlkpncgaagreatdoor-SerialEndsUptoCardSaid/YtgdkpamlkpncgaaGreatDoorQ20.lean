/-
  Several texts put together (part 20): what the law and the program call, walked; their contracts.
-/
import Derived.Test.YtgdkpamlkpncgaaGreatDoorQ19
import Derived.Test.YtgdkpamlkpncgaaGreatDoorQ7
namespace Go.Proofs.YtgdkpamlkpncgaaGreatDoor
open Go.RowKit
open _root_.Go.Lib (hid)
set_option linter.unusedVariables false
set_option linter.unusedSimpArgs false
set_option maxHeartbeats 4000000 in
set_option maxRecDepth 1000000 in
theorem rune_err3 (w : World) : Calls Tryz.prog 206 #[.string br3,.int .i32 65533] w fun e w' => e = .returned (.int .i64 (-1)) /\ Below w.heap.size w w' := by
 have hsz : br3.size = 3 := by decide
 have Hsz := hid hsz
 clear hsz
 go_enter Tryz.func206,Tryz.ntmps206
 go_wp2
 go_loopw [] (fun wr => ∃ pos : Nat,wr.heap[w.heap.size]? = some (.stringIter br3 pos) /\ Hid (Below w.heap.size w wr) /\ pos <= 3) (fun wr => 3 - wr.iterPos w.heap.size)
 case atStart => exact ⟨0,World.iter_heap w br3 0,(Below.refl _ w).alloc (Nat.le_refl _) _,by omega⟩
 case round =>
  obtain ⟨pos,hit,Hb,hp2⟩ := hrel
  have hsz : w.heap.size < wr.heap.size := (Array.getElem?_eq_some_iff.1 hit).1
  by_cases hp : pos < 3
  ·have hpz : pos < br3.size := by rw [Hsz.out]; exact hp
   have hnx : ∀ ty,(Instr.next (.pointer (some ⟨w.heap.size,0,none⟩)) true ty).run Tryz.prog wr = _ := fun ty => Lib.run_next_any_at wr w.heap.size br3 pos ty hit hpz
   have hd : (Utf8.decode br3 pos).2 = 1 /\ (Utf8.decode br3 pos).1 < 128 := by
    rcases (by omega : pos = 0 ∨ pos = 1 ∨ pos = 2) with rfl | rfl | rfl <;> decide
   have hit2 := Lib.iterAt_heap wr w.heap.size br3 pos (pos + (Utf8.decode br3 pos).2) hit
   have hb2 := Lib.below_iterAt Hb.out (k := w.heap.size) (by omega) br3 (pos + (Utf8.decode br3 pos).2)
   have hz : (((Utf8.decode br3 pos).1 : Int) == 65533) = false := by rw [beq_eq_false_iff_ne]; omega
   have Hd := hid hd
   have Hb2 := hid hb2
   have Hit := hid hit
   have Hit2 := hid hit2
   clear hd hb2 hit hit2
   go_wp2
   go_roundw
   case rel => exact ⟨pos + (Utf8.decode br3 pos).2,Hit2.out,Hb2.out,by have := Hd.out.1; omega⟩
   case measure =>
    simp only [World.iterPos,Hit2.out,Hit.out]
    have := Hd.out.1
    omega
  ·have hnx : ∀ ty,(Instr.next (.pointer (some ⟨w.heap.size,0,none⟩)) true ty).run Tryz.prog wr = _ := fun ty => Lib.run_next_end_at wr w.heap.size br3 pos ty hit (by rw [Hsz.out]; omega)
   go_wp2
   go_ret
   exact ⟨rfl,Hb.out⟩
set_option maxHeartbeats 4000000 in
set_option maxRecDepth 1000000 in
theorem rune_far3 (r : Nat) (h : 128 <= r) (hr : r <= 1114111) (he : r ≠ 65533) (w : World) : Calls Tryz.prog 206 #[.string br3,.int .i32 r] w fun e w' => e = .returned (.int .i64 (-1)) /\ Below w.heap.size w w' := by
 have hz1 : decide ((0 : Int) <= (r : Int)) = true := decide_eq_true (by omega)
 have hz2 : decide ((r : Int) < 128) = false := decide_eq_false (by omega)
 have hz2' : decide (r < 128) = false := decide_eq_false (by omega)
 have hz3 : ((r : Int) == 65533) = false := beq_eq_false_iff_ne.2 (by omega)
 have hrz : (r : Int) <= 1114111 := by omega
 have hV := fun W => Tryz.utf8_ValidRune (r : Int) W
 obtain ⟨v,hv⟩ : ∃ v,Lib.validRune (r : Int) = v := ⟨_,rfl⟩
 rw [hv] at hV
 have HV := hid hV
 clear hV hv
 obtain ⟨hs2,hs4,hs1⟩ := enc_form3 r h
 obtain ⟨E,hE⟩ : ∃ E,Utf8.encode (r : Int) = E := ⟨_,rfl⟩
 rw [hE] at hs2 hs4 hs1
 have H1 := hid hs1
 clear hs1
 cases v
 case false =>
  clear hE
  go_enter Tryz.func206,Tryz.ntmps206
  go_wp2_with fail
  go_at_call 235
  refine (HV.out _).mono ?_
  rintro e w' ⟨rfl,rfl⟩
  go_wp2
  go_ret
  exact ⟨rfl,Below.refl _ _⟩
 go_enter Tryz.func206,Tryz.ntmps206
 go_wp2_with fail
 go_at_call 235
 refine (HV.out _).mono ?_
 rintro e w' ⟨rfl,rfl⟩
 go_wp2
 go_step3
 go_wp2
 have hbs : br3.size = 3 := by decide
 have Hbs := hid hbs
 clear hbs hE
 go_loopg [9] 1 (fun g s9 wr => s9 = .int .i64 ((E.size : Int) - 1) /\ wr = w')
 case atStart => exact ⟨rfl,rfl⟩
 case round =>
  obtain ⟨rfl,rfl⟩ := hrel
  by_cases h2 : E.size = 2
  ·have e1 : (E.size : Int) - 1 = 1 := by omega
   rw [e1]
   have h1z : decide ((1 : Int) < (br3.size : Int)) = true := decide_eq_true (by rw [Hbs.out]; decide)
   have hlt1 : (1 : Int) < (br3.size : Int) := by rw [Hbs.out]; decide
   have hlt1n : 1 < br3.size := by rw [Hbs.out]; decide
   have hlt2 : (1 : Int) < (E.size : Int) := by omega
   have hlt2n : 1 < E.size := by omega
   have hne : ((br3[1].toNat : Int) != (E[1].toNat : Int)) = true := by
    have hx := H1.out E[1] (by rw [show E.size - 1 = 1 by omega,List.getElem?_eq_getElem (by rw [size_data]; exact hlt2n)]; rfl)
    have hy : br3[1].toNat = 123 := rfl
    rw [bne_iff_ne,hy]
    omega
   have hx1 := H1.out E[1] (by rw [show E.size - 1 = 1 by omega,List.getElem?_eq_getElem (by rw [size_data]; exact hlt2n)]; rfl)
   have hib : ∀ (W : World),Calls Tryz.prog 90 #[.string (br3.extract 2 br3.size),.int .u8 (E[1].toNat : Nat)] W fun e W' => e = .returned (.int .i64 (-1)) /\ W' = W := fun W => (Tryz.strings_IndexByte (br3.extract 2 br3.size) (E[1].toNat : Int) W).mono fun e W' h => ⟨by
    rw [h.1,extract_drop,br3_list]
    have : Lib.indexByte [125] ((E[1].toNat : Int).toNat.toUInt8) = -1 := by
     have m2 : ¬ (125 : UInt8) = E[1] := fun e => by
      have := hx1
      rw [<- e] at this
      exact absurd this (by decide)
     simp [Lib.indexByte,m2]
    rw [show List.drop 2 [10,123,125] = [(125 : UInt8)] from rfl,this],h.2⟩
   have HIB := hid hib
   have H2 := hid h2
   clear h2 e1 hib hx1
   go_wp2
   go_step3
   go_wp2
   go_region
   go_wp2
   go_quiet ((go_at_call 90; exact (HIB.out _).mono fun _ _ h => ⟨h.1,_,h.2⟩))
   go_wp2
   rw [Exit.noGoto_ret]
   go_wp2
   rw [Exit.noGoto_ret]
   go_wp2
   go_ret
   exact ⟨rfl,Go.below_drewN (Below.refl _ _) _⟩
  by_cases h3 : E.size = 3
  ·have e1 : (E.size : Int) - 1 = 2 := by omega
   rw [e1]
   have h1z : decide ((2 : Int) < (br3.size : Int)) = true := decide_eq_true (by rw [Hbs.out]; decide)
   have hlt1 : (2 : Int) < (br3.size : Int) := by rw [Hbs.out]; decide
   have hlt1n : 2 < br3.size := by rw [Hbs.out]; decide
   have hlt2 : (2 : Int) < (E.size : Int) := by omega
   have hlt2n : 2 < E.size := by omega
   have hne : ((br3[2].toNat : Int) != (E[2].toNat : Int)) = true := by
    have hx := H1.out E[2] (by rw [show E.size - 1 = 2 by omega,List.getElem?_eq_getElem (by rw [size_data]; exact hlt2n)]; rfl)
    have hy : br3[2].toNat = 125 := rfl
    rw [bne_iff_ne,hy]
    omega
   have hib : ∀ (x : Int) (W : World),Calls Tryz.prog 90 #[.string (br3.extract 3 br3.size),.int .u8 x] W fun e W' => e = .returned (.int .i64 (-1)) /\ W' = W := fun x W => (Tryz.strings_IndexByte (br3.extract 3 br3.size) x W).mono fun e W' h => ⟨by rw [h.1,extract_drop]; rfl,h.2⟩
   have HIB := hid hib
   have H2 := hid h3
   clear h3 h2 e1 hib
   go_wp2
   go_step3
   go_wp2
   go_region
   go_wp2
   go_quiet ((go_at_call 90; exact (HIB.out _ _).mono fun _ _ h => ⟨h.1,_,h.2⟩))
   go_wp2
   rw [Exit.noGoto_ret]
   go_wp2
   rw [Exit.noGoto_ret]
   go_wp2
   go_ret
   exact ⟨rfl,Go.below_drewN (Below.refl _ _) _⟩
  ·have hb2 : (br3.size : Int) = 3 := by rw [Hbs.out]; rfl
   have h1z : decide ((E.size : Int) - 1 < (br3.size : Int)) = false := decide_eq_false (by omega)
   have hlt1 : ¬ (E.size : Int) - 1 < (br3.size : Int) := by omega
   clear hb2
   go_wp2
   go_ret
   exact ⟨rfl,Below.refl _ _⟩
theorem rune_any3 (r : Nat) (hr : r <= 1114111) (w : World) : Calls Tryz.prog 206 #[.string br3,.int .i32 r] w fun e w' => e = .returned (.int .i64 (rune3 r)) /\ Below w.heap.size w w' := by
 by_cases h : r < 128
 ·have := Tryz.strings_IndexRune_ascii br3 (r : Int) w (by omega) (by omega)
  rw [br3_list,index_three r h] at this
  exact this.mono fun e w' h => ⟨h.1,by rw [h.2]; exact Below.refl _ _⟩
 ·have e : rune3 r = -1 := by unfold rune3; rw [if_neg (by omega),if_neg (by omega),if_neg (by omega)]
  rw [e]
  by_cases he : r = 65533
  ·subst he; exact rune_err3 w
  ·exact rune_far3 r (by omega) hr he w
def txI (s : ByteArray) : Int := if behN txB s.data.toList 0 < s.size then (behN txB s.data.toList 0 : Nat) else -1
set_option maxHeartbeats 4000000 in
set_option maxRecDepth 1000000 in
theorem indexAny_short3 (s : ByteArray) (hs : s.size <= 8) (w : World) : Calls Tryz.prog 203 #[.string s,.string br3] w fun e w' => e = .returned (.int .i64 (txI s)) /\ Below w.heap.size w w' := by
 have hem : br3.toList.isEmpty = false := by rw [Lib.toList_data]; rfl
 have hb2 : br3.size = 3 := by decide
 have hn1 : ((br3.size : Int) == 1) = false := beq_eq_false_iff_ne.2 (by rw [hb2]; decide)
 have Hb2 := hid hb2
 have hU : ∀ W,Calls Tryz.prog 232 #[.int .i64 (s.size : Nat)] W fun e w' => e = .returned (.bool false) /\ w' = W := fun W => by
  have := Tryz.strings_shouldUseASCIISet (s.size : Int) W
  rw [decide_eq_false (by omega)] at this
  exact this
 have HU := hid hU
 clear hb2 hU
 obtain ⟨ANS,hANS⟩ : ∃ b,txI s = b := ⟨_,rfl⟩
 rw [hANS]
 have HA := hid hANS
 clear hANS
 go_enter Tryz.func203,Tryz.ntmps203
 go_wp2_with fail
 go_at_call 232
 refine (HU.out _).mono ?_
 rintro e w' ⟨rfl,rfl⟩
 go_wp2
 go_loopw [] (fun wr => ∃ pos : Nat,wr.heap[w'.heap.size]? = some (.stringIter s pos) /\ Hid (Below w'.heap.size w' wr) /\ Hid (behN txB s.data.toList 0 = behN txB s.data.toList pos)) (fun wr => s.size - wr.iterPos w'.heap.size)
 case atStart => exact ⟨0,World.iter_heap w' s 0,(Below.refl _ w').alloc (Nat.le_refl _) _,rfl⟩
 case round =>
  obtain ⟨pos,hit,Hb,Hans⟩ := hrel
  have hsz : w'.heap.size < wr.heap.size := (Array.getElem?_eq_some_iff.1 hit).1
  by_cases hp : pos < s.size
  ·have hnx : ∀ ty,(Instr.next (.pointer (some ⟨w'.heap.size,0,none⟩)) true ty).run Tryz.prog wr = _ := fun ty => Lib.run_next_any_at wr w'.heap.size s pos ty hit hp
   have hit2 := Lib.iterAt_heap wr w'.heap.size s pos (pos + (Utf8.decode s pos).2) hit
   have hb2 := Lib.below_iterAt Hb.out (k := w'.heap.size) (by omega) s (pos + (Utf8.decode s pos).2)
   have hR := fun W => rune_any3 (Utf8.decode s pos).1 (Lib.rune_le s pos) W
   have hwd := Lib.width_pos s pos
   have hst := tx_step s pos hp
   have hhr := tx_met s pos hp
   have hpz : (0 : Int) <= (pos : Int) := by omega
   have hpz2 : (pos : Int) <= 8 := by omega
   have Hst := hid hst
   have Hhr := hid hhr
   have HR := hid hR
   have Hb2' := hid hb2
   have Hit2 := hid hit2
   have Hit := hid hit
   have Hwd := hid hwd
   clear hst hhr hR hb2 hit2 hit hwd
   by_cases hbr : (Utf8.decode s pos).1 = 10 ∨ (Utf8.decode s pos).1 = 123 ∨ (Utf8.decode s pos).1 = 125
   ·have hge : decide ((0 : Int) <= rune3 (Utf8.decode s pos).1) = true := by
     unfold rune3
     rcases hbr with h | h | h <;> rw [h] <;> decide
    have hge2 : (0 : Int) <= rune3 (Utf8.decode s pos).1 := of_decide_eq_true hge
    have Hbr := hid hbr
    clear hbr
    go_wp2_with fail
    go_at_call 206
    refine (HR.out _).mono ?_
    rintro e w2 ⟨rfl,hbw⟩
    have HB := hid (Hb2'.out.trans (hbw.mono Hb2'.out.size))
    clear hbw
    go_wp2
    go_ret
    refine ⟨?_,HB.out⟩
    have h1 := Hans.out.trans (Hhr.out Hbr.out)
    rw [<- HA.out]
    unfold txI
    rw [h1,if_pos hp]
    rfl
   ·have hge : decide ((0 : Int) <= rune3 (Utf8.decode s pos).1) = false := by
     unfold rune3
     rw [if_neg (fun h => hbr (.inl h)),if_neg (fun h => hbr (.inr (.inl h))),if_neg (fun h => hbr (.inr (.inr h)))]; decide
    have hge2 : ¬ (0 : Int) <= rune3 (Utf8.decode s pos).1 := of_decide_eq_false hge
    have hnb := Hst.out ⟨fun h => hbr (.inl h),fun h => hbr (.inr (.inl h)),fun h => hbr (.inr (.inr h))⟩
    have Hnb := hid hnb
    clear hbr hnb
    go_wp2_with fail
    go_at_call 206
    refine (HR.out _).mono ?_
    rintro e w2 ⟨rfl,hbw⟩
    have HB := hid (Hb2'.out.trans (hbw.mono Hb2'.out.size))
    have hit3 : w2.heap[w'.heap.size]? = some (.stringIter s (pos + (Utf8.decode s pos).2)) := (hbw.block _ (Array.getElem?_eq_some_iff.1 Hit2.out).1).trans Hit2.out
    have Hit3 := hid hit3
    clear hbw hit3
    go_wp2
    go_roundw
    case rel => exact ⟨pos + (Utf8.decode s pos).2,Hit3.out,HB.out,Hans.out.trans Hnb.out⟩
    case measure =>
     simp only [World.iterPos,Hit3.out,Hit.out]
     have := Hwd.out
     omega
  ·have hnx : ∀ ty,(Instr.next (.pointer (some ⟨w'.heap.size,0,none⟩)) true ty).run Tryz.prog wr = _ := fun ty => Lib.run_next_end_at wr w'.heap.size s pos ty hit hp
   go_wp2
   go_ret
   refine ⟨?_,Hb.out⟩
   have h1 := behN_ge txB s.data.toList pos
   rw [<- HA.out]
   unfold txI
   rw [Hans.out,if_neg (by omega)]
   rfl
theorem txI_idx (s : ByteArray) : txI s = Lib.indexAny s.data.toList [10,123,125] := by
 rw [idxAny_tw]
 have e : (fun c : UInt8 => !([10,123,125] : List UInt8).contains c) = txB := by
  funext c
  unfold txB
  rw [List.contains_cons,List.contains_cons,List.contains_cons,List.contains_nil,Bool.or_false,Bool.or_assoc]
 rw [e]
 unfold txI behN
 rw [List.drop_zero,Nat.zero_add,size_data]
theorem indexAny_any3 (s : ByteArray) (hs : s.size <= 4000000000) (w : World) : Calls Tryz.prog 203 #[.string s,.string ⟨#[10,123,125]⟩] w fun e w' => e = .returned (.int .i64 (Lib.indexAny s.data.toList [10,123,125])) /\ Below w.heap.size w w' := by
 by_cases h8 : s.size <= 8
 ·rw [<- txI_idx]
  exact indexAny_short3 s h8 w
 ·have hz := (zero_of_info (P := Tryz.prog) (t := 234) (v := .agg (Array.replicate 256 (.bool false))) (n := 256) (by kernel_rfl)).1
  have := Tryz.strings_IndexAny_long hz s br3 w (by decide) (by omega) (by omega) (by decide) (by
   intro j b hj
   rw [br3_list] at hj
   have : j < 3 := (List.getElem?_eq_some_iff.1 hj).1
   match j,hj with
   | 0,hj => simp at hj; subst hj; decide
   | 1,hj => simp at hj; subst hj; decide
   | 2,hj => simp at hj; subst hj; decide)
  refine this.mono ?_
  rintro e w' ⟨rfl,rfl⟩
  exact ⟨rfl,((Below.refl _ _).alloc (Nat.le_refl _) _).alloc (by simp) _⟩
theorem endTextAny {s : ByteArray} : EndFn 207 tx s := endText_of fun x W h => indexAny_any3 x h W
theorem infoL : (Tryz.prog.info? 50).map (fun i => (i.zero,i.size,i.bytes)) = some (some (.agg #[.string ⟨#[]⟩,.pointer none]),2,24) := by kernel_rfl
def EZip (W : World) (F : Nat -> Prop) : List EL -> List Value -> Prop
 | [],xs => xs = []
 | .mk t p :: r,xs => ∃ u ys,xs = .string t :: u :: ys /\ OF W F p u /\ EZip W F r ys
theorem EZip.snoc {W : World} {F : Nat -> Prop} {t : ByteArray} {p : Option EX} {u : Value} (hp : OF W F p u) : ∀ (acc : List EL) (xs : List Value),EZip W F acc xs -> EZip W F (acc ++ [.mk t p]) (xs ++ [.string t,u])
 | [],xs,h => by
  rw [EZip] at h
  subst h
  exact ⟨u,[],rfl,hp,rfl⟩
 | .mk t' p' :: r,xs,h => by
  rw [EZip] at h
  obtain ⟨u',ys,rfl,h2,h3⟩ := h
  exact ⟨u',_,rfl,h2,EZip.snoc hp r ys h3⟩
theorem EZip.carry {W W' : World} {F F' : Nat -> Prop} (g : ∀ b,F b -> F' b /\ W'.heap[b]? = W.heap[b]?) : ∀ (acc : List EL) (xs : List Value),EZip W F acc xs -> EZip W' F' acc xs
 | [],xs,h => by rw [EZip] at h ⊢; exact h
 | .mk t' p' :: r,xs,h => by
  rw [EZip] at h
  obtain ⟨u',ys,rfl,h2,h3⟩ := h
  exact ⟨u',ys,rfl,h2.carry g,EZip.carry g r ys h3⟩
theorem EZip.es {W : World} {F : Nat -> Prop} {g : Nat} (hg : F g) : ∀ (acc : List EL) (xs : List Value) (o : Nat),(∀ j x,xs[j]? = some x -> W.cell? ⟨g,o + j,none⟩ = some x) -> EZip W F acc xs -> EsF W F acc g o
 | [],xs,o,hc,h => by rw [EsF]; trivial
 | .mk t' p' :: r,xs,o,hc,h => by
  rw [EZip] at h
  obtain ⟨u',ys,rfl,h2,h3⟩ := h
  rw [EsF]
  refine ⟨hg,hc 0 _ rfl,⟨_,hc 1 _ rfl,h2⟩,EZip.es hg r ys (o + 2) (fun j x hx => ?_) h3⟩
  have := hc (j + 2) x (by simpa using hx)
  rw [show o + 2 + j = o + (j + 2) by omega]
  exact this
def OwnE (B : Nat) (W : World) (v : Value) (acc : List EL) : Prop := ∃ xs,W.ownsRow B 50 2 v acc.length xs /\ EZip W (OwnSet B W v) acc xs
theorem OwnE.nil (B : Nat) (W : World) : OwnE B W (.slice none 0 0) [] := ⟨[],World.ownsRow_nil _ _ _ _,rfl⟩
theorem OwnE.kp {rb B : Nat} {W W' : World} {v : Value} {acc : List EL} (h : OwnE B W v acc) (g : Kp rb W W') (hrb : rb < B) : OwnE B W' v acc := by
 obtain ⟨xs,h1,h2⟩ := h
 refine ⟨xs,h1.kept g.grownBy (.inr (fun e => by have := (h1.lt rb e).1; omega)),EZip.carry (fun b hb => ?_) _ _ h2⟩
 obtain ⟨⟨hb1,hb2⟩,hb3⟩ := hb
 exact ⟨⟨⟨hb1,Nat.lt_of_lt_of_le hb2 g.size⟩,hb3⟩,g.others b hb2 (by omega)⟩
theorem OwnE.below {B : Nat} {W W' : World} {v : Value} {acc : List EL} (h : OwnE B W v acc) (g : Below W.heap.size W W') : OwnE B W' v acc := by
 obtain ⟨xs,h1,h2⟩ := h
 refine ⟨xs,h1.kept (⟨g.os,g.tape,g.output,g.size,fun k hk _ => g.block k hk⟩ : W.grownBy W' none) (by by_cases h : v.ownBlock = none; exact .inl h; exact .inr h),EZip.carry (fun b hb => ?_) _ _ h2⟩
 obtain ⟨⟨hb1,hb2⟩,hb3⟩ := hb
 exact ⟨⟨⟨hb1,Nat.lt_of_lt_of_le hb2 g.size⟩,hb3⟩,g.block b hb2⟩
theorem OwnE.more {B : Nat} {W W' : World} {v v' : Value} {acc : List EL} {xs : List Value} {t : ByteArray} {p : Option EX} {u : Value} (h2 : EZip W (OwnSet B W v) acc xs)
  (ho : W'.ownsRow B 50 2 v' (acc.length + 1) (xs ++ [.string t,u])) (hg : W.grownBy W' v.ownBlock) (hw : v'.ownBlock = v.ownBlock ∨ v'.ownBlock = some W.heap.size) (hp : OF W (OwnSet B W v) p u) :
  OwnE B W' v' (acc ++ [.mk t p]) := by
 refine ⟨_,by rw [List.length_append]; exact ho,?_⟩
 have g : ∀ b,OwnSet B W v b -> OwnSet B W' v' b /\ W'.heap[b]? = W.heap[b]? := fun b hb => by
  obtain ⟨⟨hb1,hb2⟩,hb3⟩ := hb
  refine ⟨⟨⟨hb1,Nat.lt_of_lt_of_le hb2 hg.size⟩,?_⟩,hg.block b hb2 hb3⟩
  rcases hw with e | e
  ·rw [e]; exact hb3
  ·rw [e]; intro e2; have := Option.some.inj e2; omega
 exact EZip.carry g _ _ (EZip.snoc hp acc xs h2)
theorem OwnE.pat {B : Nat} {W : World} {v : Value} {acc : List EL} (h : OwnE B W v acc) : ∃ A c,v = .slice A acc.length c /\ PatF W (Since B W) acc v := by
 obtain ⟨xs,h1,h2⟩ := h
 rcases h1.2 with ⟨rfl,h0⟩ | ⟨g,cap,cur,rfl,hb,hg,hc1,hc2,hcs,htk⟩
 ·have : acc = [] := List.eq_nil_of_length_eq_zero h0
  subst this
  exact ⟨none,0,rfl,none,0,rfl,Nat.le_refl _,Nat.zero_le _,fun h => absurd h (by simp)⟩
 ·refine ⟨_,_,rfl,_,_,rfl,hc1,hc2,fun _ => ⟨g,0,rfl,EZip.es ⟨hb,(Array.getElem?_eq_some_iff.1 hg).1⟩ acc xs 0 (fun j x hx => ?_) (EZip.carry (fun b hb => ⟨hb.1,rfl⟩) _ _ h2)⟩⟩
  have := h1.cells (g := g) rfl j x hx
  rw [Addr.add_mid] at this
  exact this
theorem ownE_push {rb B : Nat} {w1 W2 W3 : World} {v v' : Value} {acc : List EL} {xs : List Value} {t : ByteArray} {p : Option EX} {u : Value} (hrb : rb < B) (K : Kp rb w1 W2) (hz : EZip w1 (OwnSet B w1 v) acc xs) (hp : OF W2 (OwnSet B W2 v) p u)
  (ho : W3.ownsRow B 50 2 v' (acc.length + 1) (xs ++ [.string t,u])) (hg : W2.grownBy W3 v.ownBlock) (hw : v'.ownBlock = v.ownBlock ∨ v'.ownBlock = some W2.heap.size) : OwnE B W3 v' (acc ++ [.mk t p]) := by
 refine OwnE.more (EZip.carry (fun b hb => ?_) _ _ hz) ho hg hw hp
 obtain ⟨⟨hb1,hb2⟩,hb3⟩ := hb
 exact ⟨⟨⟨hb1,Nat.lt_of_lt_of_le hb2 K.size⟩,hb3⟩,K.others b hb2 (by omega)⟩
def GotPs (rb : Nat) (s : ByteArray) (w : World) (r : Option (List EL × Nat)) (e : Ending) (w' : World) : Prop :=
 Kp rb w w' /\ ∃ (A : Option Addr) (n c j : Nat),e = .returned (.tuple #[.slice A n c,.bool r.isSome]) /\ Rd rb s j w' /\ j <= s.size /\
  ∀ l m,r = some (l,m) -> m = j /\ l.length = n /\ n <= j /\ PatF w' (Since w.heap.size w') l (.slice A n c)
theorem ownOF {rb B : Nat} {w3 w4 W : World} {v : Value} {e : EX} {x0 x1 x2 x3 x4 x5 x6 : Value} {t : TypeId} (hbox : BoxAt W w4.heap.size #[x0,x1,x2,x3,x4,x5,x6] t) (hv : ∀ k,v.ownBlock = some k -> B <= k /\ k < w3.heap.size) (hs : w3.heap.size <= w4.heap.size)
  (hB : B <= w3.heap.size) (hrb : rb < B) (K : Kp rb w4 W) (hx : ExF w4 (Since w3.heap.size w4) e ⟨x0,x1,x2,x3,x4,x5,x6⟩) : OF W (OwnSet B W v) (some e) (.pointer (some ⟨w4.heap.size,0,none⟩)) := by
 simp only [OF]
 refine ⟨w4.heap.size,0,_,rfl,⟨⟨by omega,hbox.lt⟩,fun h => by have := hv _ h.symm; omega⟩,cells_box hbox,ExF.carry (fun b hb => ?_) _ _ hx⟩
 obtain ⟨hb1,hb2⟩ := hb
 exact ⟨⟨⟨by omega,Nat.lt_of_lt_of_le hb2 K.size⟩,fun h => by have := hv _ h.symm; omega⟩,K.others b hb2 (by omega)⟩
theorem tx_ok (s : ByteArray) (i : Nat) (hi : i <= s.size) : i <= tx s i /\ tx s i <= s.size := ⟨behN_ge _ _ _,by have := behN_le txB s.data.toList i (by rw [size_data]; exact hi); rw [size_data] at this; exact this⟩
set_option maxHeartbeats 2000000 in
set_option maxRecDepth 100000 in
theorem parts_any {rb : Nat} {s : ByteArray} {d : Nat} {P : Nat -> Res} (hs : s.size <= 1000000000) (hd : d <= 4000) (hP : WayTo rb s 208 #[pt rb,.int .i64 d] P) (hPos : PosOk s P) (i : Nat) (w : World) (hr : Rd rb s i w) (hi : i <= s.size) :
  Calls Tryz.prog 171 #[pt rb,.int .i64 d] w (GotPs rb s w (partsS P s [] i)) := by
 obtain ⟨i0,hi0,hz0,hz1,hz2⟩ := info_parts infoL
 have HR := hid hr
 have hlt := hr.lt
 obtain ⟨R,hRR⟩ : ∃ R,partsS P s [] i = R := ⟨_,rfl⟩
 rw [hRR]
 have HRR := hid hRR
 have HP := hid hP
 have HPos := hid hPos
 have HPt := hid (fun j W (h : Rd rb s j W) hj => pass_any endTextAny W h (show s.size <= 4000000000 by omega) hj)
 have hd0 : (d : Int) <= 4000 := by omega
 clear hr hRR hP hPos
 unfold pt at HP HPt ⊢
 go_enter Tryz.func171,Tryz.ntmps171
 go_wp2
 go_loopw [6] (fun t4 wr => ∃ (acc : List EL) (j : Nat) (A : Option Addr) (c : Nat),t4 = .slice A acc.length c /\ j <= s.size /\ acc.length <= j /\ Hid (partsS P s acc j = R) /\ Hid (Rd rb s j wr) /\ Hid (Kp rb w wr) /\ Hid (OwnE w.heap.size wr (.slice A acc.length c) acc)) (fun _ wr => s.size - posOf rb wr)
 case atStart => exact ⟨[],i,none,0,rfl,hi,Nat.zero_le _,HRR.out,HR.out,Kp.refl _ _,OwnE.nil _ _⟩
 case round =>
  obtain ⟨acc,j,A,c,rfl,hj,hal,Hans,HRd,HK,HO⟩ := hrel
  have hT := tx_ok s j hj
  have hans := Hans.out
  rw [partsS] at hans
  have hPt := fun W h => HPt.out j W h hj
  have he := ext_empty s j (tx s j) hT.1 hT.2
  obtain ⟨q,hq⟩ : ∃ q,tx s j = q := ⟨_,rfl⟩
  rw [hq] at hPt hans hT he
  have HPq := hid hPt
  have Hans2 := hid hans
  have HE := hid he
  have Hpos := hid HRd.out.pos
  obtain ⟨X,hX⟩ : ∃ X,s.extract j q = X := ⟨_,rfl⟩
  rw [hX] at HPq HE
  have HX := hid hX
  clear hPt hans he hX
  clear hq
  go_wp2_with fail
  go_at_call 169
  refine (HPq.out _ HRd.out).mono ?_
  rintro e w1 ⟨rfl,g1,g2⟩
  have G1 := hid g1
  have HK1 := hid (HK.out.trans g2)
  have HO1 := hid (HO.out.kp g2 hlt)
  clear g1 g2
  obtain ⟨acc2,hacc2⟩ : ∃ l,addT s acc j q = l := ⟨_,rfl⟩
  have Hacc2 := hid hacc2
  have hal2 : acc2.length <= q := by
   rw [<- hacc2]
   unfold addT
   split
   ·rw [List.length_append,List.length_singleton]; omega
   ·omega
  have hans := Hans2.out
  rw [hacc2] at hans
  have Hans3 := hid hans
  clear hacc2 hans Hans2 Hans
  go_upto_if 13 with fail
  go_cut [6] (fun v wx => ∃ A2 c2,v = .slice A2 acc2.length c2 /\ Hid (Rd rb s q wx) /\ Hid (Kp rb w wx) /\ Hid (OwnE w.heap.size wx (.slice A2 acc2.length c2) acc2))
  case first =>
   cases hx : X.toList.isEmpty
   case true =>
    have hqj : q = j := by have := HE.out; rw [hx] at this; exact of_decide_eq_true this.symm
    have hac := Hacc2.out
    unfold addT at hac
    rw [if_neg (by omega)] at hac
    subst hac
    clear hqj
    go_wp2_with fail
    go_meet
    exact ⟨A,c,rfl,G1,HK1,HO1⟩
   case false =>
    have hqj : q ≠ j := fun h => by have := HE.out; rw [hx,decide_eq_true h] at this; cases this
    have hac := Hacc2.out
    unfold addT at hac
    rw [if_pos (by omega)] at hac
    have Hac := hid hac
    have hacc : (acc.length : Int) <= 1000000000 := by omega
    obtain ⟨xs6,ho6,hz6⟩ := HO1.out
    have hown1 := ho6.alloc (.cells #[.string X,.pointer none] 50)
    have Hv5 := hid (fun k e => ho6.lt k e)
    have hs1 := HK1.out.size
    have hl1 := G1.out.lt
    clear hqj hac ho6
    go_wp2_with (at_builtin; refine wpList_append_where _ rfl _ _ 31 rfl w.heap.size 50 i0 (.agg #[.string ⟨#[]⟩,.pointer none]) 2 24 Tryz.underlying31 hi0 hz0 hz1 hz2 rfl (by decide) _ _ _ rfl hown1 ⟨w1.heap.size,0,none⟩ 1 1 [.string X,.pointer none] rfl rfl ?c1 ?c2 ?c3 ?c4 ?c5 ?c6 ?_)
    case c1 =>
     intro j u hj
     match j,hj with
     | 0,hj => simp at hj; subst hj; simp [Addr.add] <;> rfl
     | 1,hj => simp at hj; subst hj; simp [Addr.add]
    case c2 => intro u hu; simp at hu; rcases hu with rfl | rfl <;> rfl
    case c3 => unfold maxLen; omega
    case c4 => omega
    case c5 => simp; omega
    case c6 => decide
    intro v' w8 hown' hgrow hwh
    have K1 : Kp rb w1 (w1.alloc (.cells #[.string X,.pointer none] 50)) := (Kp.refl rb w1).alloc (Nat.le_of_lt hl1) _
    have HO8 := hid (ownE_push hlt K1 hz6 (p := none) (by simp only [OF]) hown' hgrow (by simpa using hwh))
    have G8 := hid ((G1.out.alloc _).grown hgrow (fun k e => by have := Hv5.out k e; omega))
    have HK8 := hid (Kp.grown (HK1.out.trans K1) hgrow (fun k e => (Hv5.out k e).1) hlt)
    obtain ⟨A2,c2,rfl⟩ := own_slice hown' (by omega)
    have hl8 : acc2.length = acc.length + 1 := by rw [<- Hac.out]; simp
    clear hown' hgrow hwh K1
    go_wp2_with fail
    go_meet
    refine ⟨A2,c2,by rw [hl8],G8,HK8,?_⟩
    have e1 := Hac.out
    rw [HX.out] at e1
    rw [hl8,<- e1]
    exact HO8
  obtain ⟨A2,c2,rfl,HR2,HK2,HO2⟩ := hcut
  have hx := isAt_prefix s q 123 hT.2
  have hp := fun W => Tryz.strings_HasPrefix (s.extract q s.size) ⟨#[123]⟩ W
  rw [hx] at hp
  obtain ⟨b,hb⟩ : ∃ b,isAt s q 123 = b := ⟨_,rfl⟩
  have hans := Hans3.out
  rw [hb] at hp hans
  have HHP := hid hp
  have Hans4 := hid hans
  have hr0 := HR2.out.c0
  have hr1 := HR2.out.c1
  have hl2 := HR2.out.lt
  have hi0' : (q : Int) <= 4000000000 := by omega
  have hjs : (q : Int) <= (s.size : Int) := by omega
  have hss : (s.size : Int) <= 4000000000 := by omega
  have hi1' : (0 : Int) <= (q : Int) := by omega
  clear hx hp hb hans Hans3 HPq HE HX HO1 HK1 G1 Hacc2
  go_wp2_with fail
  go_region_held3 (fun w' => w'.cell? ⟨rb,0,none⟩ = some (.string s) /\ w'.cell? ⟨rb,1,none⟩ = some (.int .i64 (q : Nat)) /\ rb + 1 <= w'.heap.size /\ Rd rb s q w' /\ Kp rb w w')
   (first | (exact rds_later (by assumption) (by assumption)) | (exact rds_of HR2.out.drew HK2.out.drew) | go_keep)
   (first | (go_at_call 65; refine (HHP.out _).mono ?_; rintro e w' ⟨rfl,rfl⟩))
  have HR3 := hid HR2.out.drew
  have HK3 := hid HK2.out.drew
  have HO3 := hid (HO2.out.kp ((Kp.refl rb wc).drew) hlt)
  obtain ⟨W3,hW3⟩ : ∃ W,wc.drew = W := ⟨_,rfl⟩
  rw [hW3] at HR3 HK3 HO3 ⊢
  have hl3 := HR3.out.lt
  clear hW3 hr0 hr1 HR2 HK2 HO2 HHP
  cases b
  case false =>
   have hR := Hans4.out
   rw [if_neg (by simp)] at hR
   have Hfin := hid hR
   clear hR Hans4
   go_wp2
   go_ret2
   have hR := Hfin.out
   subst hR
   refine ⟨HK3.out,A2,acc2.length,c2,q,rfl,HR3.out,hT.2,fun l m h => ?_⟩
   cases h
   obtain ⟨A',c',e1,hpat⟩ := HO3.out.pat
   exact ⟨rfl,rfl,hal2,hpat⟩
  have hR := Hans4.out
  rw [if_pos rfl] at hR
  have hPl := fun W h => HP.out q W h hT.2
  have hpos := HPos.out q
  obtain ⟨r,hr⟩ : ∃ r,P q = r := ⟨_,rfl⟩
  rw [hr] at hPl hpos hR
  have HPl := hid hPl
  have Hpq := hid hpos
  have Hans5 := hid hR
  clear hPl hpos hr hR Hans4
  go_wp2_with fail
  go_at_call 208
  refine (HPl.out _ HR3.out).mono ?_
  rintro e w4 ⟨h1,k,t,n,a,A1,n1,c1,p,Ax,n2,cx,m,rfl,h2,hm,h3⟩
  have HK4 := hid (HK3.out.trans h1)
  have HO4 := hid (HO3.out.kp h1 hlt)
  have H2 := hid h2
  have H3 := hid h3
  have hs3 := h1.size
  have hl4 := h2.lt
  have hs30 := HK3.out.size
  clear h1 h2 h3
  unfold exV
  cases r with
  | none =>
   have hR := Hans5.out
   dsimp only at hR
   subst hR
   go_wp2
   go_ret2
   exact ⟨HK4.out.alloc (by omega) _,none,0,0,m,rfl,H2.out.alloc _,hm,fun l m h => by cases h⟩
  | some em =>
   obtain ⟨e,m'⟩ := em
   obtain ⟨rfl,hx⟩ := H3.out e m' rfl
   obtain ⟨hp1,hp2⟩ := Hpq.out _ _ rfl
   have hR := Hans5.out
   dsimp only at hR
   rw [dif_pos (show j < m' /\ m' <= s.size from ⟨by omega,hp2⟩)] at hR
   have Hans6 := hid hR
   have HX := hid hx
   obtain ⟨xs6,ho6,hz6⟩ := HO4.out
   have hown1 := (ho6.alloc (.cells #[.int .i64 k,.string t,.string n,.string a,.slice A1 n1 c1,.pointer p,.slice Ax n2 cx] 48)).alloc (.cells #[.string E0,.pointer (some ⟨w4.heap.size,0,none⟩)] 50)
   obtain ⟨xs5,ho5,_⟩ := HO3.out
   have Hv5 := hid (fun k e => ho5.lt k e)
   have hacc : (acc2.length : Int) <= 1000000000 := by omega
   clear ho6 ho5 hR hx
   go_wp2_with (at_builtin; refine wpList_append_where _ rfl _ _ 31 rfl w.heap.size 50 i0 (.agg #[.string ⟨#[]⟩,.pointer none]) 2 24 Tryz.underlying31 hi0 hz0 hz1 hz2 rfl (by decide) _ _ _ rfl hown1 ⟨w4.heap.size + 1,0,none⟩ 1 1 [.string E0,.pointer (some ⟨w4.heap.size,0,none⟩)] rfl rfl ?c1 ?c2 ?c3 ?c4 ?c5 ?c6 ?_)
   case c1 =>
    intro j u hj
    match j,hj with
    | 0,hj => simp at hj; subst hj; simp [Addr.add] <;> rfl
    | 1,hj => simp at hj; subst hj; simp [Addr.add]
   case c2 => intro u hu; simp at hu; rcases hu with rfl | rfl <;> rfl
   case c3 => unfold maxLen; omega
   case c4 => omega
   case c5 => simp; omega
   case c6 => decide
   intro v' w8 hown' hgrow hwh
   have K1 : Kp rb w4 ((w4.alloc (.cells #[.int .i64 k,.string t,.string n,.string a,.slice A1 n1 c1,.pointer p,.slice Ax n2 cx] 48)).alloc (.cells #[.string E0,.pointer (some ⟨w4.heap.size,0,none⟩)] 50)) := ((Kp.refl rb w4).alloc (Nat.le_of_lt hl4) _).alloc (by simp; omega) _
   have hbox := (BoxAt.new w4 #[.int .i64 k,.string t,.string n,.string a,.slice A1 n1 c1,.pointer p,.slice Ax n2 cx] 48).alloc (.cells #[.string E0,.pointer (some ⟨w4.heap.size,0,none⟩)] 50)
   have hoF := ownOF (t := 48) hbox Hv5.out hs3 (by omega) hlt K1 HX.out
   have HO8 := hid (ownE_push hlt K1 hz6 hoF hown' hgrow (by simpa using hwh))
   have G8 := hid (((H2.out.alloc _).alloc _).grown hgrow (fun k e => by have := Hv5.out k e; omega))
   have HK8 := hid (Kp.grown (HK4.out.trans K1) hgrow (fun k e => (Hv5.out k e).1) hlt)
   obtain ⟨A3,c3,rfl⟩ := own_slice hown' (by omega)
   clear hown' hgrow hwh K1 hbox hoF
   go_wp2
   go_roundw
   case rel =>
    refine ⟨acc2 ++ [.mk E0 (some e)],m',A3,c3,?_,hp2,?_,Hans6,G8,HK8,?_⟩
    ·show Value.slice A3 _ c3 = _
     simp
    ·rw [List.length_append,List.length_singleton]; omega
    ·rw [List.length_append,List.length_singleton]
     exact HO8
   case measure =>
    show s.size - posOf rb _ < s.size - posOf rb wr
    rw [G8.out.pos,Hpos.out]
    omega
def LsAt (W : World) (F : Nat -> Prop) (g o : Nat) (ls : List LN) : Prop := ∀ (k : Nat) (x : LN),ls[k]? = some x -> W.cell? ⟨g,o + k * 3,none⟩ = some (.int .i64 x.feeds) /\ W.cell? ⟨g,o + k * 3 + 1,none⟩ = some (.int .i64 x.spaces) /\
 ∃ A c,W.cell? ⟨g,o + k * 3 + 2,none⟩ = some (.slice A x.parts.length c) /\ PatF W F x.parts (.slice A x.parts.length c)
theorem LsAt.carry {W W' : World} {F F' : Nat -> Prop} {g o : Nat} {ls : List LN} (h : LsAt W F g o ls) (hg : W'.heap[g]? = W.heap[g]?) (hF : ∀ b,F b -> F' b /\ W'.heap[b]? = W.heap[b]?) : LsAt W' F' g o ls := by
 intro k x hx
 obtain ⟨h1,h2,A,c,h3,h4⟩ := h k x hx
 exact ⟨(cell_same hg _).trans h1,(cell_same hg _).trans h2,A,c,(cell_same hg _).trans h3,h4.carry hF⟩
theorem LsAt.tail {W : World} {F : Nat -> Prop} {g o : Nat} {x : LN} {ls : List LN} (h : LsAt W F g o (x :: ls)) : LsAt W F g (o + 3) ls := by
 intro k y hy
 have := h (k + 1) y (by simpa using hy)
 rw [show o + (k + 1) * 3 = o + 3 + k * 3 by omega] at this
 exact this
theorem leastS_snoc (ls : List LN) (y : LN) : leastS (ls ++ [y]) = if ls = [] ∨ y.spaces < leastS ls then y.spaces else leastS ls := by
 cases ls with
 | nil => simp [leastS]
 | cons x r => simp [leastS,List.foldl_append]
theorem leastS_take (ls : List LN) (k : Nat) (hk : k < ls.length) : leastS (ls.take (k + 1)) = if k = 0 ∨ ls[k].spaces < leastS (ls.take k) then ls[k].spaces else leastS (ls.take k) := by
 rw [List.take_succ_eq_append_getElem hk,leastS_snoc]
 have : (ls.take k = []) = (k = 0) := by
  rw [List.take_eq_nil_iff]
  exact propext ⟨fun h => h.elim id (fun e => by rw [e] at hk; exact absurd hk (Nat.not_lt_zero _)),Or.inl⟩
 simp only [this]
theorem leastS_le {ls : List LN} {m : Nat} (h : ∀ x ∈ ls,x.spaces <= m) : leastS ls <= m := by
 induction hn : ls.length generalizing ls with
 | zero => have := List.eq_nil_of_length_eq_zero hn; subst this; exact Nat.zero_le _
 | succ n ih =>
  obtain ⟨ys,y,rfl⟩ : ∃ ys y,ls = ys ++ [y] := ⟨ls.dropLast,ls.getLast (by intro e; rw [e] at hn; cases hn),(List.dropLast_concat_getLast _).symm⟩
  rw [leastS_snoc]
  have h1 := h y (by simp)
  have h2 := ih (ls := ys) (fun x hx => h x (by simp [hx])) (by simpa using hn)
  split <;> omega
set_option maxHeartbeats 2000000 in
set_option maxRecDepth 100000 in
theorem leastSpaces_any (ls : List LN) (F : Nat -> Prop) (A : Option Addr) (g o c : Nat) (w : World) (hn : ls.length <= 4000000000) (hsp : ∀ x ∈ ls,x.spaces <= 4000000000) (hA : 0 < ls.length -> A = some ⟨g,o,none⟩) (hc : LsAt w F g o ls) (hg : ls.length = 0 ∨ g < w.heap.size) :
  Calls Tryz.prog 211 #[.slice A ls.length c] w fun e w' => e = .returned (.int .i64 (leastS ls)) /\ Below w.heap.size w w' := by
 have hn0 : (ls.length : Int) <= 4000000000 := by omega
 have HC := hid hc
 have HA := hid hA
 have Hsp := hid hsp
 clear hc hA hsp
 go_enter Tryz.func211,Tryz.ntmps211
 go_wp2
 go_loopw [3,8] (fun t3 t8 wr => ∃ k : Nat,t8 = .int .i64 k /\ t3 = .int .i64 (leastS (ls.take k)) /\ k <= ls.length /\ Hid (Below w.heap.size w wr)) (fun _ t8 _ => ls.length - (intOf t8).toNat)
 case atStart => exact ⟨0,rfl,rfl,Nat.zero_le _,Below.refl _ _⟩
 case round =>
  obtain ⟨k,rfl,rfl,hk,HB⟩ := hrel
  have hk0 : (k : Int) <= 4000000000 := by omega
  have hsz := HB.out.size
  obtain ⟨m,hm⟩ : ∃ m,leastS (ls.take k) = m := ⟨_,rfl⟩
  have hm0 : m <= 4000000000 := by rw [<- hm]; exact leastS_le (fun x hx => Hsp.out x (List.mem_of_mem_take hx))
  rw [hm]
  have Hm := hid hm
  clear hm
  by_cases hlt : k < ls.length
  ·have hAe := HA.out (by omega)
   subst hAe
   have hstep := leastS_take ls k hlt
   obtain ⟨x,hx⟩ : ∃ x,ls[k]? = some x := ⟨_,List.getElem?_eq_getElem hlt⟩
   have hxe : ls[k] = x := by rw [List.getElem?_eq_getElem hlt] at hx; exact Option.some.inj hx
   rw [hxe,Hm.out] at hstep
   have hgl : g < w.heap.size := hg.resolve_left (by omega)
   obtain ⟨h1,h2,A3,c3,h3,h4⟩ := HC.out k x hx
   have e0 := HB.out.block g hgl
   have d0 := (cell_same e0 (o + k * 3)).trans h1
   have d1 := (cell_same e0 (o + k * 3 + 1)).trans h2
   have d2 := (cell_same e0 (o + k * 3 + 2)).trans h3
   have hxs : x.spaces <= 4000000000 := Hsp.out x (List.mem_of_getElem? hx)
   have hf0 : ∃ f : Nat,x.feeds = f := ⟨_,rfl⟩
   have hlt' : decide ((k : Int) < (ls.length : Int)) = true := decide_eq_true (by omega)
   have hlt3 : (k : Int) < (ls.length : Int) := by omega
   have Hstep0 := hid hstep
   clear hstep h1 h2 h3 h4 e0 hx hxe
   obtain ⟨sp1,hsp1⟩ : ∃ q,x.spaces = q := ⟨_,rfl⟩
   obtain ⟨fd1,hfd1⟩ : ∃ q,x.feeds = q := ⟨_,rfl⟩
   obtain ⟨pl1,hpl1⟩ : ∃ q,x.parts.length = q := ⟨_,rfl⟩
   rw [hfd1] at d0
   have hstep2 := Hstep0.out
   rw [hsp1] at d1 hxs hstep2
   have Hstep := hid hstep2
   rw [hpl1] at d2
   have hs0 : (sp1 : Int) <= 4000000000 := by omega
   have hgw : g < wr.heap.size := by omega
   have hAl := hid (HB.out.alloc (by omega) (.cells #[.int .i64 fd1,.int .i64 sp1,.slice A3 pl1 c3] 281))
   clear hsp1 hfd1 hpl1 hf0 hstep2 Hstep0
   by_cases hk1 : k = 0
   ·have b0 : ((k : Int) == 0) = true := beq_iff_eq.2 (by omega)
    have hst := Hstep.out
    rw [if_pos (Or.inl hk1)] at hst
    have Hst := hid hst
    clear hst Hstep hk1
    go_wp2
    go_roundw
    case rel =>
     refine ⟨k + 1,?_,?_,by omega,HB.out.alloc (by omega) _⟩
     ·show Value.int .i64 _ = _
      rw [show ((k + 1 : Nat) : Int) = (k : Int) + 1 by omega]
     ·show Value.int .i64 _ = _
      rw [Hst.out]
    case measure =>
     show ls.length - ((k : Int) + 1).toNat < ls.length - ((k : Int)).toNat
     omega
   ·have b0 : ((k : Int) == 0) = false := beq_eq_false_iff_ne.2 (by omega)
    by_cases hs1 : sp1 < m
    ·have b1 : decide ((sp1 : Int) < (m : Int)) = true := decide_eq_true (by omega)
     have b2 : (sp1 : Int) < (m : Int) := by omega
     have hst := Hstep.out
     rw [if_pos (Or.inr hs1)] at hst
     have Hst := hid hst
     clear hst Hstep hk1 hs1
     go_wp2
     go_roundw
     case rel =>
      refine ⟨k + 1,?_,?_,by omega,HB.out.alloc (by omega) _⟩
      ·show Value.int .i64 _ = _
       rw [show ((k + 1 : Nat) : Int) = (k : Int) + 1 by omega]
      ·show Value.int .i64 _ = _
       rw [Hst.out]
     case measure =>
      show ls.length - ((k : Int) + 1).toNat < ls.length - ((k : Int)).toNat
      omega
    ·have b1 : decide ((sp1 : Int) < (m : Int)) = false := decide_eq_false (by omega)
     have b2 : ¬ (sp1 : Int) < (m : Int) := by omega
     have hst := Hstep.out
     rw [if_neg (by omega)] at hst
     have Hst := hid hst
     clear hst Hstep hk1 hs1
     go_wp2
     go_roundw
     case rel =>
      refine ⟨k + 1,?_,?_,by omega,HB.out.alloc (by omega) _⟩
      ·show Value.int .i64 _ = _
       rw [show ((k + 1 : Nat) : Int) = (k : Int) + 1 by omega]
      ·show Value.int .i64 _ = _
       rw [Hst.out]
     case measure =>
      show ls.length - ((k : Int) + 1).toNat < ls.length - ((k : Int)).toNat
      omega
  ·have hlt' : decide ((k : Int) < (ls.length : Int)) = false := decide_eq_false (by omega)
   have hlt3 : ¬ (k : Int) < (ls.length : Int) := by omega
   have hke : k = ls.length := by omega
   have Hke := hid hke
   clear hke
   go_wp2
   go_ret
   refine ⟨?_,HB.out⟩
   rw [<- Hm.out,Hke.out,List.take_length]
   rfl
def RowJ (w : World) (F : Nat -> Prop) (B : Nat) (acc : List EL) (W : World) (v : Value) : Prop := ∃ xs,W.ownsRow B 50 2 v acc.length xs /\ EZip w F acc xs
abbrev BldJ (B tb : Nat) (bs : List UInt8) (W : World) : Prop := Lib.IsBuilderF 54 5 B tb (Lib.byteCells bs) W
structure JAt (w : World) (F : Nat -> Prop) (B lb tb : Nat) (bx : List (Nat × Obj)) (acc : List EL) (bs : List UInt8) (W : World) : Prop where
 below : Below B w W
 row : ∃ v,BoxAt W lb #[v] 31 /\ RowJ w F B acc W v /\ ∀ q ∈ bx,W.heap[q.1]? = some q.2 /\ v.ownBlock ≠ some q.1
 bld : BldJ B tb bs W
 lbB : B <= lb
 tbB : B <= tb
 BW : B <= W.heap.size
 ex : ∀ q ∈ bx,q.1 ≠ lb /\ q.1 ≠ tb /\ ∀ c fz,q.2 ≠ .cells c 5 fz
theorem row_kind {W : World} {B : Nat} {v : Value} {n : Nat} {xs : List Value} (h : W.ownsRow B 50 2 v n xs) {b : Nat} {cs : Array Value} {t : TypeId} {fz : Nat × Nat} (hb : W.heap[b]? = some (.cells cs t fz)) (ht : t ≠ 50) : v.ownBlock ≠ some b := by
 rcases h.2 with ⟨rfl,_⟩ | ⟨g,cap,cur,rfl,_,hg,_⟩
 ·simp [Value.ownBlock]
 ·intro h
  simp only [Value.ownBlock,Option.some.injEq] at h
  subst h
  rw [hg] at hb
  simp only [Option.some.injEq,Obj.cells.injEq] at hb
  exact ht hb.2.1.symm
theorem bld_heap {B tb : Nat} {bs : List UInt8} {W : World} (h : BldJ B tb bs W) : ∃ p v,W.heap[tb]? = some (.cells #[p,v] 54 (0,0)) := by
 rcases h with ⟨_,v,hb,_⟩ | ⟨_,v,hb,_⟩ <;> exact ⟨_,_,hb⟩
theorem bldAt_kept {B tb : Nat} {p : Value} {bs : List Value} {W W' : World} (h : Lib.BuilderAtF 54 5 B tb p bs W) {row : Option Nat} (hg : W.grownBy W' row) (hr : ∀ k,row = some k -> ∃ c t fz,W.heap[k]? = some (.cells c t fz) /\ t ≠ 54 /\ t ≠ 5) :
  Lib.BuilderAtF 54 5 B tb p bs W' := by
 have hlt := h.lt
 obtain ⟨hB,v,hb,hown,hne⟩ := h
 refine ⟨hB,v,?_,hown.kept hg ?_,hne⟩
 ·refine (hg.block tb hlt (fun e => ?_)).trans hb
  obtain ⟨c,t,fz,h1,h2,h3⟩ := hr tb e.symm
  rw [hb] at h1
  simp only [Option.some.injEq,Obj.cells.injEq] at h1
  exact h2 h1.2.1.symm
 ·by_cases hv : v.ownBlock = none
  ·exact .inl hv
  ·refine .inr (fun e => ?_)
   obtain ⟨k,hk⟩ : ∃ k,v.ownBlock = some k := Option.ne_none_iff_exists'.1 hv
   obtain ⟨c,t,fz,h1,h2,h3⟩ := hr k (e.symm.trans hk)
   obtain ⟨c',fz',h4⟩ := Lib.ownsRowF_kind hown k hk
   rw [h4] at h1
   simp only [Option.some.injEq,Obj.cells.injEq] at h1
   exact h3 h1.2.1.symm
theorem bld_kept {B tb : Nat} {bs : List UInt8} {W W' : World} (h : BldJ B tb bs W) {row : Option Nat} (hg : W.grownBy W' row) (hr : ∀ k,row = some k -> ∃ c t fz,W.heap[k]? = some (.cells c t fz) /\ t ≠ 54 /\ t ≠ 5) : BldJ B tb bs W' :=
 h.elim (fun h => .inl (bldAt_kept h hg hr)) (fun h => .inr (bldAt_kept h hg hr))
theorem JAt.write {w : World} {F : Nat -> Prop} {B lb tb : Nat} {bx : List (Nat × Obj)} {acc : List EL} {bs bs' : List UInt8} {W W' : World} (h : JAt w F B lb tb bx acc bs W) (hb : BldJ B tb bs' W') (hB : Below B W W') (hk : Lib.OthersKept 5 (some tb) W W') : JAt w F B lb tb bx acc bs' W' := by
 obtain ⟨h1,⟨v,h2,⟨xs,h3,h4⟩,hx⟩,h5,h6,h7,h8,h9⟩ := h
 obtain ⟨p0,v0,htb⟩ := bld_heap h5
 refine ⟨h1.trans hB,⟨v,?_,⟨xs,?_,h4⟩,fun q hq => ⟨hk q.1 q.2 (hx q hq).1 (fun e => (h9 q hq).2.1 (Option.some.inj e)) (h9 q hq).2.2,(hx q hq).2⟩⟩,hb,h6,h7,Nat.le_trans h8 hB.size,h9⟩
 ·refine hk lb _ h2 (fun e => ?_) (fun c fz e => ?_)
  ·have e := Option.some.inj e
   subst e
   unfold BoxAt at h2
   rw [htb] at h2
   simp at h2
  ·simp at e
 ·refine ⟨h3.1,?_⟩
  rcases h3.2 with hn | ⟨g,cap,cur,rfl,hb',hg,rest⟩
  ·exact .inl hn
  ·refine .inr ⟨g,cap,cur,rfl,hb',hk g _ hg (fun e => ?_) (fun c fz e => ?_),rest⟩
   ·have e := Option.some.inj e
    subst e
    rw [htb] at hg
    simp at hg
   ·simp at e
theorem JAt.more {w : World} {F : Nat -> Prop} {B lb tb : Nat} {bx : List (Nat × Obj)} {acc : List EL} {bs : List UInt8} {W W' : World} (h : JAt w F B lb tb bx acc bs W) (hB : Below W.heap.size W W') : JAt w F B lb tb bx acc bs W' := by
 obtain ⟨h1,⟨v,h2,⟨xs,h3,h4⟩,hx⟩,h5,h6,h7,h8,h9⟩ := h
 have hg : W.grownBy W' none := ⟨hB.os,hB.tape,hB.output,hB.size,fun k hk _ => hB.block k hk⟩
 exact ⟨h1.trans (hB.mono h8),⟨v,h2.later hB,⟨xs,h3.kept hg (by by_cases h : v.ownBlock = none; exact .inl h; exact .inr h),h4⟩,fun q hq => ⟨(hB.block q.1 (Array.getElem?_eq_some_iff.1 (hx q hq).1).1).trans (hx q hq).1,(hx q hq).2⟩⟩,bld_kept h5 hg (fun k e => by cases e),h6,h7,Nat.le_trans h8 hB.size,h9⟩
theorem JAt.put {w : World} {F : Nat -> Prop} {B lb tb : Nat} {bx : List (Nat × Obj)} {acc : List EL} {bs : List UInt8} {W : World} (h : JAt w F B lb tb bx acc bs W) (o : Obj) (ho : ∀ c fz,o ≠ .cells c 5 fz) : JAt w F B lb tb ((W.heap.size,o) :: bx) acc bs (W.alloc o) := by
 have h' := h.more ((Below.refl _ W).alloc (Nat.le_refl _) o)
 obtain ⟨p0,v0,htb⟩ := bld_heap h.bld
 obtain ⟨v,h2,⟨xs,h3,h4⟩,hx⟩ := h'.row
 obtain ⟨v1,g2,⟨xs1,g3,g4⟩,_⟩ := h.row
 have hvv : v = v1 := by
  have e1 := g2.alloc o
  unfold BoxAt at e1 h2
  rw [e1] at h2
  simp at h2
  exact h2.symm
 refine ⟨h'.below,⟨v,h2,⟨xs,h3,h4⟩,fun q hq => ?_⟩,h'.bld,h'.lbB,h'.tbB,h'.BW,fun q hq => ?_⟩
 ·rcases List.mem_cons.1 hq with rfl | hq
  ·refine ⟨(by show (W.heap.push o)[W.heap.size]? = some o; simp : (W.alloc o).heap[W.heap.size]? = some o),fun e => ?_⟩
   rw [hvv] at e
   have := (g3.lt _ e).2
   omega
  ·exact hx q hq
 ·rcases List.mem_cons.1 hq with rfl | hq
  ·have a1 := g2.lt
   have a2 := (Array.getElem?_eq_some_iff.1 htb).1
   exact ⟨by show W.heap.size ≠ lb; omega,by show W.heap.size ≠ tb; omega,ho⟩
  ·exact h'.ex q hq
theorem JAt.drop {w : World} {F : Nat -> Prop} {B lb tb : Nat} {bx bx' : List (Nat × Obj)} {acc : List EL} {bs : List UInt8} {W : World} (h : JAt w F B lb tb bx acc bs W) (hs : ∀ q ∈ bx',q ∈ bx) : JAt w F B lb tb bx' acc bs W := by
 obtain ⟨h1,⟨v,h2,⟨xs,h3,h4⟩,hx⟩,h5,h6,h7,h8,h9⟩ := h
 exact ⟨h1,⟨v,h2,⟨xs,h3,h4⟩,fun q hq => hx q (hs q hq)⟩,h5,h6,h7,h8,fun q hq => h9 q (hs q hq)⟩
theorem JAt.at_ {w : World} {F : Nat -> Prop} {B lb tb : Nat} {bx : List (Nat × Obj)} {acc : List EL} {bs : List UInt8} {W : World} (h : JAt w F B lb tb bx acc bs W) {k : Nat} {o : Obj} (hk : (k,o) ∈ bx) : W.heap[k]? = some o := by
 obtain ⟨_,⟨v,_,_,hx⟩,_⟩ := h
 exact (hx _ hk).1
theorem JAt.push {w : World} {F : Nat -> Prop} {B lb tb : Nat} {bx : List (Nat × Obj)} {acc : List EL} {bs : List UInt8} {W W' : World} {v v' : Value} {xs : List Value} {t : ByteArray} {p : Option EX} {u : Value} (h : JAt w F B lb tb bx acc bs W) (hl : BoxAt W lb #[v] 31) (hr : W.ownsRow B 50 2 v acc.length xs) (hz : EZip w F acc xs)
  (hx : ∀ q ∈ bx,W.heap[q.1]? = some q.2 /\ v.ownBlock ≠ some q.1) (hg : W.grownBy W' v.ownBlock) (hw : v'.ownBlock = v.ownBlock ∨ v'.ownBlock = some W.heap.size) (ho : W'.ownsRow B 50 2 v' (acc.length + 1) (xs ++ [.string t,u])) (hp : OF w F p u) : JAt w F B lb tb bx (acc ++ [.mk t p]) bs (W'.setCell ⟨lb,0,none⟩ v') := by
 obtain ⟨h1,_,h5,h6,h7,h8,h9⟩ := h
 have hne := row_kind hr hl (by decide)
 have hl2 : BoxAt W' lb #[v] 31 := (hg.block lb hl.lt (fun e => hne e.symm)).trans hl
 have hs : W'.grownBy (W'.setCell ⟨lb,0,none⟩ v') (some lb) := ⟨rfl,rfl,rfl,by simp,fun k _ hk => Below.heap_setCell _ _ _ _ (fun e => hk (by simp [e]))⟩
 have hne2 := row_kind ho hl2 (by decide)
 refine ⟨(h1.grown hg h8 (fun k hk => (hr.lt k hk).1)).setCell (p := ⟨lb,0,none⟩) h6 _,⟨v',?_,⟨xs ++ [.string t,u],?_,EZip.snoc hp acc xs hz⟩,fun q hq => ?_⟩,?_,h6,h7,?_,h9⟩
 ·unfold BoxAt at hl2 ⊢
  simp [World.setCell,Array.getElem?_modify,hl2]
 ·rw [List.length_append]
  exact ho.kept hs (.inr hne2)
 ·obtain ⟨e1,e2⟩ := hx q hq
  have hql := (Array.getElem?_eq_some_iff.1 e1).1
  refine ⟨(Below.heap_setCell _ _ _ q.1 (h9 q hq).1).trans ((hg.block q.1 hql (fun e => e2 e.symm)).trans e1),?_⟩
  rcases hw with e | e
  ·rw [e]; exact e2
  ·rw [e]; intro e3; have := Option.some.inj e3; omega
 ·refine bld_kept (bld_kept h5 hg (fun k hk => ?_)) hs (fun k hk => ?_)
  ·rcases hr.2 with ⟨rfl,_⟩ | ⟨g,cap,cur,rfl,_,hgg,_⟩
   ·simp [Value.ownBlock] at hk
   ·simp only [Value.ownBlock,Option.some.injEq] at hk
    subst hk
    exact ⟨_,_,_,hgg,by decide,by decide⟩
  ·have := Option.some.inj hk
   subst this
   exact ⟨_,_,_,hl2,by decide,by decide⟩
 ·have := hg.size
  simp
  omega
set_option maxHeartbeats 2000000 in
set_option maxRecDepth 100000 in
theorem bld_Reset {B tb : Nat} {bs : List UInt8} (w : World) (h : BldJ B tb bs w) (hB : B <= tb) :
  Calls Tryz.prog 210 #[.pointer (some ⟨tb,0,none⟩)] w fun e w' => e = .returned (.tuple #[]) /\ BldJ B tb [] w' /\ Below B w w' /\ Lib.OthersKept 5 (some tb) w w' := by
 obtain ⟨p,v,hb⟩ := bld_heap h
 have c0 : w.cell? ⟨tb,0,none⟩ = some p := by rw [Lib.cell_of_heap hb]; rfl
 have c1 : w.cell? ⟨tb,1,none⟩ = some v := by rw [Lib.cell_of_heap hb]; rfl
 have f0 : w.frozen? ⟨tb,0,none⟩ = false := Lib.frozen_of_heap hb 0
 have f1 : w.frozen? ⟨tb,1,none⟩ = false := Lib.frozen_of_heap hb 1
 have Hb := hid hb
 clear h hb
 go_enter Tryz.func210,Tryz.ntmps210
 go_wp2
 go_end0
 have hb := Hb.out
 refine ⟨rfl,.inl ⟨hB,.slice none 0 0,?_,World.ownsRowF_nil _ _ _ _,by simp [Value.ownBlock]⟩,((Below.refl B w).setCell (p := ⟨tb,0,none⟩) hB _).setCell (p := ⟨tb,1,none⟩) hB _,((Lib.OthersKept.refl _ _ w).setCell ⟨tb,0,none⟩ rfl _).setCell ⟨tb,1,none⟩ rfl _⟩
 simp [World.setCell,Array.getElem?_modify,hb]
def addX (acc : List EL) (X : ByteArray) : List EL := if X.toList.isEmpty = true then acc else acc ++ [.mk X none]
set_option maxHeartbeats 2000000 in
set_option maxRecDepth 100000 in
theorem joinEnd_any {w : World} {F : Nat -> Prop} {B lb tb : Nat} {bx : List (Nat × Obj)} {acc : List EL} {bs : List UInt8} (X : ByteArray) (W : World) (h : JAt w F B lb tb bx acc bs W) (hn : acc.length <= 40000000000) :
  Calls Tryz.prog 209 #[.string X,.pointer (some ⟨lb,0,none⟩),.pointer (some ⟨tb,0,none⟩)] W fun e W' => e = .returned (.tuple #[]) /\ JAt w F B lb tb bx (addX acc X) [] W' := by
 obtain ⟨i0,hi0,hz0,hz1,hz2⟩ := info_parts infoL
 have HR := hid (fun (l : List EL) (cs : List UInt8) (U : World) (h : JAt w F B lb tb bx l cs U) => bld_Reset U h.bld h.tbB)
 have HJ := hid h
 have hn0 : (acc.length : Int) <= 40000000000 := by omega
 obtain ⟨v,hv,⟨xs,hr,hz⟩,hxx⟩ := h.row
 have c0 := hv.cell 0
 have f0 := Lib.frozen_of_heap hv 0
 have hlt := hv.lt
 have hBW := h.BW
 simp at c0
 unfold addX
 cases hx : X.toList.isEmpty
 case true =>
  rw [if_pos rfl]
  clear h hxx
  go_enter Tryz.func209,Tryz.ntmps209
  go_wp2_with fail
  go_at_call 210
  refine (HR.out _ _ _ HJ.out).mono ?_
  rintro e W' ⟨rfl,h1,h2,h3⟩
  have HJ2 := hid (HJ.out.write h1 h2 h3)
  clear h1 h2 h3
  go_wp2
  go_end0
  exact ⟨rfl,HJ2.out⟩
 case false =>
  rw [if_neg (by simp)]
  have hown1 := hr.alloc (.cells #[.string X,.pointer none] 50)
  have HV := hid hv
  have HRr := hid hr
  have HZ := hid hz
  have HX := hid hxx
  clear h hv hr hz hxx
  go_enter Tryz.func209,Tryz.ntmps209
  go_wp2_with (at_builtin; refine wpList_append_where _ rfl _ _ 31 rfl B 50 i0 (.agg #[.string ⟨#[]⟩,.pointer none]) 2 24 Tryz.underlying31 hi0 hz0 hz1 hz2 rfl (by decide) _ _ _ rfl hown1 ⟨W.heap.size,0,none⟩ 1 1 [.string X,.pointer none] rfl rfl ?c1 ?c2 ?c3 ?c4 ?c5 ?c6 ?_)
  case c1 =>
   intro j u hj
   match j,hj with
   | 0,hj => simp at hj; subst hj; simp [Addr.add]
   | 1,hj => simp at hj; subst hj; simp [Addr.add]
  case c2 => intro u hu; simp at hu; rcases hu with rfl | rfl <;> rfl
  case c3 => unfold maxLen; omega
  case c4 => omega
  case c5 => simp; omega
  case c6 => decide
  intro v' W8 hown' hgrow hwh
  have hbel : Below W.heap.size W (W.alloc (.cells #[.string X,.pointer none] 50)) := (Below.refl _ W).alloc (Nat.le_refl _) _
  have HJ8 := hid ((HJ.out.more hbel).push (p := none) (HV.out.later hbel) hown1 HZ.out (fun q hq => ⟨(hbel.block q.1 (Array.getElem?_eq_some_iff.1 (HX.out q hq).1).1).trans (HX.out q hq).1,(HX.out q hq).2⟩) hgrow (by simpa using hwh) hown' (by simp only [OF]))
  have hne := row_kind hown1 (HV.out.later hbel) (by decide)
  have hl8 : BoxAt W8 lb #[v] 31 := (hgrow.block lb (HV.out.later hbel).lt (fun e => hne e.symm)).trans (HV.out.later hbel)
  have d0 := hl8.cell 0
  have g0 := Lib.frozen_of_heap hl8 0
  have hlt8 := hl8.lt
  simp at d0
  obtain ⟨A2,c2,rfl⟩ := own_slice hown' (by omega)
  clear hown' hgrow hwh hbel hne hl8 hown1 c0 f0 hlt
  go_wp2_with fail
  go_at_call 210
  refine (HR.out _ _ _ HJ8.out).mono ?_
  rintro e W' ⟨rfl,h1,h2,h3⟩
  have HJ2 := hid (HJ8.out.write h1 h2 h3)
  clear h1 h2 h3
  go_wp2
  go_end0
  exact ⟨rfl,HJ2.out⟩
theorem repeatL_one (c : UInt8) (n : Nat) : Lib.repeatL [c] n = List.replicate n c := by
 induction n with
 | zero => rfl
 | succ n ih => rw [Lib.repeatL,ih,List.replicate_succ]; rfl
theorem rep_any (c : UInt8) (n : Nat) (w : World) (hn : n <= 4000000000) : Calls Tryz.prog 86 #[.string ⟨#[c]⟩,.int .i64 n] w fun e w' => e = .returned (.string (mkB (List.replicate n c))) /\ Below w.heap.size w w' := by
 have h := Tryz.strings_Repeat ⟨#[c]⟩ n w (by omega) (by show 1 * n <= _; omega)
 rw [show (⟨#[c]⟩ : ByteArray).data.toList = [c] from rfl,repeatL_one] at h
 exact h
theorem mkB_data (l : List UInt8) : (mkB l).data.toList = l := rfl
theorem mkB_size (l : List UInt8) : (mkB l).size = l.length := rfl
theorem mkB_empty (l : List UInt8) : ((mkB l).toList.isEmpty = true) = (l = []) := by
 rw [Lib.toList_data,mkB_data]
 cases l <;> simp
theorem trim_any (l : List UInt8) (w : World) (hl : l.length <= 400000000000) : Calls Tryz.prog 212 #[.string (mkB l),.string ⟨#[32]⟩] w fun e w' => e = .returned (.string (mkB (trimR l))) /\ w' = w := by
 have h := Tryz.strings_TrimRight_one (mkB l) 32 (by decide) w (by rw [mkB_size]; omega)
 rw [mkB_data] at h
 exact h
section
variable {w : World} {F : Nat -> Prop} {B lb tb : Nat} {bx : List (Nat × Obj)} {acc : List EL} {bs : List UInt8}
theorem JAt.writeStr (X : ByteArray) (W : World) (h : JAt w F B lb tb bx acc bs W) (hn : bs.length + X.size <= 140737488355328) :
  Calls Tryz.prog 57 #[.pointer (some ⟨tb,0,none⟩),.string X] W fun e W' => e = .returned (.tuple #[.int .i64 X.size,.nilIface]) /\ JAt w F B lb tb bx acc (bs ++ X.data.toList) W' := by
 refine (bld_WriteString B tb (Lib.byteCells bs) X W h.bld (by rw [Lib.byteCells,List.length_map]; omega) h.BW).mono ?_
 rintro e W' ⟨he,h1,h2,h3⟩
 refine ⟨he,h.write ?_ h2 h3⟩
 rw [Lib.strCells_eq,<- Lib.byteCells_append] at h1
 exact .inr h1
theorem JAt.str (W : World) (h : JAt w F B lb tb bx acc bs W) : Calls Tryz.prog 22 #[.pointer (some ⟨tb,0,none⟩)] W fun e W' => e = .returned (.string (mkB bs)) /\ JAt w F B lb tb bx acc bs W' := by
 refine (Tryz.Builder_String_any_k B tb bs W h.bld h.BW).mono ?_
 rintro e W' ⟨he,h1,h2,h3⟩
 exact ⟨he,h.write h1 h2 h3⟩
theorem JAt.len (W : World) (h : JAt w F B lb tb bx acc bs W) : Calls Tryz.prog 116 #[.pointer (some ⟨tb,0,none⟩)] W fun e W' => e = .returned (.int .i64 bs.length) /\ W' = W := by
 have := Tryz.Builder_Len_f B tb (Lib.byteCells bs) W h.bld
 rw [Lib.byteCells,List.length_map] at this
 exact this
end
theorem addX_endS (acc : List EL) (bs : List UInt8) : addX acc (mkB bs) = endS (acc,bs) := by
 unfold addX endS
 by_cases h : bs = []
 ·rw [if_pos (by rw [mkB_empty]; exact h),if_pos h]
 ·rw [if_neg (by rw [mkB_empty]; exact h),if_neg h]
theorem leastS_mem (ls : List LN) (x : LN) (hx : x ∈ ls) : leastS ls <= x.spaces := by
 induction hn : ls.length generalizing ls with
 | zero => have := List.eq_nil_of_length_eq_zero hn; subst this; cases hx
 | succ n ih =>
  obtain ⟨ys,y,rfl⟩ : ∃ ys y,ls = ys ++ [y] := ⟨ls.dropLast,ls.getLast (by intro e; rw [e] at hn; cases hn),(List.dropLast_concat_getLast _).symm⟩
  rw [leastS_snoc]
  rcases List.mem_append.1 hx with h | h
  ·have h2 := ih ys h (by simpa using hn)
   have hne : ys ≠ [] := fun e => by rw [e] at h; cases h
   by_cases hlt : y.spaces < leastS ys
   ·rw [if_pos (Or.inr hlt)]; omega
   ·rw [if_neg (by rintro (h | h) <;> contradiction)]; exact h2
  ·have e := List.mem_singleton.1 h
   subst e
   split
   ·exact Nat.le_refl _
   ·next h => have h : ¬ (ys = [] ∨ x.spaces < leastS ys) := h; omega
def elW : EL -> Nat | .mk t _ => 1 + t.size
def wtP (l : List EL) : Nat := (l.map elW).sum
def wtL (x : LN) : Nat := 1 + x.feeds + x.spaces + wtP x.parts
def wtLs (ls : List LN) : Nat := (ls.map wtL).sum
theorem endS_len (b : JS) : (endS b).length <= b.1.length + b.2.length := by
 unfold endS
 split
 ·omega
 ·next h =>
  rw [List.length_append,List.length_singleton]
  have : 0 < b.2.length := List.length_pos_iff.2 h
  omega
theorem partJ_len (b : JS) (e : EL) : (partJ b e).1.length + (partJ b e).2.length <= b.1.length + b.2.length + elW e := by
 obtain ⟨t,p⟩ := e
 cases p with
 | none =>
  show b.1.length + (b.2 ++ t.data.toList).length <= _
  rw [List.length_append,size_data]
  show _ <= _ + (1 + t.size)
  omega
 | some x =>
  show (endS b ++ [EL.mk t (some x)]).length + 0 <= _
  rw [List.length_append,List.length_singleton]
  have := endS_len b
  show _ <= _ + (1 + t.size)
  omega
theorem partsJ_len (l : List EL) (b : JS) : (l.foldl partJ b).1.length + (l.foldl partJ b).2.length <= b.1.length + b.2.length + wtP l := by
 induction l generalizing b with
 | nil => simp [wtP]
 | cons e r ih =>
  rw [List.foldl_cons]
  have h1 := ih (partJ b e)
  have h2 := partJ_len b e
  unfold wtP at *
  rw [List.map_cons,List.sum_cons]
  omega
theorem headJ_len (m : Nat) (b : JS) (x : LN) : (headJ m b x).1.length + (headJ m b x).2.length <= b.1.length + b.2.length + x.feeds + x.spaces := by
 unfold headJ
 split
 ·omega
 ·simp only [List.length_append,List.length_replicate]
  omega
theorem lineJ_len (m : Nat) (b : JS) (x : LN) : (lineJ m b x).1.length + (lineJ m b x).2.length <= b.1.length + b.2.length + wtL x := by
 unfold lineJ wtL
 have h1 := partsJ_len x.parts (headJ m b x)
 have h2 := headJ_len m b x
 omega
theorem linesJ_len (m : Nat) (ls : List LN) (b : JS) : (ls.foldl (lineJ m) b).1.length + (ls.foldl (lineJ m) b).2.length <= b.1.length + b.2.length + wtLs ls := by
 induction ls generalizing b with
 | nil => simp [wtLs]
 | cons x r ih =>
  rw [List.foldl_cons]
  have h1 := ih (lineJ m b x)
  have h2 := lineJ_len m b x
  unfold wtLs at *
  rw [List.map_cons,List.sum_cons]
  omega
end Go.Proofs.YtgdkpamlkpncgaaGreatDoor
