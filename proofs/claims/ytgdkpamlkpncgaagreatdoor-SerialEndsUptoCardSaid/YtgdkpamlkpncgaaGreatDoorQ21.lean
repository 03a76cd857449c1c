/-
  Several texts put together (part 21): what the law and the program call, walked; their contracts.
-/
import Derived.Test.YtgdkpamlkpncgaaGreatDoorQ20
import Derived.Test.YtgdkpamlkpncgaaGreatDoorQ11
import Derived.Test.YtgdkpamlkpncgaaGreatDoorQ7
import Derived.Test.YtgdkpamlkpncgaaGreatDoorQ5
import Derived.Lib.Join
namespace Go.Proofs.YtgdkpamlkpncgaaGreatDoor
open Go.RowKit
open _root_.Go.Lib (hid)
set_option linter.unusedVariables false
set_option linter.unusedSimpArgs false
theorem EsF.nth {W : World} {F : Nat -> Prop} : ∀ (l : List EL) (b o j : Nat) (t : ByteArray) (p : Option EX),EsF W F l b o -> l[j]? = some (.mk t p) -> F b /\ W.cell? ⟨b,o + j * 2,none⟩ = some (.string t) /\ ∃ u,W.cell? ⟨b,o + j * 2 + 1,none⟩ = some u /\ OF W F p u
 | [],b,o,j,t,p,h,hj => by simp at hj
 | .mk t' p' :: r,b,o,0,t,p,h,hj => by
  rw [EsF] at h
  obtain ⟨h0,h1,⟨u,h2,h3⟩,h4⟩ := h
  simp at hj
  obtain ⟨rfl,rfl⟩ := hj
  exact ⟨h0,h1,u,h2,h3⟩
 | .mk t' p' :: r,b,o,j + 1,t,p,h,hj => by
  rw [EsF] at h
  obtain ⟨h0,h1,⟨u,h2,h3⟩,h4⟩ := h
  have := EsF.nth r b (o + 2) j t p h4 (by simpa using hj)
  rw [show o + (j + 1) * 2 = o + 2 + j * 2 by omega]
  exact this
section
variable {w : World} {F : Nat -> Prop} {B lb tb : Nat} {bx : List (Nat × Obj)} {acc : List EL} {bs : List UInt8} {W : World}
theorem JAt.box (h : JAt w F B lb tb bx acc bs W) : ∃ A c xs,BoxAt W lb #[.slice A acc.length c] 31 /\ W.ownsRow B 50 2 (.slice A acc.length c) acc.length xs /\ EZip w F acc xs /\ ∀ q ∈ bx,W.heap[q.1]? = some q.2 /\ (Value.slice A acc.length c).ownBlock ≠ some q.1 := by
 obtain ⟨_,⟨v,h2,⟨xs,h3,h4⟩,hx⟩,_,_,_,_⟩ := h
 rcases h3.2 with ⟨rfl,h0⟩ | ⟨g,cap,cur,rfl,_⟩
 ·exact ⟨none,0,xs,by rw [h0]; exact h2,by rw [h0] at h3 ⊢; exact h3,h4,fun q hq => ⟨(hx q hq).1,by simp [Value.ownBlock]⟩⟩
 ·exact ⟨_,_,xs,h2,h3,h4,hx⟩
end
theorem jAt_new (w : World) (F : Nat -> Prop) : JAt w F w.heap.size w.heap.size (w.heap.size + 1) [] [] [] ((w.alloc (.cells #[.slice none 0 0] 31)).alloc (.cells #[.pointer none,.slice none 0 0] 54)) := by
 have h1 := BoxAt.new w #[.slice none 0 0] 31
 have h2 := BoxAt.new (w.alloc (.cells #[.slice none 0 0] 31)) #[.pointer none,.slice none 0 0] 54
 rw [World.size_alloc] at h2
 exact ⟨((Below.refl _ w).alloc (Nat.le_refl _) _).alloc (by simp) _,⟨.slice none 0 0,h1.alloc _,⟨[],World.ownsRow_nil _ _ _ _,rfl⟩,fun q hq => by cases hq⟩,.inl ⟨by omega,.slice none 0 0,h2,World.ownsRowF_nil _ _ _ _,by simp [Value.ownBlock]⟩,Nat.le_refl _,by omega,by simp; omega,fun q hq => by cases hq⟩
def foldL (m : Nat) (ls : List LN) (k : Nat) : JS := (ls.take k).foldl (lineJ m) ([],[])
def foldP (l : List EL) (b : JS) (j : Nat) : JS := (l.take j).foldl partJ b
theorem foldL_step (m : Nat) (ls : List LN) (k : Nat) (x : LN) (h : ls[k]? = some x) : foldL m ls (k + 1) = lineJ m (foldL m ls k) x := by
 unfold foldL
 rw [List.take_add_one,h,List.foldl_append]
 rfl
theorem foldP_step (l : List EL) (b : JS) (j : Nat) (x : EL) (h : l[j]? = some x) : foldP l b (j + 1) = partJ (foldP l b j) x := by
 unfold foldP
 rw [List.take_add_one,h,List.foldl_append]
 rfl
theorem wt_take {α : Type} (f : α -> Nat) (ls : List α) (k : Nat) : ((ls.take k).map f).sum <= (ls.map f).sum := by
 conv => rhs; rw [<- List.take_append_drop k ls]
 rw [List.map_append,List.sum_append]
 omega
theorem foldL_len (m : Nat) (ls : List LN) (k : Nat) : (foldL m ls k).1.length + (foldL m ls k).2.length <= wtLs ls := by
 have h1 := linesJ_len m (ls.take k) ([],[])
 have h2 := wt_take wtL ls k
 unfold foldL wtLs at *
 simp only [List.length_nil] at h1
 omega
theorem wtP_len (l : List EL) : l.length <= wtP l := by
 induction l with
 | nil => simp [wtP]
 | cons e r ih =>
  unfold wtP at *
  rw [List.map_cons,List.sum_cons,List.length_cons]
  obtain ⟨t,p⟩ := e
  show r.length + 1 <= 1 + t.size + _
  omega
theorem wtL_mem (ls : List LN) (y : LN) (h : y ∈ ls) : wtL y <= wtLs ls := by
 induction ls with
 | nil => cases h
 | cons x r ih =>
  unfold wtLs at *
  rw [List.map_cons,List.sum_cons]
  rcases List.mem_cons.1 h with rfl | h
  ·omega
  ·have := ih h; omega
theorem wtP_mem (l : List EL) (y : EL) (h : y ∈ l) : elW y <= wtP l := by
 induction l with
 | nil => cases h
 | cons x r ih =>
  unfold wtP at *
  rw [List.map_cons,List.sum_cons]
  rcases List.mem_cons.1 h with rfl | h
  ·omega
  ·have := ih h; omega
theorem foldP_len (l : List EL) (b : JS) (j : Nat) : (foldP l b j).1.length + (foldP l b j).2.length <= b.1.length + b.2.length + wtP l := by
 have h1 := partsJ_len (l.take j) b
 have h2 := wt_take elW l j
 unfold foldP wtP at *
 omega
theorem rowJ_pat {w W : World} {F : Nat -> Prop} {B : Nat} {acc : List EL} {v : Value} {xs : List Value} (h1 : W.ownsRow B 50 2 v acc.length xs) (h2 : EZip w F acc xs) (hB : Below w.heap.size w W) (hF : ∀ b,F b -> b < w.heap.size) : PatF W (fun b => F b ∨ Since B W b) acc v := by
 rcases h1.2 with ⟨rfl,h0⟩ | ⟨g,cap,cur,rfl,hb,hg,hc1,hc2,hcs,htk⟩
 ·have : acc = [] := List.eq_nil_of_length_eq_zero h0
  subst this
  exact ⟨none,0,rfl,Nat.le_refl _,Nat.zero_le _,fun h => absurd h (by simp)⟩
 ·refine ⟨_,_,rfl,hc1,hc2,fun _ => ⟨g,0,rfl,EZip.es (.inr ⟨hb,(Array.getElem?_eq_some_iff.1 hg).1⟩) acc xs 0 (fun j x hx => ?_) (EZip.carry (fun b hb => ⟨.inl hb,hB.block b (hF b hb)⟩) _ _ h2)⟩⟩
  have := h1.cells (g := g) rfl j x hx
  rw [Addr.add_mid] at this
  exact this
set_option maxHeartbeats 8000000 in
set_option maxRecDepth 100000 in
theorem join_any (ls : List LN) (F : Nat -> Prop) (g c : Nat) (w : World) (hn : 0 < ls.length) (hn2 : ls.length <= c) (hn4 : ls.length <= 4000000000) (hw : wtLs ls <= 4000000000) (hc : LsAt w F g 0 ls) (hg : g < w.heap.size) (hF : ∀ b,F b -> b < w.heap.size) :
  Calls Tryz.prog 172 #[.slice (some ⟨g,0,none⟩) ls.length c] w fun e w' => Below w.heap.size w w' /\ ∃ A n c',e = .returned (.slice A n c') /\ (joinS ls).length = n /\ n <= 4000000000 /\ PatF w' (fun b => F b ∨ Since w.heap.size w' b) (joinS ls) (.slice A n c') := by
 obtain ⟨x,r,rfl⟩ : ∃ x r,ls = x :: r := by cases ls with | nil => exact absurd hn (by simp) | cons x r => exact ⟨x,r,rfl⟩
 have hwt := hid hw
 obtain ⟨m,hm⟩ : ∃ m,leastS r = m := ⟨_,rfl⟩
 have hL : ∀ (A : Option Addr) (c' : Nat) (W : World),Below w.heap.size w W -> (0 < r.length -> A = some ⟨g,0 + 3,none⟩) -> Calls Tryz.prog 211 #[.slice A r.length c'] W fun e w' => e = .returned (.int .i64 m) /\ Below W.heap.size W w' := by
  intro A c' W hB hA
  rw [<- hm]
  refine leastSpaces_any r F A g (0 + 3) c' W (by simp at hn4; omega) (fun y hy => ?_) hA (LsAt.carry hc.tail (hB.block g hg) (fun b hb => ⟨hb,hB.block b (hF b hb)⟩)) (.inr (Nat.lt_of_lt_of_le hg hB.size))
  have := wtL_mem (x :: r) y (List.mem_cons_of_mem _ hy)
  unfold wtL at this
  omega
 have HL := hid hL
 have HC := hid hc
 have Hm := hid hm
 have Hsz := hid (foldL_len m (x :: r))
 clear hL hc hm hw
 have hjs : joinS (x :: r) = endS ((foldL m (x :: r) (x :: r).length).1,trimR (foldL m (x :: r) (x :: r).length).2) := by
  unfold joinS foldL
  rw [List.take_length,<- Hm.out]
  rfl
 have Hjs := hid hjs
 have hrl : r.length = (x :: r).length - 1 := by simp
 have htl : (x :: r).tail = r := rfl
 clear hjs
 generalize x :: r = ls at *
 rw [hrl] at HL
 have Htl := hid htl
 clear hrl htl
 have Hj0 := hid (jAt_new w F)
 have hls0 : (ls.length : Int) <= (c : Int) := by omega
 have hls1 : (1 : Int) <= (ls.length : Int) := by omega
 go_enter Tryz.func172,Tryz.ntmps172
 go_upto_region 4 with fail
 go_cut [0,6] (fun v0 v wx => v0 = .slice (some ⟨g,0,none⟩) ls.length c /\ v = .int .i64 m /\ Hid (JAt w F w.heap.size w.heap.size (w.heap.size + 1) [] [] [] wx))
 case first =>
  go_wp2_with (first | (go_at_call 211; refine (HL.out _ _ _ (Hj0.out.below) (by intro h; first | rfl | omega)).mono ?_; rintro e w1 ⟨rfl,hb1⟩))
  all_goals
   go_meet
   exact ⟨by first | rfl | (congr 1; omega),rfl,Hj0.out.more hb1⟩
 obtain ⟨rfl,rfl,HJ1⟩ := hcut
 clear HL Hj0
 go_wp2
 go_loopw [18] (fun t18 wr => ∃ k : Nat,t18 = .int .i64 k /\ k <= ls.length /\ Hid (JAt w F w.heap.size w.heap.size (w.heap.size + 1) [] (foldL m ls k).1 (foldL m ls k).2 wr)) (fun t18 _ => ls.length - (intOf t18).toNat)
 case atStart => exact ⟨0,rfl,Nat.zero_le _,HJ1⟩
 case round =>
  obtain ⟨k,rfl,hk,HJ⟩ := hrel
  by_cases hlt : k < ls.length
  ·obtain ⟨y,hy⟩ : ∃ y,ls[k]? = some y := ⟨_,List.getElem?_eq_getElem hlt⟩
   have hmem := List.mem_of_getElem? hy
   have hstep := foldL_step m ls k y hy
   obtain ⟨h1,h2,A3,c3,h3,h4⟩ := HC.out k y hy
   rw [Nat.zero_add] at h1 h2 h3
   have hwy := wtL_mem ls y hmem
   have hw4 := hwt.out
   have hsz := Hsz.out k
   have e0 := HJ.out.below.block g hg
   have d0 := (cell_same e0 (k * 3)).trans h1
   have d1 := (cell_same e0 (k * 3 + 1)).trans h2
   have d2 := (cell_same e0 (k * 3 + 2)).trans h3
   have hgw : g < wr.heap.size := Nat.lt_of_lt_of_le hg HJ.out.below.size
   have hlt' : decide ((k : Int) < (ls.length : Int)) = true := decide_eq_true (by omega)
   have hlt3 : (k : Int) < (ls.length : Int) := by omega
   have hpl := wtP_len y.parts
   have hms : k ≠ 0 -> m <= y.spaces := fun h0 => by
    have := Htl.out
    rw [<- Hm.out,<- this]
    refine leastS_mem _ y (List.mem_of_getElem? (i := k - 1) ?_)
    rw [List.getElem?_tail,show k - 1 + 1 = k by omega]
    exact hy
   have hk00 : k = 0 -> foldL m ls k = ([],[]) := fun h => by subst h; rfl
   obtain ⟨b,hb⟩ : ∃ b,foldL m ls k = b := ⟨_,rfl⟩
   rw [hb] at hstep hsz HJ hk00
   obtain ⟨acc,bs⟩ := b
   unfold wtL at hwy
   dsimp only at hsz HJ
   have Hpat := hid h4
   obtain ⟨fd,hfd⟩ : ∃ q,y.feeds = q := ⟨_,rfl⟩
   obtain ⟨sp1,hsp1⟩ : ∃ q,y.spaces = q := ⟨_,rfl⟩
   obtain ⟨n3,hn3⟩ : ∃ q,y.parts.length = q := ⟨_,rfl⟩
   obtain ⟨hd,hhd⟩ : ∃ q,headJ m (acc,bs) y = q := ⟨_,rfl⟩
   have hlj : lineJ m (acc,bs) y = foldP y.parts hd n3 := by unfold lineJ foldP; rw [<- hn3,List.take_length,hhd]
   have hhl := headJ_len m (acc,bs) y
   rw [hhd] at hhl
   have hhd2 := hhd
   unfold headJ at hhd2
   rw [hfd,hsp1] at hhd2
   rw [hfd] at d0 hwy hhl
   rw [hsp1] at d1 hwy hhl hms
   rw [hn3] at d2 hpl
   dsimp only at hhl hhd2
   have hf0 : (fd : Int) <= 4000000000 := by omega
   have hs0 : (sp1 : Int) <= 4000000000 := by omega
   have hn30 : (n3 : Int) <= 4000000000 := by omega
   have hk0 : (k : Int) <= 4000000000 := by omega
   have hm0 : 0 <= (m : Int) := by omega
   have Hhd := hid hhd2
   have Hlj := hid hlj
   have Hstep := hid hstep
   have Hms := hid hms
   have Hk00 := hid hk00
   have Hn3 := hid hn3
   clear h1 h2 h3 h4 e0 hfd hsp1 hhd hhd2 hlj hstep hms hk00 hn3 hb hy hmem
   obtain ⟨isF,hisF⟩ : ∃ q,decide (acc = [] /\ bs = []) = q := ⟨_,rfl⟩
   have HisF := hid hisF
   clear hisF
   obtain ⟨A4,c4,xs4,hb4,_⟩ := HJ.out.box
   have q0 := hb4.cell 0
   have hl4 := hb4.lt
   simp at q0
   have HP := hid (HJ.out.put (.cells #[.int .i64 fd,.int .i64 sp1,.slice A3 n3 c3] 281) (by intro c fz h; simp at h))
   clear hb4
   go_upto_region 8 with fail
   go_cut [9] (fun v wx => v = .bool isF /\ wx = wr.alloc (.cells #[.int .i64 fd,.int .i64 sp1,.slice A3 n3 c3] 281))
   case first =>
    by_cases e1 : acc = []
    ·have z1 : acc.length = 0 := by rw [e1]; rfl
     have z2 : ((acc.length : Int) == 0) = true := beq_iff_eq.2 (by omega)
     have z3 : decide (bs.length = 0) = isF := by
      rw [<- HisF.out]
      rw [decide_eq_decide]
      exact ⟨fun h => ⟨e1,List.eq_nil_of_length_eq_zero h⟩,fun h => by rw [h.2]; rfl⟩
     have z4 : ((bs.length : Int) == 0) = isF := by
      rw [<- z3,Bool.eq_iff_iff,beq_iff_eq,decide_eq_true_iff]
      omega
     have Hz := hid z3
     clear e1 z3
     go_wp2_with fail
     go_at_call 116
     refine (HP.out.len _).mono ?_
     rintro e w2 ⟨rfl,rfl⟩
     go_wp2_with fail
     go_meet
     exact ⟨rfl,rfl⟩
    ·have z1 : acc.length ≠ 0 := fun h => e1 (List.eq_nil_of_length_eq_zero h)
     have z2 : ((acc.length : Int) == 0) = false := beq_eq_false_iff_ne.2 (by omega)
     have z3 : isF = false := by
      rw [<- HisF.out]
      exact decide_eq_false (fun h => e1 h.1)
     have Hz := hid z3
     clear e1 z3
     go_wp2_with fail
     go_meet
     exact ⟨by rw [Hz.out],rfl⟩
   obtain ⟨rfl,rfl⟩ := hcut
   go_upto_if 30 with fail
   go_cut [9] (fun v wx => v = .bool isF /\ Hid (JAt w F w.heap.size w.heap.size (w.heap.size + 1) [(wr.heap.size,.cells #[.int .i64 fd,.int .i64 sp1,.slice A3 n3 c3] 281)] hd.1 hd.2 wx))
   case first =>
    have hhd := Hhd.out
    have hif := HisF.out
    cases isF
    case true =>
     rw [if_pos (of_decide_eq_true hif)] at hhd
     subst hhd
     clear hif
     go_wp2_with fail
     go_meet
     exact ⟨rfl,HP.out⟩
    case false =>
     have hno := of_decide_eq_false hif
     rw [if_neg hno] at hhd
     have hk1 : k ≠ 0 := fun h => by
      have := Hk00.out h
      cases this
      exact hno ⟨rfl,rfl⟩
     have hms := Hms.out hk1
     have hsub : (sp1 : Int) - (m : Int) = ((sp1 - m : Nat) : Int) := by omega
     have Hhd2 := hid hhd
     have hl1 := hl4
     have hmle : (m : Int) <= (sp1 : Int) := by omega
     have hrep := fun U => rep_any 32 (sp1 - m) U (by omega)
     rw [<- hsub] at hrep
     have Hrep := hid hrep
     have Hrep1 := hid (fun U => rep_any 10 fd U (by omega))
     have hpb := BoxAt.new wr #[.int .i64 fd,.int .i64 sp1,.slice A3 n3 c3] 281
     have p0 := hpb.cell 0
     have hpl1 := hpb.lt
     simp at p0
     clear hif hno hk1 hms hhd hsub hrep hpb
     go_wp2_with fail
     go_at_call 86
     refine (Hrep1.out _).mono ?_
     rintro e w2 ⟨rfl,hb2⟩
     have HP2 := hid (HP.out.more hb2)
     clear hb2
     go_wp2_with fail
     go_at_call 57
     refine (HP2.out.writeStr _ _ (by rw [mkB_size,List.length_replicate]; omega)).mono ?_
     rintro e w3 ⟨rfl,h3⟩
     have HP3 := hid (show JAt w F w.heap.size w.heap.size (w.heap.size + 1) [(wr.heap.size,.cells #[.int .i64 fd,.int .i64 sp1,.slice A3 n3 c3] 281)] acc (bs ++ List.replicate fd 10) w3 from h3)
     have hbx : BoxAt w3 wr.heap.size #[.int .i64 fd,.int .i64 sp1,.slice A3 n3 c3] 281 := h3.at_ (List.mem_cons_self ..)
     have r1 := hbx.cell 1
     have hlx := hbx.lt
     simp at r1
     clear h3 hbx p0
     go_wp2_with fail
     go_at_call 86
     refine (Hrep.out _).mono ?_
     rintro e w4 ⟨rfl,hb4⟩
     have HP4 := hid (HP3.out.more hb4)
     clear hb4
     go_wp2_with fail
     go_at_call 57
     refine (HP4.out.writeStr _ _ (by rw [mkB_size,List.length_append,List.length_replicate,List.length_replicate]; omega)).mono ?_
     rintro e w5 ⟨rfl,h5⟩
     have HP5 := hid (show JAt w F w.heap.size w.heap.size (w.heap.size + 1) [(wr.heap.size,.cells #[.int .i64 fd,.int .i64 sp1,.slice A3 n3 c3] 281)] acc (bs ++ List.replicate fd 10 ++ List.replicate (sp1 - m) 32) w5 from h5)
     clear h5
     go_wp2_with fail
     go_meet
     refine ⟨rfl,?_⟩
     rw [<- Hhd2.out]
     exact HP5
   obtain ⟨rfl,HJ2⟩ := hcut
   have hbx : BoxAt wc wr.heap.size #[.int .i64 fd,.int .i64 sp1,.slice A3 n3 c3] 281 := HJ2.out.at_ (List.mem_cons_self ..)
   have r2 := hbx.cell 2
   have hlx := hbx.lt
   simp at r2
   have HJ3 := hid (HJ2.out.drop (bx' := []) (fun q hq => by cases hq))
   clear hbx HP HJ2 HJ Hhd HisF Hms Hk00 d0 d1 d2 q0
   go_wp2
   go_loopw [44] (fun t44 wx => ∃ j : Nat,t44 = .int .i64 j /\ j <= n3 /\ Hid (JAt w F w.heap.size w.heap.size (w.heap.size + 1) [] (foldP y.parts hd j).1 (foldP y.parts hd j).2 wx)) (fun t44 _ => n3 - (intOf t44).toNat)
   case atStart => exact ⟨0,rfl,Nat.zero_le _,HJ3⟩
   case round =>
    obtain ⟨j,rfl,hj,HJ⟩ := hrel
    by_cases hjlt : j < n3
    ·obtain ⟨e,he⟩ : ∃ e,y.parts[j]? = some e := ⟨_,List.getElem?_eq_getElem (by rw [Hn3.out]; exact hjlt)⟩
     have hst := foldP_step y.parts hd j e he
     obtain ⟨t,p⟩ := e
     obtain ⟨A5,c5,e5,_,_,h5⟩ := Hpat.out
     obtain ⟨b3,o3,e6,h6⟩ := h5 (by rw [Hn3.out]; omega)
     have hA3 : A3 = some ⟨b3,o3,none⟩ := by injection e5 with e7 _ _; exact e7.trans e6
     subst hA3
     obtain ⟨hF3,s0,u,s1,hOF⟩ := EsF.nth y.parts b3 o3 j t p h6 he
     have e0 := HJ.out.below.block b3 (hF b3 hF3)
     have x0 := (cell_same e0 (o3 + j * 2)).trans s0
     have x1 := (cell_same e0 (o3 + j * 2 + 1)).trans s1
     have hb3 : b3 < wr.heap.size := Nat.lt_of_lt_of_le (hF b3 hF3) HJ.out.below.size
     have hfl := foldP_len y.parts hd j
     have hets : elW (.mk t p) <= wtP y.parts := by
      exact wtP_mem _ _ (List.mem_of_getElem? he)
     obtain ⟨fb,hfb⟩ : ∃ q,foldP y.parts hd j = q := ⟨_,rfl⟩
     rw [hfb] at hst HJ hfl
     obtain ⟨acc1,bs1⟩ := fb
     dsimp only at HJ hfl
     have hts : 1 + t.size <= wtP y.parts := hets
     obtain ⟨A6,c6,xs6,hb6,_⟩ := HJ.out.box
     have hl6 := hb6.lt
     have Hst := hid hst
     have hlt' : decide ((j : Int) < (n3 : Int)) = true := decide_eq_true (by omega)
     have hlt3 : (j : Int) < (n3 : Int) := by omega
     have hj0 : (j : Int) <= 4000000000 := by omega
     clear hst he e5 e6 h5 h6 e0 s0 s1 hfb hets hb6
     cases p with
     | none =>
      simp only [OF] at hOF
      subst hOF
      have HP := hid (HJ.out.put (.cells #[.string t,.pointer none] 50) (by intro c fz h; simp at h))
      go_wp2_with fail
      go_at_call 57
      refine (HP.out.writeStr _ _ (by omega)).mono ?_
      rintro e w2 ⟨rfl,h2⟩
      have HJ2 := hid (h2.drop (bx' := []) (fun q hq => by cases hq))
      clear h2
      go_wp2
      go_roundw
      case rel =>
       refine ⟨j + 1,?_,by omega,?_⟩
       ·show Value.int .i64 _ = _
        rw [show ((j + 1 : Nat) : Int) = (j : Int) + 1 by omega]
       ·rw [Hst.out]
        exact HJ2
      case measure =>
       show n3 - ((j : Int) + 1).toNat < n3 - ((j : Int)).toNat
       omega
     | some ex =>
      obtain ⟨i0,hi0,hz0,hz1,hz2⟩ := info_parts infoL
      have HOF := hid hOF
      simp only [OF] at hOF
      obtain ⟨b7,o7,c7,rfl,hF7,hc7,hx7⟩ := hOF
      have HP := hid (HJ.out.put (.cells #[.string t,.pointer (some ⟨b7,o7,none⟩)] 50) (by intro c fz h; simp at h))
      clear hc7 hx7
      go_wp2_with fail
      go_at_call 22
      refine (HP.out.str _).mono ?_
      rintro e w2 ⟨rfl,h2⟩
      have HJ2 := hid h2
      clear h2
      have hal1 : acc1.length <= 40000000000 := by omega
      go_wp2_with fail
      go_at_call 209
      refine (joinEnd_any _ _ HJ2.out hal1).mono ?_
      rintro e w3 ⟨rfl,h3⟩
      have hL : (addX acc1 (mkB bs1)).length <= acc1.length + bs1.length := by
       rw [addX_endS]
       exact endS_len (acc1,bs1)
      have hLe := addX_endS acc1 bs1
      obtain ⟨L,hLL⟩ : ∃ l,addX acc1 (mkB bs1) = l := ⟨_,rfl⟩
      rw [hLL] at h3 hL hLe
      have HLe := hid hLe
      have HJ3 := hid h3
      have hpb : BoxAt w3 wr.heap.size #[.string t,.pointer (some ⟨b7,o7,none⟩)] 50 := h3.at_ (List.mem_cons_self ..)
      obtain ⟨A8,c8,xs8,hb8,ho8,hz8,hx8⟩ := h3.box
      have y0 := hb8.cell 0
      have y1 := Lib.frozen_of_heap hb8 0
      have z0 := hpb.cell 0
      have z1 := hpb.cell 1
      have hl8 := hb8.lt
      have hlp := hpb.lt
      simp at y0 z0 z1
      have hL0 : (L.length : Int) <= 40000000000 := by omega
      have hown1 := ho8.alloc (.cells #[.string t,.pointer (some ⟨b7,o7,none⟩)] 50)
      have HB8 := hid hb8
      have HZ8 := hid hz8
      have HX8 := hid hx8
      have hBW := h3.BW
      clear h3 hLL hLe hpb hb8 ho8 hz8 hx8
      go_wp2_with (at_builtin; refine wpList_append_where _ rfl _ _ 31 rfl w.heap.size 50 i0 (.agg #[.string ⟨#[]⟩,.pointer none]) 2 24 Tryz.underlying31 hi0 hz0 hz1 hz2 rfl (by decide) _ _ _ rfl hown1 ⟨w3.heap.size,0,none⟩ 1 1 [.string t,.pointer (some ⟨b7,o7,none⟩)] rfl rfl ?c1 ?c2 ?c3 ?c4 ?c5 ?c6 ?_)
      case c1 =>
       intro j u hj
       match j,hj with
       | 0,hj => simp at hj; subst hj; simp [Addr.add]
       | 1,hj => simp at hj; subst hj; simp [Addr.add]
      case c2 => intro u hu; simp at hu; rcases hu with rfl | rfl <;> rfl
      case c3 => unfold maxLen; omega
      case c4 => omega
      case c5 => simp; omega
      case c6 => decide
      intro v' W8 hown' hgrow hwh
      have hbel : Below w3.heap.size w3 (w3.alloc (.cells #[.string t,.pointer (some ⟨b7,o7,none⟩)] 50)) := (Below.refl _ w3).alloc (Nat.le_refl _) _
      have HJ8 := hid (((HJ3.out.more hbel).push (p := some ex) (HB8.out.later hbel) hown1 HZ8.out (fun q hq => ⟨(hbel.block q.1 (Array.getElem?_eq_some_iff.1 (HX8.out q hq).1).1).trans (HX8.out q hq).1,(HX8.out q hq).2⟩) hgrow (by simpa using hwh) hown' HOF.out).drop (bx' := []) (fun q hq => by cases hq))
      have hne := row_kind hown1 (HB8.out.later hbel) (by decide)
      have hlb : BoxAt W8 w.heap.size #[.slice A8 L.length c8] 31 := (hgrow.block w.heap.size (HB8.out.later hbel).lt (fun e => hne e.symm)).trans (HB8.out.later hbel)
      have d0 := hlb.cell 0
      have g0 := Lib.frozen_of_heap hlb 0
      have hlt8 := hlb.lt
      simp at d0
      obtain ⟨A9,c9,rfl⟩ := own_slice hown' (by omega)
      clear hown' hgrow hwh hbel hne hlb hown1 y0 y1 z0 z1
      go_wp2
      go_roundw
      case rel =>
       refine ⟨j + 1,?_,by omega,?_⟩
       ·show Value.int .i64 _ = _
        rw [show ((j + 1 : Nat) : Int) = (j : Int) + 1 by omega]
       ·rw [Hst.out]
        show Hid (JAt _ _ _ _ _ [] (endS (acc1,bs1) ++ [EL.mk t (some ex)]) [] _)
        rw [<- HLe.out]
        exact HJ8
      case measure =>
       show n3 - ((j : Int) + 1).toNat < n3 - ((j : Int)).toNat
       omega
    ·have hlt' : decide ((j : Int) < (n3 : Int)) = false := decide_eq_false (by omega)
     have hlt3 : ¬ (j : Int) < (n3 : Int) := by omega
     have hje : j = n3 := by omega
     subst hje
     have hst : foldL m ls (k + 1) = foldP y.parts hd j := by rw [Hstep.out,Hlj.out]
     have Hst := hid hst
     clear hst
     go_wp2
     go_roundw
     case rel =>
      refine ⟨k + 1,?_,by omega,?_⟩
      ·show Value.int .i64 _ = _
       rw [show ((k + 1 : Nat) : Int) = (k : Int) + 1 by omega]
      ·rw [Hst.out]
       exact HJ
     case measure =>
      show ls.length - ((k : Int) + 1).toNat < ls.length - ((k : Int)).toNat
      omega
  ·have hlt' : decide ((k : Int) < (ls.length : Int)) = false := decide_eq_false (by omega)
   have hlt3 : ¬ (k : Int) < (ls.length : Int) := by omega
   have hke : k = ls.length := by omega
   subst hke
   obtain ⟨acc,hacc⟩ : ∃ l,(foldL m ls ls.length).1 = l := ⟨_,rfl⟩
   obtain ⟨bs,hbs⟩ : ∃ l,(foldL m ls ls.length).2 = l := ⟨_,rfl⟩
   have hjs := Hjs.out
   have hsz := Hsz.out ls.length
   have hw4 := hwt.out
   rw [hacc,hbs] at HJ hjs hsz
   have Hjs2 := hid hjs
   have hal : acc.length <= 4000000000 := by omega
   have hbl : bs.length <= 4000000000 := by omega
   clear hjs hacc hbs Hjs
   have HS := hid (fun (U : World) (h : JAt w F w.heap.size w.heap.size (w.heap.size + 1) [] acc bs U) => h.str U)
   have HE := hid (fun (U : World) (h : JAt w F w.heap.size w.heap.size (w.heap.size + 1) [] acc bs U) => joinEnd_any (mkB (trimR bs)) U h (by omega))
   have HT := hid (fun U => trim_any bs U (by omega))
   go_wp2_with fail
   go_at_call 22
   refine (HS.out _ HJ.out).mono ?_
   rintro e w2 ⟨rfl,h2⟩
   have HJ2 := hid h2
   clear h2
   go_wp2_with fail
   go_at_call 212
   refine (HT.out _).mono ?_
   rintro e w3 ⟨rfl,rfl⟩
   go_wp2_with fail
   go_at_call 209
   refine (HE.out _ HJ2.out).mono ?_
   rintro e w4 ⟨rfl,h4⟩
   have hbel := h4.below
   obtain ⟨A4,c4,xs4,hb4,ho4,hz4,_⟩ := h4.box
   have c0 := hb4.cell 0
   have hl4 := hb4.lt
   simp at c0
   have HB4 := hid hbel
   have HO4 := hid ho4
   have HZ4 := hid hz4
   have hjs := Hjs2.out
   rw [<- addX_endS] at hjs
   have Hjs3 := hid hjs
   clear h4 hbel hb4 ho4 hz4 hjs
   go_wp2
   go_ret
   refine ⟨HB4.out,A4,(joinS ls).length,c4,by rw [Hjs3.out]; rfl,rfl,?_,?_⟩
   ·rw [Hjs3.out,addX_endS]
    have h1 := endS_len (acc,trimR bs)
    have h2 : (trimR bs).length <= bs.length := by
     unfold trimR
     rw [List.length_reverse]
     have := (List.dropWhile_suffix (l := bs.reverse) (· == 32)).length_le
     rw [List.length_reverse] at this
     exact this
    have h3 : (acc,trimR bs).1.length + (acc,trimR bs).2.length = acc.length + (trimR bs).length := rfl
    omega
   ·rw [Hjs3.out]
    exact rowJ_pat HO4.out HZ4.out HB4.out hF
theorem wtP_append (a b : List EL) : wtP (a ++ b) = wtP a + wtP b := by
 unfold wtP
 rw [List.map_append,List.sum_append]
theorem wtLs_append (a b : List LN) : wtLs (a ++ b) = wtLs a + wtLs b := by
 unfold wtLs
 rw [List.map_append,List.sum_append]
theorem wtP_one (t : ByteArray) (p : Option EX) : wtP [.mk t p] = 1 + t.size := by
 unfold wtP
 show (1 + t.size) + 0 = _
 omega
theorem addT_wt (s : ByteArray) (acc : List EL) (i t : Nat) (h1 : i <= t) (h2 : t <= s.size) : wtP (addT s acc i t) <= wtP acc + 2 * (t - i) := by
 unfold addT
 split
 ·rw [wtP_append,wtP_one,ByteArray.size_extract]
  omega
 ·omega
theorem parts_wt {s : ByteArray} {P : Nat -> Res} (hPos : PosOk s P) : ∀ (m : Nat) (acc : List EL) (i : Nat),s.size - i <= m -> i <= s.size -> ∀ ps j,partsS P s acc i = some (ps,j) -> wtP ps <= wtP acc + 2 * (j - i) /\ i <= j := by
 intro m
 induction m with
 | zero =>
  intro acc i hm hi ps j h
  have ht := tx_ok s i hi
  rw [partsS] at h
  split at h
  ·next hc => have := isAt_lt hc; omega
  ·cases h
   exact ⟨addT_wt s acc i _ ht.1 ht.2,ht.1⟩
 | succ m ih =>
  intro acc i hm hi ps j h
  have ht := tx_ok s i hi
  have ha := addT_wt s acc i _ ht.1 ht.2
  rw [partsS] at h
  split at h
  ·split at h
   ·cases h
   ·next e j' hp =>
    split at h
    ·next hg =>
     have h3 := hPos _ _ _ hp
     have h4 := ih _ _ (by omega) hg.2 ps j h
     rw [wtP_append,wtP_one] at h4
     have : (E0 : ByteArray).size = 0 := rfl
     omega
    ·cases h
  ·cases h
   exact ⟨ha,ht.1⟩
theorem nl_wt {s : ByteArray} (i0 : Nat) : ∀ (m f fr q : Nat),s.size - q <= m -> q <= s.size -> fr <= q -> f + (q - fr) + i0 <= q -> (nlS s f fr q).2.1 <= (nlS s f fr q).2.2 /\ (nlS s f fr q).1 + ((nlS s f fr q).2.2 - (nlS s f fr q).2.1) + i0 <= (nlS s f fr q).2.2 := by
 intro m
 induction m with
 | zero =>
  intro f fr q hm hq h1 h2
  rw [nlS]
  split
  ·next hc => have := isAt_lt hc; omega
  ·exact ⟨h1,h2⟩
 | succ m ih =>
  intro f fr q hm hq h1 h2
  rw [nlS]
  split
  ·next hc =>
   have := isAt_lt hc
   have h3 := sp_ok s (q + 1) this
   exact ih _ _ _ (by omega) h3.2 h3.1 (by omega)
  ·exact ⟨h1,h2⟩
theorem next_wt {s : ByteArray} {i : Nat} (hi : i <= s.size) {f p k : Nat} (h : nextS s i = some (f,p,k)) : f + p + i <= k := by
 have := nl_wt i (s.size - i) 0 i i (Nat.le_refl _) hi (Nat.le_refl _) (by omega)
 unfold nextS at h
 split at h
 ·cases h
 ·cases h
  exact this.2
theorem lines_wt {s : ByteArray} {P : Nat -> Res} (hPos : PosOk s P) : ∀ (m : Nat) (acc : List LN) (f p i : Nat),s.size - i <= m -> i <= s.size -> ∀ ls j,linesS P s acc f p i = some (ls,j) -> wtLs ls <= wtLs acc + 1 + f + p + 3 * (j - i) /\ i <= j := by
 intro m
 induction m with
 | zero =>
  intro acc f p i hm hi ls j h
  rw [linesS] at h
  split at h
  ·cases h
  ·next ps j0 hp =>
   have h1 := parts_wt hPos _ _ _ (Nat.le_refl _) hi _ _ hp
   split at h
   ·cases h
    rw [wtLs_append]
    refine ⟨?_,h1.2⟩
    have h2 : wtP ([] : List EL) = 0 := rfl
    show wtLs acc + ((1 + f + p + wtP ps) + 0) <= _
    omega
   ·split at h
    ·next hg => omega
    ·cases h
 | succ m ih =>
  intro acc f p i hm hi ls j h
  rw [linesS] at h
  split at h
  ·cases h
  ·next ps j0 hp =>
   have h1 := parts_wt hPos _ _ _ (Nat.le_refl _) hi _ _ hp
   have hj0 := (parts_pos _ _ _ (Nat.le_refl _) hi _ _ hp).2
   have h2 : wtP ([] : List EL) = 0 := rfl
   split at h
   ·cases h
    rw [wtLs_append]
    refine ⟨?_,h1.2⟩
    show wtLs acc + ((1 + f + p + wtP ps) + 0) <= _
    omega
   ·next f' p' k hn =>
    split at h
    ·next hg =>
     have h3 := next_wt hj0 hn
     have h4 := ih _ _ _ _ (by omega) hg.2 ls j h
     rw [wtLs_append] at h4
     have h5 : wtLs [(⟨f,p,ps⟩ : LN)] = 1 + f + p + wtP ps := by show (1 + f + p + wtP ps) + 0 = _; omega
     omega
    ·cases h
theorem infoLine : (Tryz.prog.info? 281).map (fun i => (i.zero,i.size,i.bytes)) = some (some (.agg #[.int .i64 0,.int .i64 0,.slice none 0 0]),3,40) := by kernel_rfl
def LZip (W : World) (F : Nat -> Prop) : List LN -> List Value -> Prop
 | [],xs => xs = []
 | x :: r,xs => ∃ A c ys,xs = .int .i64 x.feeds :: .int .i64 x.spaces :: .slice A x.parts.length c :: ys /\ PatF W F x.parts (.slice A x.parts.length c) /\ LZip W F r ys
theorem LZip.snoc {W : World} {F : Nat -> Prop} {f p : Nat} {l : List EL} {A : Option Addr} {c : Nat} (hp : PatF W F l (.slice A l.length c)) : ∀ (acc : List LN) (xs : List Value),LZip W F acc xs -> LZip W F (acc ++ [⟨f,p,l⟩]) (xs ++ [.int .i64 f,.int .i64 p,.slice A l.length c])
 | [],xs,h => by
  rw [LZip] at h
  subst h
  exact ⟨A,c,[],rfl,hp,rfl⟩
 | x :: r,xs,h => by
  rw [LZip] at h
  obtain ⟨A',c',ys,rfl,h2,h3⟩ := h
  exact ⟨A',c',_,rfl,h2,LZip.snoc hp r ys h3⟩
theorem LZip.carry {W W' : World} {F F' : Nat -> Prop} (g : ∀ b,F b -> F' b /\ W'.heap[b]? = W.heap[b]?) : ∀ (acc : List LN) (xs : List Value),LZip W F acc xs -> LZip W' F' acc xs
 | [],xs,h => by rw [LZip] at h ⊢; exact h
 | x :: r,xs,h => by
  rw [LZip] at h
  obtain ⟨A',c',ys,rfl,h2,h3⟩ := h
  exact ⟨A',c',ys,rfl,h2.carry g,LZip.carry g r ys h3⟩
theorem LZip.at_ {W : World} {F : Nat -> Prop} {g : Nat} : ∀ (acc : List LN) (xs : List Value) (o : Nat),(∀ j x,xs[j]? = some x -> W.cell? ⟨g,o + j,none⟩ = some x) -> LZip W F acc xs -> LsAt W F g o acc
 | [],xs,o,hc,h => fun k x hx => by simp at hx
 | y :: r,xs,o,hc,h => by
  rw [LZip] at h
  obtain ⟨A',c',ys,rfl,h2,h3⟩ := h
  intro k x hx
  cases k with
  | zero =>
   simp at hx
   subst hx
   exact ⟨hc 0 _ rfl,hc 1 _ rfl,A',c',hc 2 _ rfl,h2⟩
  | succ k =>
   have := LZip.at_ r ys (o + 3) (fun j x hx => by
    have := hc (j + 3) x (by simpa using hx)
    rw [show o + 3 + j = o + (j + 3) by omega]
    exact this) h3 k x (by simpa using hx)
   rw [show o + (k + 1) * 3 = o + 3 + k * 3 by omega]
   exact this
def OwnL (B : Nat) (W : World) (v : Value) (acc : List LN) : Prop := ∃ xs,W.ownsRow B 281 3 v acc.length xs /\ LZip W (OwnSet B W v) acc xs
theorem OwnL.nil (B : Nat) (W : World) : OwnL B W (.slice none 0 0) [] := ⟨[],World.ownsRow_nil _ _ _ _,rfl⟩
theorem OwnL.kp {rb B : Nat} {W W' : World} {v : Value} {acc : List LN} (h : OwnL B W v acc) (g : Kp rb W W') (hrb : rb < B) : OwnL B W' v acc := by
 obtain ⟨xs,h1,h2⟩ := h
 refine ⟨xs,h1.kept g.grownBy (.inr (fun e => by have := (h1.lt rb e).1; omega)),LZip.carry (fun b hb => ?_) _ _ h2⟩
 obtain ⟨⟨hb1,hb2⟩,hb3⟩ := hb
 exact ⟨⟨⟨hb1,Nat.lt_of_lt_of_le hb2 g.size⟩,hb3⟩,g.others b hb2 (by omega)⟩
theorem ownL_push {rb B : Nat} {w1 W2 W3 : World} {v v' : Value} {acc : List LN} {xs : List Value} {f p : Nat} {l : List EL} {A : Option Addr} {c : Nat} (hrb : rb < B) (K : Kp rb w1 W2) (hz : LZip w1 (OwnSet B w1 v) acc xs) (hp : PatF W2 (OwnSet B W2 v) l (.slice A l.length c))
  (ho : W3.ownsRow B 281 3 v' (acc.length + 1) (xs ++ [.int .i64 f,.int .i64 p,.slice A l.length c])) (hg : W2.grownBy W3 v.ownBlock) (hw : v'.ownBlock = v.ownBlock ∨ v'.ownBlock = some W2.heap.size) : OwnL B W3 v' (acc ++ [⟨f,p,l⟩]) := by
 refine ⟨_,by rw [List.length_append]; exact ho,?_⟩
 have g : ∀ b,OwnSet B W2 v b -> OwnSet B W3 v' b /\ W3.heap[b]? = W2.heap[b]? := fun b hb => by
  obtain ⟨⟨hb1,hb2⟩,hb3⟩ := hb
  refine ⟨⟨⟨hb1,Nat.lt_of_lt_of_le hb2 hg.size⟩,?_⟩,hg.block b hb2 hb3⟩
  rcases hw with e | e
  ·rw [e]; exact hb3
  ·rw [e]; intro e2; have := Option.some.inj e2; omega
 refine LZip.carry g _ _ (LZip.snoc hp acc xs (LZip.carry (fun b hb => ?_) _ _ hz))
 obtain ⟨⟨hb1,hb2⟩,hb3⟩ := hb
 exact ⟨⟨⟨hb1,Nat.lt_of_lt_of_le hb2 K.size⟩,hb3⟩,K.others b hb2 (by omega)⟩
theorem next_pos {s : ByteArray} {i : Nat} (hi : i <= s.size) {f p k : Nat} (h : nextS s i = some (f,p,k)) : i < k := by
 have h0 := nl_wt i (s.size - i) 0 i i (Nat.le_refl _) hi (Nat.le_refl _) (by omega)
 unfold nextS at h
 split at h
 ·cases h
 ·next hn =>
  cases h
  have h1 : ¬ (nlS s 0 i i).2.2 = (nlS s 0 i i).2.1 := fun e => hn (Or.inl e)
  omega
theorem OwnL.set {B : Nat} {W : World} {v : Value} {acc : List LN} (h : OwnL B W v acc) {nb : Nat} (hb : nb < B) (o : Nat) (x : Value) : OwnL B (W.setCell ⟨nb,o,none⟩ x) v acc := by
 obtain ⟨xs,h1,h2⟩ := h
 refine ⟨xs,h1.kept (row := some nb) ⟨rfl,rfl,rfl,by simp,fun k _ hk => Below.heap_setCell _ _ _ _ (fun e => hk (by simp [e]))⟩ (.inr (fun e => by have := (h1.lt nb e).1; omega)),LZip.carry (fun b hb' => ?_) _ _ h2⟩
 obtain ⟨⟨hb1,hb2⟩,hb3⟩ := hb'
 exact ⟨⟨⟨hb1,by simpa using hb2⟩,hb3⟩,Below.heap_setCell _ ⟨nb,o,none⟩ _ b (by show b ≠ nb; omega)⟩
theorem box_third {w : World} {k : Nat} {a b c : Value} {t : TypeId} (h : BoxAt w k #[a,b,c] t) (v : Value) : BoxAt (w.setCell ⟨k,2,none⟩ v) k #[a,b,v] t := by
 unfold BoxAt at h ⊢
 simp [World.setCell,Array.getElem?_modify,h]
def patQ : Option (List LN × Nat) -> Option (List EL × Nat)
 | none => none
 | some (ls,j) => some (joinS ls,j)
theorem patS_q (P : Nat -> Res) (s : ByteArray) (i : Nat) : patS P s i = patQ (linesS P s [] 0 0 (sp s i)) := by
 unfold patS
 cases linesS P s [] 0 0 (sp s i) with
 | none => rfl
 | some v => obtain ⟨ls,j⟩ := v; rfl
set_option maxHeartbeats 4000000 in
set_option maxRecDepth 100000 in
theorem pattern_any {rb : Nat} {s : ByteArray} {d : Nat} {P : Nat -> Res} (hs : s.size <= 1000000000) (hd : d <= 3000) (hP : WayTo rb s 208 #[pt rb,.int .i64 ((d + 1 : Nat) : Int)] P) (hPos : PosOk s P) : PatTo rb s d (patS P s) := by
 intro i w hr hi
 obtain ⟨i0,hi0,hz0,hz1,hz2⟩ := info_parts infoLine
 have HR := hid hr
 have hlt := hr.lt
 have hS := sp_ok s i hi
 have hP1 := fun W (h : Rd rb s i W) => pass_any endSpaces W h (by omega) hi
 obtain ⟨R,hRR⟩ : ∃ R,linesS P s [] 0 0 (sp s i) = R := ⟨_,rfl⟩
 have hwt := fun ls j h => lines_wt hPos _ _ _ _ _ (Nat.le_refl _) hS.2 ls j (hRR.trans h)
 rw [patS_q,hRR]
 obtain ⟨p0,hp0⟩ : ∃ p,sp s i = p := ⟨_,rfl⟩
 rw [hp0] at hS hP1 hRR hwt
 have hPt := fun j W (h : Rd rb s j W) hj => parts_any hs (show d + 1 <= 4000 by omega) hP hPos j W h hj
 have hNx := fun j W (h : Rd rb s j W) hj => nextLine_any hs j W h hj
 obtain ⟨Q,hQ⟩ : ∃ Q,patQ R = Q := ⟨_,rfl⟩
 rw [show ((d + 1 : Nat) : Int) = (d : Int) + 1 by omega] at hPt
 rw [hQ]
 have HP1 := hid hP1
 have HPt := hid hPt
 have HNx := hid hNx
 have HQ := hid hQ
 have HRR := hid hRR
 have Hwt := hid hwt
 have hd0 : (d : Int) <= 3000 := by omega
 clear hr hP1 hp0 hP hPos hPt hNx hQ hRR hwt
 unfold pt at HP1 HPt HNx ⊢
 go_enter Tryz.func130,Tryz.ntmps130
 go_wp2_with fail
 go_at_call 169
 refine (HP1.out _ HR.out).mono ?_
 rintro e w1 ⟨rfl,g1,g2⟩
 have G1 := hid g1
 have HK := hid g2
 clear g1 g2
 go_wp2
 go_loopw [6,8] (fun t6 t8 wr => ∃ (acc : List LN) (j f p : Nat) (gb : Bool) (A : Option Addr) (c : Nat),t6 = .slice A acc.length c /\ t8 = .bool gb /\ j <= s.size /\ f <= s.size /\ p <= s.size /\ acc.length <= j + 1 /\ (gb = true -> acc.length <= j) /\ Hid (gb = true -> linesS P s acc f p j = R) /\ Hid (gb = false -> some (acc,j) = R /\ 0 < acc.length) /\ Hid (Rd rb s j wr) /\ Hid (Kp rb w wr) /\ Hid (BoxAt wr w1.heap.size #[.int .i64 f,.int .i64 p,.slice none 0 0] 281) /\ Hid (OwnL (w1.heap.size + 1) wr (.slice A acc.length c) acc)) (fun _ t8 wr => match t8 with | .bool true => s.size - posOf rb wr + 1 | _ => 0)
 case atStart => exact ⟨[],p0,0,0,true,none,0,rfl,rfl,hS.2,Nat.zero_le _,Nat.zero_le _,Nat.zero_le _,fun _ => Nat.zero_le _,fun _ => HRR.out,(fun h => by cases h),G1.out.alloc _,HK.out.alloc (by have := HK.out.size; omega) _,BoxAt.new _ _ _,OwnL.nil _ _⟩
 case round =>
  obtain ⟨acc,j,f,p,gb,A,c,rfl,rfl,hj,hf,hp,hal,hal2,Hl,He,HRd,HKr,HB,HO⟩ := hrel
  have Hpos := hid HRd.out.pos
  have hs1 := HK.out.size
  have hsr := HKr.out.size
  have hbl := HB.out.lt
  cases gb
  case false =>
   obtain ⟨hRe,h0⟩ := He.out rfl
   obtain ⟨xs,ho,hz⟩ := HO.out
   rcases ho.2 with ⟨_,hn⟩ | ⟨g,cap,cur,hv,hb,hg,hc1,hc2,hcs,htk⟩
   ·omega
   cases hv
   have hw := (Hwt.out acc j hRe.symm).1
   have hw0 : wtLs ([] : List LN) = 0 := rfl
   have hJ := join_any acc (OwnSet (w1.heap.size + 1) wr (.slice (some ⟨g,0,none⟩) acc.length c)) g c wr h0 hc1 (by omega) (by omega) (LZip.at_ acc xs 0 (fun j x hx => by
    have := ho.cells (g := g) rfl j x hx
    rw [Addr.add_mid] at this
    exact this) hz) (Array.getElem?_eq_some_iff.1 hg).1 (fun b hb => hb.1.2)
   have HJ := hid hJ
   have HRe := hid hRe
   clear hJ hRe hw hw0 ho hz hg hcs htk hc1 hc2
   go_wp2_with fail
   go_at_call 172
   refine (HJ.out).mono ?_
   rintro e w2 ⟨hb2,A2,n2,c2,rfl,hn,hn4,hpat⟩
   have HB2 := hid hb2
   have HPt2 := hid hpat
   clear hb2 hpat
   go_wp2
   go_ret2
   have hQe : Q = some (joinS acc,j) := by rw [<- HQ.out,<- HRe.out]; rfl
   subst hQe
   have hb2 := HB2.out.size
   refine ⟨HKr.out.trans (Kp.of_below HB2.out (by omega)),A2,n2,c2,j,rfl,HRd.out.later HB2.out,hj,hn4,fun l m h => ?_⟩
   cases h
   refine ⟨rfl,hn,PatF.carry (fun b hb => ?_) HPt2.out⟩
   rcases hb with ⟨⟨b1,b2⟩,_⟩ | ⟨b1,b2⟩
   ·exact ⟨⟨by omega,by omega⟩,rfl⟩
   ·exact ⟨⟨by omega,b2⟩,rfl⟩
  case true =>
   have hans := Hl.out rfl
   have hal3 := hal2 rfl
   rw [linesS] at hans
   have hPt := fun W h => HPt.out j W h hj
   obtain ⟨r,hrr⟩ : ∃ r,partsS P s [] j = r := ⟨_,rfl⟩
   have hjp := fun ps j' (h : r = some (ps,j')) => parts_pos _ _ _ (Nat.le_refl _) hj ps j' (hrr.trans h)
   rw [hrr] at hPt hans
   have HPr := hid hPt
   have Hans := hid hans
   have Hjp := hid hjp
   have hacc : (acc.length : Int) <= 1000000000 := by omega
   have hrb1 : rb ≠ w1.heap.size := by omega
   clear hPt hans hrr hjp
   go_wp2_with fail
   go_at_call 171
   refine (HPr.out _ HRd.out).mono ?_
   rintro e w2 ⟨h1,A2,n2,c2,j2,rfl,h2,hj2,h3⟩
   have HK2 := hid (HKr.out.trans h1)
   have HB2 := hid (BoxAt.kp HB.out h1 (fun e => hrb1 e.symm))
   have HO2 := hid (HO.out.kp h1 (by omega))
   have H2 := hid h2
   have H3 := hid h3
   have hs2 := h1.size
   clear h1 h2 h3
   cases r with
   | none =>
    have hR := Hans.out
    dsimp only at hR
    have HRn := hid hR
    clear hR
    go_wp2
    go_ret2
    have hQe : Q = none := by rw [<- HQ.out,<- HRn.out]; rfl
    subst hQe
    exact ⟨HK2.out,none,0,0,j2,rfl,H2.out,hj2,Nat.zero_le _,fun l m h => by cases h⟩
   | some pj =>
    obtain ⟨ps,j2'⟩ := pj
    obtain ⟨rfl,hpl,hpn,hpt⟩ := H3.out ps j2' rfl
    subst hpl
    have hR := Hans.out
    dsimp only at hR
    have hjj := Hjp.out _ _ rfl
    have hNx := fun W h => HNx.out j2' W h hj2
    have hnp := fun f' p' k (h : nextS s j2' = some (f',p',k)) => next_pos hj2 h
    obtain ⟨rn,hrn⟩ : ∃ r,nextS s j2' = r := ⟨_,rfl⟩
    rw [hrn] at hR hNx hnp
    have HRn := hid hR
    have HN := hid hNx
    have Hnp := hid hnp
    have HPF := hid hpt
    obtain ⟨q0,q1,q2,p0',p1,p2⟩ := cells3 HB2.out
    have hl2 := HB2.out.lt
    obtain ⟨xs6,ho6,hz6⟩ := (HO2.out.set (nb := w1.heap.size) (by omega) 2 (.slice A2 ps.length c2))
    have hown1 := ho6.alloc (.cells #[.int .i64 f,.int .i64 p,.slice A2 ps.length c2] 281)
    have hnew : BoxAt ((w2.setCell ⟨w1.heap.size,2,none⟩ (.slice A2 ps.length c2)).alloc (.cells #[.int .i64 f,.int .i64 p,.slice A2 ps.length c2] 281)) w2.heap.size #[.int .i64 f,.int .i64 p,.slice A2 ps.length c2] 281 := BoxAt.new' _ _ _ _ (by simp)
    have hmid : BoxAt ((w2.setCell ⟨w1.heap.size,2,none⟩ (.slice A2 ps.length c2)).alloc (.cells #[.int .i64 f,.int .i64 p,.slice A2 ps.length c2] 281)) w1.heap.size #[.int .i64 f,.int .i64 p,.slice A2 ps.length c2] 281 := (box_third HB2.out (.slice A2 ps.length c2)).alloc _
    have Hmid := hid hmid
    clear hmid
    obtain ⟨_,ho5,_⟩ := HO.out
    have Hv5 := hid (fun k e => ho5.lt k e)
    clear hR hNx hnp hrn hpt ho6 ho5
    go_wp2_with (at_builtin; refine wpList_append_where _ rfl _ _ 278 rfl (w1.heap.size + 1) 281 i0 (.agg #[.int .i64 0,.int .i64 0,.slice none 0 0]) 3 40 Tryz.underlying278 hi0 hz0 hz1 hz2 rfl (by decide) _ _ _ rfl hown1 ⟨w2.heap.size,0,none⟩ 1 1 [.int .i64 f,.int .i64 p,.slice A2 ps.length c2] rfl rfl ?c1 ?c2 ?c3 ?c4 ?c5 ?c6 ?_)
    case c1 =>
     intro j u hj
     match j,hj with
     | 0,hj => simp at hj; subst hj; exact hnew.cell 0
     | 1,hj => simp at hj; subst hj; exact hnew.cell 1
     | 2,hj => simp at hj; subst hj; exact hnew.cell 2
    case c2 => intro u hu; simp at hu; rcases hu with rfl | rfl | rfl <;> rfl
    case c3 => unfold maxLen; omega
    case c4 => omega
    case c5 => simp; omega
    case c6 => decide
    intro v' w8 hown' hgrow hwh
    have K2 : Kp rb (w2.setCell ⟨w1.heap.size,2,none⟩ (.slice A2 ps.length c2)) ((w2.setCell ⟨w1.heap.size,2,none⟩ (.slice A2 ps.length c2)).alloc (.cells #[.int .i64 f,.int .i64 p,.slice A2 ps.length c2] 281)) := (Kp.refl rb _).alloc (by simp; omega) _
    have hcar : ∀ b,Since wr.heap.size w2 b -> OwnSet (w1.heap.size + 1) ((w2.setCell ⟨w1.heap.size,2,none⟩ (.slice A2 ps.length c2)).alloc (.cells #[.int .i64 f,.int .i64 p,.slice A2 ps.length c2] 281)) (.slice A acc.length c) b /\ ((w2.setCell ⟨w1.heap.size,2,none⟩ (.slice A2 ps.length c2)).alloc (.cells #[.int .i64 f,.int .i64 p,.slice A2 ps.length c2] 281)).heap[b]? = w2.heap[b]? := fun b hb => by
     obtain ⟨b1,b2⟩ := hb
     refine ⟨⟨⟨by omega,by simp; omega⟩,fun e => by have := Hv5.out b e.symm; omega⟩,?_⟩
     exact (Lib.alloc_old _ _ b (by simpa using b2)).trans (Below.heap_setCell _ ⟨w1.heap.size,2,none⟩ _ b (by show b ≠ w1.heap.size; omega))
    have HO8 := hid (ownL_push (rb := rb) (f := f) (p := p) (l := ps) (by omega) K2 hz6 (PatF.carry hcar HPF.out) hown' hgrow (by simpa using hwh))
    have G8 := hid (((H2.out.setOther hrb1 2 _).alloc _).grown hgrow (fun k e => by have := Hv5.out k e; omega))
    have HK8 := hid (Kp.grown ((HK2.out.setNew (b := w1.heap.size) hs1 hlt 2 _).alloc (by simp; omega) _) hgrow (fun k e => by have := (Hv5.out k e).1; omega) hlt)
    have HB8 := hid (show BoxAt w8 w1.heap.size #[.int .i64 f,.int .i64 p,.slice A2 ps.length c2] 281 from (hgrow.block w1.heap.size Hmid.out.lt (fun e => by have := (Hv5.out _ e.symm).1; omega)).trans Hmid.out)
    obtain ⟨A9,c9,rfl⟩ := own_slice hown' (by omega)
    clear hown' hgrow hwh K2 hcar hnew q0 q1 q2 p0' p1 p2 hown1 hz6
    go_wp2_with fail
    go_at_call 170
    refine (HN.out _ G8.out).mono ?_
    rintro e w9 ⟨h4,f',p',j3,rfl,h5,hj3,hf',hp',hnone,hsome⟩
    have HK9 := hid (HK8.out.trans h4)
    have HB9 := hid (BoxAt.kp HB8.out h4 (fun e => hrb1 e.symm))
    have HO9 := hid (HO8.out.kp h4 (by omega))
    have H9 := hid h5
    have hl9 := HB9.out.lt
    obtain ⟨q0,q1,q2,p0',p1,p2⟩ := cells3 HB9.out
    have Hnone := hid hnone
    have Hsome := hid hsome
    clear h4 h5 hnone hsome
    go_wp2
    go_roundw
    case rel =>
     refine ⟨acc ++ [⟨f,p,ps⟩],j3,f',p',rn.isSome,A9,c9,?_,rfl,hj3,hf',hp',?_,?_,?_,?_,H9.out.set3 hrb1 _ _ _,HK9.out.set3 hs1 hlt _ _ _,box_set3 HB9.out _ _ _,?_⟩
     ·show Value.slice A9 _ c9 = _
      simp
     ·rw [List.length_append,List.length_singleton]
      cases rn with
      | none => have := Hnone.out rfl; omega
      | some v => obtain ⟨f2,p2,k2⟩ := v; have := Hnp.out _ _ _ rfl; obtain ⟨_,_,e⟩ := Hsome.out _ _ _ rfl; omega
     ·intro hg
      rw [List.length_append,List.length_singleton]
      cases rn with
      | none => cases hg
      | some v => obtain ⟨f2,p2,k2⟩ := v; have := Hnp.out _ _ _ rfl; obtain ⟨_,_,e⟩ := Hsome.out _ _ _ rfl; omega
     ·intro hg
      cases rn with
      | none => cases hg
      | some v =>
       obtain ⟨f2,p2,k2⟩ := v
       have := Hnp.out _ _ _ rfl
       obtain ⟨rfl,rfl,rfl⟩ := Hsome.out _ _ _ rfl
       have hR := HRn.out
       dsimp only at hR
       rw [dif_pos (show j < k2 /\ k2 <= s.size from ⟨by omega,hj3⟩)] at hR
       exact hR
     ·intro hg
      cases rn with
      | some v => cases hg
      | none =>
       have e := Hnone.out rfl
       subst e
       have hR := HRn.out
       dsimp only at hR
       exact ⟨hR,by simp⟩
     ·rw [List.length_append,List.length_singleton]
      exact ((HO9.out.set (nb := w1.heap.size) (by omega) 0 _).set (nb := w1.heap.size) (by omega) 1 _).set (nb := w1.heap.size) (by omega) 2 _
    case measure =>
     have e3 := (H9.out.set3 hrb1 (.int .i64 f') (.int .i64 p') (.slice none 0 0)).pos
     cases rn with
     | none => show 0 < s.size - posOf rb wr + 1; omega
     | some v =>
      obtain ⟨f2,p2,k2⟩ := v
      have := Hnp.out _ _ _ rfl
      obtain ⟨_,_,e⟩ := Hsome.out _ _ _ rfl
      have e4 := Hpos.out
      show s.size - posOf rb (set3 w9 w1.heap.size (.int .i64 f') (.int .i64 p') (.slice none 0 0)) + 1 < s.size - posOf rb wr + 1
      rw [e3,e4]
      omega
theorem or_some {α : Type} {a b : Option α} {v : α} (h : a.or b = some v) : a = some v ∨ b = some v := by
 cases a with
 | none => exact .inr (by simpa using h)
 | some x => exact .inl (by simpa using h)
section
variable {s : ByteArray} {P : Nat -> Res} {i j : Nat} {e : EX}
theorem quo_pos (hi : i <= s.size) (h : quoS s i = some (e,j)) : i < j /\ j <= s.size := by
 obtain ⟨T,n,b,_,hn,_,h4⟩ := quo_val s i hi
 obtain ⟨rfl,_,h0⟩ := h4 _ _ h
 omega
theorem var_pos (hi : i <= s.size) (h : varS s i = some (e,j)) : i < j /\ j <= s.size := by
 unfold varS at h
 split at h
 ·next hc =>
  rw [Bool.and_eq_true,decide_eq_true_iff] at hc
  have h1 := isAt_lt hc.1
  have h2 := nm_ok s (i + 1) h1
  cases h
  omega
 ·cases h
theorem nest_pos (hP : PosOk s P) (h : nestS P i = some (e,j)) : i < j /\ j <= s.size := by
 unfold nestS at h
 split at h
 ·next hp => cases h; exact hP _ _ _ hp
 ·cases h
theorem ref_pos {k : Int} (hi : i <= s.size) (h : refS k s i = some (e,j)) : i < j /\ j <= s.size := by
 unfold refS at h
 have h1 := nm_ok s i hi
 split at h
 ·cases h
 ·split at h
  ·next hd =>
   have h2 := isAt_lt hd
   have h3 := nm_ok s (nm s i + 1) h2
   split at h
   ·cases h
   ·cases h; omega
  ·cases h; omega
theorem ter_pos (hi : i <= s.size) (h : terS s i = some (e,j)) : i < j /\ j <= s.size := by
 unfold terS at h
 split at h
 ·next hc =>
  have h1 := isAt_lt hc
  have := ref_pos (by omega) h
  omega
 ·cases h
theorem nub_pos (hi : i <= s.size) (h : nubS s i = some (e,j)) : i < j /\ j <= s.size := by
 unfold nubS at h
 have h1 := nu_ok s i hi
 split at h
 ·cases h
 ·cases h; omega
theorem head_pos (hP : PosOk s P) (hi : i <= s.size) (h : headS P s i = some (e,j)) : i < j /\ j <= s.size := by
 unfold headS at h
 rcases or_some h with h | h
 ·exact quo_pos hi h
 rcases or_some h with h | h
 ·exact var_pos hi h
 rcases or_some h with h | h
 ·exact nest_pos hP h
 rcases or_some h with h | h
 ·exact ter_pos hi h
 rcases or_some h with h | h
 ·exact ref_pos hi h
 ·exact nub_pos hi h
theorem opn_pos (e : EX) (hj : j <= s.size) : j <= (opnS s e j).2 /\ (opnS s e j).2 <= s.size := by
 unfold opnS
 have h1 := bl_ok s j hj
 split
 ·split
  ·next hc => have h2 := isAt_lt hc; exact ⟨by show j <= bl s j + 1; omega,h2⟩
  ·exact h1
 ·exact ⟨Nat.le_refl _,hj⟩
theorem nam_pos {n : ByteArray} (hi : i <= s.size) (h : namS s i = some (n,e,j)) : i < j /\ j <= s.size := by
 unfold namS at h
 have h1 := nm_ok s i hi
 have h2 := bl_ok s (nm s i) h1.2
 split at h
 ·cases h
 ·split at h
  ·next hc =>
   have h3 := isAt_lt hc
   have h4 := bl_ok s (bl s (nm s i) + 1) h3
   split at h
   ·next e' q ho =>
    cases h
    have : bl s (bl s (nm s i) + 1) < j /\ j <= s.size := by
     rcases or_some ho with ho | ho
     ·exact quo_pos h4.2 ho
     ·exact nub_pos h4.2 ho
    omega
   ·cases h
  ·cases h
theorem arg_pos {n : ByteArray} (hP : PosOk s P) (hi : i <= s.size) (h : argS P s i = some (n,e,j)) : i < j /\ j <= s.size := by
 unfold argS at h
 split at h
 ·next hn => cases h; exact nam_pos hi hn
 ·split at h
  ·next hh => cases h; exact head_pos hP hi hh
  ·cases h
theorem args_pos (hP : PosOk s P) : ∀ (m : Nat) (xs : List AR) (want : Bool) (i : Nat),s.size - i <= m -> i <= s.size -> ∀ l j,argsS P s xs want i = some (l,j) -> i < j /\ j <= s.size := by
 intro m
 induction m with
 | zero =>
  intro xs want i hm hi l j h
  have h1 := bl_ok s i hi
  rw [argsS] at h
  split at h
  ·next hc => have := isAt_lt hc; omega
  ·split at h
   ·split at h
    ·next hc => have := isAt_lt hc; omega
    ·cases h
   ·split at h
    ·cases h
    ·next hh => have := arg_pos hP h1.2 hh; omega
 | succ m ih =>
  intro xs want i hm hi l j h
  have h1 := bl_ok s i hi
  rw [argsS] at h
  split at h
  ·next hc => have := isAt_lt hc; cases h; omega
  ·split at h
   ·split at h
    ·next hc =>
     have h2 := isAt_lt hc
     have := ih _ _ _ (by omega) h2 l j h
     omega
    ·cases h
   ·split at h
    ·cases h
    ·next n e' j' hh =>
     have h2 := arg_pos hP h1.2 hh
     split at h
     ·split at h
      ·next hg =>
       split at h
       ·cases h
       ·next hh2 =>
        have h3 := ih _ _ _ (by omega) hg.2 _ _ hh2
        split at h
        ·next hg2 =>
         split at h
         ·have := ih _ _ _ (by omega) hg2.2 l j h
          omega
         ·cases h
        ·cases h
      ·cases h
     ·generalize (if emp n = true then (opnS s e' j').2 else j') = q at h
      split at h
      ·next hg =>
       split at h
       ·have := ih _ _ _ (by omega) hg.2 l j h
        omega
       ·cases h
      ·cases h
theorem inl_pos (hP : PosOk s P) (hi : i <= s.size) (h : inlS P s i = some (e,j)) : i < j /\ j <= s.size := by
 unfold inlS at h
 split at h
 ·cases h
 ·next e' j' hh =>
  have h1 := head_pos hP hi hh
  have h2 := opn_pos e' h1.2
  split at h
  ·split at h
   ·cases h
   ·next ha =>
    cases h
    have := args_pos hP _ _ _ _ (Nat.le_refl _) h2.2 _ _ ha
    omega
  ·cases h; omega
theorem vars_pos : ∀ (m : Nat) (acc : List VA) (i : Nat),s.size - i <= m -> i <= s.size -> ∀ l j,varsS P s acc i = some (l,j) -> i < j /\ j <= s.size := by
 intro m
 induction m with
 | zero =>
  intro acc i hm hi l j h
  rw [varsS] at h
  split at h
  ·next hc => have := isAt_lt hc; omega
  ·split at h
   ·cases h
   ·split at h
    ·next hg => omega
    ·cases h
 | succ m ih =>
  intro acc i hm hi l j h
  rw [varsS] at h
  split at h
  ·next hc =>
   have := isAt_lt hc
   split at h
   ·cases h; omega
   ·cases h
  ·split at h
   ·cases h
   ·split at h
    ·next hg => have := ih _ _ (by omega) hg.2 l j h; omega
    ·cases h
theorem sel_pos {l : List VA} (hi : i <= s.size) (h : selS P s i = some (l,j)) : i < j /\ j <= s.size := by
 unfold selS at h
 have h1 := sp_ok s i hi
 split at h
 ·next hc =>
  have h2 := isAt_lt hc
  have h3 := bl_ok s (sp s i + 1) h2
  have := vars_pos _ _ _ (Nat.le_refl _) h3.2 _ _ h
  omega
 ·cases h
theorem pl_pos (hP : PosOk s P) : PosOk s (plS P s) := by
 intro i e j h
 unfold plS at h
 split at h
 ·next hc =>
  have h1 := isAt_lt hc
  have h2 := bl_ok s (i + 1) h1
  split at h
  ·cases h
  ·next e' j' hin =>
   have h3 := inl_pos hP h2.2 hin
   have h4 := bl_ok s j' h3.2
   split at h
   ·next hb =>
    have h5 := isAt_lt hb
    split at h
    ·cases h
    ·cases h; omega
   ·split at h
    ·next hb =>
     rw [Bool.and_eq_true,Bool.and_eq_true] at hb
     have h5 := isAt_lt hb.1.2
     split at h
     ·cases h
     ·next hsl =>
      cases h
      have := sel_pos (by omega) hsl
      omega
    ·cases h
 ·cases h
end
theorem place_pos (s : ByteArray) : ∀ r,PosOk s (placeS s r)
 | 0 => by
  intro i e j h
  rw [placeS] at h
  cases h
 | r + 1 => by
  rw [placeS_succ]
  exact pl_pos (place_pos s r)
def InKnot (rb : Nat) (s : ByteArray) : Prop := ∀ (d : Nat) (P : Nat -> Res),d <= 20 -> WayTo rb s 208 #[pt rb,.int .i64 ((d + 1 : Nat) : Int)] P -> PosOk s P -> WayTo rb s 237 #[pt rb,.int .i64 d] (inlS P s)
theorem place_knot {rb : Nat} {s : ByteArray} (hs : s.size <= 1000000000) (hIn : InKnot rb s) : ∀ (r d : Nat),d + r = 21 -> WayTo rb s 208 #[pt rb,.int .i64 (d : Nat)] (placeS s r)
 | 0,d,h => by
  have := place_deep (rb := rb) (s := s) (d := d) (by omega) (by omega)
  have e : placeS s 0 = fun _ => none := by funext i; rw [placeS]
  rw [e]
  exact this
 | r + 1,d,h => by
  rw [placeS_succ]
  have hP := place_knot hs hIn r (d + 1) (by omega)
  have hPos := place_pos s r
  refine place_any hs (by omega) (hIn d _ (by omega) hP hPos) ?_
  intro i w hr hi
  exact variants_any hs (by omega) (pattern_any hs (by omega) hP hPos) i w hr hi
def li (s : ByteArray) (i : Nat) : Nat := behN nlB s.data.toList i
def beh (s : ByteArray) (i : Nat) : Nat := if li s i < s.size then li s i + 1 else s.size
theorem li_ok (s : ByteArray) (i : Nat) (hi : i <= s.size) : i <= li s i /\ li s i <= s.size := ⟨behN_ge _ _ _,by have := behN_le nlB s.data.toList i (by rw [size_data]; exact hi); rw [size_data] at this; exact this⟩
theorem beh_ok (s : ByteArray) (i : Nat) (hi : i <= s.size) : i <= beh s i /\ beh s i <= s.size /\ (i < s.size -> i < beh s i) := by
 have := li_ok s i hi
 unfold beh
 split <;> omega
def passE (s : ByteArray) (i : Nat) : Nat :=
 if h : i < s.size then
  if sp s i < s.size /\ isAt s (sp s i) 10 = false then i
  else if h2 : i < beh s (sp s i) then passE s (beh s (sp s i)) else i
 else i
termination_by s.size - i
decreasing_by omega
def mayB (s : ByteArray) (i : Nat) : Bool := isAt s i 35 || isAt s i 45 || decide (i < nm s i)
def junkTo (s : ByteArray) (i : Nat) : Nat :=
 if h : i < s.size /\ mayB s i = false then
  if h2 : i < beh s i then junkTo s (beh s i) else i
 else i
termination_by s.size - i
decreasing_by omega
def namedS (s : ByteArray) (i : Nat) : Option (ByteArray × List EL × Nat) :=
 if nm s i = i then none
 else if isAt s (sp s (nm s i)) 61 then
  match patS (placeS s 20) s (sp s (nm s i) + 1) with
  | none => none
  | some (l,e) => if e = s.size ∨ isAt s e 10 = true then some (s.extract i (nm s i),l,e) else none
 else none
def attrS (s : ByteArray) (i : Nat) : Option (ByteArray × List EL × Nat) :=
 if isAt s (bl s i) 46 && (at0 s.data.toList (bl s i - 1) == 32) then
  match namedS s (bl s i + 1) with
  | none => none
  | some (x,l,e) => if l.isEmpty then none else some (x,l,e)
 else none
def atsS (s : ByteArray) (acc : List AT) (i : Nat) : List AT × Nat :=
 match attrS s i with
 | none => (acc,i)
 | some (x,l,e) => if h : i < e /\ e <= s.size then atsS s (acc ++ [.mk x l]) e else (acc,i)
termination_by s.size - i
decreasing_by omega
structure EN where
 ty : Int
 lv : Int
 tx : ByteArray
 nm : ByteArray
 val : List EL
 ats : List AT
 fr : Nat
 tu : Nat
def msgS (s : ByteArray) (i : Nat) : Option EN :=
 match namedS s (if isAt s i 45 then i + 1 else i) with
 | none => none
 | some (x,l,e) =>
  if !l.isEmpty || (!isAt s i 45 && !(atsS s [] e).1.isEmpty) then some ⟨if isAt s i 45 then 2 else 1,0,E0,x,l,(atsS s [] e).1,i,beh s (atsS s [] e).2⟩ else none
def junkS (s : ByteArray) (i : Nat) : EN := ⟨3,0,s.extract i (junkTo s (beh s i)),E0,[],[],i,junkTo s (beh s i)⟩
def hsB (c : UInt8) : Bool := c == 35
def hs (s : ByteArray) (i : Nat) : Nat := behN hsB s.data.toList i
def comL (s : ByteArray) (i : Nat) : Nat × ByteArray :=
 if 3 < hs s i - i ∨ (hs s i < li s i /\ isAt s (hs s i) 32 = false) then (0,E0)
 else (hs s i - i,if hs s i < li s i then s.extract (hs s i + 1) (li s i) else E0)
def comGo (s : ByteArray) (lv : Nat) (acc : List ByteArray) (k : Nat) (w : ByteArray) : List ByteArray × Nat :=
 if h : (comL s (beh s k)).1 = lv /\ k < beh s k /\ beh s k <= s.size then comGo s lv (acc ++ [w]) (beh s k) (comL s (beh s k)).2
 else (acc ++ [w],beh s k)
termination_by s.size - k
decreasing_by omega
def comS (s : ByteArray) (i : Nat) : Option EN :=
 if (comL s i).1 = 0 then none
 else some ⟨0,(comL s i).1,mkB (Lib.join ((comGo s (comL s i).1 [] i (comL s i).2).1.map (·.data.toList)) [10]),E0,[],[],i,(comGo s (comL s i).1 [] i (comL s i).2).2⟩
def readS (s : ByteArray) (i : Nat) : EN := match comS s i with
 | some x => x
 | none => match msgS s i with
  | some x => x
  | none => junkS s i
def parseGo (s : ByteArray) (acc : List EN) (i : Nat) : List EN :=
 if h : i < s.size /\ i < passE s (readS s i).tu then parseGo s (acc ++ [readS s i]) (passE s (readS s i).tu) else acc
termination_by s.size - i
decreasing_by omega
def parseS (s : ByteArray) : List EN := parseGo s [] (passE s 0)
end Go.Proofs.YtgdkpamlkpncgaaGreatDoor
