/-
  Several texts put together (part 36): what the law and the program call, walked; their contracts.
-/
import Derived.Test.YtgdkpamlkpncgaaGreatDoorQ28
import Derived.Test.YtgdkpamlkpncgaaGreatDoorQ21
import Derived.Test.YtgdkpamlkpncgaaGreatDoorQ30
import Derived.Test.YtgdkpamlkpncgaaGreatDoorQ31
import Derived.Test.YtgdkpamlkpncgaaGreatDoorQ5
import Derived.Test.YtgdkpamlkpncgaaGreatDoorQ26
import Derived.Test.YtgdkpamlkpncgaaGreatDoorQ35
import Derived.Deep.RegionHeld3
import Derived.IntWalk
namespace Go.Proofs.YtgdkpamlkpncgaaGreatDoor
open Go.RowKit
open _root_.Go.Lib (hid)
set_option linter.unusedVariables false
set_option linter.unusedSimpArgs false
def cutL (line : List UInt8) : List UInt8 -> List (List UInt8)
 | [] => [line]
 | c :: r => if c = 10 then line :: cutL [] r else cutL (line ++ [c]) r
theorem comT_lines (mk : List UInt8) : ∀ (l line : List UInt8),comT mk line l = (cutL line l).flatMap (cmlT mk)
 | [],line => by rw [comT,cutL]; simp
 | c :: r,line => by
  rw [comT,cutL]
  by_cases h : c = 10
  ·rw [if_pos h,if_pos h,List.flatMap_cons,comT_lines mk r]
  ·rw [if_neg h,if_neg h,comT_lines mk r]
theorem cutL_some : ∀ (l line : List UInt8),∃ x r,cutL line l = x :: r
 | [],line => ⟨line,[],rfl⟩
 | c :: r,line => by
  rw [cutL]
  by_cases h : c = 10
  ·rw [if_pos h]; exact ⟨_,_,rfl⟩
  ·rw [if_neg h]; exact cutL_some r _
theorem cutL_no : ∀ (l line : List UInt8),(∀ c ∈ line,c ≠ 10) -> ∀ x ∈ cutL line l,∀ c ∈ x,c ≠ 10
 | [],line,h,x,hx => by rw [cutL,List.mem_singleton] at hx; rw [hx]; exact h
 | c :: r,line,h,x,hx => by
  rw [cutL] at hx
  by_cases e : c = 10
  ·rw [if_pos e] at hx
   rcases List.mem_cons.1 hx with hx | hx
   ·rw [hx]; exact h
   ·exact cutL_no r [] (fun c hc => by cases hc) x hx
  ·rw [if_neg e] at hx
   exact cutL_no r _ (fun d hd => by
    rcases List.mem_append.1 hd with hd | hd
    ·exact h d hd
    ·rw [List.mem_singleton.1 hd]; exact e) x hx
theorem cutL_join : ∀ (l line : List UInt8),Lib.join (cutL line l) [10] = line ++ l
 | [],line => by rw [cutL,Lib.join_one,List.append_nil]
 | c :: r,line => by
  rw [cutL]
  by_cases e : c = 10
  ·subst e
   rw [if_pos rfl,Lib.join_cons]
   have ih := cutL_join r []
   obtain ⟨x,t,hx⟩ := cutL_some r []
   rw [hx,Lib.join_cons,List.nil_append] at ih
   rw [hx]
   show line ++ Lib.joinTail [10] (x :: t) = _
   have : Lib.joinTail [10] (x :: t) = 10 :: (x ++ Lib.joinTail [10] t) := by unfold Lib.joinTail; simp
   rw [this,ih]
  ·rw [if_neg e,cutL_join r]; simp
theorem nl_ok {l : List UInt8} (h : ∀ c ∈ l,c ≠ 10) : ∀ c ∈ l,nlB c = true := fun c hc => by unfold nlB; rw [beq_eq_false_iff_ne.2 (h c hc)]; rfl
def Beg (R : List UInt8) : Prop := R = [] ∨ ∃ c T,R = c :: T /\ (c = 35 ∨ c = 45 ∨ leB c = true)
theorem beg_ne {c : UInt8} (h : c = 35 ∨ c = 45 ∨ leB c = true) : c ≠ 10 /\ c ≠ 32 /\ c ≠ 46 := by
 rcases h with rfl | rfl | h
 ·decide
 ·decide
 ·refine ⟨?_,?_,?_⟩ <;> (rintro rfl; revert h; decide)
section
variable {s : ByteArray}
theorem line_com {lv : Nat} (h1 : 1 <= lv) (h3 : lv <= 3) {line : List UInt8} (hl : ∀ c ∈ line,c ≠ 10) {i : Nat} {R : List UInt8} (h : Sx s i (cmlT (List.replicate lv 35) line ++ R)) :
  comL s i = (lv,mkB line) /\ beh s i = i + (cmlT (List.replicate lv 35) line).length := by
 unfold cmlT at h ⊢
 have h0 : Sx s i (List.replicate lv 35 ++ ((if line.isEmpty then [] else 32 :: line) ++ (10 :: R))) := h.cast (by simp)
 have hhs : hs s i = i + lv := by
  have := h0.beh (p := hsB) (fun x hx => by rw [List.eq_of_mem_replicate hx]; decide) (by
   cases line with
   | nil => exact NoH.cons (by decide) _
   | cons c r => exact NoH.cons (by decide) _)
  rw [List.length_replicate] at this
  exact this
 have hR35 : ∀ c ∈ List.replicate lv (35 : UInt8),c ≠ 10 := fun c hc => by rw [List.eq_of_mem_replicate hc]; decide
 have h2 := h0.app
 rw [List.length_replicate] at h2
 cases line with
 | nil =>
  have h2' : Sx s (i + lv) (10 :: R) := h2
  have hli : li s i = i + lv := by
   have := h0.beh (p := nlB) (T := List.replicate lv 35) (R := 10 :: R) (nl_ok hR35) (NoH.cons (by decide) _)
   rw [List.length_replicate] at this
   exact this
  have hlt := h2'.lt
  constructor
  ·unfold comL
   rw [hhs,hli,if_neg (by omega),if_neg (by omega)]
   congr 1
   omega
  ·unfold beh
   rw [hli,if_pos hlt]
   simp
   omega
 | cons c r =>
  have h2' : Sx s (i + lv) (32 :: ((c :: r) ++ 10 :: R)) := h2
  have hli : li s i = i + lv + 1 + (c :: r).length := by
   have h0' : Sx s i ((List.replicate lv 35 ++ 32 :: (c :: r)) ++ 10 :: R) := h0.cast (by simp)
   have := h0'.beh (p := nlB) (nl_ok (fun d hd => by
    rcases List.mem_append.1 hd with hd | hd
    ·exact hR35 d hd
    ·rcases List.mem_cons.1 hd with hd | hd
     ·rw [hd]; decide
     ·exact hl d hd)) (NoH.cons (by decide) _)
   rw [List.length_append,List.length_replicate,List.length_cons] at this
   have e : li s i = _ := this
   rw [e]
   omega
  have h4 := h2'.tail
  have h5 := h4.app
  have hlt := h5.lt
  constructor
  ·unfold comL
   rw [hhs,hli,h2'.isAt,if_neg,if_pos (by rw [List.length_cons]; omega),h4.ext]
   ·congr 1
    omega
   ·rintro (e | ⟨_,e⟩)
    ·omega
    ·exact absurd e (by decide)
  ·unfold beh
   rw [hli,if_pos hlt]
   simp
   omega
theorem com_go {lv : Nat} (h1 : 1 <= lv) (h3 : lv <= 3) {R : List UInt8} (hR : ∀ j,Sx s j R -> (comL s j).1 ≠ lv) : ∀ (lines : List (List UInt8)) (line : List UInt8) (acc : List ByteArray) (k : Nat),(∀ c ∈ line,c ≠ 10) -> (∀ x ∈ lines,∀ c ∈ x,c ≠ 10) ->
  Sx s k (cmlT (List.replicate lv 35) line ++ (lines.flatMap (cmlT (List.replicate lv 35)) ++ R)) ->
  comGo s lv acc k (mkB line) = (acc ++ mkB line :: lines.map mkB,k + (cmlT (List.replicate lv 35) line).length + (lines.flatMap (cmlT (List.replicate lv 35))).length)
 | [],line,acc,k,hl,hls,h => by
  obtain ⟨g1,g2⟩ := line_com h1 h3 hl h
  have h2 := h.app
  rw [comGo,g2,dif_neg (fun x => hR _ h2 x.1)]
  simp
 | x :: lines,line,acc,k,hl,hls,h => by
  obtain ⟨g1,g2⟩ := line_com h1 h3 hl h
  have h2 : Sx s (k + (cmlT (List.replicate lv 35) line).length) (cmlT (List.replicate lv 35) x ++ (lines.flatMap (cmlT (List.replicate lv 35)) ++ R)) := h.app.cast (by simp)
  obtain ⟨f1,f2⟩ := line_com h1 h3 (hls x (List.mem_cons_self ..)) h2
  have hpos : 0 < (cmlT (List.replicate lv 35) line).length := by unfold cmlT; simp; omega
  rw [comGo,g2,dif_pos ⟨by rw [f1],by omega,h2.1⟩,f1]
  dsimp only
  rw [com_go h1 h3 hR lines x _ _ (hls x (List.mem_cons_self ..)) (fun y hy => hls y (List.mem_cons_of_mem _ hy)) h2]
  simp
  omega
theorem com_read {lv : Nat} (h1 : 1 <= lv) (h3 : lv <= 3) {t : ByteArray} {i : Nat} {R : List UInt8} (hR : ∀ j,Sx s j R -> (comL s j).1 ≠ lv) (h : Sx s i (comT (List.replicate lv 35) [] t.data.toList ++ R)) :
  comS s i = some ⟨0,lv,t,E0,[],[],i,i + (comT (List.replicate lv 35) [] t.data.toList).length⟩ := by
 have hj := cutL_join t.data.toList []
 have hno := cutL_no t.data.toList [] (fun c hc => by cases hc)
 obtain ⟨x,r,hx⟩ := cutL_some t.data.toList []
 rw [comT_lines] at h ⊢
 rw [hx] at h hj hno ⊢
 rw [List.flatMap_cons] at h ⊢
 have h' : Sx s i (cmlT (List.replicate lv 35) x ++ (r.flatMap (cmlT (List.replicate lv 35)) ++ R)) := h.cast (by simp)
 have hx0 := hno x (List.mem_cons_self ..)
 have hr0 : ∀ y ∈ r,∀ c ∈ y,c ≠ 10 := fun y hy => hno y (List.mem_cons_of_mem _ hy)
 obtain ⟨g1,g2⟩ := line_com h1 h3 hx0 h'
 have hg := com_go h1 h3 hR r x [] i hx0 hr0 h'
 unfold comS
 rw [g1]
 dsimp only
 rw [if_neg (by omega),hg]
 dsimp only
 have e : (([] : List ByteArray) ++ mkB x :: r.map mkB).map (·.data.toList) = x :: r := by
  rw [List.nil_append,List.map_cons,List.map_map]
  have e1 : (mkB x).data.toList = x := by simp [mkB]
  have e2 : (fun b : ByteArray => b.data.toList) ∘ mkB = id := by funext z; simp [mkB]
  rw [e1,e2,List.map_id]
 rw [e,hj,List.nil_append,mkB_of,List.length_append,Nat.add_assoc]
theorem com_no {i : Nat} {c : UInt8} {T : List UInt8} (h : Sx s i (c :: T)) (hc : c ≠ 35) : (comL s i).1 = 0 := by
 have hhs : hs s i = i := Sx.beh (T := []) h (fun x hx => by cases hx) (NoH.cons (show hsB c = false from beq_eq_false_iff_ne.2 hc) _)
 unfold comL
 split
 ·rfl
 ·show hs s i - i = 0
  omega
theorem com_end {i : Nat} (h : Sx s i []) : (comL s i).1 = 0 := by
 have hhs : hs s i = i := Sx.beh (T := []) h (fun x hx => by cases hx) (NoH.nil _)
 unfold comL
 split
 ·rfl
 ·show hs s i - i = 0
  omega
theorem nl_over : ∀ (k f fr i : Nat),Sx s i (List.replicate (k + 1) 10) -> nlS s f fr i = (f + k + 1,i + k + 1,i + k + 1)
 | 0,f,fr,i,h => by
  have h0 : Sx s i (10 :: []) := h
  have h1 := h0.tail
  have e1 : sp s (i + 1) = i + 1 := h1.sp0 (NoH.nil _)
  rw [nlS,dif_pos (by rw [h0.isAt]; rfl),e1,nlS,dif_neg (by rw [h1.isEnd]; simp)]
 | k + 1,f,fr,i,h => by
  have h0 : Sx s i (10 :: List.replicate (k + 1) 10) := h.cast (by rw [List.replicate_succ])
  have h1 := h0.tail
  have e1 : sp s (i + 1) = i + 1 := h1.sp0 (by rw [List.replicate_succ]; exact NoH.cons (by decide) _)
  rw [nlS,dif_pos (by rw [h0.isAt]; rfl),e1,nl_over k _ _ _ h1]
  simp only [Prod.mk.injEq]
  omega
theorem stp_end {f : Nat} {R : List UInt8} (hB : Beg R) : Stp (10 :: (List.replicate f 10 ++ R)) := by
 refine ⟨NoH.cons (by decide) _,NoH.cons (by decide) _,fun s i h => ?_⟩
 rcases hB with rfl | ⟨c,T,rfl,hc⟩
 ·have h0 : Sx s i (List.replicate (f + 1) 10) := h.cast (by rw [List.append_nil,List.replicate_succ])
  unfold nextS
  rw [nl_over f 0 i i h0,if_pos (.inl rfl)]
 ·obtain ⟨c1,c2, -⟩ := beg_ne hc
  have h0 : Sx s i (List.replicate (f + 1) 10 ++ (List.replicate 0 32 ++ c :: T)) := h.cast (by rw [List.replicate_succ]; rfl)
  unfold nextS
  rw [nl_feeds c1 c2 f 0 i i 0 h0,if_pos (.inl rfl)]
theorem stp_at (T : List UInt8) : Stp (10 :: 32 :: 32 :: 32 :: 32 :: 46 :: T) := stp_of (q := 4) (c := 46) (T := T) (by decide) (by decide) (.inl (by decide))
def valT (m : Nat) (v : List EL) : List UInt8 := if v.isEmpty then [] else paT m v
theorem named_read {m : Nat} (hm : 0 < m) {n : ByteArray} (hn : isNameV n = true) {v : List EL} (hv : patB v 0 = true) {i : Nat} {R : List UInt8} (hR : Stp R) (hR2 : ∃ R',R = 10 :: R') (h : Sx s i (n.data.toList ++ (32 :: 61 :: (valT m v ++ R)))) :
  namedS s i = some (n,v,i + n.data.toList.length + 2 + (valT m v).length) := by
 obtain ⟨g1,g2,g3⟩ := h.name hn (NoH.cons (by decide) _)
 have h1 := h.app
 have hsp : sp s (i + n.data.toList.length) = i + n.data.toList.length + 1 := Sx.sp (T := [32]) h1 (fun x hx => by rw [List.mem_singleton.1 hx]; decide) (NoH.cons (by decide) _)
 have h2 := h1.tail
 have h3 := h2.tail
 have h4 := h3.app
 obtain ⟨R',rfl⟩ := hR2
 have hp : patS (placeS s 20) s (i + n.data.toList.length + 1 + 1) = some (v,i + n.data.toList.length + 1 + 1 + (valT m v).length) := by
  unfold valT at h3 ⊢
  cases v with
  | nil => exact pat_none hR (NoH.cons (by decide) _) h3
  | cons x r => exact patB_read hm (by simp) hv hR h3
 unfold namedS
 rw [g1,if_neg (by omega),hsp,h2.isAt,if_pos (by rfl),hp]
 dsimp only
 rw [if_pos (.inr (by rw [h4.isAt]; rfl)),g2]
theorem atsT_cons (n : ByteArray) (v : List EL) (r : List AT) : atsT (.mk n v :: r) = 10 :: 32 :: 32 :: 32 :: 32 :: 46 :: (n.data.toList ++ (32 :: 61 :: paT 8 v)) ++ atsT r := by rw [atsT]
theorem ats_stop (r : List AT) {f : Nat} {R : List UInt8} (hB : Beg R) : Stp (atsT r ++ 10 :: (List.replicate f 10 ++ R)) /\ ∃ R',atsT r ++ 10 :: (List.replicate f 10 ++ R) = 10 :: R' := by
 cases r with
 | nil => rw [atsT]; exact ⟨stp_end hB,_,rfl⟩
 | cons x r =>
  obtain ⟨n,v⟩ := x
  rw [atsT_cons]
  exact ⟨stp_at _,_,rfl⟩
theorem bl_feeds {f : Nat} {R : List UInt8} (hB : Beg R) {e : Nat} (h : Sx s e (10 :: (List.replicate f 10 ++ R))) : isAt s (bl s e) 46 = false := by
 have h0 : Sx s e (List.replicate (f + 1) 10 ++ R) := h.cast (by rw [List.replicate_succ]; rfl)
 have hbf : ∀ x ∈ List.replicate (f + 1) (10 : UInt8),blB x = true := fun x hx => by rw [List.eq_of_mem_replicate hx]; decide
 rcases hB with rfl | ⟨c,T,rfl,hc⟩
 ·rw [h0.bl hbf (NoH.nil _)]
  exact h0.app.isEnd 46
 ·obtain ⟨c1,c2,c3⟩ := beg_ne hc
  have hcb : blB c = false := by
   unfold blB
   rw [decide_eq_false_iff_not]
   rintro (e | e)
   ·exact ne32 c2 e
   ·exact ne10 c1 e
  rw [h0.bl hbf (NoH.cons hcb _),h0.app.isAt]
  exact beq_eq_false_iff_ne.2 c3
theorem ats_read {f : Nat} {R : List UInt8} (hB : Beg R) : ∀ (r : List AT) (acc : List AT) (e : Nat),(∀ x ∈ r,attrOk x = true) -> Sx s e (atsT r ++ 10 :: (List.replicate f 10 ++ R)) -> atsS s acc e = (acc ++ r,e + (atsT r).length)
 | [],acc,e,_,h => by
  rw [atsT] at h ⊢
  have h0 : Sx s e (10 :: (List.replicate f 10 ++ R)) := h
  have ha : attrS s e = none := by unfold attrS; rw [bl_feeds hB h0]; rfl
  rw [atsS,ha,List.append_nil]
  rfl
 | .mk n v :: r,acc,e,hall,h => by
  have hok := hall _ (List.mem_cons_self ..)
  unfold attrOk at hok
  simp only [Bool.and_eq_true,Bool.not_eq_true'] at hok
  obtain ⟨hn,hv,hp⟩ := hok
  obtain ⟨hS,hS2⟩ := ats_stop r (f := f) hB
  rw [atsT_cons] at h ⊢
  have h0 : Sx s e ([10,32,32,32,32] ++ (46 :: (n.data.toList ++ (32 :: 61 :: (valT 8 v ++ (atsT r ++ 10 :: (List.replicate f 10 ++ R))))))) := h.cast (by unfold valT; rw [hv]; simp)
  have hb : bl s e = e + 5 := h0.bl (fun x hx => by
   simp only [List.mem_cons,List.not_mem_nil,or_false] at hx
   rcases hx with rfl | rfl | rfl | rfl | rfl <;> decide) (NoH.cons (by decide) _)
  have h1 := h0.app
  have h1' : Sx s (e + 5) (46 :: (n.data.toList ++ (32 :: 61 :: (valT 8 v ++ (atsT r ++ 10 :: (List.replicate f 10 ++ R)))))) := h1
  have h32 : at0 s.data.toList (e + 5 - 1) = 32 := by
   have h2 : Sx s (e + 4) (32 :: (46 :: (n.data.toList ++ (32 :: 61 :: (valT 8 v ++ (atsT r ++ 10 :: (List.replicate f 10 ++ R))))))) := Sx.app (T := [10,32,32,32]) h0
   exact h2.at0
  have h3 := h1'.tail
  have hnr := named_read (m := 8) (by omega) hn hp hS hS2 h3
  have ha : attrS s e = some (n,v,e + 5 + 1 + n.data.toList.length + 2 + (valT 8 v).length) := by
   unfold attrS
   rw [hb,h1'.isAt,h32,if_pos (by rfl),hnr]
   dsimp only
   rw [hv]
   rfl
  have h4 : Sx s (e + 5 + 1 + n.data.toList.length + 2 + (valT 8 v).length) (atsT r ++ 10 :: (List.replicate f 10 ++ R)) := h3.app.tail.tail.app
  rw [atsS,ha]
  dsimp only
  rw [dif_pos ⟨by omega,h4.1⟩,ats_read hB r _ _ (fun x hx => hall x (List.mem_cons_of_mem _ hx)) h4]
  unfold valT
  rw [hv]
  simp
  omega
end
def enT (x : EN) : List UInt8 := entT x.ty x.lv x.tx x.nm x.val x.ats
def okN (x : EN) : Prop := rightB x.ty x.lv x.tx x.nm x.val x.ats = true
theorem okN_cases {x : EN} (h : okN x) : (x.ty = 0 /\ (∃ n : Nat,x.lv = n /\ 1 <= n /\ n <= 3) /\ textB x.tx = true /\ x.nm = E0 /\ x.val = [] /\ x.ats = []) ∨
  ((x.ty = 1 ∨ x.ty = 2) /\ x.lv = 0 /\ x.tx = E0 /\ isNameV x.nm = true /\ patB x.val 0 = true /\ (∀ a ∈ x.ats,attrOk a = true) /\ (x.val.isEmpty = false ∨ (x.ty = 1 /\ x.ats.isEmpty = false))) := by
 unfold okN rightB at h
 split at h
 ·next h0 =>
  left
  unfold comB at h
  simp only [Bool.and_eq_true,decide_eq_true_eq] at h
  obtain ⟨⟨⟨⟨⟨h1,h2⟩,h3⟩,h4⟩,h5⟩,h6⟩ := h
  exact ⟨h0,⟨x.lv.toNat,by omega,by omega,by omega⟩,h3,emp_E h4,List.eq_nil_of_length_eq_zero h5,List.eq_nil_of_length_eq_zero h6⟩
 ·split at h
  ·next h1 =>
   right
   unfold msgB at h
   simp only [Bool.and_eq_true,Bool.or_eq_true,Bool.not_eq_true',beq_iff_eq,List.all_eq_true] at h
   obtain ⟨⟨⟨⟨⟨h2,h3⟩,h4⟩,h5⟩,h6⟩,h7⟩ := h
   exact ⟨h1,h2,emp_E h3,h4,h5,h6,h7⟩
  ·cases h
theorem enT_com {x : EN} (h : x.ty = 0) {n : Nat} (hn : x.lv = n) : enT x = comT (List.replicate n 35) [] x.tx.data.toList := by
 unfold enT entT
 rw [h,if_neg (by decide),if_pos rfl,hn]
 rfl
theorem enT_msg {x : EN} (h : x.ty = 1 ∨ x.ty = 2) : enT x = (if x.ty = 2 then [45] else []) ++ (x.nm.data.toList ++ (32 :: 61 :: (valT 4 x.val ++ (atsT x.ats ++ [10])))) := by
 unfold enT entT
 rw [if_neg (by rcases h with h | h <;> rw [h] <;> decide),if_neg (by rcases h with h | h <;> rw [h] <;> decide)]
 rfl
theorem com_head {n : Nat} (hn : 1 <= n) (t : List UInt8) : ∃ T,comT (List.replicate n 35) [] t = 35 :: T := by
 rw [comT_lines]
 obtain ⟨x,r,hx⟩ := cutL_some t []
 obtain ⟨k,rfl⟩ : ∃ k,n = k + 1 := ⟨n - 1,by omega⟩
 rw [hx,List.flatMap_cons]
 unfold cmlT
 rw [List.replicate_succ]
 exact ⟨_,rfl⟩
theorem en_head {x : EN} (h : okN x) : ∃ c T,enT x = c :: T /\ (c = 35 ∨ c = 45 ∨ leB c = true) /\ (x.ty ≠ 0 -> c ≠ 35) := by
 rcases okN_cases h with ⟨h0,⟨n,hn,h1, -⟩, -⟩ | ⟨hty, -, -,hnm, -⟩
 ·rw [enT_com h0 hn]
  obtain ⟨T,hT⟩ := com_head h1 x.tx.data.toList
  exact ⟨35,T,hT,.inl rfl,fun e => absurd h0 e⟩
 ·rw [enT_msg hty]
  by_cases h2 : x.ty = 2
  ·rw [if_pos h2]
   exact ⟨45,_,rfl,.inr (.inl rfl),fun _ => by decide⟩
  ·obtain ⟨c,r,hc,hl, -⟩ := name_form hnm
   rw [if_neg h2,hc]
   exact ⟨c,_,rfl,.inr (.inr hl),fun _ e => by rw [e] at hl; revert hl; decide⟩
section
variable {s : ByteArray}
theorem ent_read {x : EN} (hx : okN x) {f : Nat} {R : List UInt8} (hB : Beg R) (hn : x.ty = 0 -> ∀ j,Sx s j (List.replicate f 10 ++ R) -> ((comL s j).1 : Int) ≠ x.lv) {i : Nat} (h : Sx s i (enT x ++ (List.replicate f 10 ++ R))) :
  readS s i = ⟨x.ty,x.lv,x.tx,x.nm,x.val,x.ats,i,i + (enT x).length⟩ := by
 rcases okN_cases hx with ⟨h0,⟨n,hn1,h1,h3⟩, -,e1,e2,e3⟩ | ⟨hty,hlv,htx,hnm,hv,hat,hor⟩
 ·rw [enT_com h0 hn1] at h ⊢
  have hc := com_read h1 h3 (fun j hj e => hn h0 j hj (by rw [hn1,e])) h
  unfold readS
  rw [hc,h0,hn1,e1,e2,e3]
 ·obtain ⟨c,T,hcT, -,hc35⟩ := en_head hx
  have hne : x.ty ≠ 0 := by rcases hty with h | h <;> rw [h] <;> decide
  have h' : Sx s i (c :: (T ++ (List.replicate f 10 ++ R))) := h.cast (by rw [hcT]; rfl)
  have hcom : comS s i = none := by unfold comS; rw [if_pos (com_no h' (hc35 hne))]
  rw [enT_msg hty] at h ⊢
  obtain ⟨hS,hS2⟩ := ats_stop x.ats (f := f) hB
  have hgo : ∀ i0,Sx s i0 (x.nm.data.toList ++ (32 :: 61 :: (valT 4 x.val ++ (atsT x.ats ++ 10 :: (List.replicate f 10 ++ R))))) -> namedS s i0 = some (x.nm,x.val,i0 + x.nm.data.toList.length + 2 + (valT 4 x.val).length) /\
    atsS s [] (i0 + x.nm.data.toList.length + 2 + (valT 4 x.val).length) = (x.ats,i0 + x.nm.data.toList.length + 2 + (valT 4 x.val).length + (atsT x.ats).length) /\
    beh s (i0 + x.nm.data.toList.length + 2 + (valT 4 x.val).length + (atsT x.ats).length) = i0 + x.nm.data.toList.length + 2 + (valT 4 x.val).length + (atsT x.ats).length + 1 := by
   intro i0 hi0
   have h4 : Sx s (i0 + x.nm.data.toList.length + 2 + (valT 4 x.val).length) (atsT x.ats ++ 10 :: (List.replicate f 10 ++ R)) := hi0.app.tail.tail.app
   have h5 := h4.app
   refine ⟨named_read (by omega) hnm hv hS hS2 hi0,?_,?_⟩
   ·rw [ats_read hB x.ats [] _ hat h4,List.nil_append]
   ·have hli : li s (i0 + x.nm.data.toList.length + 2 + (valT 4 x.val).length + (atsT x.ats).length) = i0 + x.nm.data.toList.length + 2 + (valT 4 x.val).length + (atsT x.ats).length := Sx.beh (T := []) h5 (fun x hx => by cases hx) (NoH.cons (by decide) _)
    unfold beh
    rw [hli,if_pos h5.lt]
  unfold readS
  rw [hcom]
  dsimp only
  by_cases h2 : x.ty = 2
  ·rw [if_pos h2] at h ⊢
   have h6 : Sx s i (45 :: (x.nm.data.toList ++ (32 :: 61 :: (valT 4 x.val ++ (atsT x.ats ++ 10 :: (List.replicate f 10 ++ R)))))) := h.cast (by simp)
   obtain ⟨a1,a2,a3⟩ := hgo (i + 1) h6.tail
   have hve : x.val.isEmpty = false := hor.resolve_right (fun e => absurd (e.1.symm.trans h2) (by decide))
   unfold msgS
   rw [h6.isAt]
   simp only [beq_self_eq_true,if_true]
   rw [a1]
   dsimp only
   rw [a2]
   dsimp only
   rw [hve,if_pos (by rfl),a3,h2,hlv,htx]
   dsimp only
   congr 1
   simp
   omega
  ·have h1 : x.ty = 1 := hty.resolve_right h2
   rw [if_neg h2] at h ⊢
   have h6 : Sx s i (x.nm.data.toList ++ (32 :: 61 :: (valT 4 x.val ++ (atsT x.ats ++ 10 :: (List.replicate f 10 ++ R))))) := h.cast (by simp)
   obtain ⟨d,r,hd,hl, -⟩ := name_form hnm
   have h7 : Sx s i (d :: (r ++ (32 :: 61 :: (valT 4 x.val ++ (atsT x.ats ++ 10 :: (List.replicate f 10 ++ R)))))) := h6.cast (by rw [hd]; rfl)
   have h45 : isAt s i 45 = false := by rw [h7.isAt]; exact beq_eq_false_iff_ne.2 (le_no hl).2.2.2.2.2
   obtain ⟨a1,a2,a3⟩ := hgo i h6
   have hcond : (!x.val.isEmpty || (!false && !x.ats.isEmpty)) = true := by
    rcases hor with e | ⟨_,e⟩
    ·rw [e]; rfl
    ·rw [e]; simp
   unfold msgS
   rw [h45]
   simp only [Bool.false_eq_true,if_false]
   rw [a1]
   dsimp only
   rw [a2]
   dsimp only
   rw [if_pos hcond,a3,h1,hlv,htx]
   dsimp only
   congr 1
   simp
   omega
theorem pass_feeds {R : List UInt8} (hB : Beg R) : ∀ (f i : Nat),Sx s i (List.replicate f 10 ++ R) -> passE s i = i + f
 | 0,i,h => by
  have h0 : Sx s i R := h
  rcases hB with rfl | ⟨c,T,rfl,hc⟩
  ·have := h0.len
   rw [List.length_nil] at this
   rw [passE,dif_neg (by omega)]
   rfl
  ·obtain ⟨c1,c2, -⟩ := beg_ne hc
   have hsp : sp s i = i := h0.sp0 (NoH.cons (sp_no c2) _)
   rw [passE,dif_pos h0.lt,hsp,if_pos ⟨h0.lt,by rw [h0.isAt]; exact beq_eq_false_iff_ne.2 c1⟩]
   rfl
 | f + 1,i,h => by
  have h0 : Sx s i (10 :: (List.replicate f 10 ++ R)) := h.cast (by rw [List.replicate_succ]; rfl)
  have hsp : sp s i = i := h0.sp0 (NoH.cons (by decide) _)
  have hli : li s i = i := Sx.beh (T := []) h0 (fun x hx => by cases hx) (NoH.cons (by decide) _)
  have hbe : beh s i = i + 1 := by unfold beh; rw [hli,if_pos h0.lt]
  rw [passE,dif_pos h0.lt,hsp,if_neg (fun x => by have := x.2; rw [h0.isAt] at this; cases this),hbe,dif_pos (by omega),pass_feeds hB f _ h0.tail]
  omega
end
def TL : List (EN × Nat) -> List UInt8
 | [] => []
 | (x,f) :: r => enT x ++ (List.replicate f 10 ++ TL r)
def SepOk : List (EN × Nat) -> Prop
 | [] => True
 | (x,f) :: r => (x.ty = 0 -> 1 <= f ∨ ∀ y g r',r = (y,g) :: r' -> ¬ (y.ty = 0 /\ y.lv = x.lv)) /\ SepOk r
def PL : List (EN × Nat) -> Nat -> List EN
 | [],_ => []
 | (x,f) :: r,i => ⟨x.ty,x.lv,x.tx,x.nm,x.val,x.ats,i,i + (enT x).length⟩ :: PL r (i + (enT x).length + f)
theorem TL_beg : ∀ l : List (EN × Nat),(∀ p ∈ l,okN p.1) -> Beg (TL l)
 | [],_ => .inl rfl
 | (x,f) :: r,h => by
  obtain ⟨c,T,e,hc, -⟩ := en_head (h _ (List.mem_cons_self ..))
  right
  rw [TL,e]
  exact ⟨c,_,rfl,hc⟩
theorem parse_list {s : ByteArray} : ∀ (l : List (EN × Nat)) (acc : List EN) (i : Nat),(∀ p ∈ l,okN p.1) -> SepOk l -> Sx s i (TL l) -> parseGo s acc i = acc ++ PL l i
 | [],acc,i,_,_,h => by
  have h0 : Sx s i [] := h
  have := h0.len
  rw [List.length_nil] at this
  rw [parseGo,dif_neg (by omega),PL,List.append_nil]
 | (x,f) :: r,acc,i,hok,hsep,h => by
  have hx : okN x := hok _ (List.mem_cons_self ..)
  have hr : ∀ p ∈ r,okN p.1 := fun p hp => hok p (List.mem_cons_of_mem _ hp)
  have hB := TL_beg r hr
  rw [TL] at h
  obtain ⟨hs1,hs2⟩ := hsep
  have hnext : x.ty = 0 -> ∀ j,Sx s j (List.replicate f 10 ++ TL r) -> ((comL s j).1 : Int) ≠ x.lv := by
   intro h0 j hj
   have hlv : 1 <= x.lv := by
    rcases okN_cases hx with ⟨-,⟨n,hn,h1, -⟩, -⟩ | ⟨hty, -⟩
    ·omega
    ·rcases hty with e | e <;> rw [e] at h0 <;> exact absurd h0 (by decide)
   have h00 : (comL s j).1 = 0 -> ((comL s j).1 : Int) ≠ x.lv := fun e => by rw [e]; omega
   cases f with
   | succ f =>
    rw [List.replicate_succ] at hj
    exact h00 (com_no hj (by decide))
   | zero =>
    have hj0 : Sx s j (TL r) := hj
    cases r with
    | nil => exact h00 (com_end hj0)
    | cons p r =>
     obtain ⟨y,g⟩ := p
     rw [TL] at hj0
     have hy : okN y := hr _ (List.mem_cons_self ..)
     obtain ⟨c,T,e, -,hc⟩ := en_head hy
     by_cases hy0 : y.ty = 0
     ·rcases okN_cases hy with ⟨-,⟨n,hn,h1,h3⟩, -⟩ | ⟨hty, -⟩
      ·rw [enT_com hy0 hn,comT_lines] at hj0
       have hno := cutL_no y.tx.data.toList [] (fun c hc => by cases hc)
       obtain ⟨z,t,hz⟩ := cutL_some y.tx.data.toList []
       rw [hz] at hj0 hno
       rw [List.flatMap_cons,List.append_assoc] at hj0
       have := (line_com h1 h3 (hno z (List.mem_cons_self ..)) hj0).1
       rw [this]
       rcases hs1 h0 with h | h
       ·omega
       ·intro e2
        exact h y g r rfl ⟨hy0,by rw [hn,<- e2]⟩
      ·rcases hty with e | e <;> rw [e] at hy0 <;> exact absurd hy0 (by decide)
     ·rw [e] at hj0
      exact h00 (com_no hj0 (hc hy0))
  have hrd := ent_read hx hB hnext h
  have h2 := h.app
  have hpass := pass_feeds hB f _ h2
  obtain ⟨c,T,e, -⟩ := en_head hx
  have hpos : 0 < (enT x).length := by rw [e,List.length_cons]; omega
  have hlt : i < s.size := by have h' := h; rw [e] at h'; exact h'.lt
  rw [parseGo,hrd]
  dsimp only
  rw [hpass,dif_pos ⟨hlt,by omega⟩,PL]
  have h3 := h2.app
  rw [List.length_replicate] at h3
  rw [parse_list r _ _ hr hs2 h3]
  simp
theorem parse_of {l : List (EN × Nat)} (hok : ∀ p ∈ l,okN p.1) (hsep : SepOk l) : parseS (mkB (TL l)) = PL l 0 := by
 have h : Sx (mkB (TL l)) 0 (TL l) := (Sx.start _).cast (by simp [mkB])
 unfold parseS
 rw [pass_feeds (TL_beg l hok) 0 0 h,parse_list l [] 0 hok hsep h,List.nil_append]
theorem shp_in {d : Nat} {k : Int} {t n a : ByteArray} {al : List AR} {i : Option EX} {vs : List VA} (h : Shp d (.mk k t n a al i vs)) : (∀ y,i = some y -> okE .brc y (d + 1) = true) /\ vs = [] /\ okAs al d = true := by
 have h2 := shp_al h
 cases h with
 | nest y hy => exact ⟨(fun z hz => by cases hz; exact hy),rfl,h2⟩
 | _ => exact ⟨(fun z hz => by cases hz),rfl,h2⟩
mutual
theorem exD_len (M : Nat) : ∀ (e : EX) (m d : Nat),m + 8 * (21 - d) <= M -> (Shp d e -> (exT m e).length + (M + 10) <= (2 * M + 20) * e.size) /\ (okE .brc e d = true -> (plT m e).length <= (2 * M + 20) * e.size)
 | .mk k t n a al i vs,m,d,h => by
  rw [EX.size]
  have hA := asD_len M al m d true
  have hO := plD_len M i m d
  have hX := exOD_len M i m d
  have hV := vsD_len M vs m d
  have hI := inlG_len k t n a al.isEmpty (asT m true al) (plO m i)
  have p1 := Nat.mul_le_mul_right t.size (show 6 <= 2 * M + 20 by omega)
  have p2 := Nat.mul_le_mul_right n.size (show 1 <= 2 * M + 20 by omega)
  have p3 := Nat.mul_le_mul_right a.size (show 1 <= 2 * M + 20 by omega)
  simp only [Nat.mul_add,Nat.mul_one]
  rw [exT,plT]
  have hgo : Shp d (.mk k t n a al i vs) -> (inlG k t n a al.isEmpty (asT m true al) (plO m i)).length + (M + 10) <= 2 * M + 20 + (2 * M + 20) * t.size + (2 * M + 20) * n.size + (2 * M + 20) * a.size + (2 * M + 20) * sizeAs al + (2 * M + 20) * sizeO i + (2 * M + 20) * sizeVs vs := fun hs => by
   obtain ⟨h1,h2,h3⟩ := shp_in hs
   have h4 := hA h3 h
   have h5 := hO h1 (by omega)
   omega
  refine ⟨hgo,fun hb => ?_⟩
  by_cases hk : k = 7
  ·rw [if_pos hk]
   subst hk
   rw [okE] at hb
   simp only [if_true,Bool.and_eq_true,decide_eq_true_eq] at hb
   obtain ⟨hd,⟨⟨_,e5⟩,e6⟩,e7⟩ := hb
   have h4 := hV hd e6 h
   have h5 := hX e7 h
   simp [sps]
   omega
  ·rw [if_neg hk]
   have := hgo (shp_brc hk hb).2.1
   simp
   omega
theorem plD_len (M : Nat) : ∀ (i : Option EX) (m d : Nat),(∀ y,i = some y -> okE .brc y (d + 1) = true) -> m + 8 * (21 - (d + 1)) <= M -> (plO m i).length <= (2 * M + 20) * sizeO i
 | none,m,d,_,h => by rw [plO]; simp
 | some e,m,d,ho,h => by
  rw [sizeO,plO]
  exact (exD_len M e m (d + 1) h).2 (ho e rfl)
theorem exOD_len (M : Nat) : ∀ (i : Option EX) (m d : Nat),okO .ask i d = true -> m + 8 * (21 - d) <= M -> (exO m i).length <= (2 * M + 20) * sizeO i
 | none,m,d,_,h => by rw [exO]; simp
 | some e,m,d,ho,h => by
  rw [okO] at ho
  rw [sizeO,exO]
  have := (exD_len M e m d h).1 (shp_ask ho).1
  omega
theorem asD_len (M : Nat) : ∀ (al : List AR) (m d : Nat) (f : Bool),okAs al d = true -> m + 8 * (21 - d) <= M -> (asT m f al).length <= (2 * M + 20) * sizeAs al
 | [],m,d,f,_,h => by rw [asT]; simp
 | .mk n e :: r,m,d,f,ho,h => by
  rw [okAs,Bool.and_eq_true] at ho
  rw [sizeAs]
  have h1 := (exD_len M e m d h).1 (shp_inl ho.1).1
  have h2 := asD_len M r m d false ho.2 h
  have h3 := nameG_len f n
  have p2 := Nat.mul_le_mul_right n.size (show 1 <= 2 * M + 20 by omega)
  rw [asT]
  simp only [Nat.mul_add,Nat.mul_one,List.length_append]
  omega
theorem vsD_len (M : Nat) : ∀ (vs : List VA) (m d : Nat),d <= 20 -> okVs vs d = true -> m + 8 * (21 - d) <= M -> (vsT m vs).length <= (2 * M + 20) * sizeVs vs
 | [],m,d,_,_,h => by rw [vsT]; simp
 | .mk k f v :: r,m,d,hd,ho,h => by
  rw [okVs,Bool.and_eq_true] at ho
  rw [sizeVs]
  have h1 := esD_len M v (m + 8) (d + 1) ho.1 (by omega)
  have h2 := vsD_len M r m d hd ho.2 h
  have h3 := head_len (m + 8) v
  have p2 := Nat.mul_le_mul_right k.size (show 1 <= 2 * M + 20 by omega)
  rw [vsT]
  simp only [Nat.mul_add,Nat.mul_one,List.length_append,List.length_cons,size_data]
  simp only [sps,List.length_replicate]
  omega
theorem esD_len (M : Nat) : ∀ (l : List EL) (m d : Nat),okEs l d = true -> m + 8 * (21 - d) <= M -> (esT m l).length <= (2 * M + 20) * sizeEs l
 | [],m,d,_,h => by rw [esT]; simp
 | .mk t none :: r,m,d,ho,h => by
  rw [okEs] at ho
  rw [sizeEs]
  have h2 := esD_len M r m d ho h
  have h3 := lineG_len (sps m) t.data.toList
  rw [size_data] at h3
  have h4 := Nat.mul_le_mul_right t.size (show 1 + (sps m).length <= 2 * M + 20 by simp [sps]; omega)
  rw [esT]
  simp only [Nat.mul_add,Nat.mul_one,List.length_append]
  omega
 | .mk t (some e) :: r,m,d,ho,h => by
  rw [okEs,Bool.and_eq_true] at ho
  rw [sizeEs,sizeO]
  have h1 := (exD_len M e m d h).2 ho.1
  have h2 := esD_len M r m d ho.2 h
  rw [esT]
  simp only [Nat.mul_add,Nat.mul_one,List.length_append]
  omega
end
theorem paD_len (m : Nat) (hm : m <= 8) (l : List EL) (h : patB l 0 = true) : (paT m l).length <= 372 * sizeEs l + (m + 1) := by
 unfold patB at h
 rw [Bool.and_eq_true] at h
 have h1 := esD_len 176 l m 1 h.2 (by omega)
 have h2 := head_len m l
 unfold paT
 rw [List.length_append]
 omega
theorem atsD_len : ∀ l : List AT,(∀ a ∈ l,attrOk a = true) -> (atsT l).length <= 372 * sizeTs l
 | [],h => by rw [atsT]; simp
 | .mk n v :: r,h => by
  have ho := h _ (List.mem_cons_self ..)
  unfold attrOk at ho
  simp only [Bool.and_eq_true] at ho
  have h1 := paD_len 8 (by omega) v ho.2.2
  have h2 := atsD_len r (fun a ha => h a (List.mem_cons_of_mem _ ha))
  rw [sizeTs,atsT]
  simp only [Nat.mul_add,Nat.mul_one,List.length_append,List.length_cons,size_data]
  omega
theorem enT_len {x : EN} (h : okN x) : (enT x).length <= 372 * (x.tx.size + x.nm.size + sizeEs x.val + sizeTs x.ats) + 372 := by
 rcases okN_cases h with ⟨h0,⟨n,hn,h1,h3⟩, -⟩ | ⟨hty, -, -,hnm,hv,hat, -⟩
 ·rw [enT_com h0 hn]
  have hc := comT_len (List.replicate n 35) x.tx.data.toList []
  rw [List.length_nil,List.length_replicate,size_data] at hc
  have hc2 := Nat.mul_le_mul_right (x.tx.size + 1) (show n + 2 <= 5 by omega)
  omega
 ·rw [enT_msg hty]
  have q1 := paD_len 4 (by omega) x.val hv
  have q2 := atsD_len x.ats hat
  have q3 : (valT 4 x.val).length <= 372 * sizeEs x.val + 5 := by unfold valT; split <;> (try simp) <;> omega
  simp only [List.length_append,List.length_cons,List.length_nil,size_data]
  split <;> (try simp) <;> omega
theorem enT_end {x : EN} (h : okN x) : ∃ T,enT x = T ++ [10] := by
 rcases okN_cases h with ⟨h0,⟨n,hn,h1,h3⟩, -⟩ | ⟨hty, -⟩
 ·rw [enT_com h0 hn,comT_lines]
  obtain ⟨y,r,hy⟩ := cutL_some x.tx.data.toList []
  rcases List.eq_nil_or_concat (cutL [] x.tx.data.toList) with e | ⟨A,z,e⟩
  ·rw [e] at hy; cases hy
  ·rw [e,List.concat_eq_append,List.flatMap_append,List.flatMap_singleton]
   have e2 : cmlT (List.replicate n 35) z = (List.replicate n 35 ++ if z.isEmpty then [] else 32 :: z) ++ [10] := by unfold cmlT; rw [List.append_assoc]
   exact ⟨A.flatMap (cmlT (List.replicate n 35)) ++ (List.replicate n 35 ++ if z.isEmpty then [] else 32 :: z),by rw [e2]; simp only [List.append_assoc]⟩
 ·rw [enT_msg hty]
  exact ⟨(if x.ty = 2 then [45] else []) ++ (x.nm.data.toList ++ (32 :: 61 :: (valT 4 x.val ++ atsT x.ats))),by simp⟩
theorem PatF.at_ {W : World} {F : Nat -> Prop} (g : ∀ b,F b -> b < W.heap.size) {l : List EL} {v : Value} (h : PatF W F l v) : PatAt W l v := LieAt.imp h (fun b o => EsF.at_ g l b o)
theorem TsF.at_ {W : World} {F : Nat -> Prop} (g : ∀ b,F b -> b < W.heap.size) : ∀ (l : List AT) (b o : Nat),TsF W F l b o -> TsAt W l b o
 | [],b,o,_ => by rw [TsAt]; trivial
 | .mk n v :: r,b,o,h => by
  rw [TsF] at h
  rw [TsAt]
  obtain ⟨hb,h1,⟨u,h2,h3⟩,h4⟩ := h
  exact ⟨g b hb,h1,⟨u,h2,PatF.at_ g h3⟩,TsF.at_ g r b _ h4⟩
theorem AtsF.at_ {W : World} {F : Nat -> Prop} (g : ∀ b,F b -> b < W.heap.size) {l : List AT} {v : Value} (h : AtsF W F l v) : LieAt (TsAt W l) v l.length := LieAt.imp h (fun b o => TsF.at_ g l b o)
def toN (x : EV) : EN := ⟨x.ty,x.lv,x.tx,x.nm,x.val,x.ats,0,0⟩
theorem EV.At.later {W0 W : World} {x : EV} (h : x.At W0) (g : Below W0.heap.size W0 W) : x.At W := ⟨h.pat.later g,LieAt.imp h.ats (fun b o => TsAt.later g x.ats b o),h.tz,h.wz⟩
theorem cellsN_two (w : World) (x y : EV) : CellsN (w.alloc (.cells (x.cells ++ y.cells).toArray 34)) w.heap.size 0 [x,y] := by
 have hb := BoxAt.new w (x.cells ++ y.cells).toArray 34
 refine ⟨by simp,fun j z hj i v hv => ?_⟩
 have hi : i < 8 := (List.getElem?_eq_some_iff.1 hv).1
 have := hb.cell (j * 8 + i)
 rw [Nat.zero_add]
 rw [this]
 match j,hj with
 | 0,hj =>
  simp at hj; subst hj
  rw [Nat.zero_mul,Nat.zero_add,List.getElem?_toArray,List.getElem?_append_left (by show i < 8; exact hi)]
  exact hv
 | 1,hj =>
  simp at hj; subst hj
  rw [Nat.one_mul,List.getElem?_toArray,List.getElem?_append_right (by show 8 <= 8 + i; omega)]
  rw [show 8 + i - x.cells.length = i from Nat.add_sub_cancel_left 8 i]
  exact hv
theorem ends_sx {TX Tx : List UInt8} {SX : ByteArray} (h : (⟨TX.toArray⟩ : ByteArray) = SX) (hT : TX = Tx ++ [10]) : SX.toList.isEmpty = false /\ SX.size = Tx.length + 1 /\ ∀ hh : Tx.length < SX.size,SX[Tx.length]'hh = 10 := by
 subst h hT
 refine ⟨?_,?_,fun hh => ?_⟩
 ·rw [Lib.toList_data]; simp
 ·show (Tx ++ [10]).toArray.size = _; simp
 ·show (Tx ++ [10]).toArray[Tx.length]'_ = 10
  simp
theorem ends_text (x y : EV) (hx : rightB x.ty x.lv x.tx x.nm x.val x.ats = true) (hy : rightB y.ty y.lv y.tx y.nm y.val y.ats = true) : parseS ((⟨x.text.toArray⟩ : ByteArray) ++ ⟨#[10]⟩ ++ ⟨y.text.toArray⟩) = [⟨x.ty,x.lv,x.tx,x.nm,x.val,x.ats,0,x.text.length⟩,⟨y.ty,y.lv,y.tx,y.nm,y.val,y.ats,x.text.length + 1,x.text.length + 1 + y.text.length⟩] := by
 have h := parse_of (l := [(toN x,1),(toN y,0)]) (fun p hp => by
  simp only [List.mem_cons,List.not_mem_nil,or_false] at hp
  rcases hp with rfl | rfl
  ·exact hx
  ·exact hy) ⟨fun _ => .inl (Nat.le_refl _),fun _ => .inr (fun y g r' e => by cases e),trivial⟩
 have e : mkB (TL [(toN x,1),(toN y,0)]) = (⟨x.text.toArray⟩ : ByteArray) ++ ⟨#[10]⟩ ++ ⟨y.text.toArray⟩ := by
  apply bytes_eq
  have e1 : enT (toN x) = x.text := rfl
  have e2 : enT (toN y) = y.text := rfl
  rw [app_data,app_data,TL,TL,TL,e1,e2]
  simp [mkB]
 rw [<- e,h,PL,PL,PL]
 have e1 : enT (toN x) = x.text := rfl
 have e2 : enT (toN y) = y.text := rfl
 rw [e1,e2,Nat.zero_add]
 rfl
set_option maxHeartbeats 16000000 in
set_option maxRecDepth 1000000 in
theorem lends_any {W0 : World} (hM : MxW W0) (hT : TabU W0) (x y : EV) (hx : x.At W0) (hy : y.At W0) (hz : x.sz + y.sz <= 1048576) :
  Calls Tryz.prog 5 #[x.v,y.v] W0 fun e w' => e = .returned (.bool true) /\ Below W0.heap.size W0 w' := by
 have hnx : x.nm.size <= 4000000 := by unfold EV.sz at hz; omega
 have hny : y.nm.size <= 4000000 := by unfold EV.sz at hz; omega
 have HT1 : Hid (rightB x.ty x.lv x.tx x.nm x.val x.ats = true -> x.text.length <= 372 * x.sz + 372 /\ ∃ T,x.text = T ++ [10]) := fun h => ⟨enT_len (x := toN x) h,enT_end (x := toN x) h⟩
 have HT2 : Hid (rightB y.ty y.lv y.tx y.nm y.val y.ats = true -> y.text.length <= 372 * y.sz + 372 /\ ∃ T,y.text = T ++ [10]) := fun h => ⟨enT_len (x := toN y) h,enT_end (x := toN y) h⟩
 have HPt := hid (ends_text x y)
 have HE1 := hid (fun (hf : x.fit /\ x.ty ≠ 3) (hn : x.text.length <= 1000000000) W (g : Below W0.heap.size W0 W) => sentry_any hM x hx hf.1 (ent_ne x hf.1 hf.2) (by omega) W g)
 have HE2 := hid (fun (hf : y.fit /\ y.ty ≠ 3) (hn : y.text.length <= 1000000000) W (g : Below W0.heap.size W0 W) => sentry_any hM y hy hf.1 (ent_ne y hf.1 hf.2) (by omega) W g)
 have HFw := hid (fun W (g : Below W0.heap.size W0 W) => few_any (W0 := W.alloc (.cells (x.cells ++ y.cells).toArray 34)) (hT.below ((g.alloc g.size _))) [x,y] (by show 2 <= 4000000; omega) (fun z hz => by
  have g' := g.alloc g.size (.cells (x.cells ++ y.cells).toArray 34)
  simp only [List.mem_cons,List.not_mem_nil,or_false] at hz
  rcases hz with rfl | rfl
  ·exact ⟨hx.later g',hnx⟩
  ·exact ⟨hy.later g',hny⟩) W.heap.size 0 2 (some ⟨W.heap.size,0,none⟩) (fun _ => rfl) (fun _ => cellsN_two W x y) _ (Below.refl _ _))
 have HS1 := hid (fun (f t : Int) W (g : Below W0.heap.size W0 W) v u (h1 : PatAt W x.val v) (h2 : LieAt (TsAt W x.ats) u x.ats.length) W' (g' : Below W.heap.size W W') => entry_same x.ty x.lv x.tx x.nm x.val x.ats f t x.fr x.tu h1 (hx.pat.later g) h2 (LieAt.imp hx.ats (fun b o => TsAt.later g x.ats b o)) (by have := hx.wz; omega) (by have := hx.wz; omega) W' g')
 have HS2 := hid (fun (f t : Int) W (g : Below W0.heap.size W0 W) v u (h1 : PatAt W y.val v) (h2 : LieAt (TsAt W y.ats) u y.ats.length) W' (g' : Below W.heap.size W W') => entry_same y.ty y.lv y.tx y.nm y.val y.ats f t y.fr y.tu h1 (hy.pat.later g) h2 (LieAt.imp hy.ats (fun b o => TsAt.later g y.ats b o)) (by have := hy.wz; omega) (by have := hy.wz; omega) W' g')
 have HMx := hid hM
 clear hM hT hx hy hnx hny
 obtain ⟨xt,xl,xx,xn,xv,xa,xA,xc,xB,xd,xf,xu⟩ := x
 obtain ⟨yt,yl,yx,yn,yv,ya,yA,yc,yB,yd,yf,yu⟩ := y
 unfold EV.v entV EV.sz EV.cells at *
 dsimp only at *
 obtain ⟨V1,hV1⟩ : ∃ V,V = (W0.alloc (.cells #[.int .i64 xt,.int .i64 xl,.string xx,.string xn,.slice xA xv.length xc,.slice xB xa.length xd,.int .i64 xf,.int .i64 xu] 34)).alloc (.cells #[.int .i64 yt,.int .i64 yl,.string yx,.string yn,.slice yA yv.length yc,.slice yB ya.length yd,.int .i64 yf,.int .i64 yu] 34) := ⟨_,rfl⟩
 have hB1 : Below W0.heap.size W0 V1 := by
  rw [hV1]
  exact ((Below.refl _ _).alloc (Nat.le_refl _) _).alloc (by simp) _
 have X1 : BoxAt V1 W0.heap.size #[.int .i64 xt,.int .i64 xl,.string xx,.string xn,.slice xA xv.length xc,.slice xB xa.length xd,.int .i64 xf,.int .i64 xu] 34 := by
  rw [hV1]
  exact (BoxAt.new W0 _ _).alloc _
 have Y1 : BoxAt V1 (W0.heap.size + 1) #[.int .i64 yt,.int .i64 yl,.string yx,.string yn,.slice yA yv.length yc,.slice yB ya.length yd,.int .i64 yf,.int .i64 yu] 34 := by
  rw [hV1]
  exact BoxAt.new' _ _ _ _ (by simp)
 have HX1 := hid X1
 have HY1 := hid Y1
 have HB1 := hid hB1
 have HV1 := hid hV1
 have HH := hid (head10_any V1 (HMx.out.below hB1 (Nat.le_refl _)))
 clear X1 Y1 hB1 hV1
 go_enter Tryz.func5,Tryz.ntmps5
 go_wp2_with fail
 rw [<- HV1.out]
 go_at_call 7
 refine HH.out.mono ?_
 rintro e w2 ⟨rfl,h2⟩
 have HX2 := hid (HX1.out.later h2)
 have HY2 := hid (HY1.out.later h2)
 have HB2 := hid (HB1.out.trans (h2.mono HB1.out.size))
 have HF2 := hid (HFw.out w2 HB2.out)
 have e0 : w2.cell? ⟨W0.heap.size,0,none⟩ = some (.int .i64 xt) := HX2.out.cell 0
 have e1 : w2.cell? ⟨W0.heap.size,1,none⟩ = some (.int .i64 xl) := HX2.out.cell 1
 have e2 : w2.cell? ⟨W0.heap.size,2,none⟩ = some (.string xx) := HX2.out.cell 2
 have e3 : w2.cell? ⟨W0.heap.size,3,none⟩ = some (.string xn) := HX2.out.cell 3
 have e4 : w2.cell? ⟨W0.heap.size,4,none⟩ = some (.slice xA xv.length xc) := HX2.out.cell 4
 have e5 : w2.cell? ⟨W0.heap.size,5,none⟩ = some (.slice xB xa.length xd) := HX2.out.cell 5
 have e6 : w2.cell? ⟨W0.heap.size,6,none⟩ = some (.int .i64 xf) := HX2.out.cell 6
 have e7 : w2.cell? ⟨W0.heap.size,7,none⟩ = some (.int .i64 xu) := HX2.out.cell 7
 have g0 : w2.cell? ⟨W0.heap.size + 1,0,none⟩ = some (.int .i64 yt) := HY2.out.cell 0
 have g1 : w2.cell? ⟨W0.heap.size + 1,1,none⟩ = some (.int .i64 yl) := HY2.out.cell 1
 have g2 : w2.cell? ⟨W0.heap.size + 1,2,none⟩ = some (.string yx) := HY2.out.cell 2
 have g3 : w2.cell? ⟨W0.heap.size + 1,3,none⟩ = some (.string yn) := HY2.out.cell 3
 have g4 : w2.cell? ⟨W0.heap.size + 1,4,none⟩ = some (.slice yA yv.length yc) := HY2.out.cell 4
 have g5 : w2.cell? ⟨W0.heap.size + 1,5,none⟩ = some (.slice yB ya.length yd) := HY2.out.cell 5
 have g6 : w2.cell? ⟨W0.heap.size + 1,6,none⟩ = some (.int .i64 yf) := HY2.out.cell 6
 have g7 : w2.cell? ⟨W0.heap.size + 1,7,none⟩ = some (.int .i64 yu) := HY2.out.cell 7
 have hl1 := HX2.out.lt
 have hl2 := HY2.out.lt
 clear h2 HH HFw
 go_wp2_with fail
 go_at_call 8
 refine HF2.out.mono ?_
 rintro e w3 ⟨⟨b,rfl,hb⟩,h3⟩
 have h3 := ((Below.refl w2.heap.size w2).alloc (Nat.le_refl _) _).trans (h3.mono (by simp))
 have HX3 := hid (HX2.out.later h3)
 have HY3 := hid (HY2.out.later h3)
 have HB3 := hid (HB2.out.trans (h3.mono HB2.out.size))
 have Hb := hid hb
 clear h3 hb HF2 e0 g0 e1 g1 e2 g2 e3 g3 e4 g4 e5 g5 e6 g6 e7 g7 hl1 hl2
 cases b
 ·go_wp2
  go_ret
  exact ⟨rfl,HB3.out⟩
 have hf := Hb.out (by first | rfl | trivial | simp)
 have hfx := hf _ (List.mem_cons_self ..)
 have hfy := hf _ (List.mem_cons_of_mem _ (List.mem_cons_self ..))
 dsimp only at hfx hfy
 have htx := HT1.out hfx.2
 have hty := HT2.out hfy.2
 have hPt := HPt.out hfx.2 hfy.2
 have HE1 := hid (HE1.out hfx.1 (by omega))
 have HE2 := hid (HE2.out hfy.1 (by omega))
 clear Hb hf hfx hfy HT1 HT2 HPt
 generalize ((⟨xt,xl,xx,xn,xv,xa,xA,xc,xB,xd,xf,xu⟩ : EV)).text = TX at *
 generalize ((⟨yt,yl,yx,yn,yv,ya,yA,yc,yB,yd,yf,yu⟩ : EV)).text = TY at *
 have e0 : w3.cell? ⟨W0.heap.size,0,none⟩ = some (.int .i64 xt) := HX3.out.cell 0
 have e1 : w3.cell? ⟨W0.heap.size,1,none⟩ = some (.int .i64 xl) := HX3.out.cell 1
 have e2 : w3.cell? ⟨W0.heap.size,2,none⟩ = some (.string xx) := HX3.out.cell 2
 have e3 : w3.cell? ⟨W0.heap.size,3,none⟩ = some (.string xn) := HX3.out.cell 3
 have e4 : w3.cell? ⟨W0.heap.size,4,none⟩ = some (.slice xA xv.length xc) := HX3.out.cell 4
 have e5 : w3.cell? ⟨W0.heap.size,5,none⟩ = some (.slice xB xa.length xd) := HX3.out.cell 5
 have e6 : w3.cell? ⟨W0.heap.size,6,none⟩ = some (.int .i64 xf) := HX3.out.cell 6
 have e7 : w3.cell? ⟨W0.heap.size,7,none⟩ = some (.int .i64 xu) := HX3.out.cell 7
 have g0 : w3.cell? ⟨W0.heap.size + 1,0,none⟩ = some (.int .i64 yt) := HY3.out.cell 0
 have g1 : w3.cell? ⟨W0.heap.size + 1,1,none⟩ = some (.int .i64 yl) := HY3.out.cell 1
 have g2 : w3.cell? ⟨W0.heap.size + 1,2,none⟩ = some (.string yx) := HY3.out.cell 2
 have g3 : w3.cell? ⟨W0.heap.size + 1,3,none⟩ = some (.string yn) := HY3.out.cell 3
 have g4 : w3.cell? ⟨W0.heap.size + 1,4,none⟩ = some (.slice yA yv.length yc) := HY3.out.cell 4
 have g5 : w3.cell? ⟨W0.heap.size + 1,5,none⟩ = some (.slice yB ya.length yd) := HY3.out.cell 5
 have g6 : w3.cell? ⟨W0.heap.size + 1,6,none⟩ = some (.int .i64 yf) := HY3.out.cell 6
 have g7 : w3.cell? ⟨W0.heap.size + 1,7,none⟩ = some (.int .i64 yu) := HY3.out.cell 7
 have hl1 := HX3.out.lt
 have hl2 := HY3.out.lt
 go_wp2_with fail
 go_at_call 14
 refine (HE1.out _ HB3.out).mono ?_
 rintro e w4 ⟨rfl,h4⟩
 have HX4 := hid (HX3.out.later h4)
 have HY4 := hid (HY3.out.later h4)
 have HB4 := hid (HB3.out.trans (h4.mono HB3.out.size))
 clear h4 e0 g0 e1 g1 e2 g2 e3 g3 e4 g4 e5 g5 e6 g6 e7 g7 hl1 hl2
 have g0 : w4.cell? ⟨W0.heap.size + 1,0,none⟩ = some (.int .i64 yt) := HY4.out.cell 0
 have g1 : w4.cell? ⟨W0.heap.size + 1,1,none⟩ = some (.int .i64 yl) := HY4.out.cell 1
 have g2 : w4.cell? ⟨W0.heap.size + 1,2,none⟩ = some (.string yx) := HY4.out.cell 2
 have g3 : w4.cell? ⟨W0.heap.size + 1,3,none⟩ = some (.string yn) := HY4.out.cell 3
 have g4 : w4.cell? ⟨W0.heap.size + 1,4,none⟩ = some (.slice yA yv.length yc) := HY4.out.cell 4
 have g5 : w4.cell? ⟨W0.heap.size + 1,5,none⟩ = some (.slice yB ya.length yd) := HY4.out.cell 5
 have g6 : w4.cell? ⟨W0.heap.size + 1,6,none⟩ = some (.int .i64 yf) := HY4.out.cell 6
 have g7 : w4.cell? ⟨W0.heap.size + 1,7,none⟩ = some (.int .i64 yu) := HY4.out.cell 7
 have hl2 := HY4.out.lt
 go_wp2_with fail
 go_at_call 14
 refine (HE2.out _ HB4.out).mono ?_
 rintro e w5 ⟨rfl,h5⟩
 have HX5 := hid (HX4.out.later h5)
 have HY5 := hid (HY4.out.later h5)
 have HB5 := hid (HB4.out.trans (h5.mono HB4.out.size))
 clear h5 g0 g1 g2 g3 g4 g5 g6 g7 hl2 HE1 HE2
 obtain ⟨hlx,Tx,hTx⟩ := htx
 obtain ⟨hly,Ty,hTy⟩ := hty
 obtain ⟨SX,hSX⟩ : ∃ s,(⟨TX.toArray⟩ : ByteArray) = s := ⟨_,rfl⟩
 obtain ⟨SY,hSY⟩ : ∃ s,(⟨TY.toArray⟩ : ByteArray) = s := ⟨_,rfl⟩
 have hlxT : TX.length = Tx.length + 1 := by rw [hTx]; simp
 have hlyT : TY.length = Ty.length + 1 := by rw [hTy]; simp
 obtain ⟨sE1,sZ1,sG1⟩ := ends_sx hSX hTx
 obtain ⟨sE2,sZ2,sG2⟩ := ends_sx hSY hTy
 rw [hSX,hSY] at hPt ⊢
 rw [hlxT,hlyT] at hPt
 obtain ⟨n,hn⟩ : ∃ n,Tx.length = n := ⟨_,rfl⟩
 obtain ⟨m,hm⟩ : ∃ m,Ty.length = m := ⟨_,rfl⟩
 rw [hn] at hPt sZ1 sG1 hlxT
 rw [hm] at hPt sZ2 sG2 hlyT
 rw [hlxT] at hlx
 rw [hlyT] at hly
 have hn0 : (n : Int) <= 390597504 := by omega
 have hm0 : (m : Int) <= 390597504 := by omega
 have hL1 : ¬ 9223372036854775807 < n + 1 + 1 := by omega
 have hL2 : ¬ 9223372036854775807 < n + 1 + 1 + (m + 1) := by omega
 have HPt := hid hPt
 have HSZ : Hid (SX.size = n + 1 /\ SY.size = m + 1) := ⟨sZ1,sZ2⟩
 have HLn : Hid (n + m <= 390597504) := by
  show n + m <= 390597504
  omega
 obtain ⟨hW1,hW2⟩ : wrap64 (n : Int) = n /\ wrap64 (m : Int) = m := ⟨IntWalk.wrap64_in _ (by omega),IntWalk.wrap64_in _ (by omega)⟩
 clear hSX hSY hTx hTy hlxT hlyT hn hm hPt hlx hly hz
 go_wp2_with fail
 have hsz : (SX ++ ⟨#[10]⟩ ++ SY).size <= 1000000000 := by
  have e1 : (SX ++ (⟨#[10]⟩ : ByteArray) ++ SY).size = SX.size + 1 + SY.size := by rw [ByteArray.size_append,ByteArray.size_append]; rfl
  rw [e1,HSZ.out.1,HSZ.out.2]
  have := HLn.out
  omega
 have hpc := parse_call (pat_calls hsz) hsz w5
 rw [HPt.out] at hpc
 have HPc := hid hpc
 clear hpc hsz HPt
 go_at_call 10
 refine HPc.out.mono ?_
 rintro e w6 ⟨h6,A,c,rfl,hL⟩
 obtain ⟨b,o,rfl,hN⟩ := list_at hL (Nat.succ_pos _)
 obtain ⟨hF0,A0,c0,B0,d0,p0,p1,p2,p3,p4,p5,p6,p7,pt0,pa0⟩ := hN.get 0 rfl
 obtain ⟨hF1,A1,c1,B1,d1,q0,q1,q2,q3,q4,q5,q6,q7,pt1,pa1⟩ := hN.get 1 rfl
 simp only [Nat.zero_mul,Nat.add_zero,Nat.one_mul] at p0 p1 p2 p3 p4 p5 p6 p7 q0 q1 q2 q3 q4 q5 q6 q7
 dsimp only at p0 p1 p2 p3 p4 p5 p6 p7 q0 q1 q2 q3 q4 q5 q6 q7 pt0 pa0 pt1 pa1
 have k1 : ((n + 1 : Nat) : Int) = (n : Int) + 1 := by clear hW1 hW2; omega
 have k2 : ((n + 1 + 1 : Nat) : Int) = (n : Int) + 1 + 1 := by clear hW1 hW2; omega
 have k3 : ((n + 1 + 1 + (m + 1) : Nat) : Int) = (n : Int) + 1 + 1 + ((m : Int) + 1) := by clear hW1 hW2; omega
 rw [k1] at p7
 rw [k2] at q6
 rw [k3] at q7
 have hW3 : wrap64 ((n : Int) + 1 + 1) = (n : Int) + 1 + 1 := IntWalk.wrap64_in _ (by clear hW1 hW2; omega)
 clear k1 k2 k3
 have HB6 := hid (HB5.out.trans (h6.mono HB5.out.size))
 have hX6 := HX5.out.later h6
 have hY6 := HY5.out.later h6
 have hlb := hF0.2
 have hlx := hX6.lt
 have hly := hY6.lt
 have HKp : Hid (∀ W W',(W.cell? ⟨b,o,none⟩ = some (.int .i64 xt) /\ W.cell? ⟨b,o + 1,none⟩ = some (.int .i64 xl) /\ W.cell? ⟨b,o + 2,none⟩ = some (.string xx) /\ W.cell? ⟨b,o + 3,none⟩ = some (.string xn) /\ W.cell? ⟨b,o + 4,none⟩ = some (.slice A0 xv.length c0) /\ W.cell? ⟨b,o + 5,none⟩ = some (.slice B0 xa.length d0) /\ W.cell? ⟨b,o + 6,none⟩ = some (.int .i64 0) /\ W.cell? ⟨b,o + 7,none⟩ = some (.int .i64 ((n : Int) + 1)) /\ W.cell? ⟨b,o + 8,none⟩ = some (.int .i64 yt) /\ W.cell? ⟨b,o + 8 + 1,none⟩ = some (.int .i64 yl) /\ W.cell? ⟨b,o + 8 + 2,none⟩ = some (.string yx) /\ W.cell? ⟨b,o + 8 + 3,none⟩ = some (.string yn) /\ W.cell? ⟨b,o + 8 + 4,none⟩ = some (.slice A1 yv.length c1) /\ W.cell? ⟨b,o + 8 + 5,none⟩ = some (.slice B1 ya.length d1) /\ W.cell? ⟨b,o + 8 + 6,none⟩ = some (.int .i64 ((n : Int) + 1 + 1)) /\ W.cell? ⟨b,o + 8 + 7,none⟩ = some (.int .i64 ((n : Int) + 1 + 1 + ((m : Int) + 1))) /\ W.cell? ⟨W0.heap.size,0,none⟩ = some (.int .i64 xt) /\ W.cell? ⟨W0.heap.size,1,none⟩ = some (.int .i64 xl) /\ W.cell? ⟨W0.heap.size,2,none⟩ = some (.string xx) /\ W.cell? ⟨W0.heap.size,3,none⟩ = some (.string xn) /\ W.cell? ⟨W0.heap.size,4,none⟩ = some (.slice xA xv.length xc) /\ W.cell? ⟨W0.heap.size,5,none⟩ = some (.slice xB xa.length xd) /\ W.cell? ⟨W0.heap.size,6,none⟩ = some (.int .i64 xf) /\ W.cell? ⟨W0.heap.size,7,none⟩ = some (.int .i64 xu) /\ W.cell? ⟨W0.heap.size + 1,0,none⟩ = some (.int .i64 yt) /\ W.cell? ⟨W0.heap.size + 1,1,none⟩ = some (.int .i64 yl) /\ W.cell? ⟨W0.heap.size + 1,2,none⟩ = some (.string yx) /\ W.cell? ⟨W0.heap.size + 1,3,none⟩ = some (.string yn) /\ W.cell? ⟨W0.heap.size + 1,4,none⟩ = some (.slice yA yv.length yc) /\ W.cell? ⟨W0.heap.size + 1,5,none⟩ = some (.slice yB ya.length yd) /\ W.cell? ⟨W0.heap.size + 1,6,none⟩ = some (.int .i64 yf) /\ W.cell? ⟨W0.heap.size + 1,7,none⟩ = some (.int .i64 yu) /\ w6.heap.size <= W.heap.size /\ Below w6.heap.size w6 W) -> Below W.heap.size W W' -> (W'.cell? ⟨b,o,none⟩ = some (.int .i64 xt) /\ W'.cell? ⟨b,o + 1,none⟩ = some (.int .i64 xl) /\ W'.cell? ⟨b,o + 2,none⟩ = some (.string xx) /\ W'.cell? ⟨b,o + 3,none⟩ = some (.string xn) /\ W'.cell? ⟨b,o + 4,none⟩ = some (.slice A0 xv.length c0) /\ W'.cell? ⟨b,o + 5,none⟩ = some (.slice B0 xa.length d0) /\ W'.cell? ⟨b,o + 6,none⟩ = some (.int .i64 0) /\ W'.cell? ⟨b,o + 7,none⟩ = some (.int .i64 ((n : Int) + 1)) /\ W'.cell? ⟨b,o + 8,none⟩ = some (.int .i64 yt) /\ W'.cell? ⟨b,o + 8 + 1,none⟩ = some (.int .i64 yl) /\ W'.cell? ⟨b,o + 8 + 2,none⟩ = some (.string yx) /\ W'.cell? ⟨b,o + 8 + 3,none⟩ = some (.string yn) /\ W'.cell? ⟨b,o + 8 + 4,none⟩ = some (.slice A1 yv.length c1) /\ W'.cell? ⟨b,o + 8 + 5,none⟩ = some (.slice B1 ya.length d1) /\ W'.cell? ⟨b,o + 8 + 6,none⟩ = some (.int .i64 ((n : Int) + 1 + 1)) /\ W'.cell? ⟨b,o + 8 + 7,none⟩ = some (.int .i64 ((n : Int) + 1 + 1 + ((m : Int) + 1))) /\ W'.cell? ⟨W0.heap.size,0,none⟩ = some (.int .i64 xt) /\ W'.cell? ⟨W0.heap.size,1,none⟩ = some (.int .i64 xl) /\ W'.cell? ⟨W0.heap.size,2,none⟩ = some (.string xx) /\ W'.cell? ⟨W0.heap.size,3,none⟩ = some (.string xn) /\ W'.cell? ⟨W0.heap.size,4,none⟩ = some (.slice xA xv.length xc) /\ W'.cell? ⟨W0.heap.size,5,none⟩ = some (.slice xB xa.length xd) /\ W'.cell? ⟨W0.heap.size,6,none⟩ = some (.int .i64 xf) /\ W'.cell? ⟨W0.heap.size,7,none⟩ = some (.int .i64 xu) /\ W'.cell? ⟨W0.heap.size + 1,0,none⟩ = some (.int .i64 yt) /\ W'.cell? ⟨W0.heap.size + 1,1,none⟩ = some (.int .i64 yl) /\ W'.cell? ⟨W0.heap.size + 1,2,none⟩ = some (.string yx) /\ W'.cell? ⟨W0.heap.size + 1,3,none⟩ = some (.string yn) /\ W'.cell? ⟨W0.heap.size + 1,4,none⟩ = some (.slice yA yv.length yc) /\ W'.cell? ⟨W0.heap.size + 1,5,none⟩ = some (.slice yB ya.length yd) /\ W'.cell? ⟨W0.heap.size + 1,6,none⟩ = some (.int .i64 yf) /\ W'.cell? ⟨W0.heap.size + 1,7,none⟩ = some (.int .i64 yu) /\ w6.heap.size <= W'.heap.size /\ Below w6.heap.size w6 W')) := fun W W' ⟨h0,h1,h2,h3,h4,h5,h6,h7,h8,h9,h10,h11,h12,h13,h14,h15,h16,h17,h18,h19,h20,h21,h22,h23,h24,h25,h26,h27,h28,h29,h30,h31,hs,hb⟩ g =>
  ⟨(g.cell (p := ⟨b,o,none⟩) (Nat.lt_of_lt_of_le hlb hs)).trans h0,(g.cell (p := ⟨b,o + 1,none⟩) (Nat.lt_of_lt_of_le hlb hs)).trans h1,(g.cell (p := ⟨b,o + 2,none⟩) (Nat.lt_of_lt_of_le hlb hs)).trans h2,(g.cell (p := ⟨b,o + 3,none⟩) (Nat.lt_of_lt_of_le hlb hs)).trans h3,(g.cell (p := ⟨b,o + 4,none⟩) (Nat.lt_of_lt_of_le hlb hs)).trans h4,(g.cell (p := ⟨b,o + 5,none⟩) (Nat.lt_of_lt_of_le hlb hs)).trans h5,(g.cell (p := ⟨b,o + 6,none⟩) (Nat.lt_of_lt_of_le hlb hs)).trans h6,(g.cell (p := ⟨b,o + 7,none⟩) (Nat.lt_of_lt_of_le hlb hs)).trans h7,(g.cell (p := ⟨b,o + 8,none⟩) (Nat.lt_of_lt_of_le hlb hs)).trans h8,(g.cell (p := ⟨b,o + 8 + 1,none⟩) (Nat.lt_of_lt_of_le hlb hs)).trans h9,(g.cell (p := ⟨b,o + 8 + 2,none⟩) (Nat.lt_of_lt_of_le hlb hs)).trans h10,(g.cell (p := ⟨b,o + 8 + 3,none⟩) (Nat.lt_of_lt_of_le hlb hs)).trans h11,(g.cell (p := ⟨b,o + 8 + 4,none⟩) (Nat.lt_of_lt_of_le hlb hs)).trans h12,(g.cell (p := ⟨b,o + 8 + 5,none⟩) (Nat.lt_of_lt_of_le hlb hs)).trans h13,(g.cell (p := ⟨b,o + 8 + 6,none⟩) (Nat.lt_of_lt_of_le hlb hs)).trans h14,(g.cell (p := ⟨b,o + 8 + 7,none⟩) (Nat.lt_of_lt_of_le hlb hs)).trans h15,(g.cell (p := ⟨W0.heap.size,0,none⟩) (Nat.lt_of_lt_of_le hlx hs)).trans h16,(g.cell (p := ⟨W0.heap.size,1,none⟩) (Nat.lt_of_lt_of_le hlx hs)).trans h17,(g.cell (p := ⟨W0.heap.size,2,none⟩) (Nat.lt_of_lt_of_le hlx hs)).trans h18,(g.cell (p := ⟨W0.heap.size,3,none⟩) (Nat.lt_of_lt_of_le hlx hs)).trans h19,(g.cell (p := ⟨W0.heap.size,4,none⟩) (Nat.lt_of_lt_of_le hlx hs)).trans h20,(g.cell (p := ⟨W0.heap.size,5,none⟩) (Nat.lt_of_lt_of_le hlx hs)).trans h21,(g.cell (p := ⟨W0.heap.size,6,none⟩) (Nat.lt_of_lt_of_le hlx hs)).trans h22,(g.cell (p := ⟨W0.heap.size,7,none⟩) (Nat.lt_of_lt_of_le hlx hs)).trans h23,(g.cell (p := ⟨W0.heap.size + 1,0,none⟩) (Nat.lt_of_lt_of_le hly hs)).trans h24,(g.cell (p := ⟨W0.heap.size + 1,1,none⟩) (Nat.lt_of_lt_of_le hly hs)).trans h25,(g.cell (p := ⟨W0.heap.size + 1,2,none⟩) (Nat.lt_of_lt_of_le hly hs)).trans h26,(g.cell (p := ⟨W0.heap.size + 1,3,none⟩) (Nat.lt_of_lt_of_le hly hs)).trans h27,(g.cell (p := ⟨W0.heap.size + 1,4,none⟩) (Nat.lt_of_lt_of_le hly hs)).trans h28,(g.cell (p := ⟨W0.heap.size + 1,5,none⟩) (Nat.lt_of_lt_of_le hly hs)).trans h29,(g.cell (p := ⟨W0.heap.size + 1,6,none⟩) (Nat.lt_of_lt_of_le hly hs)).trans h30,(g.cell (p := ⟨W0.heap.size + 1,7,none⟩) (Nat.lt_of_lt_of_le hly hs)).trans h31,Nat.le_trans hs g.size,hb.trans (g.mono hs)⟩
 have HS0 : Hid (w6.drew.cell? ⟨b,o,none⟩ = some (.int .i64 xt) /\ w6.drew.cell? ⟨b,o + 1,none⟩ = some (.int .i64 xl) /\ w6.drew.cell? ⟨b,o + 2,none⟩ = some (.string xx) /\ w6.drew.cell? ⟨b,o + 3,none⟩ = some (.string xn) /\ w6.drew.cell? ⟨b,o + 4,none⟩ = some (.slice A0 xv.length c0) /\ w6.drew.cell? ⟨b,o + 5,none⟩ = some (.slice B0 xa.length d0) /\ w6.drew.cell? ⟨b,o + 6,none⟩ = some (.int .i64 0) /\ w6.drew.cell? ⟨b,o + 7,none⟩ = some (.int .i64 ((n : Int) + 1)) /\ w6.drew.cell? ⟨b,o + 8,none⟩ = some (.int .i64 yt) /\ w6.drew.cell? ⟨b,o + 8 + 1,none⟩ = some (.int .i64 yl) /\ w6.drew.cell? ⟨b,o + 8 + 2,none⟩ = some (.string yx) /\ w6.drew.cell? ⟨b,o + 8 + 3,none⟩ = some (.string yn) /\ w6.drew.cell? ⟨b,o + 8 + 4,none⟩ = some (.slice A1 yv.length c1) /\ w6.drew.cell? ⟨b,o + 8 + 5,none⟩ = some (.slice B1 ya.length d1) /\ w6.drew.cell? ⟨b,o + 8 + 6,none⟩ = some (.int .i64 ((n : Int) + 1 + 1)) /\ w6.drew.cell? ⟨b,o + 8 + 7,none⟩ = some (.int .i64 ((n : Int) + 1 + 1 + ((m : Int) + 1))) /\ w6.drew.cell? ⟨W0.heap.size,0,none⟩ = some (.int .i64 xt) /\ w6.drew.cell? ⟨W0.heap.size,1,none⟩ = some (.int .i64 xl) /\ w6.drew.cell? ⟨W0.heap.size,2,none⟩ = some (.string xx) /\ w6.drew.cell? ⟨W0.heap.size,3,none⟩ = some (.string xn) /\ w6.drew.cell? ⟨W0.heap.size,4,none⟩ = some (.slice xA xv.length xc) /\ w6.drew.cell? ⟨W0.heap.size,5,none⟩ = some (.slice xB xa.length xd) /\ w6.drew.cell? ⟨W0.heap.size,6,none⟩ = some (.int .i64 xf) /\ w6.drew.cell? ⟨W0.heap.size,7,none⟩ = some (.int .i64 xu) /\ w6.drew.cell? ⟨W0.heap.size + 1,0,none⟩ = some (.int .i64 yt) /\ w6.drew.cell? ⟨W0.heap.size + 1,1,none⟩ = some (.int .i64 yl) /\ w6.drew.cell? ⟨W0.heap.size + 1,2,none⟩ = some (.string yx) /\ w6.drew.cell? ⟨W0.heap.size + 1,3,none⟩ = some (.string yn) /\ w6.drew.cell? ⟨W0.heap.size + 1,4,none⟩ = some (.slice yA yv.length yc) /\ w6.drew.cell? ⟨W0.heap.size + 1,5,none⟩ = some (.slice yB ya.length yd) /\ w6.drew.cell? ⟨W0.heap.size + 1,6,none⟩ = some (.int .i64 yf) /\ w6.drew.cell? ⟨W0.heap.size + 1,7,none⟩ = some (.int .i64 yu) /\ w6.heap.size <= w6.drew.heap.size /\ Below w6.heap.size w6 w6.drew) := ⟨p0,p1,p2,p3,p4,p5,p6,p7,q0,q1,q2,q3,q4,q5,q6,q7,hX6.cell 0,hX6.cell 1,hX6.cell 2,hX6.cell 3,hX6.cell 4,hX6.cell 5,hX6.cell 6,hX6.cell 7,hY6.cell 0,hY6.cell 1,hY6.cell 2,hY6.cell 3,hY6.cell 4,hY6.cell 5,hY6.cell 6,hY6.cell 7,Nat.le_refl _,(Below.refl _ _).drew⟩
 have HQ1 := hid (fun W (q : W.cell? ⟨b,o,none⟩ = some (.int .i64 xt) /\ W.cell? ⟨b,o + 1,none⟩ = some (.int .i64 xl) /\ W.cell? ⟨b,o + 2,none⟩ = some (.string xx) /\ W.cell? ⟨b,o + 3,none⟩ = some (.string xn) /\ W.cell? ⟨b,o + 4,none⟩ = some (.slice A0 xv.length c0) /\ W.cell? ⟨b,o + 5,none⟩ = some (.slice B0 xa.length d0) /\ W.cell? ⟨b,o + 6,none⟩ = some (.int .i64 0) /\ W.cell? ⟨b,o + 7,none⟩ = some (.int .i64 ((n : Int) + 1)) /\ W.cell? ⟨b,o + 8,none⟩ = some (.int .i64 yt) /\ W.cell? ⟨b,o + 8 + 1,none⟩ = some (.int .i64 yl) /\ W.cell? ⟨b,o + 8 + 2,none⟩ = some (.string yx) /\ W.cell? ⟨b,o + 8 + 3,none⟩ = some (.string yn) /\ W.cell? ⟨b,o + 8 + 4,none⟩ = some (.slice A1 yv.length c1) /\ W.cell? ⟨b,o + 8 + 5,none⟩ = some (.slice B1 ya.length d1) /\ W.cell? ⟨b,o + 8 + 6,none⟩ = some (.int .i64 ((n : Int) + 1 + 1)) /\ W.cell? ⟨b,o + 8 + 7,none⟩ = some (.int .i64 ((n : Int) + 1 + 1 + ((m : Int) + 1))) /\ W.cell? ⟨W0.heap.size,0,none⟩ = some (.int .i64 xt) /\ W.cell? ⟨W0.heap.size,1,none⟩ = some (.int .i64 xl) /\ W.cell? ⟨W0.heap.size,2,none⟩ = some (.string xx) /\ W.cell? ⟨W0.heap.size,3,none⟩ = some (.string xn) /\ W.cell? ⟨W0.heap.size,4,none⟩ = some (.slice xA xv.length xc) /\ W.cell? ⟨W0.heap.size,5,none⟩ = some (.slice xB xa.length xd) /\ W.cell? ⟨W0.heap.size,6,none⟩ = some (.int .i64 xf) /\ W.cell? ⟨W0.heap.size,7,none⟩ = some (.int .i64 xu) /\ W.cell? ⟨W0.heap.size + 1,0,none⟩ = some (.int .i64 yt) /\ W.cell? ⟨W0.heap.size + 1,1,none⟩ = some (.int .i64 yl) /\ W.cell? ⟨W0.heap.size + 1,2,none⟩ = some (.string yx) /\ W.cell? ⟨W0.heap.size + 1,3,none⟩ = some (.string yn) /\ W.cell? ⟨W0.heap.size + 1,4,none⟩ = some (.slice yA yv.length yc) /\ W.cell? ⟨W0.heap.size + 1,5,none⟩ = some (.slice yB ya.length yd) /\ W.cell? ⟨W0.heap.size + 1,6,none⟩ = some (.int .i64 yf) /\ W.cell? ⟨W0.heap.size + 1,7,none⟩ = some (.int .i64 yu) /\ w6.heap.size <= W.heap.size /\ Below w6.heap.size w6 W) => HS1.out 0 ((n : Int) + 1) w6 HB6.out _ _ (PatF.at_ (fun z hz => hz.2) pt0) (AtsF.at_ (fun z hz => hz.2) pa0) W q.2.2.2.2.2.2.2.2.2.2.2.2.2.2.2.2.2.2.2.2.2.2.2.2.2.2.2.2.2.2.2.2.2)
 have HQ2 := hid (fun W (q : W.cell? ⟨b,o,none⟩ = some (.int .i64 xt) /\ W.cell? ⟨b,o + 1,none⟩ = some (.int .i64 xl) /\ W.cell? ⟨b,o + 2,none⟩ = some (.string xx) /\ W.cell? ⟨b,o + 3,none⟩ = some (.string xn) /\ W.cell? ⟨b,o + 4,none⟩ = some (.slice A0 xv.length c0) /\ W.cell? ⟨b,o + 5,none⟩ = some (.slice B0 xa.length d0) /\ W.cell? ⟨b,o + 6,none⟩ = some (.int .i64 0) /\ W.cell? ⟨b,o + 7,none⟩ = some (.int .i64 ((n : Int) + 1)) /\ W.cell? ⟨b,o + 8,none⟩ = some (.int .i64 yt) /\ W.cell? ⟨b,o + 8 + 1,none⟩ = some (.int .i64 yl) /\ W.cell? ⟨b,o + 8 + 2,none⟩ = some (.string yx) /\ W.cell? ⟨b,o + 8 + 3,none⟩ = some (.string yn) /\ W.cell? ⟨b,o + 8 + 4,none⟩ = some (.slice A1 yv.length c1) /\ W.cell? ⟨b,o + 8 + 5,none⟩ = some (.slice B1 ya.length d1) /\ W.cell? ⟨b,o + 8 + 6,none⟩ = some (.int .i64 ((n : Int) + 1 + 1)) /\ W.cell? ⟨b,o + 8 + 7,none⟩ = some (.int .i64 ((n : Int) + 1 + 1 + ((m : Int) + 1))) /\ W.cell? ⟨W0.heap.size,0,none⟩ = some (.int .i64 xt) /\ W.cell? ⟨W0.heap.size,1,none⟩ = some (.int .i64 xl) /\ W.cell? ⟨W0.heap.size,2,none⟩ = some (.string xx) /\ W.cell? ⟨W0.heap.size,3,none⟩ = some (.string xn) /\ W.cell? ⟨W0.heap.size,4,none⟩ = some (.slice xA xv.length xc) /\ W.cell? ⟨W0.heap.size,5,none⟩ = some (.slice xB xa.length xd) /\ W.cell? ⟨W0.heap.size,6,none⟩ = some (.int .i64 xf) /\ W.cell? ⟨W0.heap.size,7,none⟩ = some (.int .i64 xu) /\ W.cell? ⟨W0.heap.size + 1,0,none⟩ = some (.int .i64 yt) /\ W.cell? ⟨W0.heap.size + 1,1,none⟩ = some (.int .i64 yl) /\ W.cell? ⟨W0.heap.size + 1,2,none⟩ = some (.string yx) /\ W.cell? ⟨W0.heap.size + 1,3,none⟩ = some (.string yn) /\ W.cell? ⟨W0.heap.size + 1,4,none⟩ = some (.slice yA yv.length yc) /\ W.cell? ⟨W0.heap.size + 1,5,none⟩ = some (.slice yB ya.length yd) /\ W.cell? ⟨W0.heap.size + 1,6,none⟩ = some (.int .i64 yf) /\ W.cell? ⟨W0.heap.size + 1,7,none⟩ = some (.int .i64 yu) /\ w6.heap.size <= W.heap.size /\ Below w6.heap.size w6 W) => HS2.out ((n : Int) + 1 + 1) ((n : Int) + 1 + 1 + ((m : Int) + 1)) w6 HB6.out _ _ (PatF.at_ (fun z hz => hz.2) pt1) (AtsF.at_ (fun z hz => hz.2) pa1) W q.2.2.2.2.2.2.2.2.2.2.2.2.2.2.2.2.2.2.2.2.2.2.2.2.2.2.2.2.2.2.2.2.2)
 unfold entV at HQ1 HQ2
 clear HS1 HS2 p0 p1 p2 p3 p4 p5 p6 p7 q0 q1 q2 q3 q4 q5 q6 q7 pt0 pa0 pt1 pa1 hX6 hY6 hF0 hF1 hN hL h6 HPc HX5 HY5 HX4 HY4 HX3 HY3 HX2 HY2 HX1 HY1 hL1 hL2 sE1 sE2 sG1 sG2
 go_wp2
 go_region_held3 (fun w' => w'.cell? ⟨b,o,none⟩ = some (.int .i64 xt) /\ w'.cell? ⟨b,o + 1,none⟩ = some (.int .i64 xl) /\ w'.cell? ⟨b,o + 2,none⟩ = some (.string xx) /\ w'.cell? ⟨b,o + 3,none⟩ = some (.string xn) /\ w'.cell? ⟨b,o + 4,none⟩ = some (.slice A0 xv.length c0) /\ w'.cell? ⟨b,o + 5,none⟩ = some (.slice B0 xa.length d0) /\ w'.cell? ⟨b,o + 6,none⟩ = some (.int .i64 0) /\ w'.cell? ⟨b,o + 7,none⟩ = some (.int .i64 ((n : Int) + 1)) /\ w'.cell? ⟨b,o + 8,none⟩ = some (.int .i64 yt) /\ w'.cell? ⟨b,o + 8 + 1,none⟩ = some (.int .i64 yl) /\ w'.cell? ⟨b,o + 8 + 2,none⟩ = some (.string yx) /\ w'.cell? ⟨b,o + 8 + 3,none⟩ = some (.string yn) /\ w'.cell? ⟨b,o + 8 + 4,none⟩ = some (.slice A1 yv.length c1) /\ w'.cell? ⟨b,o + 8 + 5,none⟩ = some (.slice B1 ya.length d1) /\ w'.cell? ⟨b,o + 8 + 6,none⟩ = some (.int .i64 ((n : Int) + 1 + 1)) /\ w'.cell? ⟨b,o + 8 + 7,none⟩ = some (.int .i64 ((n : Int) + 1 + 1 + ((m : Int) + 1))) /\ w'.cell? ⟨W0.heap.size,0,none⟩ = some (.int .i64 xt) /\ w'.cell? ⟨W0.heap.size,1,none⟩ = some (.int .i64 xl) /\ w'.cell? ⟨W0.heap.size,2,none⟩ = some (.string xx) /\ w'.cell? ⟨W0.heap.size,3,none⟩ = some (.string xn) /\ w'.cell? ⟨W0.heap.size,4,none⟩ = some (.slice xA xv.length xc) /\ w'.cell? ⟨W0.heap.size,5,none⟩ = some (.slice xB xa.length xd) /\ w'.cell? ⟨W0.heap.size,6,none⟩ = some (.int .i64 xf) /\ w'.cell? ⟨W0.heap.size,7,none⟩ = some (.int .i64 xu) /\ w'.cell? ⟨W0.heap.size + 1,0,none⟩ = some (.int .i64 yt) /\ w'.cell? ⟨W0.heap.size + 1,1,none⟩ = some (.int .i64 yl) /\ w'.cell? ⟨W0.heap.size + 1,2,none⟩ = some (.string yx) /\ w'.cell? ⟨W0.heap.size + 1,3,none⟩ = some (.string yn) /\ w'.cell? ⟨W0.heap.size + 1,4,none⟩ = some (.slice yA yv.length yc) /\ w'.cell? ⟨W0.heap.size + 1,5,none⟩ = some (.slice yB ya.length yd) /\ w'.cell? ⟨W0.heap.size + 1,6,none⟩ = some (.int .i64 yf) /\ w'.cell? ⟨W0.heap.size + 1,7,none⟩ = some (.int .i64 yu) /\ w6.heap.size <= w'.heap.size /\ Below w6.heap.size w6 w')
  (first | (exact HKp.out _ _ (by assumption) (by assumption)) | (exact HS0.out) | assumption | go_keep)
  (first | (go_at_call 12; (with_reducible refine (HQ1.out _ (by assumption)).mono ?_); rintro e wa ⟨rfl,hba⟩) | (go_at_call 12; (with_reducible refine (HQ2.out _ (by assumption)).mono ?_); rintro e wb ⟨rfl,hbb⟩))
 rename_i hmE
 have HBE := hid (HB6.out.trans ((hmE.2.2.2.2.2.2.2.2.2.2.2.2.2.2.2.2.2.2.2.2.2.2.2.2.2.2.2.2.2.2.2.2.2).mono HB6.out.size))
 clear hmE
 have hW4 : (((n : Int) + 1 + 1) == IntKind.i64.wrap ((n : Int) + 1 + 1)) = true := by
  rw [IntWalk.i64_in _ (by clear hW1 hW2 hW3; omega)]
  exact beq_self_eq_true _
 rw [hW4]
 go_wp2
 go_ret
 exact ⟨rfl,HBE.out⟩
end Go.Proofs.YtgdkpamlkpncgaaGreatDoor
