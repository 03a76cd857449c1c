/-
  Several texts put together (part 21): what the law and the program call, walked; their contracts.
-/
import Derived.Test.YtgdkpamlkpncgaaGreatDoorR9
import Derived.Lib.ValidLaws
import Derived.Lib.MapLaws
namespace Go.Proofs.YtgdkpamlkpncgaaGreatDoor
open Go.RowKit
set_option linter.unusedVariables false
set_option linter.unusedSimpArgs false
def okRune (r : Nat) : Prop:=r < 55296 ∨ (57343 < r /\ r <= 1114111)
theorem decodeL_ok (l : List UInt8) : okRune (Lib.decodeL l).1:=by
 rw [Lib.decodeL_N]
 have k0:=(l.getD 0 0).toNat_lt
 have k1:=(l.getD 1 0).toNat_lt
 unfold okRune
 rcases Lib.decodeN_shape l.length (l.getD 0 0).toNat (l.getD 1 0).toNat (l.getD 2 0).toNat (l.getD 3 0).toNat with ⟨c,e⟩ | ⟨c1,c2,c3,cv,e⟩ | ⟨c1,c2,c3,c4,cv,cs,e⟩ | ⟨c1,c2,c3,c4,c5,cv,cw,e⟩ | e
 all_goals (rw [e]; dsimp only; omega)
theorem byte_z (z : Nat) (h : z < 256) : ((z : Int).toNat.toUInt8).toNat = z:=by
 have : (z : Int).toNat = z:=by omega
 rw [this]
 simp [UInt8.toNat_ofNat',Nat.toUInt8]
 omega
theorem enc1 (r : Nat) (h : r <= 127) : Lib.encodeRune (r : Int) = [(r : Int).toNat.toUInt8]:=by
 unfold Lib.encodeRune
 rw [Lib.encodeRuneZ_one (by omega) (by omega)]
 rfl
theorem enc2 (r : Nat) (h0 : 128 <= r) (h1 : r <= 2047) : Lib.encodeRune (r : Int) = [((192 + r / 64 : Nat) : Int).toNat.toUInt8,((128 + r % 64 : Nat) : Int).toNat.toUInt8]:=by
 unfold Lib.encodeRune
 rw [Lib.encodeRuneZ_two (by omega) (by omega)]
 have e1 : 192 + (r : Int) / 64 = ((192 + r / 64 : Nat) : Int):=by omega
 have e2 : 128 + (r : Int) % 64 = ((128 + r % 64 : Nat) : Int):=by omega
 rw [e1,e2]
 rfl
theorem enc3 (r : Nat) (h0 : (2048 <= r /\ r < 55296) ∨ (57343 < r /\ r <= 65535)) : Lib.encodeRune (r : Int) = [((224 + r / 4096 : Nat) : Int).toNat.toUInt8,((128 + r / 64 % 64 : Nat) : Int).toNat.toUInt8,((128 + r % 64 : Nat) : Int).toNat.toUInt8]:=by
 unfold Lib.encodeRune
 rw [Lib.encodeRuneZ_three (by omega)]
 have e1 : 224 + (r : Int) / 4096 = ((224 + r / 4096 : Nat) : Int):=by omega
 have e2 : 128 + (r : Int) / 64 % 64 = ((128 + r / 64 % 64 : Nat) : Int):=by omega
 have e3 : 128 + (r : Int) % 64 = ((128 + r % 64 : Nat) : Int):=by omega
 rw [e1,e2,e3]
 rfl
theorem enc4 (r : Nat) (h0 : 65536 <= r) (h1 : r <= 1114111) : Lib.encodeRune (r : Int) = [((240 + r / 262144 : Nat) : Int).toNat.toUInt8,((128 + r / 4096 % 64 : Nat) : Int).toNat.toUInt8,((128 + r / 64 % 64 : Nat) : Int).toNat.toUInt8,((128 + r % 64 : Nat) : Int).toNat.toUInt8]:=by
 unfold Lib.encodeRune
 rw [Lib.encodeRuneZ_four (by omega) (by omega)]
 have e1 : 240 + (r : Int) / 262144 = ((240 + r / 262144 : Nat) : Int):=by omega
 have e2 : 128 + (r : Int) / 4096 % 64 = ((128 + r / 4096 % 64 : Nat) : Int):=by omega
 have e3 : 128 + (r : Int) / 64 % 64 = ((128 + r / 64 % 64 : Nat) : Int):=by omega
 have e4 : 128 + (r : Int) % 64 = ((128 + r % 64 : Nat) : Int):=by omega
 rw [e1,e2,e3,e4]
 rfl
theorem dec_enc (r : Nat) (h : okRune r) (m : List UInt8) : Lib.decodeL (Lib.encodeRune (r : Int) ++ m) = (r,(Lib.encodeRune (r : Int)).length):=by
 rw [Lib.decodeL_N]
 by_cases c1 : r <= 127
 ·rw [enc1 r c1]
  simp only [List.cons_append,List.nil_append,List.getD_cons_zero,List.length_cons,List.length_nil]
  rw [byte_z r (by omega)]
  unfold Lib.decodeN
  rw [if_pos (by omega)]
 by_cases c2 : r <= 2047
 ·rw [enc2 r (by omega) c2]
  simp only [List.cons_append,List.nil_append,List.getD_cons_zero,List.getD_cons_succ,List.length_cons,List.length_nil]
  rw [byte_z _ (by omega),byte_z _ (by omega)]
  unfold Lib.decodeN
  rw [if_neg (by omega),if_pos ⟨by omega,by omega,by omega⟩,if_pos (by omega)]
  congr 1
  omega
 by_cases c3 : r <= 65535
 ·have h3 : (2048 <= r /\ r < 55296) ∨ (57343 < r /\ r <= 65535):=by
   unfold okRune at h; omega
  rw [enc3 r h3]
  simp only [List.cons_append,List.nil_append,List.getD_cons_zero,List.getD_cons_succ,List.length_cons,List.length_nil]
  rw [byte_z _ (by omega),byte_z _ (by omega),byte_z _ (by omega)]
  unfold Lib.decodeN
  have hv : (224 + r / 4096) % 16 * 4096 + (128 + r / 64 % 64) % 64 * 64 + (128 + r % 64) % 64 = r:=by omega
  rw [if_neg (by omega),if_neg (by omega),if_pos ⟨by omega,⟨by omega,by omega⟩,by omega,by omega⟩,hv,if_pos (by omega)]
 ·have h4 : 65536 <= r /\ r <= 1114111:=by
   unfold okRune at h; omega
  rw [enc4 r h4.1 h4.2]
  simp only [List.cons_append,List.nil_append,List.getD_cons_zero,List.getD_cons_succ,List.length_cons,List.length_nil]
  rw [byte_z _ (by omega),byte_z _ (by omega),byte_z _ (by omega),byte_z _ (by omega)]
  unfold Lib.decodeN
  have hv : (240 + r / 262144) % 8 * 262144 + (128 + r / 4096 % 64) % 64 * 4096 + (128 + r / 64 % 64) % 64 * 64 + (128 + r % 64) % 64 = r:=by omega
  rw [if_neg (by omega),if_neg (by omega),if_neg (by omega),if_pos ⟨by omega,⟨by omega,by omega⟩,⟨by omega,by omega⟩,by omega,by omega⟩,hv,if_pos (by omega)]
theorem enc_len (r : Int) : 1 <= (Lib.encodeRune r).length:=by
 have:=(Lib.runeCells_le r).1
 rw [Lib.runeCells_length] at this
 exact this
theorem enc_ne (r : Int) (m : List UInt8) : Lib.encodeRune r ++ m ≠ []:=by
 intro e
 have h1:=enc_len r
 have h2:=congrArg List.length e
 rw [List.length_append,List.length_nil] at h2
 omega
theorem valid_enc (r : Nat) (h : okRune r) (m : List UInt8) : Lib.validD (Lib.encodeRune (r : Int) ++ m) = Lib.validD m:=by
 rw [Lib.validD_step _ (enc_ne _ _),dec_enc r h m]
 have hl : ¬ (r = 65533 /\ (Lib.encodeRune (r : Int)).length = 1):=by
  rintro ⟨rfl,h1⟩
  rw [enc3 65533 (by omega)] at h1
  simp at h1
 rw [if_neg hl]
 dsimp only
 rw [List.drop_left]
theorem valid_encZ (r : Int) (m : List UInt8) : Lib.validD (Lib.encodeRune r ++ m) = Lib.validD m:=by
 by_cases h : r < 0 ∨ (55296 <= r /\ r <= 57343) ∨ 1114111 < r
 ·have e : Lib.encodeRune r = Lib.encodeRune ((65533 : Nat) : Int):=by
   rw [enc3 65533 (by omega)]
   unfold Lib.encodeRune
   rw [Lib.encodeRuneZ_bad h]
   rfl
  rw [e]
  exact valid_enc 65533 (Or.inr (by omega)) m
 ·obtain ⟨n,rfl⟩ : ∃ n : Nat,r = n:=⟨r.toNat,by omega⟩
  exact valid_enc n (by unfold okRune; omega) m
theorem valid_one (r : Int) : Lib.validD (Lib.encodeRune r) = true:=by
 have:=valid_encZ r []
 rw [List.append_nil] at this
 rw [this]; rfl
theorem valid_app : ∀ (k : Nat) (a b : List UInt8),a.length <= k -> Lib.validD a = true -> Lib.validD (a ++ b) = Lib.validD b
 | _,[],b,_,_=>rfl
 | 0,c :: a,b,h,_=>by simp at h
 | k + 1,c :: a,b,h,hv=>by
  rw [Lib.validD_step _ (by simp)] at hv
  split at hv
  ·cases hv
  ·next hn =>
   have hd:=Lib.encode_decode (c :: a) (by simp) hn
   have hw:=Lib.decodeL_width (c :: a)
   have hr:=decodeL_ok (c :: a)
   have e : c :: a ++ b = Lib.encodeRune ((Lib.decodeL (c :: a)).1 : Int) ++ ((c :: a).drop (Lib.decodeL (c :: a)).2 ++ b):=by rw [hd,<- List.append_assoc,List.take_append_drop]
   rw [e,valid_enc _ hr]
   exact valid_app k _ b (by rw [List.length_drop]; simp only [List.length_cons] at h ⊢; omega) hv
theorem valid_two {a b : List UInt8} (ha : Lib.validD a = true) (hb : Lib.validD b = true) : Lib.validD (a ++ b) = true:=by
 rw [valid_app a.length a b (Nat.le_refl _) ha]; exact hb
theorem enc_high (r : Nat) (h : okRune r) (h1 : 1 < (Lib.encodeRune (r : Int)).length) : ∀ c ∈ Lib.encodeRune (r : Int),128 <= c.toNat:=by
 intro c hc
 by_cases c1 : r <= 127
 ·rw [enc1 r c1] at h1
  simp at h1
 by_cases c2 : r <= 2047
 ·rw [enc2 r (by omega) c2] at hc
  simp only [List.mem_cons,List.not_mem_nil,or_false] at hc
  rcases hc with rfl | rfl <;> (rw [byte_z _ (by omega)]; omega)
 by_cases c3 : r <= 65535
 ·have h3 : (2048 <= r /\ r < 55296) ∨ (57343 < r /\ r <= 65535):=by
   unfold okRune at h; omega
  rw [enc3 r h3] at hc
  simp only [List.mem_cons,List.not_mem_nil,or_false] at hc
  rcases hc with rfl | rfl | rfl <;> (rw [byte_z _ (by omega)]; omega)
 ·have h4 : 65536 <= r /\ r <= 1114111:=by
   unfold okRune at h; omega
  rw [enc4 r h4.1 h4.2] at hc
  simp only [List.mem_cons,List.not_mem_nil,or_false] at hc
  rcases hc with rfl | rfl | rfl | rfl <;> (rw [byte_z _ (by omega)]; omega)
theorem valid_split : ∀ (k : Nat) (a : List UInt8) (c : UInt8) (b : List UInt8),a.length <= k -> c.toNat < 128 -> Lib.validD (a ++ c :: b) = true -> Lib.validD a = true /\ Lib.validD b = true
 | _,[],c,b,_,hc,hv=>by
  rw [List.nil_append,Lib.validD_cons c b hc] at hv
  exact ⟨rfl,hv⟩
 | 0,x :: a,c,b,h,_,_=>by simp at h
 | k + 1,x :: a,c,b,h,hc,hv=>by
  rw [Lib.validD_step _ (by simp)] at hv
  split at hv
  ·cases hv
  ·next hn =>
   have hd:=Lib.encode_decode (x :: a ++ c :: b) (by simp) hn
   have hw:=Lib.decodeL_width (x :: a ++ c :: b)
   have hr:=decodeL_ok (x :: a ++ c :: b)
   obtain ⟨n,hnn⟩ : ∃ n,(Lib.decodeL (x :: a ++ c :: b)).2 = n:=⟨_,rfl⟩
   obtain ⟨r,hrr⟩ : ∃ r,(Lib.decodeL (x :: a ++ c :: b)).1 = r:=⟨_,rfl⟩
   rw [hnn] at hd hw hv
   rw [hrr] at hd hr
   have hle : n <= (x :: a).length:=by
    refine Nat.le_of_not_lt fun hlt=>?_
    have hlen : (Lib.encodeRune (r : Int)).length = min n (x :: a ++ c :: b).length:=by rw [hd,List.length_take]
    have h2 : 1 < (Lib.encodeRune (r : Int)).length:=by
     rw [hlen,List.length_append]
     simp only [List.length_cons] at hlt ⊢
     omega
    have hm : c ∈ (x :: a ++ c :: b).take n:=by
     have : (x :: a ++ c :: b).take n = x :: a ++ (c :: b).take (n - (x :: a).length):=by
      rw [List.take_append,List.take_of_length_le (by omega)]
     rw [this]
     obtain ⟨m,hm⟩ : ∃ m,n - (x :: a).length = m + 1:=⟨n - (x :: a).length - 1,by omega⟩
     rw [hm,List.take_succ_cons]
     simp
    have:=enc_high r hr h2 c (by rw [hd]; exact hm)
    omega
   rw [List.drop_append_of_le_length hle] at hv
   rw [List.take_append_of_le_length hle] at hd
   have ih:=valid_split k _ c b (by rw [List.length_drop]; simp only [List.length_cons] at h ⊢; omega) hc hv
   refine ⟨?_,ih.2⟩
   have e : x :: a = Lib.encodeRune (r : Int) ++ (x :: a).drop n:=by rw [hd,List.take_append_drop]
   rw [e,valid_enc r hr]
   exact ih.1
end Go.Proofs.YtgdkpamlkpncgaaGreatDoor
