/-
  Several texts put together (part 16): what the law and the program call, walked; their contracts.
-/
import Derived.Test.YtdoambpiafkmmaaGreatDoorQ15
namespace Go.Proofs.YtdoambpiafkmmaaGreatDoor
open Go.RowKit
set_option linter.unusedVariables false
set_option linter.unusedSimpArgs false
theorem comGo_pos (s : ByteArray) (lv : Nat) : ∀ (n : Nat) (acc : List ByteArray) (k : Nat) (x : ByteArray), s.size - k ≤ n → k < s.size → k < (comGo s lv acc k x).2 ∧ (comGo s lv acc k x).2 ≤ s.size
  | 0, acc, k, x, hn, hk => by omega
  | n + 1, acc, k, x, hn, hk => by
    have hb := beh_ok s k (Nat.le_of_lt hk)
    have hb2 := hb.2.2 hk
    rw [comGo]
    split
    · next h =>
      by_cases h2 : beh s k < s.size
      · have := comGo_pos s lv n (acc ++ [x]) (beh s k) (comL s (beh s k)).2 (by omega) h2
        omega
      · have he : beh s k = s.size := by omega
        have hl : (comL s (beh s k)).1 = 0 := by
          by_cases h3 : (comL s (beh s k)).1 = 0
          · exact h3
          · have := com_lt s (beh s k) hb.2.1 h3; omega
        rw [comGo]
        have hbb := beh_ok s (beh s k) hb.2.1
        rw [dif_neg (by omega)]
        dsimp only
        omega
    · dsimp only; omega
theorem atsS_pos (s : ByteArray) : ∀ (n : Nat) (acc : List AT) (k : Nat), s.size - k ≤ n → k ≤ s.size → k ≤ (atsS s acc k).2 ∧ (atsS s acc k).2 ≤ s.size
  | n, acc, k, hn, hk => by
    rw [atsS]
    split
    · exact ⟨Nat.le_refl _, hk⟩
    · next x l e h =>
      split
      · next h2 =>
        cases n with
        | zero => omega
        | succ n =>
          have := atsS_pos s n (acc ++ [.mk x l]) e (by omega) h2.2
          omega
      · exact ⟨Nat.le_refl _, hk⟩
theorem junkTo_pos (s : ByteArray) : ∀ (n k : Nat), s.size - k ≤ n → k ≤ s.size → k ≤ junkTo s k ∧ junkTo s k ≤ s.size
  | n, k, hn, hk => by
    rw [junkTo]
    split
    · split
      · next h2 =>
        have hb := beh_ok s k hk
        cases n with
        | zero => omega
        | succ n =>
          have := junkTo_pos s n (beh s k) (by omega) hb.2.1
          omega
      · exact ⟨Nat.le_refl _, hk⟩
    · exact ⟨Nat.le_refl _, hk⟩
theorem passE_pos (s : ByteArray) : ∀ (n k : Nat), s.size - k ≤ n → k ≤ s.size → k ≤ passE s k ∧ passE s k ≤ s.size
  | n, k, hn, hk => by
    by_cases hlt : k < s.size
    · by_cases h : sp s k < s.size ∧ isAt s (sp s k) 10 = false
      · rw [passE, dif_pos hlt, if_pos h]; exact ⟨Nat.le_refl _, hk⟩
      · obtain ⟨h1, h2, h3⟩ := passE_go s k hlt h
        rw [h1]
        cases n with
        | zero => omega
        | succ n =>
          have := passE_pos s n (beh s (sp s k)) (by omega) h3
          omega
    · rw [passE, dif_neg hlt]; exact ⟨Nat.le_refl _, hk⟩
theorem msg_pos {s : ByteArray} {i : Nat} (hi : i < s.size) {x : EN} (h : msgS s i = some x) : i < x.tu ∧ x.tu ≤ s.size ∧ x.fr = i := by
  unfold msgS at h
  obtain ⟨q, hq⟩ : ∃ q, (if isAt s i 45 = true then i + 1 else i) = q := ⟨_, rfl⟩
  rw [hq] at h
  have hq1 : i ≤ q ∧ q ≤ s.size := by split at hq <;> omega
  split at h
  · cases h
  · next y l e hn =>
    have h1 := named_pos hq1.2 hn
    split at h
    · cases h
      have h2 := atsS_pos s s.size [] e (by omega) h1.2
      have h3 := beh_ok s (atsS s [] e).2 h2.2
      dsimp only
      exact ⟨by omega, h3.2.1, rfl⟩
    · cases h
theorem read_pos {s : ByteArray} {i : Nat} (hi : i < s.size) : i < (readS s i).tu ∧ (readS s i).tu ≤ s.size ∧ (readS s i).fr = i := by
  unfold readS
  split
  · next x h =>
    unfold comS at h
    split at h
    · cases h
    · cases h
      have := comGo_pos s (comL s i).1 s.size [] i (comL s i).2 (by omega) hi
      exact ⟨this.1, this.2, rfl⟩
  · split
    · next x h => exact msg_pos hi h
    · have h1 := beh_ok s i (Nat.le_of_lt hi)
      have h2 := junkTo_pos s s.size (beh s i) (by omega) h1.2.1
      exact ⟨by show i < junkTo s (beh s i); have := h1.2.2 hi; omega, h2.2, rfl⟩
theorem parseGo_step (s : ByteArray) (acc : List EN) (i : Nat) (hi : i < s.size) : parseGo s acc i = parseGo s (acc ++ [readS s i]) (passE s (readS s i).tu) ∧ i < passE s (readS s i).tu ∧ passE s (readS s i).tu ≤ s.size := by
  have h1 := read_pos hi
  have h2 := passE_pos s s.size (readS s i).tu (by omega) h1.2.1
  refine ⟨?_, by omega, h2.2⟩
  rw [parseGo, dif_pos ⟨hi, by omega⟩]
theorem parseGo_end (s : ByteArray) (acc : List EN) (i : Nat) (hi : ¬ i < s.size) : parseGo s acc i = acc := by
  rw [parseGo, dif_neg (fun h => hi h.1)]
def GotEs (w : World) (l : List EN) (e : Ending) (w' : World) : Prop :=
  Below w.heap.size w w' ∧ ∃ (A : Option Addr) (c : Nat), e = .returned (.slice A l.length c) ∧ ListF w' (Since w.heap.size w') l (.slice A l.length c)
set_option maxHeartbeats 4000000 in
set_option maxRecDepth 100000 in
theorem parse_call {s : ByteArray} (hPC : PatCall s) (hs : s.size ≤ 1000000) (w : World) : Calls Tryz.prog 15 #[.string s] w (GotEs w (parseS s)) := by
  obtain ⟨i0, hi0, hz0, hz1, hz2⟩ := info_parts infoEn
  obtain ⟨RL, hRL⟩ : ∃ R, parseS s = R := ⟨_, rfl⟩
  rw [hRL]
  unfold parseS at hRL
  have hp0 := passE_pos s s.size 0 (by omega) (Nat.zero_le _)
  have hPE := fun W => passEmpty_any s 0 (by omega) (Nat.zero_le _) W
  obtain ⟨k0, hk0⟩ : ∃ k, passE s 0 = k := ⟨_, rfl⟩
  rw [hk0] at hRL hp0 hPE
  have HR := Lib.hid hRL
  have HPE0 := Lib.hid (show ∀ W, _ from hPE)
  have HPE := Lib.hid (fun j W (hj : j ≤ s.size) => passEmpty_any s j (by omega) hj W)
  have HRd := Lib.hid (fun j W (hj : j < s.size) => read_call hPC hs j hj W)
  have hss : (s.size : Int) ≤ 1000000 := by omega
  clear hRL hk0 hPE hPC
  go_enter Tryz.func15, Tryz.ntmps15
  go_wp2_with fail
  go_at_call 40
  refine (HPE0.out _).mono ?_
  rintro e w1 ⟨rfl, hb1⟩
  have HB1 := Lib.hid hb1
  clear hb1
  go_wp2
  go_loopw [3, 4] (fun t3 t4 wr => ∃ (acc : List EN) (k : Nat) (A : Option Addr) (c : Nat), t3 = .slice A acc.length c ∧ t4 = .int .i64 k ∧ k ≤ s.size ∧ acc.length ≤ k ∧ Hid (parseGo s acc k = RL) ∧ Hid (Below w.heap.size w wr) ∧ Hid (OwnN w.heap.size wr (.slice A acc.length c) acc)) (fun _ t4 _ => s.size - (intOf t4).toNat)
  case atStart => exact ⟨[], k0, none, 0, rfl, rfl, hp0.2, Nat.zero_le _, HR, HB1, OwnN.nil _ _⟩
  case round =>
    obtain ⟨acc, k, A, c, rfl, rfl, hk, hac, HG, HBel, HO⟩ := hrel
    have hk1 : (k : Int) ≤ 1000000 := by omega
    have hacI : (acc.length : Int) ≤ 1000000 := by omega
    by_cases hlt : k < s.size
    · have d1 : decide ((k : Int) < (s.size : Int)) = true := decide_eq_true (by omega)
      have d2 : (k : Int) < (s.size : Int) := by omega
      have hr := fun W => HRd.out k W hlt
      obtain ⟨g1, g2, g3⟩ := parseGo_step s acc k hlt
      have hpos := read_pos hlt
      have hpe := fun W => HPE.out (readS s k).tu W hpos.2.1
      obtain ⟨x, hx⟩ : ∃ x, readS s k = x := ⟨_, rfl⟩
      rw [hx] at hr g1 g2 g3 hpe hpos
      obtain ⟨nx, hnx⟩ : ∃ n, passE s x.tu = n := ⟨_, rfl⟩
      rw [hnx] at g1 g2 g3 hpe
      have HRk := Lib.hid hr
      have HPk := Lib.hid hpe
      have HG1 := Lib.hid (g1.symm.trans HG.out)
      obtain ⟨hp1, hp2, hp3⟩ := hpos
      clear hp3
      clear hr g1 hpe hx hnx
      go_wp2_with fail
      go_at_call 41
      refine (HRk.out _).mono ?_
      rintro e w2 ⟨hb2, v, rfl, A', c', B', d', rfl, hp, hq⟩
      have HB2 := Lib.hid (HBel.out.trans (hb2.mono HBel.out.size))
      have HO2 := Lib.hid (HO.out.below hb2)
      have HPt := Lib.hid hp
      have HQt := Lib.hid hq
      have hs2 := hb2.size
      have hs0 := HBel.out.size
      clear hb2 hp hq
      obtain ⟨xs6, ho6, hz6⟩ := HO2.out
      obtain ⟨xs5, ho5, _⟩ := HO.out
      have Hv5 := Lib.hid (fun k e => ho5.lt k e)
      have HZ6 := Lib.hid hz6
      have hto : ((x.tu : Nat) : Int) ≤ 1000000 := by omega
      have hown1 := (ho6.alloc (.cells #[.int .i64 x.ty, .int .i64 x.lv, .string x.tx, .string x.nm, .slice A' x.val.length c', .slice B' x.ats.length d', .int .i64 x.fr, .int .i64 x.tu] 45)).alloc (.cells #[.int .i64 x.ty, .int .i64 x.lv, .string x.tx, .string x.nm, .slice A' x.val.length c', .slice B' x.ats.length d', .int .i64 x.fr, .int .i64 x.tu] 45)
      have hbox : BoxAt ((w2.alloc (.cells #[.int .i64 x.ty, .int .i64 x.lv, .string x.tx, .string x.nm, .slice A' x.val.length c', .slice B' x.ats.length d', .int .i64 x.fr, .int .i64 x.tu] 45)).alloc (.cells #[.int .i64 x.ty, .int .i64 x.lv, .string x.tx, .string x.nm, .slice A' x.val.length c', .slice B' x.ats.length d', .int .i64 x.fr, .int .i64 x.tu] 45)) w2.heap.size #[.int .i64 x.ty, .int .i64 x.lv, .string x.tx, .string x.nm, .slice A' x.val.length c', .slice B' x.ats.length d', .int .i64 x.fr, .int .i64 x.tu] 45 := (BoxAt.new _ _ _).alloc _
      have hnew : BoxAt ((w2.alloc (.cells #[.int .i64 x.ty, .int .i64 x.lv, .string x.tx, .string x.nm, .slice A' x.val.length c', .slice B' x.ats.length d', .int .i64 x.fr, .int .i64 x.tu] 45)).alloc (.cells #[.int .i64 x.ty, .int .i64 x.lv, .string x.tx, .string x.nm, .slice A' x.val.length c', .slice B' x.ats.length d', .int .i64 x.fr, .int .i64 x.tu] 45)) (w2.heap.size + 1) #[.int .i64 x.ty, .int .i64 x.lv, .string x.tx, .string x.nm, .slice A' x.val.length c', .slice B' x.ats.length d', .int .i64 x.fr, .int .i64 x.tu] 45 := BoxAt.new' _ _ _ _ (by simp)
      obtain ⟨r0, r1, r2, r3, r4, r5, r6, r7, f0, f1, f2, f3, f4, f5, f6, f7⟩ := cellsE (BoxAt.new w2 #[.int .i64 x.ty, .int .i64 x.lv, .string x.tx, .string x.nm, .slice A' x.val.length c', .slice B' x.ats.length d', .int .i64 x.fr, .int .i64 x.tu] 45)
      have Hbox := Lib.hid hbox
      have Hnew := Lib.hid hnew
      clear ho6 ho5 hz6 hbox hnew
      unfold entV
      go_wp2_with (at_builtin; refine wpList_append_where _ rfl _ _ 39 rfl w.heap.size 45 i0 (.agg #[.int .i64 0, .int .i64 0, .string ⟨#[]⟩, .string ⟨#[]⟩, .slice none 0 0, .slice none 0 0, .int .i64 0, .int .i64 0]) 8 112 Tryz.underlying39 hi0 hz0 hz1 hz2 rfl (by decide) _ _ _ rfl hown1 ⟨w2.heap.size + 1, 0, none⟩ 1 1 [.int .i64 x.ty, .int .i64 x.lv, .string x.tx, .string x.nm, .slice A' x.val.length c', .slice B' x.ats.length d', .int .i64 x.fr, .int .i64 x.tu] rfl rfl ?c1 ?c2 ?c3 ?c4 ?c5 ?c6 ?_)
      case c1 =>
        intro j u hj
        match j, hj with
        | 0, hj => simp at hj; subst hj; exact Hnew.out.cell 0
        | 1, hj => simp at hj; subst hj; exact Hnew.out.cell 1
        | 2, hj => simp at hj; subst hj; exact Hnew.out.cell 2
        | 3, hj => simp at hj; subst hj; exact Hnew.out.cell 3
        | 4, hj => simp at hj; subst hj; exact Hnew.out.cell 4
        | 5, hj => simp at hj; subst hj; exact Hnew.out.cell 5
        | 6, hj => simp at hj; subst hj; exact Hnew.out.cell 6
        | 7, hj => simp at hj; subst hj; exact Hnew.out.cell 7
      case c2 => intro u hu; simp at hu; rcases hu with rfl | rfl | rfl | rfl | rfl | rfl | rfl | rfl <;> rfl
      case c3 => unfold maxLen; omega
      case c4 => omega
      case c5 => simp; omega
      case c6 => decide
      intro v' w8 hown' hgrow hwh
      have K1 : Below w2.heap.size w2 ((w2.alloc (.cells #[.int .i64 x.ty, .int .i64 x.lv, .string x.tx, .string x.nm, .slice A' x.val.length c', .slice B' x.ats.length d', .int .i64 x.fr, .int .i64 x.tu] 45)).alloc (.cells #[.int .i64 x.ty, .int .i64 x.lv, .string x.tx, .string x.nm, .slice A' x.val.length c', .slice B' x.ats.length d', .int .i64 x.fr, .int .i64 x.tu] 45)) := ((Below.refl _ _).alloc (Nat.le_refl _) _).alloc (by simp) _
      generalize hW2 : ((w2.alloc (.cells #[.int .i64 x.ty, .int .i64 x.lv, .string x.tx, .string x.nm, .slice A' x.val.length c', .slice B' x.ats.length d', .int .i64 x.fr, .int .i64 x.tu] 45)).alloc (.cells #[.int .i64 x.ty, .int .i64 x.lv, .string x.tx, .string x.nm, .slice A' x.val.length c', .slice B' x.ats.length d', .int .i64 x.fr, .int .i64 x.tu] 45)) = W2 at *
      have hW2s : W2.heap.size = w2.heap.size + 2 := by rw [← hW2]; simp
      have hcar : ∀ b, Since wr.heap.size w2 b → OwnSet w.heap.size W2 (.slice A acc.length c) b ∧ W2.heap[b]? = w2.heap[b]? := fun b hb => ⟨⟨⟨by have := hb.1; omega, by have := hb.2; omega⟩, fun e => by have := Hv5.out b e.symm; have := hb.1; omega⟩, K1.block b hb.2⟩
      have HO8 := Lib.hid (OwnN.push K1 HZ6.out (HPt.out.carry hcar) (HQt.out.carry hcar) hown' hgrow (by simpa [hW2s] using hwh))
      have HB8 := Lib.hid ((HB2.out.trans (K1.mono (by omega))).grown hgrow (by omega) (fun k e => (Hv5.out k e).1))
      have hb8 : BoxAt w8 w2.heap.size #[.int .i64 x.ty, .int .i64 x.lv, .string x.tx, .string x.nm, .slice A' x.val.length c', .slice B' x.ats.length d', .int .i64 x.fr, .int .i64 x.tu] 45 := (hgrow.block w2.heap.size (by omega) (fun e => by have := (Hv5.out _ e.symm).2; omega)).trans Hbox.out
      obtain ⟨A3, c3, rfl⟩ := own_slice hown' (by omega)
      obtain ⟨q0, q1, q2, q3, q4, q5, q6, q7, p0, p1, p2, p3, p4, p5, p6, p7⟩ := cellsE hb8
      have hl8 := hb8.lt
      clear hown' hgrow hwh K1 hcar hb8 hW2 hW2s hown1 r0 r1 r2 r3 r4 r5 r6 r7 f0 f1 f2 f3 f4 f5 f6 f7
      go_wp2_with fail
      go_at_call 40
      refine (HPk.out _).mono ?_
      rintro e w9 ⟨rfl, hb9⟩
      have HB9 := Lib.hid (HB8.out.trans (hb9.mono HB8.out.size))
      have HO9 := Lib.hid (HO8.out.below hb9)
      clear hb9
      go_wp2
      go_roundw
      case rel =>
        refine ⟨acc ++ [x], nx, A3, c3, ?_, rfl, g3, ?_, HG1, HB9, ?_⟩
        · show Value.slice A3 _ c3 = _
          simp
        · rw [List.length_append, List.length_singleton]; omega
        · rw [List.length_append, List.length_singleton]
          exact HO9
      case measure => simp [intOf]; omega
    · have d1 : decide ((k : Int) < (s.size : Int)) = false := decide_eq_false (by omega)
      have d2 : ¬ (k : Int) < (s.size : Int) := by omega
      have hR := HG.out
      rw [parseGo_end s acc k hlt] at hR
      subst hR
      go_wp2
      go_ret
      obtain ⟨A2, c2, e2, hl⟩ := HO.out.list
      cases e2
      exact ⟨HBel.out, A, c, rfl, hl⟩
end Go.Proofs.YtdoambpiafkmmaaGreatDoor

namespace Go.Proofs.YtdoambpiafkmmaaGreatDoor
open Go.RowKit
set_option linter.unusedVariables false
set_option linter.unusedSimpArgs false
structure Shf (s t : ByteArray) (n : Nat) : Prop where
  sz : s.size = n + t.size
  dr : ∀ i, s.data.toList.drop (n + i) = t.data.toList.drop i
section
variable {s t : ByteArray} {n : Nat}
theorem Shf.get (h : Shf s t n) (i : Nat) : s.data.toList[n + i]? = t.data.toList[i]? := by
  have := congrArg (fun l => l[0]?) (h.dr i)
  simpa [List.getElem?_drop] using this
theorem Shf.at_ (h : Shf s t n) (i : Nat) : at0 s.data.toList (n + i) = at0 t.data.toList i := by
  unfold at0
  rw [List.getD_eq_getElem?_getD, List.getD_eq_getElem?_getD, h.get]
theorem Shf.beh_ (h : Shf s t n) (p : UInt8 → Bool) (i : Nat) : behN p s.data.toList (n + i) = n + behN p t.data.toList i := by
  unfold behN
  rw [h.dr]
  omega
theorem Shf.is (h : Shf s t n) (i : Nat) (c : UInt8) : isAt s (n + i) c = isAt t i c := by
  unfold isAt
  rw [h.at_, h.sz]
  congr 1
  exact decide_eq_decide.2 (by omega)
theorem Shf.ext (h : Shf s t n) (i j : Nat) : s.extract (n + i) (n + j) = t.extract i j := by
  apply bytes_eq
  rw [extract_list, extract_list, List.drop_take, List.drop_take, h.dr]
  congr 1
  omega
theorem Shf.bl_ (h : Shf s t n) (i : Nat) : bl s (n + i) = n + bl t i := h.beh_ _ i
theorem Shf.sp_ (h : Shf s t n) (i : Nat) : sp s (n + i) = n + sp t i := h.beh_ _ i
theorem Shf.tx_ (h : Shf s t n) (i : Nat) : tx s (n + i) = n + tx t i := h.beh_ _ i
theorem Shf.li_ (h : Shf s t n) (i : Nat) : li s (n + i) = n + li t i := h.beh_ _ i
theorem Shf.hs_ (h : Shf s t n) (i : Nat) : hs s (n + i) = n + hs t i := h.beh_ _ i
theorem Shf.nm_ (h : Shf s t n) (i : Nat) : nm s (n + i) = n + nm t i := by
  unfold nm
  rw [h.at_, h.beh_, h.sz]
  by_cases hc : i < t.size ∧ leB (at0 t.data.toList i) = true
  · rw [if_pos hc, if_pos ⟨by omega, hc.2⟩]
  · rw [if_neg hc, if_neg (fun g => hc ⟨by omega, g.2⟩)]
theorem Shf.opt (h : Shf s t n) (c : UInt8) (i : Nat) : (if n + i < s.data.toList.length ∧ at0 s.data.toList (n + i) = c then n + i + 1 else n + i) = n + (if i < t.data.toList.length ∧ at0 t.data.toList i = c then i + 1 else i) := by
  rw [h.at_, size_data, size_data, h.sz]
  by_cases hc : i < t.size ∧ at0 t.data.toList i = c
  · rw [if_pos hc, if_pos ⟨by omega, hc.2⟩]; omega
  · rw [if_neg hc, if_neg (fun g => hc ⟨by omega, g.2⟩)]
theorem Shf.nu_ (h : Shf s t n) (i : Nat) : nu s (n + i) = n + nu t i := by
  unfold nu numN
  dsimp only
  rw [h.opt]
  obtain ⟨a, ha⟩ : ∃ a, (if i < t.data.toList.length ∧ at0 t.data.toList i = 45 then i + 1 else i) = a := ⟨_, rfl⟩
  rw [ha, h.beh_]
  obtain ⟨e, he⟩ : ∃ e, behN dgB t.data.toList a = e := ⟨_, rfl⟩
  rw [he, h.opt]
  obtain ⟨b, hb⟩ : ∃ b, (if e < t.data.toList.length ∧ at0 t.data.toList e = 46 then e + 1 else e) = b := ⟨_, rfl⟩
  rw [hb, h.beh_]
  obtain ⟨e2, he2⟩ : ∃ q, behN dgB t.data.toList b = q := ⟨_, rfl⟩
  rw [he2]
  by_cases h1 : a < e
  · rw [if_pos h1, if_pos (by omega)]
    by_cases h2 : b < e2
    · rw [if_pos h2, if_pos (by omega)]
    · rw [if_neg h2, if_neg (by omega)]
  · rw [if_neg h1, if_neg (by omega)]
def shR {α : Type} (n : Nat) : Option (α × Nat) → Option (α × Nat)
  | none => none
  | some (e, j) => some (e, n + j)
def sh3 {α β : Type} (n : Nat) : Option (α × β × Nat) → Option (α × β × Nat)
  | none => none
  | some (x, e, j) => some (x, e, n + j)
theorem shR_or {α : Type} (a b : Option (α × Nat)) : shR n (a.or b) = (shR n a).or (shR n b) := by
  cases a with
  | none => rfl
  | some x => rfl
theorem Shf.quo (h : Shf s t n) (i : Nat) : quoS s (n + i) = shR n (quoS t i) := by
  unfold quoS
  rw [h.sz, h.ext]
  cases unqAll (t.extract i t.size) with
  | none => rfl
  | some p =>
    show some (_, n + i + p.2) = some (_, n + (i + p.2))
    rw [Nat.add_assoc]
theorem Shf.var (h : Shf s t n) (i : Nat) : varS s (n + i) = shR n (varS t i) := by
  unfold varS
  rw [Nat.add_assoc, h.is, h.nm_, h.ext]
  have e : decide (n + (i + 1) < n + nm t (i + 1)) = decide (i + 1 < nm t (i + 1)) := decide_eq_decide.2 (by omega)
  rw [e]
  split <;> rfl
theorem Shf.ref (h : Shf s t n) (k : Int) (i : Nat) : refS k s (n + i) = shR n (refS k t i) := by
  unfold refS
  rw [h.nm_, Nat.add_assoc, h.is, h.nm_, h.ext, h.ext]
  by_cases h1 : nm t i = i
  · rw [if_pos h1, if_pos (by omega)]; rfl
  · rw [if_neg h1, if_neg (by omega)]
    split
    · by_cases h2 : nm t (nm t i + 1) = nm t i + 1
      · rw [if_pos h2, if_pos (by omega)]; rfl
      · rw [if_neg h2, if_neg (by omega)]; rfl
    · rfl
theorem Shf.ter (h : Shf s t n) (i : Nat) : terS s (n + i) = shR n (terS t i) := by
  unfold terS
  rw [h.is, Nat.add_assoc, h.ref]
  split <;> rfl
theorem Shf.nub (h : Shf s t n) (i : Nat) : nubS s (n + i) = shR n (nubS t i) := by
  unfold nubS
  rw [h.nu_, h.ext]
  by_cases h1 : nu t i = i
  · rw [if_pos h1, if_pos (by omega)]; rfl
  · rw [if_neg h1, if_neg (by omega)]; rfl
def ShP (n : Nat) (P Q : Nat → Res) : Prop := ∀ i, P (n + i) = shR n (Q i)
theorem nest_sh {P Q : Nat → Res} (hP : ShP n P Q) (i : Nat) : nestS P (n + i) = shR n (nestS Q i) := by
  unfold nestS
  rw [hP]
  cases Q i with
  | none => rfl
  | some p => rfl
theorem head_sh (h : Shf s t n) {P Q : Nat → Res} (hP : ShP n P Q) (i : Nat) : headS P s (n + i) = shR n (headS Q t i) := by
  unfold headS
  rw [h.quo, h.var, nest_sh hP, h.ter, h.ref, h.nub, shR_or, shR_or, shR_or, shR_or, shR_or]
theorem opn_sh (h : Shf s t n) (e : EX) (i : Nat) : opnS s e (n + i) = ((opnS t e i).1, n + (opnS t e i).2) := by
  unfold opnS
  rw [h.bl_, h.is]
  split
  · split
    · rfl
    · rfl
  · rfl
theorem nam_sh (h : Shf s t n) (i : Nat) : namS s (n + i) = sh3 n (namS t i) := by
  unfold namS
  rw [h.nm_, h.bl_, h.is, h.ext, Nat.add_assoc, h.bl_, h.quo, h.nub, ← shR_or]
  by_cases h1 : nm t i = i
  · rw [if_pos h1, if_pos (by omega)]; rfl
  · rw [if_neg h1, if_neg (by omega)]
    split
    · cases (quoS t (bl t (bl t (nm t i) + 1))).or (nubS t (bl t (bl t (nm t i) + 1))) with
      | none => rfl
      | some p => rfl
    · rfl
theorem arg_sh (h : Shf s t n) {P Q : Nat → Res} (hP : ShP n P Q) (i : Nat) : argS P s (n + i) = sh3 n (argS Q t i) := by
  unfold argS
  rw [nam_sh h, head_sh h hP]
  cases namS t i with
  | some x => rfl
  | none =>
    cases headS Q t i with
    | none => rfl
    | some p => rfl
theorem args_sh (h : Shf s t n) {P Q : Nat → Res} (hP : ShP n P Q) : ∀ (m : Nat) (xs : List AR) (want : Bool) (i : Nat), t.size - i ≤ m → argsS P s xs want (n + i) = shR n (argsS Q t xs want i)
  | m, xs, want, i, hm => by
    rw [argsS.eq_def P s xs want (n + i), argsS.eq_def Q t xs want i, h.bl_, h.is, h.is, arg_sh h hP]
    by_cases h41 : isAt t (bl t i) 41 = true
    · rw [if_pos h41, if_pos h41]; rfl
    rw [if_neg h41, if_neg h41]
    cases want with
    | true =>
      rw [if_pos rfl, if_pos rfl]
      by_cases h44 : isAt t (bl t i) 44 = true
      · rw [dif_pos h44, dif_pos h44, Nat.add_assoc]
        have := isAt_lt h44
        have := bl_ge t i
        cases m with
        | zero => omega
        | succ m => exact args_sh h hP m xs false (bl t i + 1) (by omega)
      · rw [dif_neg h44, dif_neg h44]; rfl
    | false =>
      rw [if_neg (by simp), if_neg (by simp)]
      cases argS Q t (bl t i) with
      | none => rfl
      | some x =>
        obtain ⟨x, e, j⟩ := x
        show (if _ then _ else _) = _
        dsimp only [sh3]
        rw [opn_sh h]
        dsimp only
        by_cases hc : (emp x && (opnS t e j).1) = true
        · rw [if_pos hc, if_pos hc]
          by_cases hg : i < (opnS t e j).2 ∧ (opnS t e j).2 ≤ t.size
          · rw [dif_pos hg, dif_pos (by rw [h.sz]; omega)]
            cases m with
            | zero => omega
            | succ m =>
              rw [args_sh h hP m [] false (opnS t e j).2 (by omega)]
              cases argsS Q t [] false (opnS t e j).2 with
              | none => rfl
              | some p =>
                obtain ⟨xs', q⟩ := p
                dsimp only [shR]
                by_cases hg2 : i < q ∧ q ≤ t.size
                · rw [dif_pos hg2, dif_pos (by rw [h.sz]; omega)]
                  split
                  · exact args_sh h hP m _ true q (by omega)
                  · rfl
                · rw [dif_neg hg2, dif_neg (by rw [h.sz]; omega)]
          · rw [dif_neg hg, dif_neg (by rw [h.sz]; omega)]; rfl
        · rw [if_neg hc, if_neg hc]
          have e1 : (if emp x = true then n + (opnS t e j).2 else n + j) = n + (if emp x = true then (opnS t e j).2 else j) := by split <;> rfl
          rw [e1]
          obtain ⟨q, hq⟩ : ∃ q, (if emp x = true then (opnS t e j).2 else j) = q := ⟨_, rfl⟩
          rw [hq]
          by_cases hg : i < q ∧ q ≤ t.size
          · rw [dif_pos hg, dif_pos (by rw [h.sz]; omega)]
            cases m with
            | zero => omega
            | succ m =>
              split
              · exact args_sh h hP m _ true q (by omega)
              · rfl
          · rw [dif_neg hg, dif_neg (by rw [h.sz]; omega)]; rfl
theorem inl_sh (h : Shf s t n) {P Q : Nat → Res} (hP : ShP n P Q) (i : Nat) : inlS P s (n + i) = shR n (inlS Q t i) := by
  unfold inlS
  rw [head_sh h hP]
  cases headS Q t i with
  | none => rfl
  | some p =>
    obtain ⟨e, j⟩ := p
    dsimp only [shR]
    rw [opn_sh h]
    dsimp only
    split
    · rw [args_sh h hP t.size _ _ _ (by omega)]
      cases argsS Q t [] false (opnS t e j).2 with
      | none => rfl
      | some p => rfl
    · rfl
theorem addT_sh (h : Shf s t n) (acc : List EL) (i j : Nat) : addT s acc (n + i) (n + j) = addT t acc i j := by
  unfold addT
  rw [h.ext]
  by_cases hc : i < j
  · rw [if_pos hc, if_pos (by omega)]
  · rw [if_neg hc, if_neg (by omega)]
theorem parts_sh (h : Shf s t n) {P Q : Nat → Res} (hP : ShP n P Q) : ∀ (m : Nat) (acc : List EL) (i : Nat), t.size - i ≤ m → partsS P s acc (n + i) = shR n (partsS Q t acc i)
  | m, acc, i, hm => by
    rw [partsS.eq_def P s acc (n + i), partsS.eq_def Q t acc i, h.tx_, h.is, hP, addT_sh h]
    split
    · cases Q (tx t i) with
      | none => rfl
      | some p =>
        obtain ⟨e, j⟩ := p
        dsimp only [shR]
        by_cases hg : i < j ∧ j ≤ t.size
        · rw [dif_pos hg, dif_pos (by rw [h.sz]; omega)]
          cases m with
          | zero => omega
          | succ m => exact parts_sh h hP m _ j (by omega)
        · rw [dif_neg hg, dif_neg (by rw [h.sz]; omega)]
    · rfl
theorem nl_sh (h : Shf s t n) : ∀ (m f fr i : Nat), t.size - i ≤ m → nlS s f (n + fr) (n + i) = ((nlS t f fr i).1, n + (nlS t f fr i).2.1, n + (nlS t f fr i).2.2)
  | m, f, fr, i, hm => by
    rw [nlS.eq_def s f (n + fr) (n + i), nlS.eq_def t f fr i]
    by_cases hc : isAt t i 10 = true
    · rw [dif_pos hc, dif_pos (by rw [h.is]; exact hc), Nat.add_assoc, h.sp_]
      have := isAt_lt hc
      have := sp_ge t (i + 1)
      cases m with
      | zero => omega
      | succ m => exact nl_sh h m _ _ _ (by omega)
    · rw [dif_neg hc, dif_neg (by rw [h.is]; exact hc)]
def sh4 (n : Nat) : Option (Nat × Nat × Nat) → Option (Nat × Nat × Nat)
  | none => none
  | some (f, p, k) => some (f, p, n + k)
theorem next_sh (h : Shf s t n) (i : Nat) : nextS s (n + i) = sh4 n (nextS t i) := by
  unfold nextS
  rw [nl_sh h t.size 0 i i (by omega)]
  obtain ⟨r, hr⟩ : ∃ r, nlS t 0 i i = r := ⟨_, rfl⟩
  rw [hr]
  dsimp only
  rw [h.at_, h.sz]
  by_cases hc : r.2.2 = r.2.1 ∨ r.2.2 = t.size ∨ stopB (at0 t.data.toList r.2.2) = true
  · rw [if_pos hc, if_pos (by rcases hc with hc | hc | hc; exact Or.inl (by omega); exact Or.inr (Or.inl (by omega)); exact Or.inr (Or.inr hc))]; rfl
  · rw [if_neg hc, if_neg (fun g => hc (by rcases g with g | g | g; exact Or.inl (by omega); exact Or.inr (Or.inl (by omega)); exact Or.inr (Or.inr g)))]
    show some (r.1, n + r.2.2 - (n + r.2.1), n + r.2.2) = some (r.1, r.2.2 - r.2.1, n + r.2.2)
    rw [Nat.add_sub_add_left]
theorem lines_sh (h : Shf s t n) {P Q : Nat → Res} (hP : ShP n P Q) : ∀ (m : Nat) (acc : List LN) (f p i : Nat), t.size - i ≤ m → linesS P s acc f p (n + i) = shR n (linesS Q t acc f p i)
  | m, acc, f, p, i, hm => by
    rw [linesS.eq_def P s acc f p (n + i), linesS.eq_def Q t acc f p i, parts_sh h hP t.size [] i (by omega)]
    cases partsS Q t [] i with
    | none => rfl
    | some x =>
      obtain ⟨ps, j⟩ := x
      dsimp only [shR]
      rw [next_sh h]
      cases nextS t j with
      | none => rfl
      | some y =>
        obtain ⟨f', p', k⟩ := y
        dsimp only [sh4]
        by_cases hg : i < k ∧ k ≤ t.size
        · rw [dif_pos hg, dif_pos (by rw [h.sz]; omega)]
          cases m with
          | zero => omega
          | succ m => exact lines_sh h hP m _ _ _ k (by omega)
        · rw [dif_neg hg, dif_neg (by rw [h.sz]; omega)]
theorem pat_sh (h : Shf s t n) {P Q : Nat → Res} (hP : ShP n P Q) (i : Nat) : patS P s (n + i) = shR n (patS Q t i) := by
  unfold patS
  rw [h.sp_, lines_sh h hP t.size [] 0 0 _ (by omega)]
  cases linesS Q t [] 0 0 (sp t i) with
  | none => rfl
  | some x => rfl
theorem key_sh (h : Shf s t n) (a : Nat) : keyE s (n + a) = n + keyE t a := by
  unfold keyE
  rw [h.nm_, h.nu_]
  by_cases hc : nm t a = a
  · rw [if_pos hc, if_pos (by omega)]
  · rw [if_neg hc, if_neg (by omega)]
theorem vari_sh (h : Shf s t n) {P Q : Nat → Res} (hP : ShP n P Q) (i : Nat) : variS P s (n + i) = shR n (variS Q t i) := by
  unfold variS
  rw [h.is]
  have e1 : (if isAt t i 42 = true then n + i + 1 else n + i) = n + (if isAt t i 42 = true then i + 1 else i) := by split <;> omega
  rw [e1]
  obtain ⟨q, hq⟩ : ∃ q, (if isAt t i 42 = true then i + 1 else i) = q := ⟨_, rfl⟩
  rw [hq, h.is, Nat.add_assoc, h.bl_, key_sh h, h.bl_, h.is, h.ext, Nat.add_assoc, pat_sh h hP]
  split
  · by_cases hk : keyE t (bl t (q + 1)) = bl t (q + 1)
    · rw [if_pos hk, if_pos (by omega)]; rfl
    · rw [if_neg hk, if_neg (by omega)]
      split
      · cases patS Q t (bl t (keyE t (bl t (q + 1))) + 1) with
        | none => rfl
        | some x =>
          obtain ⟨l, j⟩ := x
          dsimp only [shR]
          rw [h.is]
          split <;> rfl
      · rfl
  · rfl
theorem vars_sh (h : Shf s t n) {P Q : Nat → Res} (hP : ShP n P Q) : ∀ (m : Nat) (acc : List VA) (i : Nat), t.size - i ≤ m → varsS P s acc (n + i) = shR n (varsS Q t acc i)
  | m, acc, i, hm => by
    rw [varsS.eq_def P s acc (n + i), varsS.eq_def Q t acc i, h.is, vari_sh h hP]
    split
    · split
      · show some (acc, n + i + 1) = some (acc, n + (i + 1))
        rw [Nat.add_assoc]
      · rfl
    · cases variS Q t i with
      | none => rfl
      | some x =>
        obtain ⟨v, j⟩ := x
        dsimp only [shR]
        rw [h.bl_]
        by_cases hg : i < bl t j ∧ bl t j ≤ t.size
        · rw [dif_pos hg, dif_pos (by rw [h.sz]; omega)]
          cases m with
          | zero => omega
          | succ m => exact vars_sh h hP m _ _ (by omega)
        · rw [dif_neg hg, dif_neg (by rw [h.sz]; omega)]
theorem sel_sh (h : Shf s t n) {P Q : Nat → Res} (hP : ShP n P Q) (i : Nat) : selS P s (n + i) = shR n (selS Q t i) := by
  unfold selS
  rw [h.sp_, h.is, Nat.add_assoc, h.bl_, vars_sh h hP t.size _ _ (by omega)]
  split <;> rfl
theorem place_sh (h : Shf s t n) : ∀ r, ShP n (placeS s r) (placeS t r)
  | 0 => fun i => by rw [placeS, placeS]; rfl
  | r + 1 => fun i => by
    have hP := place_sh h r
    rw [placeS, placeS, h.is, Nat.add_assoc, h.bl_, inl_sh h hP]
    split
    · cases inlS (placeS t r) t (bl t (i + 1)) with
      | none => rfl
      | some x =>
        obtain ⟨e, j⟩ := x
        dsimp only [shR]
        rw [h.bl_, h.is, h.is, Nat.add_assoc, h.is, Nat.add_assoc]
        split
        · split <;> rfl
        · split
          · rw [sel_sh h hP]
            cases selS (placeS t r) t (bl t j + 2) with
            | none => rfl
            | some y => rfl
          · rfl
    · rfl
end
end Go.Proofs.YtdoambpiafkmmaaGreatDoor
