/-
  Several texts put together (part 23): what the law and the program call, walked; their contracts.
-/
import Derived.Test.YtpgiboblonlddaaGreatDoorQ22
import Derived.Test.YtpgiboblonlddaaGreatDoorQ21
import Derived.Test.YtpgiboblonlddaaGreatDoorQ19
namespace Go.Proofs.YtpgiboblonlddaaGreatDoor
open Go.RowKit
set_option linter.unusedVariables false
set_option linter.unusedSimpArgs false
theorem comGo_pos (s : ByteArray) (lv : Nat) : ∀ (n : Nat) (acc : List ByteArray) (k : Nat) (x : ByteArray), s.size - k ≤ n → k < s.size → k < (comGo s lv acc k x).2 ∧ (comGo s lv acc k x).2 ≤ s.size
  | 0, acc, k, x, hn, hk => by omega
  | n + 1, acc, k, x, hn, hk => by
    have hb := beh_ok s k (Nat.le_of_lt hk)
    have hb2 := hb.2.2 hk
    rw [comGo]
    split
    · next h =>
      by_cases h2 : beh s k < s.size
      · have := comGo_pos s lv n (acc ++ [x]) (beh s k) (comL s (beh s k)).2 (by omega) h2
        omega
      · have he : beh s k = s.size := by omega
        have hl : (comL s (beh s k)).1 = 0 := by
          by_cases h3 : (comL s (beh s k)).1 = 0
          · exact h3
          · have := com_lt s (beh s k) hb.2.1 h3; omega
        rw [comGo]
        have hbb := beh_ok s (beh s k) hb.2.1
        rw [dif_neg (by omega)]
        dsimp only
        omega
    · dsimp only; omega
theorem atsS_pos (s : ByteArray) : ∀ (n : Nat) (acc : List AT) (k : Nat), s.size - k ≤ n → k ≤ s.size → k ≤ (atsS s acc k).2 ∧ (atsS s acc k).2 ≤ s.size
  | n, acc, k, hn, hk => by
    rw [atsS]
    split
    · exact ⟨Nat.le_refl _, hk⟩
    · next x l e h =>
      split
      · next h2 =>
        cases n with
        | zero => omega
        | succ n =>
          have := atsS_pos s n (acc ++ [.mk x l]) e (by omega) h2.2
          omega
      · exact ⟨Nat.le_refl _, hk⟩
theorem junkTo_pos (s : ByteArray) : ∀ (n k : Nat), s.size - k ≤ n → k ≤ s.size → k ≤ junkTo s k ∧ junkTo s k ≤ s.size
  | n, k, hn, hk => by
    rw [junkTo]
    split
    · split
      · next h2 =>
        have hb := beh_ok s k hk
        cases n with
        | zero => omega
        | succ n =>
          have := junkTo_pos s n (beh s k) (by omega) hb.2.1
          omega
      · exact ⟨Nat.le_refl _, hk⟩
    · exact ⟨Nat.le_refl _, hk⟩
theorem passE_pos (s : ByteArray) : ∀ (n k : Nat), s.size - k ≤ n → k ≤ s.size → k ≤ passE s k ∧ passE s k ≤ s.size
  | n, k, hn, hk => by
    by_cases hlt : k < s.size
    · by_cases h : sp s k < s.size ∧ isAt s (sp s k) 10 = false
      · rw [passE, dif_pos hlt, if_pos h]; exact ⟨Nat.le_refl _, hk⟩
      · obtain ⟨h1, h2, h3⟩ := passE_go s k hlt h
        rw [h1]
        cases n with
        | zero => omega
        | succ n =>
          have := passE_pos s n (beh s (sp s k)) (by omega) h3
          omega
    · rw [passE, dif_neg hlt]; exact ⟨Nat.le_refl _, hk⟩
theorem msg_pos {s : ByteArray} {i : Nat} (hi : i < s.size) {x : EN} (h : msgS s i = some x) : i < x.tu ∧ x.tu ≤ s.size ∧ x.fr = i := by
  unfold msgS at h
  obtain ⟨q, hq⟩ : ∃ q, (if isAt s i 45 = true then i + 1 else i) = q := ⟨_, rfl⟩
  rw [hq] at h
  have hq1 : i ≤ q ∧ q ≤ s.size := by split at hq <;> omega
  split at h
  · cases h
  · next y l e hn =>
    have h1 := named_pos hq1.2 hn
    split at h
    · cases h
      have h2 := atsS_pos s s.size [] e (by omega) h1.2
      have h3 := beh_ok s (atsS s [] e).2 h2.2
      dsimp only
      exact ⟨by omega, h3.2.1, rfl⟩
    · cases h
theorem read_pos {s : ByteArray} {i : Nat} (hi : i < s.size) : i < (readS s i).tu ∧ (readS s i).tu ≤ s.size ∧ (readS s i).fr = i := by
  unfold readS
  split
  · next x h =>
    unfold comS at h
    split at h
    · cases h
    · cases h
      have := comGo_pos s (comL s i).1 s.size [] i (comL s i).2 (by omega) hi
      exact ⟨this.1, this.2, rfl⟩
  · split
    · next x h => exact msg_pos hi h
    · have h1 := beh_ok s i (Nat.le_of_lt hi)
      have h2 := junkTo_pos s s.size (beh s i) (by omega) h1.2.1
      exact ⟨by show i < junkTo s (beh s i); have := h1.2.2 hi; omega, h2.2, rfl⟩
theorem parseGo_step (s : ByteArray) (acc : List EN) (i : Nat) (hi : i < s.size) : parseGo s acc i = parseGo s (acc ++ [readS s i]) (passE s (readS s i).tu) ∧ i < passE s (readS s i).tu ∧ passE s (readS s i).tu ≤ s.size := by
  have h1 := read_pos hi
  have h2 := passE_pos s s.size (readS s i).tu (by omega) h1.2.1
  refine ⟨?_, by omega, h2.2⟩
  rw [parseGo, dif_pos ⟨hi, by omega⟩]
theorem parseGo_end (s : ByteArray) (acc : List EN) (i : Nat) (hi : ¬ i < s.size) : parseGo s acc i = acc := by
  rw [parseGo, dif_neg (fun h => hi h.1)]
def GotEs (w : World) (l : List EN) (e : Ending) (w' : World) : Prop :=
  Below w.heap.size w w' ∧ ∃ (A : Option Addr) (c : Nat), e = .returned (.slice A l.length c) ∧ ListF w' (Since w.heap.size w') l (.slice A l.length c)
set_option maxHeartbeats 4000000 in
set_option maxRecDepth 100000 in
theorem parse_call {s : ByteArray} (hPC : PatCall s) (hs : s.size ≤ 1000000) (w : World) : Calls Tryz.prog 41 #[.string s] w (GotEs w (parseS s)) := by
  obtain ⟨i0, hi0, hz0, hz1, hz2⟩ := info_parts infoEn
  obtain ⟨RL, hRL⟩ : ∃ R, parseS s = R := ⟨_, rfl⟩
  rw [hRL]
  unfold parseS at hRL
  have hp0 := passE_pos s s.size 0 (by omega) (Nat.zero_le _)
  have hPE := fun W => passEmpty_any s 0 (by omega) (Nat.zero_le _) W
  obtain ⟨k0, hk0⟩ : ∃ k, passE s 0 = k := ⟨_, rfl⟩
  rw [hk0] at hRL hp0 hPE
  have HR := Lib.hid hRL
  have HPE0 := Lib.hid (show ∀ W, _ from hPE)
  have HPE := Lib.hid (fun j W (hj : j ≤ s.size) => passEmpty_any s j (by omega) hj W)
  have HRd := Lib.hid (fun j W (hj : j < s.size) => read_call hPC hs j hj W)
  have hss : (s.size : Int) ≤ 1000000 := by omega
  clear hRL hk0 hPE hPC
  go_enter Tryz.func41, Tryz.ntmps41
  go_wp2_with fail
  go_at_call 66
  refine (HPE0.out _).mono ?_
  rintro e w1 ⟨rfl, hb1⟩
  have HB1 := Lib.hid hb1
  clear hb1
  go_wp2
  go_loopw [3, 4] (fun t3 t4 wr => ∃ (acc : List EN) (k : Nat) (A : Option Addr) (c : Nat), t3 = .slice A acc.length c ∧ t4 = .int .i64 k ∧ k ≤ s.size ∧ acc.length ≤ k ∧ Hid (parseGo s acc k = RL) ∧ Hid (Below w.heap.size w wr) ∧ Hid (OwnN w.heap.size wr (.slice A acc.length c) acc)) (fun _ t4 _ => s.size - (intOf t4).toNat)
  case atStart => exact ⟨[], k0, none, 0, rfl, rfl, hp0.2, Nat.zero_le _, HR, HB1, OwnN.nil _ _⟩
  case round =>
    obtain ⟨acc, k, A, c, rfl, rfl, hk, hac, HG, HBel, HO⟩ := hrel
    have hk1 : (k : Int) ≤ 1000000 := by omega
    have hacI : (acc.length : Int) ≤ 1000000 := by omega
    by_cases hlt : k < s.size
    · have d1 : decide ((k : Int) < (s.size : Int)) = true := decide_eq_true (by omega)
      have d2 : (k : Int) < (s.size : Int) := by omega
      have hr := fun W => HRd.out k W hlt
      obtain ⟨g1, g2, g3⟩ := parseGo_step s acc k hlt
      have hpos := read_pos hlt
      have hpe := fun W => HPE.out (readS s k).tu W hpos.2.1
      obtain ⟨x, hx⟩ : ∃ x, readS s k = x := ⟨_, rfl⟩
      rw [hx] at hr g1 g2 g3 hpe hpos
      obtain ⟨nx, hnx⟩ : ∃ n, passE s x.tu = n := ⟨_, rfl⟩
      rw [hnx] at g1 g2 g3 hpe
      have HRk := Lib.hid hr
      have HPk := Lib.hid hpe
      have HG1 := Lib.hid (g1.symm.trans HG.out)
      obtain ⟨hp1, hp2, hp3⟩ := hpos
      clear hp3
      clear hr g1 hpe hx hnx
      go_wp2_with fail
      go_at_call 67
      refine (HRk.out _).mono ?_
      rintro e w2 ⟨hb2, v, rfl, A', c', B', d', rfl, hp, hq⟩
      have HB2 := Lib.hid (HBel.out.trans (hb2.mono HBel.out.size))
      have HO2 := Lib.hid (HO.out.below hb2)
      have HPt := Lib.hid hp
      have HQt := Lib.hid hq
      have hs2 := hb2.size
      have hs0 := HBel.out.size
      clear hb2 hp hq
      obtain ⟨xs6, ho6, hz6⟩ := HO2.out
      obtain ⟨xs5, ho5, _⟩ := HO.out
      have Hv5 := Lib.hid (fun k e => ho5.lt k e)
      have HZ6 := Lib.hid hz6
      have hto : ((x.tu : Nat) : Int) ≤ 1000000 := by omega
      have hown1 := (ho6.alloc (.cells #[.int .i64 x.ty, .int .i64 x.lv, .string x.tx, .string x.nm, .slice A' x.val.length c', .slice B' x.ats.length d', .int .i64 x.fr, .int .i64 x.tu] 89)).alloc (.cells #[.int .i64 x.ty, .int .i64 x.lv, .string x.tx, .string x.nm, .slice A' x.val.length c', .slice B' x.ats.length d', .int .i64 x.fr, .int .i64 x.tu] 89)
      have hbox : BoxAt ((w2.alloc (.cells #[.int .i64 x.ty, .int .i64 x.lv, .string x.tx, .string x.nm, .slice A' x.val.length c', .slice B' x.ats.length d', .int .i64 x.fr, .int .i64 x.tu] 89)).alloc (.cells #[.int .i64 x.ty, .int .i64 x.lv, .string x.tx, .string x.nm, .slice A' x.val.length c', .slice B' x.ats.length d', .int .i64 x.fr, .int .i64 x.tu] 89)) w2.heap.size #[.int .i64 x.ty, .int .i64 x.lv, .string x.tx, .string x.nm, .slice A' x.val.length c', .slice B' x.ats.length d', .int .i64 x.fr, .int .i64 x.tu] 89 := (BoxAt.new _ _ _).alloc _
      have hnew : BoxAt ((w2.alloc (.cells #[.int .i64 x.ty, .int .i64 x.lv, .string x.tx, .string x.nm, .slice A' x.val.length c', .slice B' x.ats.length d', .int .i64 x.fr, .int .i64 x.tu] 89)).alloc (.cells #[.int .i64 x.ty, .int .i64 x.lv, .string x.tx, .string x.nm, .slice A' x.val.length c', .slice B' x.ats.length d', .int .i64 x.fr, .int .i64 x.tu] 89)) (w2.heap.size + 1) #[.int .i64 x.ty, .int .i64 x.lv, .string x.tx, .string x.nm, .slice A' x.val.length c', .slice B' x.ats.length d', .int .i64 x.fr, .int .i64 x.tu] 89 := BoxAt.new' _ _ _ _ (by simp)
      obtain ⟨r0, r1, r2, r3, r4, r5, r6, r7, f0, f1, f2, f3, f4, f5, f6, f7⟩ := cellsE (BoxAt.new w2 #[.int .i64 x.ty, .int .i64 x.lv, .string x.tx, .string x.nm, .slice A' x.val.length c', .slice B' x.ats.length d', .int .i64 x.fr, .int .i64 x.tu] 89)
      have Hbox := Lib.hid hbox
      have Hnew := Lib.hid hnew
      clear ho6 ho5 hz6 hbox hnew
      unfold entV
      go_wp2_with (at_builtin; refine wpList_append_where _ rfl _ _ 116 rfl w.heap.size 89 i0 (.agg #[.int .i64 0, .int .i64 0, .string ⟨#[]⟩, .string ⟨#[]⟩, .slice none 0 0, .slice none 0 0, .int .i64 0, .int .i64 0]) 8 112 Tryz.underlying116 hi0 hz0 hz1 hz2 rfl (by decide) _ _ _ rfl hown1 ⟨w2.heap.size + 1, 0, none⟩ 1 1 [.int .i64 x.ty, .int .i64 x.lv, .string x.tx, .string x.nm, .slice A' x.val.length c', .slice B' x.ats.length d', .int .i64 x.fr, .int .i64 x.tu] rfl rfl ?c1 ?c2 ?c3 ?c4 ?c5 ?c6 ?_)
      case c1 =>
        intro j u hj
        match j, hj with
        | 0, hj => simp at hj; subst hj; exact Hnew.out.cell 0
        | 1, hj => simp at hj; subst hj; exact Hnew.out.cell 1
        | 2, hj => simp at hj; subst hj; exact Hnew.out.cell 2
        | 3, hj => simp at hj; subst hj; exact Hnew.out.cell 3
        | 4, hj => simp at hj; subst hj; exact Hnew.out.cell 4
        | 5, hj => simp at hj; subst hj; exact Hnew.out.cell 5
        | 6, hj => simp at hj; subst hj; exact Hnew.out.cell 6
        | 7, hj => simp at hj; subst hj; exact Hnew.out.cell 7
      case c2 => intro u hu; simp at hu; rcases hu with rfl | rfl | rfl | rfl | rfl | rfl | rfl | rfl <;> rfl
      case c3 => unfold maxLen; omega
      case c4 => omega
      case c5 => simp; omega
      case c6 => decide
      intro v' w8 hown' hgrow hwh
      have K1 : Below w2.heap.size w2 ((w2.alloc (.cells #[.int .i64 x.ty, .int .i64 x.lv, .string x.tx, .string x.nm, .slice A' x.val.length c', .slice B' x.ats.length d', .int .i64 x.fr, .int .i64 x.tu] 89)).alloc (.cells #[.int .i64 x.ty, .int .i64 x.lv, .string x.tx, .string x.nm, .slice A' x.val.length c', .slice B' x.ats.length d', .int .i64 x.fr, .int .i64 x.tu] 89)) := ((Below.refl _ _).alloc (Nat.le_refl _) _).alloc (by simp) _
      generalize hW2 : ((w2.alloc (.cells #[.int .i64 x.ty, .int .i64 x.lv, .string x.tx, .string x.nm, .slice A' x.val.length c', .slice B' x.ats.length d', .int .i64 x.fr, .int .i64 x.tu] 89)).alloc (.cells #[.int .i64 x.ty, .int .i64 x.lv, .string x.tx, .string x.nm, .slice A' x.val.length c', .slice B' x.ats.length d', .int .i64 x.fr, .int .i64 x.tu] 89)) = W2 at *
      have hW2s : W2.heap.size = w2.heap.size + 2 := by rw [← hW2]; simp
      have hcar : ∀ b, Since wr.heap.size w2 b → OwnSet w.heap.size W2 (.slice A acc.length c) b ∧ W2.heap[b]? = w2.heap[b]? := fun b hb => ⟨⟨⟨by have := hb.1; omega, by have := hb.2; omega⟩, fun e => by have := Hv5.out b e.symm; have := hb.1; omega⟩, K1.block b hb.2⟩
      have HO8 := Lib.hid (OwnN.push K1 HZ6.out (HPt.out.carry hcar) (HQt.out.carry hcar) hown' hgrow (by simpa [hW2s] using hwh))
      have HB8 := Lib.hid ((HB2.out.trans (K1.mono (by omega))).grown hgrow (by omega) (fun k e => (Hv5.out k e).1))
      have hb8 : BoxAt w8 w2.heap.size #[.int .i64 x.ty, .int .i64 x.lv, .string x.tx, .string x.nm, .slice A' x.val.length c', .slice B' x.ats.length d', .int .i64 x.fr, .int .i64 x.tu] 89 := (hgrow.block w2.heap.size (by omega) (fun e => by have := (Hv5.out _ e.symm).2; omega)).trans Hbox.out
      obtain ⟨A3, c3, rfl⟩ := own_slice hown' (by omega)
      obtain ⟨q0, q1, q2, q3, q4, q5, q6, q7, p0, p1, p2, p3, p4, p5, p6, p7⟩ := cellsE hb8
      have hl8 := hb8.lt
      clear hown' hgrow hwh K1 hcar hb8 hW2 hW2s hown1 r0 r1 r2 r3 r4 r5 r6 r7 f0 f1 f2 f3 f4 f5 f6 f7
      go_wp2_with fail
      go_at_call 66
      refine (HPk.out _).mono ?_
      rintro e w9 ⟨rfl, hb9⟩
      have HB9 := Lib.hid (HB8.out.trans (hb9.mono HB8.out.size))
      have HO9 := Lib.hid (HO8.out.below hb9)
      clear hb9
      go_wp2
      go_roundw
      case rel =>
        refine ⟨acc ++ [x], nx, A3, c3, ?_, rfl, g3, ?_, HG1, HB9, ?_⟩
        · show Value.slice A3 _ c3 = _
          simp
        · rw [List.length_append, List.length_singleton]; omega
        · rw [List.length_append, List.length_singleton]
          exact HO9
      case measure => simp [intOf]; omega
    · have d1 : decide ((k : Int) < (s.size : Int)) = false := decide_eq_false (by omega)
      have d2 : ¬ (k : Int) < (s.size : Int) := by omega
      have hR := HG.out
      rw [parseGo_end s acc k hlt] at hR
      subst hR
      go_wp2
      go_ret
      obtain ⟨A2, c2, e2, hl⟩ := HO.out.list
      cases e2
      exact ⟨HBel.out, A, c, rfl, hl⟩
end Go.Proofs.YtpgiboblonlddaaGreatDoor

namespace Go.Proofs.YtpgiboblonlddaaGreatDoor
open Go.RowKit
set_option linter.unusedVariables false
set_option linter.unusedSimpArgs false
theorem NsF.get {W : World} {F : Nat → Prop} : ∀ {l : List EN} {b o : Nat} (j : Nat) {x : EN}, NsF W F l b o → l[j]? = some x →
    F b ∧ (∃ (A : Option Addr) (c : Nat) (B : Option Addr) (d : Nat), W.cell? ⟨b, o + j * 8, none⟩ = some (.int .i64 x.ty) ∧ W.cell? ⟨b, o + j * 8 + 1, none⟩ = some (.int .i64 x.lv) ∧ W.cell? ⟨b, o + j * 8 + 2, none⟩ = some (.string x.tx) ∧ W.cell? ⟨b, o + j * 8 + 3, none⟩ = some (.string x.nm) ∧
      W.cell? ⟨b, o + j * 8 + 4, none⟩ = some (.slice A x.val.length c) ∧ W.cell? ⟨b, o + j * 8 + 5, none⟩ = some (.slice B x.ats.length d) ∧ W.cell? ⟨b, o + j * 8 + 6, none⟩ = some (.int .i64 x.fr) ∧ W.cell? ⟨b, o + j * 8 + 7, none⟩ = some (.int .i64 x.tu) ∧
      PatF W F x.val (.slice A x.val.length c) ∧ AtsF W F x.ats (.slice B x.ats.length d))
  | [], b, o, j, x, h, hj => by simp at hj
  | y :: r, b, o, 0, x, h, hj => by
    rw [NsF] at h
    simp at hj
    subst hj
    rw [Nat.zero_mul]
    exact ⟨h.1, h.2.1⟩
  | y :: r, b, o, j + 1, x, h, hj => by
    rw [NsF] at h
    have := NsF.get j h.2.2 (by simpa using hj)
    rw [show o + (j + 1) * 8 = o + 8 + j * 8 by omega]
    exact this
theorem list_at {W : World} {F : Nat → Prop} {l : List EN} {A : Option Addr} {c : Nat} (h : ListF W F l (.slice A l.length c)) (h0 : 0 < l.length) : ∃ b o, A = some ⟨b, o, none⟩ ∧ NsF W F l b o := by
  obtain ⟨A', c', e, _, _, h2⟩ := h
  simp only [Value.slice.injEq] at e
  obtain ⟨rfl, _, rfl⟩ := e
  exact h2 h0
end Go.Proofs.YtpgiboblonlddaaGreatDoor

namespace Go.Proofs.YtpgiboblonlddaaGreatDoor
open Go.RowKit
set_option linter.unusedVariables false
set_option linter.unusedSimpArgs false
theorem isAt_prefix2 (s : ByteArray) (i : Nat) (c d : UInt8) (hi : i ≤ s.size) : Lib.hasPrefix (s.extract i s.size).data.toList [c, d] = (isAt s i c && isAt s (i + 1) d) := by
  rw [extract_drop]
  unfold isAt
  by_cases h : i < s.size
  · have hl : i < s.data.toList.length := by rw [size_data]; exact h
    rw [List.drop_eq_getElem_cons hl, decide_eq_true h, Bool.true_and, at0_get _ _ hl]
    unfold Lib.hasPrefix
    rw [List.isPrefixOf]
    by_cases h2 : i + 1 < s.size
    · have hl2 : i + 1 < s.data.toList.length := by rw [size_data]; exact h2
      rw [List.drop_eq_getElem_cons hl2, decide_eq_true h2, Bool.true_and, at0_get _ _ hl2, List.isPrefixOf, List.isPrefixOf, Bool.and_true]
      rw [Bool.eq_iff_iff, Bool.and_eq_true, Bool.and_eq_true, beq_iff_eq, beq_iff_eq, beq_iff_eq, beq_iff_eq]
      exact ⟨fun ⟨a, b⟩ => ⟨a.symm, b.symm⟩, fun ⟨a, b⟩ => ⟨a.symm, b.symm⟩⟩
    · rw [List.drop_eq_nil_of_le (by rw [size_data]; omega), decide_eq_false h2]
      simp [List.isPrefixOf]
  · rw [List.drop_eq_nil_of_le (by rw [size_data]; omega), decide_eq_false h]
    rfl
set_option maxHeartbeats 2000000 in
set_option maxRecDepth 100000 in
theorem take2_any {rb : Nat} {s : ByteArray} {i : Nat} (c d : UInt8) (w : World) (hr : Rd rb s i w) (hs : s.size ≤ 4000000) (hi : i ≤ s.size) :
    Calls Tryz.prog 253 #[pt rb, .string ⟨#[c, d]⟩] w fun e w' => e = .returned (.bool (isAt s i c && isAt s (i + 1) d)) ∧ Rd rb s (if isAt s i c && isAt s (i + 1) d then i + 2 else i) w' ∧ Kp rb w w' := by
  have hx := isAt_prefix2 s i c d hi
  have hp := fun W => Tryz.strings_HasPrefix (s.extract i s.size) ⟨#[c, d]⟩ W
  rw [hx] at hp
  obtain ⟨b, hb⟩ : ∃ b, (isAt s i c && isAt s (i + 1) d) = b := ⟨_, rfl⟩
  have Hb := Lib.hid hb
  rw [hb] at hp ⊢
  have HP := Lib.hid hp
  have c0 := hr.c0
  have c1 := hr.c1
  have f0 := hr.f 0
  have f1 := hr.f 1
  have hlt := hr.lt
  have HR := Lib.hid hr
  have hi0 : (i : Int) ≤ 4000000 := by omega
  have hjs : (i : Int) ≤ (s.size : Int) := by omega
  have hss : (s.size : Int) ≤ 4000000 := by omega
  have hi1 : (0 : Int) ≤ (i : Int) := by omega
  clear hx hp hb hr
  unfold pt
  go_enter Tryz.func253, Tryz.ntmps253
  go_wp2_with fail
  go_region_held3 (fun w' => w'.cell? ⟨rb, 0, none⟩ = some (.string s) ∧ w'.cell? ⟨rb, 1, none⟩ = some (.int .i64 (i : Nat)) ∧ rb + 1 ≤ w'.heap.size ∧ Rd rb s i w' ∧ Kp rb w w')
    (first | (exact rds_later (by assumption) (by assumption)) | (exact rds_of HR.out.drew (Kp.refl _ _).drew) | go_keep)
    (first | (go_at_call 127; refine (HP.out _).mono ?_; rintro e w' ⟨rfl, rfl⟩))
  have d1 : w.drew.cell? ⟨rb, 1, none⟩ = some (.int .i64 (i : Nat)) := c1
  have g1 : w.drew.frozen? ⟨rb, 1, none⟩ = false := f1
  cases b
  · go_wp2
    go_ret
    exact ⟨rfl, HR.out.drew, (Kp.refl _ _).drew⟩
  · go_wp2
    go_ret
    exact ⟨rfl, HR.out.drew.set' (by omega), (Kp.refl _ _).drew.setCell 1 _⟩
def plS (P : Nat → Res) (s : ByteArray) (i : Nat) : Res :=
  if isAt s i 123 then
    match inlS P s (bl s (i + 1)) with
    | none => none
    | some (e, j) =>
      if isAt s (bl s j) 125 then (if termAttr e then none else some (e, bl s j + 1))
      else if isAt s (bl s j) 45 && isAt s (bl s j + 1) 62 && mayAsk e then
        match selS P s (bl s j + 2) with
        | none => none
        | some (vs, m) => some (.mk 7 E0 E0 E0 [] (some e) vs, m)
      else none
  else none
theorem placeS_succ (s : ByteArray) (r : Nat) : placeS s (r + 1) = plS (placeS s r) s := by
  funext i
  rw [placeS, plS]
  rfl
def VsTo (rb : Nat) (s : ByteArray) (d : Nat) (Q : Nat → Option (List VA × Nat)) : Prop := ∀ (i : Nat) (w : World), Rd rb s i w → i ≤ s.size → Calls Tryz.prog 257 #[pt rb, .int .i64 d] w (GotVs rb s w (Q i))
set_option maxHeartbeats 2000000 in
set_option maxRecDepth 100000 in
theorem place_deep {rb : Nat} {s : ByteArray} {d : Nat} (hd : 20 < d) (hd2 : d ≤ 4000) : WayTo rb s 241 #[pt rb, .int .i64 d] (fun _ => none) := by
  intro i w hr hi
  have HR := Lib.hid hr
  have hlt := hr.lt
  have hd0 : decide ((d : Int) > 20) = true := decide_eq_true (by omega)
  have hd1 : decide ((20 : Int) < d) = true := decide_eq_true (by omega)
  have hd3 : (20 : Int) < d := by omega
  clear hr
  unfold pt
  go_enter Tryz.func241, Tryz.ntmps241
  have hc := BoxAt.new w zE 257
  have hcl := hc.lt
  have HC := Lib.hid hc
  obtain ⟨q0, q1, q2, q3, q4, q5, q6, p0, p1, p2, p3, p4, p5, p6⟩ := cells7 hc
  go_wp2
  exact end7w Tryz.results241 HC.out rfl rfl rfl (got_end ((Kp.refl rb w).alloc (Nat.le_of_lt hlt) _) (HR.out.alloc _) hi rfl (fun x m h => by cases h))
set_option maxHeartbeats 2000000 in
set_option maxRecDepth 100000 in
theorem termsAttr_at (k : Int) (t n a : ByteArray) (A1 : Option Addr) (n1 c1 : Nat) (p : Option Addr) (A2 : Option Addr) (n2 c2 : Nat) (w : World) :
    Calls Tryz.prog 255 #[exV k t n a A1 n1 c1 p A2 n2 c2] w fun e w' => e = .returned (.bool ((k == 4) && !emp a)) ∧ w' = w.alloc (.cells #[.int .i64 k, .string t, .string n, .string a, .slice A1 n1 c1, .pointer p, .slice A2 n2 c2] 257) := by
  unfold exV emp
  cases hz : (k == 4)
  case false =>
    go_enter Tryz.func255, Tryz.ntmps255
    go_wp2
    go_ret
    exact ⟨ret_bool (by rfl), rfl⟩
  cases hg : a.toList.isEmpty
  all_goals
    go_enter Tryz.func255, Tryz.ntmps255
    go_wp2
    go_ret
    exact ⟨ret_bool (by rfl), rfl⟩
theorem since_set7 {w : World} {c b : Nat} {x0 x1 x2 x3 x4 x5 x6 : Value} (o : Obj) (h : b < (set7 w c x0 x1 x2 x3 x4 x5 x6).heap.size) : b < ((set7 w c x0 x1 x2 x3 x4 x5 x6).alloc o).drew.heap.size := by
  show b < ((set7 w c x0 x1 x2 x3 x4 x5 x6).alloc o).heap.size
  rw [World.size_alloc]
  exact Nat.lt_succ_of_lt h
theorem heap_set7 {w : World} {c b : Nat} {x0 x1 x2 x3 x4 x5 x6 : Value} (o : Obj) (hc : b ≠ c) (h : b < (set7 w c x0 x1 x2 x3 x4 x5 x6).heap.size) : ((set7 w c x0 x1 x2 x3 x4 x5 x6).alloc o).drew.heap[b]? = w.heap[b]? :=
  (Lib.alloc_old (set7 w c x0 x1 x2 x3 x4 x5 x6) o b h).trans (set7_heap _ _ _ _ _ _ _ _ _ b hc)
theorem setCell7_size (w : World) (b : Nat) (x0 x1 x2 x3 x4 x5 x6 : Value) : (((((((w.setCell ⟨b, 0, none⟩ x0).setCell ⟨b, 1, none⟩ x1).setCell ⟨b, 2, none⟩ x2).setCell ⟨b, 3, none⟩ x3).setCell ⟨b, 4, none⟩ x4).setCell ⟨b, 5, none⟩ x5).setCell ⟨b, 6, none⟩ x6).heap.size = w.heap.size := set7_size w b x0 x1 x2 x3 x4 x5 x6
theorem setCell7_heap (w : World) (b : Nat) (x0 x1 x2 x3 x4 x5 x6 : Value) (k : Nat) (hk : k ≠ b) : (((((((w.setCell ⟨b, 0, none⟩ x0).setCell ⟨b, 1, none⟩ x1).setCell ⟨b, 2, none⟩ x2).setCell ⟨b, 3, none⟩ x3).setCell ⟨b, 4, none⟩ x4).setCell ⟨b, 5, none⟩ x5).setCell ⟨b, 6, none⟩ x6).heap[k]? = w.heap[k]? := set7_heap w b x0 x1 x2 x3 x4 x5 x6 k hk
theorem exF_fields {W : World} {F : Nat → Prop} {x : EX} {k : Int} {t n a : ByteArray} {al i vs : Value} (h : ExF W F x ⟨.int .i64 k, .string t, .string n, .string a, al, i, vs⟩) :
    termAttr x = ((k == 4) && !emp a) ∧ mayAsk x = (decide (k = 0 ∨ k = 1 ∨ k = 2 ∨ k = 5) || ((k == 4) && !emp a)) := by
  obtain ⟨k', t', n', a', al', i', vs'⟩ := x
  rw [ExF] at h
  obtain ⟨h1, h2, h3, h4, _⟩ := h
  cases h1
  cases h4
  exact ⟨rfl, rfl⟩
theorem exF_sel {W : World} {F : Nat → Prop} {x : EX} {vs : List VA} {b : Nat} {c : C7} {v : Value} (hb : F b) (hc : CellsAt W b 0 c) (hx : ExF W F x c) (hv : LieAt (VsF W F vs) v vs.length) :
    ExF W F (.mk 7 E0 E0 E0 [] (some x) vs) ⟨.int .i64 7, .string E0, .string E0, .string E0, .slice none 0 0, .pointer (some ⟨b, 0, none⟩), v⟩ := by
  rw [ExF]
  refine ⟨rfl, rfl, rfl, rfl, LieN.nil _, ?_, hv⟩
  simp only [OF]
  exact ⟨b, 0, c, rfl, hb, hc, hx⟩
set_option maxHeartbeats 2000000 in
set_option maxRecDepth 100000 in
theorem place_any {rb : Nat} {s : ByteArray} {d : Nat} {P : Nat → Res} (hs : s.size ≤ 1000000) (hd : d ≤ 20) (hIn : WayTo rb s 254 #[pt rb, .int .i64 d] (inlS P s)) (hVs : VsTo rb s d (selS P s)) :
    WayTo rb s 241 #[pt rb, .int .i64 d] (plS P s) := by
  intro i w hr hi
  have HR := Lib.hid hr
  have hlt := hr.lt
  have hd0 : decide ((20 : Int) < d) = false := decide_eq_false (by omega)
  have hd1 : ¬ (20 : Int) < d := by omega
  obtain ⟨R, hRR⟩ : ∃ R, plS P s i = R := ⟨_, rfl⟩
  rw [hRR]
  unfold plS at hRR
  have hT1 := fun W (h : Rd rb s i W) => take_any 123 W h (by omega) hi
  obtain ⟨b1, hb1⟩ : ∃ b, isAt s i 123 = b := ⟨_, rfl⟩
  have hi1 : b1 = true → i + 1 ≤ s.size := fun h => isAt_lt (hb1.trans h)
  rw [hb1] at hT1 hRR
  have HT1 := Lib.hid hT1
  have HIn := Lib.hid hIn
  have HVs := Lib.hid hVs
  have HPb := Lib.hid (fun j W (h : Rd rb s j W) hj => pass_any endBlank W h (show s.size ≤ 4000000 by omega) hj)
  have HTb := Lib.hid (fun j W (h : Rd rb s j W) hj => take_any 125 W h (show s.size ≤ 4000000 by omega) hj)
  have HTa := Lib.hid (fun j W (h : Rd rb s j W) hj => take2_any 45 62 W h (show s.size ≤ 4000000 by omega) hj)
  clear hr hT1 hb1 hIn hVs
  unfold pt at HT1 HPb HTb HTa HVs HIn ⊢
  have hc0 := BoxAt.new w zE 257
  have K0 : Kp rb w (w.alloc (.cells zE 257)) := (Kp.refl rb w).alloc (Nat.le_of_lt hlt) _
  have HK0 := Lib.hid K0
  have HC0 := Lib.hid hc0
  clear hc0 K0
  cases b1
  case false =>
    rw [if_neg (by simp)] at hRR
    subst hRR
    go_enter Tryz.func241, Tryz.ntmps241
    go_wp2_with fail
    go_at_call 253
    refine (HT1.out _ (HR.out.alloc _)).mono ?_
    rintro e w1 ⟨rfl, g1, g2⟩
    have G1 := Lib.hid (show Rd rb s i w1 by simpa using g1)
    have HK := Lib.hid (HK0.out.trans g2)
    have hc := BoxAt.kp HC0.out g2 (by omega)
    have hcl := hc.lt
    have HC := Lib.hid hc
    obtain ⟨q0, q1, q2, q3, q4, q5, q6, p0, p1, p2, p3, p4, p5, p6⟩ := cells7 hc
    clear g1 g2 hc
    go_wp2
    exact end7w Tryz.results241 (box_set7 HC.out _ _ _ _ _ _ _) rfl rfl rfl (got_end (HK.out.set7 (Nat.le_refl _) hlt _ _ _ _ _ _ _) (G1.out.set7 (by omega) _ _ _ _ _ _ _) hi rfl (fun x m h => by cases h))
  have hi2 := hi1 rfl
  rw [if_pos rfl] at hRR
  have hB := bl_ok s (i + 1) hi2
  have hP1 := fun W h => HPb.out (i + 1) W h hi2
  obtain ⟨q, hq⟩ : ∃ q, bl s (i + 1) = q := ⟨_, rfl⟩
  rw [hq] at hB hRR
  have hP2 : ∀ W, Rd rb s (i + 1) W → Calls Tryz.prog 218 #[.pointer (some ⟨rb, 0, none⟩), .func (.func 196) #[] #[]] W fun e w' => e = .returned (.string (s.extract (i + 1) q)) ∧ Rd rb s q w' ∧ Kp rb W w' := by
    rw [← hq]; exact hP1
  have HP1 := Lib.hid hP2
  have hI := fun W h => HIn.out q W h hB.2
  obtain ⟨r, hrr⟩ : ∃ r, inlS P s q = r := ⟨_, rfl⟩
  rw [hrr] at hI hRR
  have HI := Lib.hid hI
  have HRR := Lib.hid hRR
  clear hi1 hP1 hP2 hI hrr hRR hq HIn
  go_enter Tryz.func241, Tryz.ntmps241
  go_wp2_with fail
  go_at_call 253
  refine (HT1.out _ (HR.out.alloc _)).mono ?_
  rintro e w1 ⟨rfl, g1, g2⟩
  have G1 := Lib.hid (show Rd rb s (i + 1) w1 by simpa using g1)
  have HK1 := Lib.hid (show Kp rb (w.alloc (.cells zE 257)) w1 from g2)
  clear g1 g2
  go_wp2_with fail
  go_at_call 218
  refine (HP1.out _ G1.out).mono ?_
  rintro e w2 ⟨rfl, g1, g2⟩
  have G2 := Lib.hid g1
  have HK2 := Lib.hid (HK1.out.trans g2)
  have hs20 := HK2.out.size
  rw [World.size_alloc] at hs20
  clear g1 g2
  go_wp2_with fail
  go_at_call 254
  refine (HI.out _ G2.out).mono ?_
  rintro e w3 ⟨h1, k, t, n, a, A1, n1, c1, p, A2, n2, c2, j, rfl, h2, hj, h3⟩
  have hs3 := h1.size
  have HK3 := Lib.hid (HK2.out.trans h1)
  have H2 := Lib.hid h2
  have H3 := Lib.hid h3
  have hl3 := h2.lt
  have hs30 := HK3.out.size
  rw [World.size_alloc] at hs30
  clear h1 h2 h3
  unfold exV
  cases r with
  | none =>
    have hR := HRR.out
    dsimp only at hR
    subst hR
    have hc := BoxAt.kp HC0.out HK3.out (by omega)
    have hcl := hc.lt
    have HC := Lib.hid hc
    obtain ⟨q0, q1, q2, q3, q4, q5, q6, p0, p1, p2, p3, p4, p5, p6⟩ := cells7 hc
    have HKE := Lib.hid (HK0.out.trans HK3.out)
    clear hc HPb HTb HTa HVs HP1 HT1 HI HK0 HK1 HK2 HK3 G1 G2 H3 HRR
    go_wp2
    exact end7w Tryz.results241 ((box_set7 HC.out _ _ _ _ _ _ _).alloc _) rfl rfl rfl (got_end ((HKE.out.set7 (Nat.le_refl _) hlt _ _ _ _ _ _ _).alloc (by rw [set7_size]; omega) _) ((H2.out.set7 (by omega) _ _ _ _ _ _ _).alloc _) hj rfl (fun x m h => by cases h))
  | some em =>
    obtain ⟨e, j'⟩ := em
    obtain ⟨rfl, hx⟩ := H3.out e j' rfl
    have hR := HRR.out
    dsimp only at hR
    obtain ⟨hf1, hf2⟩ := exF_fields hx
    rw [hf1, hf2] at hR
    have HX := Lib.hid hx
    have hB4 := bl_ok s j' hj
    have hP4 := fun W h => HPb.out j' W h hj
    obtain ⟨q4, hq4⟩ : ∃ q, bl s j' = q := ⟨_, rfl⟩
    have hP4' : ∀ W, Rd rb s j' W → Calls Tryz.prog 218 #[.pointer (some ⟨rb, 0, none⟩), .func (.func 196) #[] #[]] W fun e w' => e = .returned (.string (s.extract j' q4)) ∧ Rd rb s q4 w' ∧ Kp rb W w' := by
      rw [← hq4]; exact hP4
    rw [hq4] at hB4 hR
    have hT4 := fun W h => HTb.out q4 W h hB4.2
    obtain ⟨b4, hb4⟩ : ∃ b, isAt s q4 125 = b := ⟨_, rfl⟩
    have hi4 : b4 = true → q4 + 1 ≤ s.size := fun h => isAt_lt (hb4.trans h)
    rw [hb4] at hT4 hR
    have HP4 := Lib.hid hP4'
    have HT4 := Lib.hid hT4
    have Hi4 := Lib.hid hi4
    have HR4 := Lib.hid hR
    have HEb := Lib.hid (BoxAt.new w3 #[.int .i64 k, .string t, .string n, .string a, .slice A1 n1 c1, .pointer p, .slice A2 n2 c2] 257)
    have KE : Kp rb w3 (w3.alloc (.cells #[.int .i64 k, .string t, .string n, .string a, .slice A1 n1 c1, .pointer p, .slice A2 n2 c2] 257)) := (Kp.refl rb w3).alloc (Nat.le_of_lt hl3) _
    have HKe := Lib.hid (HK3.out.trans KE)
    have HKE := Lib.hid KE
    clear hx hR hf1 hf2 hP4 hP4' hq4 hT4 hb4 hi4 HRR HPb HTb HT1 HP1 HI KE
    go_wp2_with fail
    go_at_call 218
    refine (HP4.out _ (H2.out.alloc _)).mono ?_
    rintro e4 w4 ⟨rfl, g1, g2⟩
    have G4 := Lib.hid g1
    have HK4 := Lib.hid g2
    clear g1 g2
    go_wp2_with fail
    go_at_call 253
    refine (HT4.out _ G4.out).mono ?_
    rintro e5 w5 ⟨rfl, g1, g2⟩
    have G5 := Lib.hid g1
    have K5 := HK4.out.trans g2
    have HK5 := Lib.hid K5
    have hK := HKe.out.trans K5
    have hKw := HK0.out.trans hK
    have he5 := BoxAt.kp HEb.out K5 (by omega)
    have hc5 := BoxAt.kp HC0.out hK (by omega)
    have hel := he5.lt
    have hcl := hc5.lt
    have HC5 := Lib.hid hc5
    have HE5 := Lib.hid he5
    have HKw := Lib.hid hKw
    have Hs5 := Lib.hid (HKE.out.trans K5)
    clear g1 g2 K5 hK hKw HK4 HKe HT4 HP4
    obtain ⟨T, hT⟩ : ∃ T, ((k == 4) && !emp a) = T := ⟨_, rfl⟩
    have HTm := Lib.hid (fun W => termsAttr_at k t n a A1 n1 c1 p A2 n2 c2 W)
    have HMm := Lib.hid (fun W => mayAsk_any k t n a A1 n1 c1 p A2 n2 c2 W)
    rw [hT] at HTm HMm HR4
    obtain ⟨M, hM⟩ : ∃ M, (decide (k = 0 ∨ k = 1 ∨ k = 2 ∨ k = 5) || T) = M := ⟨_, rfl⟩
    rw [hM] at HMm HR4
    clear hT hM
    unfold exV at HTm HMm
    obtain ⟨u0, u1, u2, u3, u4, u5, u6, v0, v1, v2, v3, v4, v5, v6⟩ := cells7 he5
    cases b4
    case true =>
      have hR := HR4.out
      rw [if_pos rfl] at hR
      have Hm := Lib.hid (Hi4.out rfl)
      have HR5 := Lib.hid hR
      clear hR HMm he5 hc5 HTa HVs
      obtain ⟨q0, q1, q2, q3, q4', q5, q6, p0, p1, p2, p3, p4, p5, p6⟩ := cells7 HC5.out
      have hne : w.heap.size ≠ w3.heap.size := by omega
      have hne2 : w3.heap.size ≠ w.heap.size := by omega
      go_wp2_with fail
      go_region_held3 (fun w' => w'.cell? ⟨w3.heap.size, 0, none⟩ = some (.int .i64 k) ∧ w'.cell? ⟨w3.heap.size, 1, none⟩ = some (.string t) ∧ w'.cell? ⟨w3.heap.size, 2, none⟩ = some (.string n) ∧ w'.cell? ⟨w3.heap.size, 3, none⟩ = some (.string a) ∧ w'.cell? ⟨w3.heap.size, 4, none⟩ = some (.slice A1 n1 c1) ∧ w'.cell? ⟨w3.heap.size, 5, none⟩ = some (.pointer p) ∧ w'.cell? ⟨w3.heap.size, 6, none⟩ = some (.slice A2 n2 c2))
        (first | go_keep)
        (first | (go_at_call 255; refine (HTm.out _).mono ?_; rintro e w' ⟨rfl, rfl⟩))
      have hl5 := G5.out.lt
      have G5c := Lib.hid (show Rd rb s (q4 + 1) w5 by simpa using G5.out)
      clear q0 q1 q2 q3 q4' q5 q6 p0 p1 p2 p3 p4 p5 p6 u0 u1 u2 u3 u4 u5 u6 v0 v1 v2 v3 v4 v5 v6
      go_wp2
      have hR := HR5.out
      subst hR
      refine end7w Tryz.results241 ((box_set7 HC5.out _ _ _ _ _ _ _).alloc _).drew rfl rfl rfl (got_end (((HKw.out.set7 (Nat.le_refl _) hlt _ _ _ _ _ _ _).alloc (by rw [set7_size]; omega) _).drew) (((G5c.out.set7 (by omega) _ _ _ _ _ _ _).alloc _).drew) Hm.out (by cases T <;> rfl) (fun x m h => ?_))
      cases T with
      | true => cases h
      | false =>
        cases h
        refine ⟨rfl, ExF.carry (fun b hb => ?_) _ _ HX.out⟩
        obtain ⟨hb1, hb2⟩ := hb
        have hb3 := Hs5.out.others b hb2 (by omega)
        have hb5 := Hs5.out.size
        have hb4 : b < (set7 w5 w.heap.size (.int .i64 k) (.string t) (.string n) (.string a) (.slice A1 n1 c1) (.pointer p) (.slice A2 n2 c2)).heap.size := by rw [set7_size]; omega
        exact ⟨⟨by omega, since_set7 _ hb4⟩, (heap_set7 _ (by omega) hb4).trans hb3⟩
    case false =>
      have hR := HR4.out
      rw [if_neg (by simp)] at hR
      have G5b := Lib.hid (show Rd rb s q4 w5 by simpa using G5.out)
      have hT5 := fun W h => HTa.out q4 W h hB4.2
      obtain ⟨b5, hb5⟩ : ∃ b, (isAt s q4 45 && isAt s (q4 + 1) 62) = b := ⟨_, rfl⟩
      have hi5 : b5 = true → q4 + 2 ≤ s.size := fun h => by rw [← hb5, Bool.and_eq_true] at h; have := isAt_lt h.2; omega
      rw [hb5] at hT5 hR
      have HT5 := Lib.hid hT5
      have Hi5 := Lib.hid hi5
      have HR5 := Lib.hid hR
      clear hT5 hb5 hi5 hR HTa HTm
      cases b5
      case false =>
        have hR := HR5.out
        rw [Bool.false_and, if_neg (by simp)] at hR
        subst hR
        go_wp2_with fail
        go_at_call 253
        refine (HT5.out _ G5b.out).mono ?_
        rintro e6 w6 ⟨rfl, g1, g2⟩
        have G6 := Lib.hid (show Rd rb s q4 w6 by simpa using g1)
        have hc6 := BoxAt.kp HC5.out g2 (by omega)
        have hcl6 := hc6.lt
        have HK6 := Lib.hid (HKw.out.trans g2)
        have HC6 := Lib.hid hc6
        obtain ⟨q0, q1, q2, q3, q4', q5, q6, p0, p1, p2, p3, p4, p5, p6⟩ := cells7 hc6
        clear g1 g2 hc6
        go_wp2
        exact end7w Tryz.results241 (box_set7 HC6.out _ _ _ _ _ _ _) rfl rfl rfl (got_end (HK6.out.set7 (Nat.le_refl _) hlt _ _ _ _ _ _ _) (G6.out.set7 (by omega) _ _ _ _ _ _ _) hB4.2 rfl (fun x m h => by cases h))
      have hR := HR5.out
      rw [Bool.true_and] at hR
      have hm2 := Hi5.out rfl
      have HR6 := Lib.hid hR
      clear hR
      go_wp2_with fail
      go_at_call 253
      refine (HT5.out _ G5b.out).mono ?_
      rintro e6 w6 ⟨rfl, g1, g2⟩
      have G6 := Lib.hid (show Rd rb s (q4 + 2) w6 by simpa using g1)
      have hc6 := BoxAt.kp HC5.out g2 (by omega)
      have he6 := BoxAt.kp HE5.out g2 (by omega)
      have hcl6 := hc6.lt
      have hel6 := he6.lt
      have HK6 := Lib.hid (HKw.out.trans g2)
      have Hs6 := Lib.hid (Hs5.out.trans g2)
      have HC6 := Lib.hid hc6
      have HE6 := Lib.hid he6
      clear u0 u1 u2 u3 u4 u5 u6 v0 v1 v2 v3 v4 v5 v6
      obtain ⟨u0, u1, u2, u3, u4, u5, u6, v0, v1, v2, v3, v4, v5, v6⟩ := cells7 he6
      clear g1 g2 hc6 he6
      go_wp2_with fail
      go_at_call 256
      refine (HMm.out _).mono ?_
      rintro e7 w7 ⟨rfl, hb7⟩
      have hc7 := HC6.out.later hb7
      have he7 := HE6.out.later hb7
      have hcl7 := hc7.lt
      have hel7 := he7.lt
      have G7 := Lib.hid (G6.out.later hb7)
      have HK7 := Lib.hid (HK6.out.trans (Kp.of_below hb7 (by omega)))
      have Hs7 := Lib.hid (Hs6.out.trans (Kp.of_below hb7 (by omega)))
      have HC7 := Lib.hid hc7
      have HE7 := Lib.hid he7
      clear hb7 u0 u1 u2 u3 u4 u5 u6 v0 v1 v2 v3 v4 v5 v6
      cases M
      case false =>
        have hR := HR6.out
        rw [if_neg (by simp)] at hR
        subst hR
        obtain ⟨q0, q1, q2, q3, q4', q5, q6, p0, p1, p2, p3, p4, p5, p6⟩ := cells7 hc7
        clear hc7 he7
        go_wp2
        exact end7w Tryz.results241 (box_set7 HC7.out _ _ _ _ _ _ _) rfl rfl rfl (got_end (HK7.out.set7 (Nat.le_refl _) hlt _ _ _ _ _ _ _) (G7.out.set7 (by omega) _ _ _ _ _ _ _) hm2 rfl (fun x m h => by cases h))
      have hR := HR6.out
      rw [if_pos rfl] at hR
      have hV := fun W h => HVs.out (q4 + 2) W h hm2
      obtain ⟨rv, hrv⟩ : ∃ r, selS P s (q4 + 2) = r := ⟨_, rfl⟩
      rw [hrv] at hV hR
      have HV := Lib.hid hV
      have HR7 := Lib.hid hR
      clear hc7 he7 hV hrv hR HVs
      unfold pt at HV
      go_wp2_with fail
      go_at_call 257
      refine (HV.out _ G7.out).mono ?_
      rintro e8 w8 ⟨g1, A8, n8, c8, j8, rfl, g2, hj8, g3⟩
      have hc8 := BoxAt.kp HC7.out g1 (by omega)
      have he8 := BoxAt.kp HE7.out g1 (by omega)
      have hcl8 := hc8.lt
      have hel8 := he8.lt
      have HK8 := Lib.hid (HK7.out.trans g1)
      have Hs8 := Lib.hid (Hs7.out.trans g1)
      have hs78 := Hs7.out.size
      have HC8 := Lib.hid hc8
      have HE8 := Lib.hid he8
      have G8 := Lib.hid g2
      have H8 := Lib.hid g3
      obtain ⟨q0, q1, q2, q3, q4', q5, q6, p0, p1, p2, p3, p4, p5, p6⟩ := cells7 hc8
      clear g1 g2 g3 hc8 he8
      go_wp2
      have hR := HR7.out
      refine end7w Tryz.results241 (box_set7 HC8.out _ _ _ _ _ _ _) rfl rfl rfl (got_end (HK8.out.set7 (Nat.le_refl _) hlt _ _ _ _ _ _ _) (G8.out.set7 (by omega) _ _ _ _ _ _ _) hj8 ?_ (fun x m h => ?_))
      · rw [← hR]
        cases rv with
        | none => rfl
        | some v => obtain ⟨vs, m⟩ := v; rfl
      · cases rv with
        | none => rw [← hR] at h; cases h
        | some v =>
          obtain ⟨vs, m'⟩ := v
          rw [← hR] at h
          cases h
          obtain ⟨h1, h2, h3⟩ := H8.out _ _ rfl
          have hs88 := Hs8.out.size
          refine ⟨h1, exF_sel (b := w3.heap.size) ⟨by omega, by rw [setCell7_size]; exact hel8⟩ (cells_box (t := 257) ((setCell7_heap _ _ _ _ _ _ _ _ _ w3.heap.size (by omega)).trans HE8.out)) (ExF.carry (fun b hb => ?_) _ _ HX.out) ?_⟩
          · obtain ⟨hb1, hb2⟩ := hb
            exact ⟨⟨by omega, by rw [setCell7_size]; omega⟩, (setCell7_heap _ _ _ _ _ _ _ _ _ b (by omega)).trans (Hs8.out.others b hb2 (by omega))⟩
          · rw [h2]
            refine h3.imp (fun b o => VsF.carry (fun b hb => ?_) _ _ _)
            obtain ⟨hb1, hb2⟩ := hb
            exact ⟨⟨by omega, by rw [setCell7_size]; exact hb2⟩, setCell7_heap _ _ _ _ _ _ _ _ _ b (by omega)⟩
end Go.Proofs.YtpgiboblonlddaaGreatDoor

namespace Go.Proofs.YtpgiboblonlddaaGreatDoor
open Go.RowKit
set_option linter.unusedVariables false
set_option linter.unusedSimpArgs false
abbrev PF := Nat → Option Res
def Sound (P' : PF) (P : Nat → Res) : Prop := ∀ i r, P' i = some r → P i = r
variable {P' : PF} {P : Nat → Res} {s : ByteArray}
def nestF (P' : PF) (i : Nat) : Option Res := match P' i with
  | none => none
  | some none => some none
  | some (some (e, j)) => some (some (.mk 6 E0 E0 E0 [] (some e) [], j))
theorem nestF_ok (hP : Sound P' P) {i : Nat} {r : Res} (h : nestF P' i = some r) : nestS P i = r := by
  unfold nestF at h
  unfold nestS
  split at h
  · cases h
  · next e => cases h; rw [hP _ _ e]
  · next e => cases h; rw [hP _ _ e]
def headF (P' : PF) (s : ByteArray) (i : Nat) : Option Res := match quoS s i with
  | some x => some (some x)
  | none => match varS s i with
    | some x => some (some x)
    | none => match nestF P' i with
      | none => none
      | some (some x) => some (some x)
      | some none => some ((terS s i).or ((refS 3 s i).or (nubS s i)))
theorem headF_ok (hP : Sound P' P) {i : Nat} {r : Res} (h : headF P' s i = some r) : headS P s i = r := by
  unfold headF at h
  unfold headS
  split at h
  · next e => cases h; rw [e]; rfl
  · next e =>
    rw [e, Option.none_or]
    split at h
    · next e => cases h; rw [e]; rfl
    · next e =>
      rw [e, Option.none_or]
      split at h
      · cases h
      · next e => cases h; rw [nestF_ok hP e]; rfl
      · next e => cases h; rw [nestF_ok hP e, Option.none_or]
def argF (P' : PF) (s : ByteArray) (i : Nat) : Option (Option (ByteArray × EX × Nat)) := match namS s i with
  | some x => some (some x)
  | none => match headF P' s i with
    | none => none
    | some none => some none
    | some (some (e, j)) => some (some (E0, e, j))
theorem argF_ok (hP : Sound P' P) {i : Nat} {r : Option (ByteArray × EX × Nat)} (h : argF P' s i = some r) : argS P s i = r := by
  unfold argF at h
  unfold argS
  split at h
  · next e => cases h; rw [e]
  · next e =>
    rw [e]
    split at h
    · cases h
    · next e => cases h; rw [headF_ok hP e]
    · next e => cases h; rw [headF_ok hP e]
def argsF (P' : PF) (s : ByteArray) : Nat → List AR → Bool → Nat → Option (Option (List AR × Nat))
  | 0, _, _, _ => none
  | n + 1, xs, want, i =>
    if isAt s (bl s i) 41 then some (some (xs, bl s i + 1))
    else if want then (if isAt s (bl s i) 44 = true then argsF P' s n xs false (bl s i + 1) else some none)
    else match argF P' s (bl s i) with
      | none => none
      | some none => some none
      | some (some (nm, e, j)) =>
        if emp nm && (opnS s e j).1 then
          if i < (opnS s e j).2 ∧ (opnS s e j).2 ≤ s.size then
            match argsF P' s n [] false (opnS s e j).2 with
            | none => none
            | some none => some none
            | some (some (xs', m)) =>
              if i < m ∧ m ≤ s.size then
                (if addOk xs E0 (withArgs (opnE e) xs') then argsF P' s n (xs ++ [.mk E0 (withArgs (opnE e) xs')]) true m else some none)
              else some none
          else some none
        else if i < (if emp nm then (opnS s e j).2 else j) ∧ (if emp nm then (opnS s e j).2 else j) ≤ s.size then
          (if addOk xs nm e then argsF P' s n (xs ++ [.mk nm e]) true (if emp nm then (opnS s e j).2 else j) else some none)
        else some none
theorem argsF_ok (hP : Sound P' P) : ∀ (n : Nat) (xs : List AR) (want : Bool) (i : Nat) (r : Option (List AR × Nat)), argsF P' s n xs want i = some r → argsS P s xs want i = r
  | 0, xs, want, i, r, h => by cases h
  | n + 1, xs, want, i, r, h => by
    rw [argsF] at h
    rw [argsS]
    split at h
    · next c => rw [if_pos c]; cases h; rfl
    · next c =>
      rw [if_neg c]
      split at h
      · next c => 
        rw [if_pos c]
        split at h
        · next c2 => rw [dif_pos c2]; exact argsF_ok hP n _ _ _ _ h
        · next c2 => rw [dif_neg c2]; cases h; rfl
      · next c =>
        rw [if_neg c]
        split at h
        · cases h
        · next e => cases h; rw [argF_ok hP e]
        · next nm e j he =>
          rw [argF_ok hP he]
          dsimp only
          split at h
          · next c => 
            rw [if_pos c]
            split at h
            · next c2 =>
              rw [dif_pos c2]
              split at h
              · cases h
              · next e2 => cases h; rw [argsF_ok hP n _ _ _ _ e2]
              · next xs' m e2 =>
                rw [argsF_ok hP n _ _ _ _ e2]
                dsimp only
                split at h
                · next c3 =>
                  rw [dif_pos c3]
                  split at h
                  · next c4 => rw [if_pos c4]; exact argsF_ok hP n _ _ _ _ h
                  · next c4 => rw [if_neg c4]; cases h; rfl
                · next c3 => rw [dif_neg c3]; cases h; rfl
            · next c2 => rw [dif_neg c2]; cases h; rfl
          · next c =>
            rw [if_neg c]
            generalize (if emp nm = true then (opnS s e j).2 else j) = K at h ⊢
            split at h
            · next c2 =>
              rw [dif_pos c2]
              split at h
              · next c4 => rw [if_pos c4]; exact argsF_ok hP n _ _ _ _ h
              · next c4 => rw [if_neg c4]; cases h; rfl
            · next c2 => rw [dif_neg c2]; cases h; rfl
def inlF (P' : PF) (s : ByteArray) (n : Nat) (i : Nat) : Option Res := match headF P' s i with
  | none => none
  | some none => some none
  | some (some (e, j)) =>
    if (opnS s e j).1 then
      match argsF P' s n [] false (opnS s e j).2 with
      | none => none
      | some none => some none
      | some (some (xs, m)) => some (some (withArgs (opnE e) xs, m))
    else some (some (e, (opnS s e j).2))
theorem inlF_ok (hP : Sound P' P) {n i : Nat} {r : Res} (h : inlF P' s n i = some r) : inlS P s i = r := by
  unfold inlF at h
  unfold inlS
  split at h
  · cases h
  · next e => cases h; rw [headF_ok hP e]
  · next e =>
    rw [headF_ok hP e]
    dsimp only
    split at h
    · next c =>
      rw [if_pos c]
      split at h
      · cases h
      · next e2 => cases h; rw [argsF_ok hP n _ _ _ _ e2]
      · next e2 => cases h; rw [argsF_ok hP n _ _ _ _ e2]
    · next c => rw [if_neg c]; cases h; rfl
def partsF (P' : PF) (s : ByteArray) : Nat → List EL → Nat → Option (Option (List EL × Nat))
  | 0, _, _ => none
  | n + 1, acc, i =>
    if isAt s (tx s i) 123 then
      match P' (tx s i) with
      | none => none
      | some none => some none
      | some (some (e, j)) => if i < j ∧ j ≤ s.size then partsF P' s n (addT s acc i (tx s i) ++ [.mk E0 (some e)]) j else some none
    else some (some (addT s acc i (tx s i), tx s i))
theorem partsF_ok (hP : Sound P' P) : ∀ (n : Nat) (acc : List EL) (i : Nat) (r : Option (List EL × Nat)), partsF P' s n acc i = some r → partsS P s acc i = r
  | 0, acc, i, r, h => by cases h
  | n + 1, acc, i, r, h => by
    rw [partsF] at h
    rw [partsS]
    split at h
    · next c =>
      rw [if_pos c]
      split at h
      · cases h
      · next e => cases h; rw [hP _ _ e]
      · next e =>
        rw [hP _ _ e]
        dsimp only
        split at h
        · next c => rw [dif_pos c]; exact partsF_ok hP n _ _ _ h
        · next c => rw [dif_neg c]; cases h; rfl
    · next c => rw [if_neg c]; cases h; rfl
def nlF (s : ByteArray) : Nat → Nat → Nat → Nat → Option (Nat × Nat × Nat)
  | 0, _, _, _ => none
  | n + 1, f, fr, i => if isAt s i 10 = true then nlF s n (f + 1) (i + 1) (sp s (i + 1)) else some (f, fr, i)
theorem nlF_ok : ∀ (n f fr i : Nat) (r : Nat × Nat × Nat), nlF s n f fr i = some r → nlS s f fr i = r
  | 0, f, fr, i, r, h => by cases h
  | n + 1, f, fr, i, r, h => by
    rw [nlF] at h
    rw [nlS]
    split at h
    · next c => rw [dif_pos c]; exact nlF_ok n _ _ _ _ h
    · next c => rw [dif_neg c]; cases h; rfl
def nextF (s : ByteArray) (n i : Nat) : Option (Option (Nat × Nat × Nat)) := match nlF s n 0 i i with
  | none => none
  | some q => if q.2.2 = q.2.1 ∨ q.2.2 = s.size ∨ stopB (at0 s.data.toList q.2.2) = true then some none else some (some (q.1, q.2.2 - q.2.1, q.2.2))
theorem nextF_ok {n i : Nat} {r : Option (Nat × Nat × Nat)} (h : nextF s n i = some r) : nextS s i = r := by
  unfold nextF at h
  unfold nextS
  split at h
  · cases h
  · next q e =>
    rw [nlF_ok n _ _ _ _ e]
    split at h
    · next c => rw [if_pos c]; cases h; rfl
    · next c => rw [if_neg c]; cases h; rfl
def linesF (P' : PF) (s : ByteArray) : Nat → List LN → Nat → Nat → Nat → Option (Option (List LN × Nat))
  | 0, _, _, _, _ => none
  | n + 1, acc, f, p, i =>
    match partsF P' s n [] i with
    | none => none
    | some none => some none
    | some (some (ps, j)) => match nextF s n j with
      | none => none
      | some none => some (some (acc ++ [⟨f, p, ps⟩], j))
      | some (some (f', p', k)) => if i < k ∧ k ≤ s.size then linesF P' s n (acc ++ [⟨f, p, ps⟩]) f' p' k else some none
theorem linesF_ok (hP : Sound P' P) : ∀ (n : Nat) (acc : List LN) (f p i : Nat) (r : Option (List LN × Nat)), linesF P' s n acc f p i = some r → linesS P s acc f p i = r
  | 0, acc, f, p, i, r, h => by cases h
  | n + 1, acc, f, p, i, r, h => by
    rw [linesF] at h
    rw [linesS]
    split at h
    · cases h
    · next e => cases h; rw [partsF_ok hP n _ _ _ e]
    · next e =>
      rw [partsF_ok hP n _ _ _ e]
      dsimp only
      split at h
      · cases h
      · next e2 => cases h; rw [nextF_ok e2]
      · next e2 =>
        rw [nextF_ok e2]
        dsimp only
        split at h
        · next c => rw [dif_pos c]; exact linesF_ok hP n _ _ _ _ _ h
        · next c => rw [dif_neg c]; cases h; rfl
def patF (P' : PF) (s : ByteArray) (n i : Nat) : Option (Option (List EL × Nat)) := match linesF P' s n [] 0 0 (sp s i) with
  | none => none
  | some none => some none
  | some (some (ls, j)) => some (some (joinS ls, j))
theorem patF_ok (hP : Sound P' P) {n i : Nat} {r : Option (List EL × Nat)} (h : patF P' s n i = some r) : patS P s i = r := by
  unfold patF at h
  unfold patS
  split at h
  · cases h
  · next e => cases h; rw [linesF_ok hP n _ _ _ _ _ e]
  · next e => cases h; rw [linesF_ok hP n _ _ _ _ _ e]
def variF (P' : PF) (s : ByteArray) (n i : Nat) : Option (Option (VA × Nat)) :=
  if isAt s (if isAt s i 42 then i + 1 else i) 91 then
    if keyE s (bl s ((if isAt s i 42 then i + 1 else i) + 1)) = bl s ((if isAt s i 42 then i + 1 else i) + 1) then some none
    else if isAt s (bl s (keyE s (bl s ((if isAt s i 42 then i + 1 else i) + 1)))) 93 then
      match patF P' s n (bl s (keyE s (bl s ((if isAt s i 42 then i + 1 else i) + 1))) + 1) with
      | none => none
      | some none => some none
      | some (some (l, j)) => if isAt s j 10 && !l.isEmpty then some (some (.mk (s.extract (bl s ((if isAt s i 42 then i + 1 else i) + 1)) (keyE s (bl s ((if isAt s i 42 then i + 1 else i) + 1)))) (isAt s i 42) l, j)) else some none
    else some none
  else some none
theorem variF_ok (hP : Sound P' P) {n i : Nat} {r : Option (VA × Nat)} (h : variF P' s n i = some r) : variS P s i = r := by
  unfold variF at h
  unfold variS
  generalize (if isAt s i 42 = true then i + 1 else i) = K at h ⊢
  split at h
  · next c =>
    rw [if_pos c]
    split at h
    · next c => rw [if_pos c]; cases h; rfl
    · next c =>
      rw [if_neg c]
      split at h
      · next c =>
        rw [if_pos c]
        split at h
        · cases h
        · next e => cases h; rw [patF_ok hP e]
        · next e =>
          rw [patF_ok hP e]
          dsimp only
          split at h
          · next c => rw [if_pos c]; cases h; rfl
          · next c => rw [if_neg c]; cases h; rfl
      · next c => rw [if_neg c]; cases h; rfl
  · next c => rw [if_neg c]; cases h; rfl
def varsF (P' : PF) (s : ByteArray) : Nat → List VA → Nat → Option (Option (List VA × Nat))
  | 0, _, _ => none
  | n + 1, acc, i =>
    if isAt s i 125 then some (if acc.countP vaDflt = 1 then some (acc, i + 1) else none)
    else match variF P' s n i with
      | none => none
      | some none => some none
      | some (some (v, j)) => if i < bl s j ∧ bl s j ≤ s.size then varsF P' s n (acc ++ [v]) (bl s j) else some none
theorem varsF_ok (hP : Sound P' P) : ∀ (n : Nat) (acc : List VA) (i : Nat) (r : Option (List VA × Nat)), varsF P' s n acc i = some r → varsS P s acc i = r
  | 0, acc, i, r, h => by cases h
  | n + 1, acc, i, r, h => by
    rw [varsF] at h
    rw [varsS]
    split at h
    · next c => rw [if_pos c]; exact Option.some.inj h
    · next c =>
      rw [if_neg c]
      split at h
      · cases h
      · next e => cases h; rw [variF_ok hP e]
      · next e =>
        rw [variF_ok hP e]
        dsimp only
        split at h
        · next c => rw [dif_pos c]; exact varsF_ok hP n _ _ _ h
        · next c => rw [dif_neg c]; cases h; rfl
def selF (P' : PF) (s : ByteArray) (n i : Nat) : Option (Option (List VA × Nat)) := if isAt s (sp s i) 10 then varsF P' s n [] (bl s (sp s i + 1)) else some none
theorem selF_ok (hP : Sound P' P) {n i : Nat} {r : Option (List VA × Nat)} (h : selF P' s n i = some r) : selS P s i = r := by
  unfold selF at h
  unfold selS
  split at h
  · next c => rw [if_pos c]; exact varsF_ok hP n _ _ _ h
  · next c => rw [if_neg c]; cases h; rfl
def placeF (s : ByteArray) (n : Nat) : Nat → PF
  | 0, _ => some none
  | r + 1, i =>
    if isAt s i 123 then
      match inlF (placeF s n r) s n (bl s (i + 1)) with
      | none => none
      | some none => some none
      | some (some (e, j)) =>
        if isAt s (bl s j) 125 then some (if termAttr e then none else some (e, bl s j + 1))
        else if isAt s (bl s j) 45 && isAt s (bl s j + 1) 62 && mayAsk e then
          match selF (placeF s n r) s n (bl s j + 2) with
          | none => none
          | some none => some none
          | some (some (vs, m)) => some (some (.mk 7 E0 E0 E0 [] (some e) vs, m))
        else some none
    else some none
theorem placeF_ok (n : Nat) : ∀ r, Sound (placeF s n r) (placeS s r)
  | 0 => fun i r h => by cases h; rfl
  | k + 1 => fun i r h => by
    have hP := placeF_ok n k
    rw [placeF] at h
    rw [placeS]
    split at h
    · next c =>
      rw [if_pos c]
      split at h
      · cases h
      · next e => cases h; rw [inlF_ok hP e]
      · next e =>
        rw [inlF_ok hP e]
        dsimp only
        split at h
        · next c => rw [if_pos c]; cases h; rfl
        · next c =>
          rw [if_neg c]
          split at h
          · next c =>
            rw [if_pos c]
            split at h
            · cases h
            · next e => cases h; rw [selF_ok hP e]
            · next e => cases h; rw [selF_ok hP e]
          · next c => rw [if_neg c]; cases h; rfl
    · next c => rw [if_neg c]; cases h; rfl
def passF (s : ByteArray) : Nat → Nat → Option Nat
  | 0, _ => none
  | n + 1, i =>
    if i < s.size then
      (if sp s i < s.size ∧ isAt s (sp s i) 10 = false then some i
      else if i < beh s (sp s i) then passF s n (beh s (sp s i)) else some i)
    else some i
theorem passF_ok : ∀ (n i r : Nat), passF s n i = some r → passE s i = r
  | 0, i, r, h => by cases h
  | n + 1, i, r, h => by
    rw [passF] at h
    rw [passE]
    split at h
    · next c =>
      rw [dif_pos c]
      split at h
      · next c => rw [if_pos c]; cases h; rfl
      · next c =>
        rw [if_neg c]
        split at h
        · next c => rw [dif_pos c]; exact passF_ok n _ _ h
        · next c => rw [dif_neg c]; cases h; rfl
    · next c => rw [dif_neg c]; cases h; rfl
def namedF (s : ByteArray) (n i : Nat) : Option (Option (ByteArray × List EL × Nat)) :=
  if nm s i = i then some none
  else if isAt s (sp s (nm s i)) 61 then
    match patF (placeF s n 20) s n (sp s (nm s i) + 1) with
    | none => none
    | some none => some none
    | some (some (l, e)) => some (if e = s.size ∨ isAt s e 10 = true then some (s.extract i (nm s i), l, e) else none)
  else some none
theorem namedF_ok {n i : Nat} {r : Option (ByteArray × List EL × Nat)} (h : namedF s n i = some r) : namedS s i = r := by
  unfold namedF at h
  unfold namedS
  split at h
  · next c => rw [if_pos c]; cases h; rfl
  · next c =>
    rw [if_neg c]
    split at h
    · next c =>
      rw [if_pos c]
      split at h
      · cases h
      · next e => cases h; rw [patF_ok (placeF_ok n 20) e]
      · next e => cases h; rw [patF_ok (placeF_ok n 20) e]
    · next c => rw [if_neg c]; cases h; rfl
def attrF' (s : ByteArray) (n i : Nat) : Option (Option (ByteArray × List EL × Nat)) :=
  if isAt s (bl s i) 46 && (at0 s.data.toList (bl s i - 1) == 32) then
    match namedF s n (bl s i + 1) with
    | none => none
    | some none => some none
    | some (some (x, l, e)) => some (if l.isEmpty then none else some (x, l, e))
  else some none
theorem attrF'_ok {n i : Nat} {r : Option (ByteArray × List EL × Nat)} (h : attrF' s n i = some r) : attrS s i = r := by
  unfold attrF' at h
  unfold attrS
  split at h
  · next c =>
    rw [if_pos c]
    split at h
    · cases h
    · next e => cases h; rw [namedF_ok e]
    · next e => cases h; rw [namedF_ok e]
  · next c => rw [if_neg c]; cases h; rfl
def atsF' (s : ByteArray) : Nat → List AT → Nat → Option (List AT × Nat)
  | 0, _, _ => none
  | n + 1, acc, i =>
    match attrF' s n i with
    | none => none
    | some none => some (acc, i)
    | some (some (x, l, e)) => if i < e ∧ e ≤ s.size then atsF' s n (acc ++ [.mk x l]) e else some (acc, i)
theorem atsF'_ok : ∀ (n : Nat) (acc : List AT) (i : Nat) (r : List AT × Nat), atsF' s n acc i = some r → atsS s acc i = r
  | 0, acc, i, r, h => by cases h
  | n + 1, acc, i, r, h => by
    rw [atsF'] at h
    rw [atsS]
    split at h
    · cases h
    · next e => cases h; rw [attrF'_ok e]
    · next e =>
      rw [attrF'_ok e]
      dsimp only
      split at h
      · next c => rw [dif_pos c]; exact atsF'_ok n _ _ _ h
      · next c => rw [dif_neg c]; cases h; rfl
def msgF (s : ByteArray) (n i : Nat) : Option (Option EN) :=
  match namedF s n (if isAt s i 45 then i + 1 else i) with
  | none => none
  | some none => some none
  | some (some (x, l, e)) => match atsF' s n [] e with
    | none => none
    | some q => some (if !l.isEmpty || (!isAt s i 45 && !q.1.isEmpty) then some ⟨if isAt s i 45 then 2 else 1, 0, E0, x, l, q.1, i, beh s q.2⟩ else none)
theorem msgF_ok {n i : Nat} {r : Option EN} (h : msgF s n i = some r) : msgS s i = r := by
  unfold msgF at h
  unfold msgS
  split at h
  · cases h
  · next e => cases h; rw [namedF_ok e]
  · next e =>
    rw [namedF_ok e]
    dsimp only
    split at h
    · cases h
    · next q e2 => cases h; rw [atsF'_ok n _ _ _ e2]
def readF (s : ByteArray) (n i : Nat) : Option EN := match comS s i with
  | some _ => none
  | none => match msgF s n i with
    | some (some x) => some x
    | _ => none
theorem readF_ok {n i : Nat} {r : EN} (h : readF s n i = some r) : readS s i = r := by
  unfold readF at h
  unfold readS
  split at h
  · cases h
  · next e =>
    rw [e]
    dsimp only
    split at h
    · next e2 => cases h; rw [msgF_ok e2]
    · cases h
def parseF (s : ByteArray) : Nat → List EN → Nat → Option (List EN)
  | 0, _, _ => none
  | n + 1, acc, i =>
    if i < s.size then
      match readF s n i with
      | none => none
      | some x => match passF s n x.tu with
        | none => none
        | some k => if i < k then parseF s n (acc ++ [x]) k else some acc
    else some acc
theorem parseF_ok : ∀ (n : Nat) (acc : List EN) (i : Nat) (r : List EN), parseF s n acc i = some r → parseGo s acc i = r
  | 0, acc, i, r, h => by cases h
  | n + 1, acc, i, r, h => by
    rw [parseF] at h
    rw [parseGo]
    split at h
    · next c =>
      split at h
      · cases h
      · next x e =>
        split at h
        · cases h
        · next k e2 =>
          have h1 := readF_ok e
          have h2 := passF_ok n _ _ e2
          split at h
          · next c2 =>
            rw [dif_pos (show _ ∧ _ from ⟨c, by rw [h1, h2]; exact c2⟩), h1, h2]
            exact parseF_ok n _ _ _ h
          · next c2 =>
            rw [dif_neg (fun c3 => c2 (by have := c3.2; rw [h1, h2] at this; exact this))]
            cases h
            rfl
    · next c =>
      rw [dif_neg (fun c3 => c c3.1)]
      cases h
      rfl
def docF (s : ByteArray) (n : Nat) : Option (List EN) := match passF s n 0 with
  | none => none
  | some i => parseF s n [] i
theorem docF_ok {n : Nat} {r : List EN} (h : docF s n = some r) : parseS s = r := by
  unfold docF at h
  unfold parseS
  split at h
  · cases h
  · next i e => rw [passF_ok n _ _ e]; exact parseF_ok n _ _ _ h
end Go.Proofs.YtpgiboblonlddaaGreatDoor
