/-
  Several texts put together (part 19): what the law and the program call, walked; their contracts.
-/
import Derived.Test.YticjinmpanfhkaaGreatDoorQ18
import Derived.Test.YticjinmpanfhkaaGreatDoorQ4
import Derived.Test.YticjinmpanfhkaaGreatDoorQ1
import Derived.Test.YticjinmpanfhkaaGreatDoorQ14
import Derived.Test.YticjinmpanfhkaaGreatDoorQ5
import Derived.Lib.MapLaws
/-
  Package entry: Parse gives what parseS tells, given expr.Pattern.
-/
namespace Go.Proofs.YticjinmpanfhkaaGreatDoor
open Go.RowKit
set_option linter.unusedVariables false
set_option linter.unusedSimpArgs false

theorem comGo_pos (s : ByteArray) (lv : Nat) : ∀ (n : Nat) (acc : List ByteArray) (k : Nat) (x : ByteArray), s.size - k ≤ n → k < s.size → k < (comGo s lv acc k x).2 ∧ (comGo s lv acc k x).2 ≤ s.size
  | 0, acc, k, x, hn, hk => by omega
  | n + 1, acc, k, x, hn, hk => by
    have hb := beh_ok s k (Nat.le_of_lt hk)
    have hb2 := hb.2.2 hk
    rw [comGo]
    split
    · next h =>
      by_cases h2 : beh s k < s.size
      · have := comGo_pos s lv n (acc ++ [x]) (beh s k) (comL s (beh s k)).2 (by omega) h2
        omega
      · have he : beh s k = s.size := by omega
        have hl : (comL s (beh s k)).1 = 0 := by
          by_cases h3 : (comL s (beh s k)).1 = 0
          · exact h3
          · have := com_lt s (beh s k) hb.2.1 h3; omega
        rw [comGo]
        have hbb := beh_ok s (beh s k) hb.2.1
        rw [dif_neg (by omega)]
        dsimp only
        omega
    · dsimp only; omega
theorem atsS_pos (s : ByteArray) : ∀ (n : Nat) (acc : List AT) (k : Nat), s.size - k ≤ n → k ≤ s.size → k ≤ (atsS s acc k).2 ∧ (atsS s acc k).2 ≤ s.size
  | n, acc, k, hn, hk => by
    rw [atsS]
    split
    · exact ⟨Nat.le_refl _, hk⟩
    · next x l e h =>
      split
      · next h2 =>
        cases n with
        | zero => omega
        | succ n =>
          have := atsS_pos s n (acc ++ [.mk x l]) e (by omega) h2.2
          omega
      · exact ⟨Nat.le_refl _, hk⟩
theorem junkTo_pos (s : ByteArray) : ∀ (n k : Nat), s.size - k ≤ n → k ≤ s.size → k ≤ junkTo s k ∧ junkTo s k ≤ s.size
  | n, k, hn, hk => by
    rw [junkTo]
    split
    · split
      · next h2 =>
        have hb := beh_ok s k hk
        cases n with
        | zero => omega
        | succ n =>
          have := junkTo_pos s n (beh s k) (by omega) hb.2.1
          omega
      · exact ⟨Nat.le_refl _, hk⟩
    · exact ⟨Nat.le_refl _, hk⟩
theorem passE_pos (s : ByteArray) : ∀ (n k : Nat), s.size - k ≤ n → k ≤ s.size → k ≤ passE s k ∧ passE s k ≤ s.size
  | n, k, hn, hk => by
    by_cases hlt : k < s.size
    · by_cases h : sp s k < s.size ∧ isAt s (sp s k) 10 = false
      · rw [passE, dif_pos hlt, if_pos h]; exact ⟨Nat.le_refl _, hk⟩
      · obtain ⟨h1, h2, h3⟩ := passE_go s k hlt h
        rw [h1]
        cases n with
        | zero => omega
        | succ n =>
          have := passE_pos s n (beh s (sp s k)) (by omega) h3
          omega
    · rw [passE, dif_neg hlt]; exact ⟨Nat.le_refl _, hk⟩
theorem msg_pos {s : ByteArray} {i : Nat} (hi : i < s.size) {x : EN} (h : msgS s i = some x) : i < x.tu ∧ x.tu ≤ s.size ∧ x.fr = i := by
  unfold msgS at h
  obtain ⟨q, hq⟩ : ∃ q, (if isAt s i 45 = true then i + 1 else i) = q := ⟨_, rfl⟩
  rw [hq] at h
  have hq1 : i ≤ q ∧ q ≤ s.size := by split at hq <;> omega
  split at h
  · cases h
  · next y l e hn =>
    have h1 := named_pos hq1.2 hn
    split at h
    · cases h
      have h2 := atsS_pos s s.size [] e (by omega) h1.2
      have h3 := beh_ok s (atsS s [] e).2 h2.2
      dsimp only
      exact ⟨by omega, h3.2.1, rfl⟩
    · cases h
theorem read_pos {s : ByteArray} {i : Nat} (hi : i < s.size) : i < (readS s i).tu ∧ (readS s i).tu ≤ s.size ∧ (readS s i).fr = i := by
  unfold readS
  split
  · next x h =>
    unfold comS at h
    split at h
    · cases h
    · cases h
      have := comGo_pos s (comL s i).1 s.size [] i (comL s i).2 (by omega) hi
      exact ⟨this.1, this.2, rfl⟩
  · split
    · next x h => exact msg_pos hi h
    · have h1 := beh_ok s i (Nat.le_of_lt hi)
      have h2 := junkTo_pos s s.size (beh s i) (by omega) h1.2.1
      exact ⟨by show i < junkTo s (beh s i); have := h1.2.2 hi; omega, h2.2, rfl⟩
theorem parseGo_step (s : ByteArray) (acc : List EN) (i : Nat) (hi : i < s.size) : parseGo s acc i = parseGo s (acc ++ [readS s i]) (passE s (readS s i).tu) ∧ i < passE s (readS s i).tu ∧ passE s (readS s i).tu ≤ s.size := by
  have h1 := read_pos hi
  have h2 := passE_pos s s.size (readS s i).tu (by omega) h1.2.1
  refine ⟨?_, by omega, h2.2⟩
  rw [parseGo, dif_pos ⟨hi, by omega⟩]
theorem parseGo_end (s : ByteArray) (acc : List EN) (i : Nat) (hi : ¬ i < s.size) : parseGo s acc i = acc := by
  rw [parseGo, dif_neg (fun h => hi h.1)]
/-- What Parse gives. -/
def GotEs (w : World) (l : List EN) (e : Ending) (w' : World) : Prop :=
  Below w.heap.size w w' ∧ ∃ (A : Option Addr) (c : Nat), e = .returned (.slice A l.length c) ∧ ListF w' (Since w.heap.size w') l (.slice A l.length c)
set_option maxHeartbeats 4000000 in
set_option maxRecDepth 100000 in
theorem parse_call {s : ByteArray} (hPC : PatCall s) (hs : s.size ≤ 1000000) (w : World) : Calls Tryz.prog 15 #[.string s] w (GotEs w (parseS s)) := by
  obtain ⟨i0, hi0, hz0, hz1, hz2⟩ := info_parts infoEn
  obtain ⟨RL, hRL⟩ : ∃ R, parseS s = R := ⟨_, rfl⟩
  rw [hRL]
  unfold parseS at hRL
  have hp0 := passE_pos s s.size 0 (by omega) (Nat.zero_le _)
  have hPE := fun W => passEmpty_any s 0 (by omega) (Nat.zero_le _) W
  obtain ⟨k0, hk0⟩ : ∃ k, passE s 0 = k := ⟨_, rfl⟩
  rw [hk0] at hRL hp0 hPE
  have HR := Lib.hid hRL
  have HPE0 := Lib.hid (show ∀ W, _ from hPE)
  have HPE := Lib.hid (fun j W (hj : j ≤ s.size) => passEmpty_any s j (by omega) hj W)
  have HRd := Lib.hid (fun j W (hj : j < s.size) => read_call hPC hs j hj W)
  have hss : (s.size : Int) ≤ 1000000 := by omega
  clear hRL hk0 hPE hPC
  go_enter Tryz.func15, Tryz.ntmps15
  go_wp2_with fail
  go_at_call 40
  refine (HPE0.out _).mono ?_
  rintro e w1 ⟨rfl, hb1⟩
  have HB1 := Lib.hid hb1
  clear hb1
  go_wp2
  go_loopw [3, 4] (fun t3 t4 wr => ∃ (acc : List EN) (k : Nat) (A : Option Addr) (c : Nat), t3 = .slice A acc.length c ∧ t4 = .int .i64 k ∧ k ≤ s.size ∧ acc.length ≤ k ∧ Hid (parseGo s acc k = RL) ∧ Hid (Below w.heap.size w wr) ∧ Hid (OwnN w.heap.size wr (.slice A acc.length c) acc)) (fun _ t4 _ => s.size - (intOf t4).toNat)
  case atStart => exact ⟨[], k0, none, 0, rfl, rfl, hp0.2, Nat.zero_le _, HR, HB1, OwnN.nil _ _⟩
  case round =>
    obtain ⟨acc, k, A, c, rfl, rfl, hk, hac, HG, HBel, HO⟩ := hrel
    have hk1 : (k : Int) ≤ 1000000 := by omega
    have hacI : (acc.length : Int) ≤ 1000000 := by omega
    by_cases hlt : k < s.size
    · have d1 : decide ((k : Int) < (s.size : Int)) = true := decide_eq_true (by omega)
      have d2 : (k : Int) < (s.size : Int) := by omega
      have hr := fun W => HRd.out k W hlt
      obtain ⟨g1, g2, g3⟩ := parseGo_step s acc k hlt
      have hpos := read_pos hlt
      have hpe := fun W => HPE.out (readS s k).tu W hpos.2.1
      obtain ⟨x, hx⟩ : ∃ x, readS s k = x := ⟨_, rfl⟩
      rw [hx] at hr g1 g2 g3 hpe hpos
      obtain ⟨nx, hnx⟩ : ∃ n, passE s x.tu = n := ⟨_, rfl⟩
      rw [hnx] at g1 g2 g3 hpe
      have HRk := Lib.hid hr
      have HPk := Lib.hid hpe
      have HG1 := Lib.hid (g1.symm.trans HG.out)
      obtain ⟨hp1, hp2, hp3⟩ := hpos
      clear hp3
      clear hr g1 hpe hx hnx
      go_wp2_with fail
      go_at_call 41
      refine (HRk.out _).mono ?_
      rintro e w2 ⟨hb2, v, rfl, A', c', B', d', rfl, hp, hq⟩
      have HB2 := Lib.hid (HBel.out.trans (hb2.mono HBel.out.size))
      have HO2 := Lib.hid (HO.out.below hb2)
      have HPt := Lib.hid hp
      have HQt := Lib.hid hq
      have hs2 := hb2.size
      have hs0 := HBel.out.size
      clear hb2 hp hq
      obtain ⟨xs6, ho6, hz6⟩ := HO2.out
      obtain ⟨xs5, ho5, _⟩ := HO.out
      have Hv5 := Lib.hid (fun k e => ho5.lt k e)
      have HZ6 := Lib.hid hz6
      have hto : ((x.tu : Nat) : Int) ≤ 1000000 := by omega
      have hown1 := (ho6.alloc (.cells #[.int .i64 x.ty, .int .i64 x.lv, .string x.tx, .string x.nm, .slice A' x.val.length c', .slice B' x.ats.length d', .int .i64 x.fr, .int .i64 x.tu] 45)).alloc (.cells #[.int .i64 x.ty, .int .i64 x.lv, .string x.tx, .string x.nm, .slice A' x.val.length c', .slice B' x.ats.length d', .int .i64 x.fr, .int .i64 x.tu] 45)
      have hbox : BoxAt ((w2.alloc (.cells #[.int .i64 x.ty, .int .i64 x.lv, .string x.tx, .string x.nm, .slice A' x.val.length c', .slice B' x.ats.length d', .int .i64 x.fr, .int .i64 x.tu] 45)).alloc (.cells #[.int .i64 x.ty, .int .i64 x.lv, .string x.tx, .string x.nm, .slice A' x.val.length c', .slice B' x.ats.length d', .int .i64 x.fr, .int .i64 x.tu] 45)) w2.heap.size #[.int .i64 x.ty, .int .i64 x.lv, .string x.tx, .string x.nm, .slice A' x.val.length c', .slice B' x.ats.length d', .int .i64 x.fr, .int .i64 x.tu] 45 := (BoxAt.new _ _ _).alloc _
      have hnew : BoxAt ((w2.alloc (.cells #[.int .i64 x.ty, .int .i64 x.lv, .string x.tx, .string x.nm, .slice A' x.val.length c', .slice B' x.ats.length d', .int .i64 x.fr, .int .i64 x.tu] 45)).alloc (.cells #[.int .i64 x.ty, .int .i64 x.lv, .string x.tx, .string x.nm, .slice A' x.val.length c', .slice B' x.ats.length d', .int .i64 x.fr, .int .i64 x.tu] 45)) (w2.heap.size + 1) #[.int .i64 x.ty, .int .i64 x.lv, .string x.tx, .string x.nm, .slice A' x.val.length c', .slice B' x.ats.length d', .int .i64 x.fr, .int .i64 x.tu] 45 := BoxAt.new' _ _ _ _ (by simp)
      obtain ⟨r0, r1, r2, r3, r4, r5, r6, r7, f0, f1, f2, f3, f4, f5, f6, f7⟩ := cellsE (BoxAt.new w2 #[.int .i64 x.ty, .int .i64 x.lv, .string x.tx, .string x.nm, .slice A' x.val.length c', .slice B' x.ats.length d', .int .i64 x.fr, .int .i64 x.tu] 45)
      have Hbox := Lib.hid hbox
      have Hnew := Lib.hid hnew
      clear ho6 ho5 hz6 hbox hnew
      unfold entV
      go_wp2_with (at_builtin; refine wpList_append_where _ rfl _ _ 39 rfl w.heap.size 45 i0 (.agg #[.int .i64 0, .int .i64 0, .string ⟨#[]⟩, .string ⟨#[]⟩, .slice none 0 0, .slice none 0 0, .int .i64 0, .int .i64 0]) 8 112 Tryz.underlying39 hi0 hz0 hz1 hz2 rfl (by decide) _ _ _ rfl hown1 ⟨w2.heap.size + 1, 0, none⟩ 1 1 [.int .i64 x.ty, .int .i64 x.lv, .string x.tx, .string x.nm, .slice A' x.val.length c', .slice B' x.ats.length d', .int .i64 x.fr, .int .i64 x.tu] rfl rfl ?c1 ?c2 ?c3 ?c4 ?c5 ?c6 ?_)
      case c1 =>
        intro j u hj
        match j, hj with
        | 0, hj => simp at hj; subst hj; exact Hnew.out.cell 0
        | 1, hj => simp at hj; subst hj; exact Hnew.out.cell 1
        | 2, hj => simp at hj; subst hj; exact Hnew.out.cell 2
        | 3, hj => simp at hj; subst hj; exact Hnew.out.cell 3
        | 4, hj => simp at hj; subst hj; exact Hnew.out.cell 4
        | 5, hj => simp at hj; subst hj; exact Hnew.out.cell 5
        | 6, hj => simp at hj; subst hj; exact Hnew.out.cell 6
        | 7, hj => simp at hj; subst hj; exact Hnew.out.cell 7
      case c2 => intro u hu; simp at hu; rcases hu with rfl | rfl | rfl | rfl | rfl | rfl | rfl | rfl <;> rfl
      case c3 => unfold maxLen; omega
      case c4 => omega
      case c5 => simp; omega
      case c6 => decide
      intro v' w8 hown' hgrow hwh
      have K1 : Below w2.heap.size w2 ((w2.alloc (.cells #[.int .i64 x.ty, .int .i64 x.lv, .string x.tx, .string x.nm, .slice A' x.val.length c', .slice B' x.ats.length d', .int .i64 x.fr, .int .i64 x.tu] 45)).alloc (.cells #[.int .i64 x.ty, .int .i64 x.lv, .string x.tx, .string x.nm, .slice A' x.val.length c', .slice B' x.ats.length d', .int .i64 x.fr, .int .i64 x.tu] 45)) := ((Below.refl _ _).alloc (Nat.le_refl _) _).alloc (by simp) _
      generalize hW2 : ((w2.alloc (.cells #[.int .i64 x.ty, .int .i64 x.lv, .string x.tx, .string x.nm, .slice A' x.val.length c', .slice B' x.ats.length d', .int .i64 x.fr, .int .i64 x.tu] 45)).alloc (.cells #[.int .i64 x.ty, .int .i64 x.lv, .string x.tx, .string x.nm, .slice A' x.val.length c', .slice B' x.ats.length d', .int .i64 x.fr, .int .i64 x.tu] 45)) = W2 at *
      have hW2s : W2.heap.size = w2.heap.size + 2 := by rw [← hW2]; simp
      have hcar : ∀ b, Since wr.heap.size w2 b → OwnSet w.heap.size W2 (.slice A acc.length c) b ∧ W2.heap[b]? = w2.heap[b]? := fun b hb => ⟨⟨⟨by have := hb.1; omega, by have := hb.2; omega⟩, fun e => by have := Hv5.out b e.symm; have := hb.1; omega⟩, K1.block b hb.2⟩
      have HO8 := Lib.hid (OwnN.push K1 HZ6.out (HPt.out.carry hcar) (HQt.out.carry hcar) hown' hgrow (by simpa [hW2s] using hwh))
      have HB8 := Lib.hid ((HB2.out.trans (K1.mono (by omega))).grown hgrow (by omega) (fun k e => (Hv5.out k e).1))
      have hb8 : BoxAt w8 w2.heap.size #[.int .i64 x.ty, .int .i64 x.lv, .string x.tx, .string x.nm, .slice A' x.val.length c', .slice B' x.ats.length d', .int .i64 x.fr, .int .i64 x.tu] 45 := (hgrow.block w2.heap.size (by omega) (fun e => by have := (Hv5.out _ e.symm).2; omega)).trans Hbox.out
      obtain ⟨A3, c3, rfl⟩ := own_slice hown' (by omega)
      obtain ⟨q0, q1, q2, q3, q4, q5, q6, q7, p0, p1, p2, p3, p4, p5, p6, p7⟩ := cellsE hb8
      have hl8 := hb8.lt
      clear hown' hgrow hwh K1 hcar hb8 hW2 hW2s hown1 r0 r1 r2 r3 r4 r5 r6 r7 f0 f1 f2 f3 f4 f5 f6 f7
      go_wp2_with fail
      go_at_call 40
      refine (HPk.out _).mono ?_
      rintro e w9 ⟨rfl, hb9⟩
      have HB9 := Lib.hid (HB8.out.trans (hb9.mono HB8.out.size))
      have HO9 := Lib.hid (HO8.out.below hb9)
      clear hb9
      go_wp2
      go_roundw
      case rel =>
        refine ⟨acc ++ [x], nx, A3, c3, ?_, rfl, g3, ?_, HG1, HB9, ?_⟩
        · show Value.slice A3 _ c3 = _
          simp
        · rw [List.length_append, List.length_singleton]; omega
        · rw [List.length_append, List.length_singleton]
          exact HO9
      case measure => simp [intOf]; omega
    · have d1 : decide ((k : Int) < (s.size : Int)) = false := decide_eq_false (by omega)
      have d2 : ¬ (k : Int) < (s.size : Int) := by omega
      have hR := HG.out
      rw [parseGo_end s acc k hlt] at hR
      subst hR
      go_wp2
      go_ret
      obtain ⟨A2, c2, e2, hl⟩ := HO.out.list
      cases e2
      exact ⟨HBel.out, A, c, rfl, hl⟩
end Go.Proofs.YticjinmpanfhkaaGreatDoor

/-
  More of the library's contracts, laid.
-/
namespace Go.Proofs
open Go.Shelf
end Go.Proofs

/-
  The tables of unicode/utf8 as they are laid.
-/
namespace Go.Proofs.YticjinmpanfhkaaGreatDoor
open Go.RowKit
set_option linter.unusedVariables false

theorem Utf8Tabs.below {g3 g4 : Nat} {w w1 : World} (h : Lib.Utf8Tabs g3 g4 w) (hb : Below w.heap.size w w1) : Lib.Utf8Tabs g3 g4 w1 := by
  have lt : ∀ {b o : Nat} {v : Value}, w.cell? ⟨b, o, none⟩ = some v → b < w.heap.size := fun hc => World.block_lt_of_cell? w _ hc
  obtain ⟨h1, h2⟩ := h
  exact ⟨fun c hc => by rw [(bcell hb).1 _ _ (lt (h1 c hc))]; exact h1 c hc,
    fun i hi => ⟨by rw [(bcell hb).1 _ _ (lt (h2 i hi).1)]; exact (h2 i hi).1, by rw [(bcell hb).1 _ _ (lt (h2 i hi).2)]; exact (h2 i hi).2⟩⟩
def TabU (w : World) : Prop := Lib.Utf8Tabs 0 1 w
theorem TabU.below {w w1 : World} (h : TabU w) (hb : Below w.heap.size w w1) : TabU w1 := Utf8Tabs.below h hb
end Go.Proofs.YticjinmpanfhkaaGreatDoor

/-
  law01.Signs: a text's signs, or that it isn't made of signs alone.
-/
namespace Go.Proofs.YticjinmpanfhkaaGreatDoor
open Go.RowKit
set_option linter.unusedVariables false
set_option linter.unusedSimpArgs false

def strSize : Value → Nat | .string b => b.size | _ => 0
theorem decodeL_pos (l : List UInt8) : 1 ≤ (Lib.decodeL l).2 := Lib.decodeL_width l
theorem ext_size (t : ByteArray) (n : Nat) (h : n ≤ t.size) : (t.extract 0 n).size = n ∧ (t.extract n t.size).size = t.size - n := by
  constructor
  · simp; omega
  · simp
theorem runeIn_any (s : ByteArray) (w : World) (hT : TabU w) (hs : 0 < s.size) : Calls Tryz.prog 47 #[.string s] w fun e w' => e = .returned (.tuple #[.int .i32 (Lib.decodeL s.data.toList).1, .int .i64 (Lib.decodeL s.data.toList).2]) ∧ Below w.heap.size w w' := by
  have h := Tryz.utf8_DecodeRuneInString s w hT
  have e : Lib.decodeGo s = Lib.decodeL s.data.toList := by
    unfold Lib.decodeGo Lib.decodeL
    rw [if_neg (by omega)]
  rw [e] at h
  exact h
theorem infoStr : (Tryz.prog.info? 9).map (fun i => (i.zero, i.size, i.bytes)) = some (some (.string ⟨#[]⟩), 1, 16) := by kernel_rfl
/-- A text's signs, one by one; none: it isn't made of signs alone. -/
def sigs : Nat → List UInt8 → Option (List (List UInt8))
  | 0, _ => some []
  | f + 1, l => if l = [] then some [] else if (Lib.decodeL l).1 = 65533 ∧ (Lib.decodeL l).2 ≤ 1 then none else (sigs f (l.drop (Lib.decodeL l).2)).map (l.take (Lib.decodeL l).2 :: ·)

def strV (l : List UInt8) : Value := .string ⟨l.toArray⟩
def sigAll (l : List UInt8) : Option (List (List UInt8)) := sigs l.length l
def SignsEnd (l : List UInt8) (B : Nat) (w' : World) (e : Ending) : Prop :=
  (sigAll l = none ∧ e = .returned (.tuple #[.slice none 0 0, .bool false])) ∨ ∃ xs v, sigAll l = some xs ∧ xs.length ≤ l.length ∧ e = .returned (.tuple #[v, .bool true]) ∧ w'.ownsRowF B 9 1 v xs.length (xs.map strV)
theorem sigs_step (f : Nat) (l : List UInt8) (hne : l ≠ []) : sigs (f + 1) l = if (Lib.decodeL l).1 = 65533 ∧ (Lib.decodeL l).2 ≤ 1 then none else (sigs f (l.drop (Lib.decodeL l).2)).map (l.take (Lib.decodeL l).2 :: ·) := by
  rw [sigs, if_neg hne]
theorem sigs_nil (f : Nat) : sigs f [] = some [] := by cases f <;> rfl
theorem strV_extract (t : ByteArray) (n : Nat) : strV (t.data.toList.take n) = .string (t.extract 0 n) := by
  unfold strV
  congr 1
  apply bytes_eq
  rw [extract_take]

theorem ownsRowF_below {w w1 : World} {base : Nat} {e : TypeId} {size : Nat} {v : Value} {n : Nat} {xs : List Value} (h : w.ownsRowF base e size v n xs) (hb : Below w.heap.size w w1) : w1.ownsRowF base e size v n xs := by
  refine ⟨h.1, ?_⟩
  rcases h.2 with hn | ⟨g, cap, cur, fz, hv, hbg, hg, rest⟩
  · exact Or.inl hn
  · exact Or.inr ⟨g, cap, cur, fz, hv, hbg, (hb.block g (Array.getElem?_eq_some_iff.1 hg).1).trans hg, rest⟩
theorem owns_empty (w : World) (e : TypeId) : (w.alloc (.cells #[] e)).ownsRowF w.heap.size e 1 (.slice (some ⟨w.heap.size, 0, none⟩) 0 0) 0 [] := by
  refine ⟨rfl, Or.inr ⟨w.heap.size, 0, #[], (0, 0), rfl, Nat.le_refl _, heap_alloc_new w _, Nat.le_refl _, Nat.le_refl _, by decide, rfl, ?_⟩⟩
  simp

set_option maxHeartbeats 4000000 in
set_option maxRecDepth 1000000 in
theorem signs_any (s : ByteArray) (w : World) (hT : TabU w) (hs : s.size ≤ 4000000) :
    Calls Tryz.prog 24 #[.string s] w fun e w' => SignsEnd s.data.toList w.heap.size w' e ∧ Below w.heap.size w w' := by
  obtain ⟨i0, hi, hz0, hz1, hz2⟩ := info_parts infoStr
  have hTw := Lib.hid hT
  clear hT
  go_enter Tryz.func24, Tryz.ntmps24
  go_wp2
  go_loopw [0, 4] (fun st ot wr => ∃ (t : ByteArray) (done : List (List UInt8)) (f : Nat), st = .string t ∧ Hid (wr.ownsRowF w.heap.size 9 1 ot done.length (done.map strV)) ∧ Hid ((sigs f t.data.toList).map (done ++ ·) = sigAll s.data.toList) ∧ Hid (t.size ≤ f) ∧ Hid (done.length + t.size ≤ s.size) ∧ Below w.heap.size w wr) (fun st _ _ => strSize st)
  case atStart =>
    refine ⟨s, [], s.size, rfl, ?_, ?_, by show s.size ≤ s.size; omega, by show 0 + s.size ≤ s.size; omega, (Below.refl _ w).alloc (Nat.le_refl _) _⟩
    · exact owns_empty w 9
    · show _ = _
      unfold sigAll
      rw [size_data]
      cases sigs s.size s.data.toList <;> simp
  case round =>
    obtain ⟨t, done, f, rfl, Hown, Hsig, Hf, Hlen, hbw⟩ := hrel
    by_cases h0 : 0 < t.size
    · have hne : t.data.toList ≠ [] := by
        intro e
        have h1 := size_data t
        rw [e, List.length_nil] at h1
        omega
      obtain ⟨f, rfl⟩ : ∃ f', f = f' + 1 := ⟨f - 1, by have := Hf.out; omega⟩
      have hsg := Hsig.out
      rw [sigs_step f _ hne] at hsg
      have hw1 := decodeL_pos t.data.toList
      have hw2 := Lib.decodeL_le t.data.toList hne
      have hcall' := runeIn_any t wr (hTw.out.below hbw) h0
      have hsv := strV_extract t (Lib.decodeL t.data.toList).2
      have hed := extract_drop t (Lib.decodeL t.data.toList).2
      rw [size_data] at hw2
      generalize Lib.decodeL t.data.toList = rn at *
      obtain ⟨r, n⟩ := rn
      dsimp only at *
      have Hsv := Lib.hid hsv
      have Hed := Lib.hid hed
      have Hsg := Lib.hid hsg
      have hflen := Hlen.out
      clear hsv hed hsg hne Hsig
      have hn1 : (1 : Int) ≤ n := by omega
      have hn2 : (n : Int) ≤ t.size := by omega
      by_cases hbad : r = 65533 ∧ n ≤ 1
      · obtain ⟨hr, hn⟩ := hbad
        obtain rfl : n = 1 := by omega
        subst hr
        have hfin := Hsg.out
        rw [if_pos ⟨rfl, Nat.le_refl _⟩] at hfin
        have Hfin := Lib.hid hfin
        clear hfin Hsg
        go_wp2_with fail
        go_at_call 47
        refine hcall'.mono ?_
        rintro e W1 ⟨rfl, b1⟩
        go_wp2
        go_ret2
        exact ⟨Or.inl ⟨Hfin.out.symm, rfl⟩, hbw.trans (b1.mono hbw.size)⟩
      · have hpart : (((r : Int) == 65533) = true ∧ ¬ ((n : Int) ≤ 1)) ∨ ((r : Int) == 65533) = false := by
          by_cases h : r = 65533
          · left; exact ⟨by rw [h]; rfl, by intro e; exact hbad ⟨h, by omega⟩⟩
          · right; rw [beq_eq_false_iff_ne]; omega
        have hfin := Hsg.out
        rw [if_neg hbad] at hfin
        have Hfin := Lib.hid hfin
        clear hfin Hsg hbad
        rcases hpart with ⟨hq1, hq2⟩ | hq1
        all_goals
          go_wp2_with fail
          go_at_call 47
          refine hcall'.mono ?_
          rintro e W1 ⟨rfl, b1⟩
          have hown1 := ownsRowF_below Hown.out b1
          go_wp2_with (at_builtin; refine wpList_append_ownF _ rfl _ _ 49 rfl w.heap.size 9 i0 (.string ⟨#[]⟩) 1 16 Tryz.underlying49 hi hz0 hz1 hz2 rfl (by decide) _ _ _ rfl (hown1.alloc _) ⟨W1.heap.size, 0, none⟩ 1 1 [.string (t.extract 0 n)] rfl rfl ?c1 ?c2 ?c3 ?c4 ?c5 ?_)
          case c1 =>
            intro j u hj
            match j, hj with
            | 0, hj => simp at hj; subst hj; simp [Addr.add]
          case c2 => intro u hu; simp at hu; subst hu; rfl
          case c3 => unfold maxLen; omega
          case c4 => omega
          case c5 => have := hbw.size; have := b1.size; simp; omega
          intro v' w2 hown' hgrow _
          have hbw2 : Below w.heap.size w w2 := ((hbw.trans (b1.mono hbw.size)).alloc (by have := hbw.size; have := b1.size; omega) _).grown hgrow (by have := hbw.size; have := b1.size; simp; omega) (fun k hk => ((hown1.alloc (.cells #[.string (t.extract 0 n)] 9)).lt k hk).1)
          have Hown' := Lib.hid hown'
          clear hown' hgrow hown1
          go_wp2
          go_roundw
          case rel =>
            refine ⟨_, done ++ [t.data.toList.take n], f, rfl, ?_, ?_, ?_, ?_, hbw2⟩
            · show World.ownsRowF _ _ _ _ _ _ _
              have := Hown'.out
              rw [← Hsv.out] at this
              simpa using this
            · show _ = _
              rw [Hed.out, ← Hfin.out, Option.map_map]
              congr 1
              funext x
              simp
            · show _ ≤ _
              rw [(ext_size t n hw2).2]; have := Hf.out; omega
            · show _ ≤ _
              rw [(ext_size t n hw2).2, List.length_append, List.length_singleton]; omega
          case measure =>
            show (t.extract n t.size).size < t.size
            rw [(ext_size t n hw2).2]; omega
    · have ht0 : t.data.toList = [] := List.eq_nil_of_length_eq_zero (by rw [size_data]; omega)
      have hsg := Hsig.out
      rw [ht0, sigs_nil] at hsg
      have Hsg := Lib.hid hsg
      clear hsg ht0 Hsig
      go_wp2
      go_ret2
      exact ⟨Or.inr ⟨done, _, by rw [← Hsg.out]; simp, by rw [size_data]; have := Hlen.out; omega, rfl, Hown.out⟩, hbw⟩
end Go.Proofs.YticjinmpanfhkaaGreatDoor
