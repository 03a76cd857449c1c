/-
  Several texts put together (part 3): what the law and the program call, walked; their contracts.
-/
import Derived.WalkMore
import Derived.Deep.LoopGhost
import Derived.Deep.QuietTactic
import Derived.BigQuiet
import Derived.Lib.TrimUEq
import Derived.Deep.DeepCutAuto
import Derived.Test.YtmceblemiboedaaDoorM2
/-
  strings.ContainsAny for braces, of whatever text: the walks.
-/
namespace Go.Proofs.YtmceblemiboedaaDoor
open Go.RowKit
set_option linter.unusedVariables false
set_option linter.unusedSimpArgs false

set_option maxHeartbeats 4000000 in
set_option maxRecDepth 1000000 in
theorem rune_err (w : World) : Calls Tryd.prog 75 #[.string br2, .int .i32 65533] w fun e w' => e = .returned (.int .i64 (-1)) ∧ Below w.heap.size w w' := by
  have hsz : br2.size = 2 := by decide
  have Hsz := Lib.hid hsz
  clear hsz
  go_enter Tryd.func75, Tryd.ntmps75
  go_wp2
  go_loopw [] (fun wr => ∃ pos : Nat, wr.heap[w.heap.size]? = some (.stringIter br2 pos) ∧ Hid (Below w.heap.size w wr) ∧ pos ≤ 2) (fun wr => 2 - wr.iterPos w.heap.size)
  case atStart => exact ⟨0, World.iter_heap w br2 0, (Below.refl _ w).alloc (Nat.le_refl _) _, by omega⟩
  case round =>
    obtain ⟨pos, hit, Hb, hp2⟩ := hrel
    have hsz : w.heap.size < wr.heap.size := (Array.getElem?_eq_some_iff.1 hit).1
    by_cases hp : pos < 2
    · have hpz : pos < br2.size := by rw [Hsz.out]; exact hp
      have hnx : ∀ ty, (Instr.next (.pointer (some ⟨w.heap.size, 0, none⟩)) true ty).run Tryd.prog wr = _ := fun ty => Lib.run_next_any_at wr w.heap.size br2 pos ty hit hpz
      have hd : (Utf8.decode br2 pos).2 = 1 ∧ (Utf8.decode br2 pos).1 < 128 := by
        rcases (by omega : pos = 0 ∨ pos = 1) with rfl | rfl <;> decide
      have hit2 := Lib.iterAt_heap wr w.heap.size br2 pos (pos + (Utf8.decode br2 pos).2) hit
      have hb2 := Lib.below_iterAt Hb.out (k := w.heap.size) (by omega) br2 (pos + (Utf8.decode br2 pos).2)
      have hz : (((Utf8.decode br2 pos).1 : Int) == 65533) = false := by rw [beq_eq_false_iff_ne]; omega
      have Hd := Lib.hid hd
      have Hb2 := Lib.hid hb2
      have Hit := Lib.hid hit
      have Hit2 := Lib.hid hit2
      clear hd hb2 hit hit2
      go_wp2
      go_roundw
      case rel => exact ⟨pos + (Utf8.decode br2 pos).2, Hit2.out, Hb2.out, by have := Hd.out.1; omega⟩
      case measure =>
        simp only [World.iterPos, Hit2.out, Hit.out]
        have := Hd.out.1
        omega
    · have hnx : ∀ ty, (Instr.next (.pointer (some ⟨w.heap.size, 0, none⟩)) true ty).run Tryd.prog wr = _ := fun ty => Lib.run_next_end_at wr w.heap.size br2 pos ty hit (by rw [Hsz.out]; omega)
      go_wp2
      go_ret
      exact ⟨rfl, Hb.out⟩

set_option maxRecDepth 100000 in
theorem enc_form (r : Nat) (h : 128 ≤ r) : 2 ≤ (Utf8.encode (r : Int)).size ∧ (Utf8.encode (r : Int)).size ≤ 4 ∧ ((Utf8.encode (r : Int)).size = 2 → ∀ x, (Utf8.encode (r : Int)).data.toList[1]? = some x → 128 ≤ x.toNat) := by
  obtain ⟨c, hc, he⟩ : ∃ c : Nat, 128 ≤ c ∧ Utf8.encode (r : Int) = (if c < 0x80 then ⟨#[UInt8.ofNat c]⟩ else if c < 0x800 then ⟨#[UInt8.ofNat (0xC0 + c / 64), UInt8.ofNat (0x80 + c % 64)]⟩ else if c < 0x10000 then ⟨#[UInt8.ofNat (0xE0 + c / 4096), UInt8.ofNat (0x80 + c / 64 % 64), UInt8.ofNat (0x80 + c % 64)]⟩
      else ⟨#[UInt8.ofNat (0xF0 + c / 262144), UInt8.ofNat (0x80 + c / 4096 % 64), UInt8.ofNat (0x80 + c / 64 % 64), UInt8.ofNat (0x80 + c % 64)]⟩) := by
    refine ⟨if Utf8.valid (r : Int) then (r : Int).toNat else Utf8.runeError, ?_, rfl⟩
    split
    · rw [Int.toNat_natCast]; exact h
    · unfold Utf8.runeError; omega
  rw [he]
  by_cases h1 : c < 0x80
  · omega
  rw [if_neg h1]
  by_cases h2 : c < 0x800
  · rw [if_pos h2]
    refine ⟨Nat.le_refl 2, by show 2 ≤ 4; omega, fun _ x hx => ?_⟩
    have hx2 : some (UInt8.ofNat (0x80 + c % 64)) = some x := hx
    cases hx2
    show 128 ≤ (UInt8.ofNat (128 + c % 64)).toNat
    rw [UInt8.toNat_ofNat']
    omega
  rw [if_neg h2]
  by_cases h3 : c < 0x10000
  · rw [if_pos h3]
    exact ⟨by show 2 ≤ 3; omega, by show 3 ≤ 4; omega, fun h => absurd h (by show ¬ (3 = 2); omega)⟩
  · rw [if_neg h3]
    exact ⟨by show 2 ≤ 4; omega, by show 4 ≤ 4; omega, fun h => absurd h (by show ¬ (4 = 2); omega)⟩
set_option maxHeartbeats 4000000 in
set_option maxRecDepth 1000000 in
theorem rune_far (r : Nat) (h : 128 ≤ r) (hr : r ≤ 1114111) (he : r ≠ 65533) (w : World) : Calls Tryd.prog 75 #[.string br2, .int .i32 r] w fun e w' => e = .returned (.int .i64 (-1)) ∧ Below w.heap.size w w' := by
  have hz1 : decide ((0 : Int) ≤ (r : Int)) = true := decide_eq_true (by omega)
  have hz2 : decide ((r : Int) < 128) = false := decide_eq_false (by omega)
  have hz2' : decide (r < 128) = false := decide_eq_false (by omega)
  have hz3 : ((r : Int) == 65533) = false := beq_eq_false_iff_ne.2 (by omega)
  have hrz : (r : Int) ≤ 1114111 := by omega
  have hV := fun W => Tryd.utf8_ValidRune (r : Int) W
  obtain ⟨v, hv⟩ : ∃ v, Lib.validRune (r : Int) = v := ⟨_, rfl⟩
  rw [hv] at hV
  have HV := Lib.hid hV
  clear hV hv
  obtain ⟨hs2, hs4, hs1⟩ := enc_form r h
  obtain ⟨E, hE⟩ : ∃ E, Utf8.encode (r : Int) = E := ⟨_, rfl⟩
  rw [hE] at hs2 hs4 hs1
  have H1 := Lib.hid hs1
  clear hs1
  cases v
  case false =>
    clear hE
    go_enter Tryd.func75, Tryd.ntmps75
    go_wp2_with fail
    go_at_call 96
    refine (HV.out _).mono ?_
    rintro e w' ⟨rfl, rfl⟩
    go_wp2
    go_ret
    exact ⟨rfl, Below.refl _ _⟩
  go_enter Tryd.func75, Tryd.ntmps75
  go_wp2_with fail
  go_at_call 96
  refine (HV.out _).mono ?_
  rintro e w' ⟨rfl, rfl⟩
  go_wp2
  go_step3
  go_wp2
  have hbs : br2.size = 2 := by decide
  have Hbs := Lib.hid hbs
  clear hbs hE
  go_loopg [9] 1 (fun g s9 wr => s9 = .int .i64 ((E.size : Int) - 1) ∧ wr = w')
  case atStart => exact ⟨rfl, rfl⟩
  case round =>
    obtain ⟨rfl, rfl⟩ := hrel
    by_cases h2 : E.size = 2
    · have e1 : (E.size : Int) - 1 = 1 := by omega
      rw [e1]
      have h1z : decide ((1 : Int) < (br2.size : Int)) = true := decide_eq_true (by rw [Hbs.out]; decide)
      have hlt1 : (1 : Int) < (br2.size : Int) := by rw [Hbs.out]; decide
      have hlt1n : 1 < br2.size := by rw [Hbs.out]; decide
      have hlt2 : (1 : Int) < (E.size : Int) := by omega
      have hlt2n : 1 < E.size := by omega
      have hne : ((br2[1].toNat : Int) != (E[1].toNat : Int)) = true := by
        have hx := H1.out h2 E[1] (by rw [List.getElem?_eq_getElem (by rw [size_data]; exact hlt2n)]; rfl)
        have hy : br2[1].toNat = 125 := rfl
        rw [bne_iff_ne, hy]
        omega
      have hib : ∀ (x : Int) (W : World), Calls Tryd.prog 87 #[.string (br2.extract 2 br2.size), .int .u8 x] W fun e W' => e = .returned (.int .i64 (-1)) ∧ W' = W := fun x W => (Tryd.strings_IndexByte (br2.extract 2 br2.size) x W).mono fun e W' h => ⟨by rw [h.1, extract_drop]; rfl, h.2⟩
      have HIB := Lib.hid hib
      have H2 := Lib.hid h2
      clear h2 e1 hib
      go_wp2
      go_step3
      go_wp2
      go_region
      go_wp2
      go_quiet ((go_at_call 87; exact (HIB.out _ _).mono fun _ _ h => ⟨h.1, _, h.2⟩))
      go_wp2
      rw [Exit.noGoto_ret]
      go_wp2
      rw [Exit.noGoto_ret]
      go_wp2
      go_ret
      exact ⟨rfl, Go.below_drewN (Below.refl _ _) _⟩
    · have hb2 : (br2.size : Int) = 2 := by rw [Hbs.out]; rfl
      have h1z : decide ((E.size : Int) - 1 < (br2.size : Int)) = false := decide_eq_false (by omega)
      have hlt1 : ¬ (E.size : Int) - 1 < (br2.size : Int) := by omega
      clear hb2
      go_wp2
      go_ret
      exact ⟨rfl, Below.refl _ _⟩
theorem rune_any (r : Nat) (hr : r ≤ 1114111) (w : World) : Calls Tryd.prog 75 #[.string br2, .int .i32 r] w fun e w' => e = .returned (.int .i64 (runeAt r)) ∧ Below w.heap.size w w' := by
  by_cases h : r < 128
  · have := Tryd.strings_IndexRune_ascii br2 (r : Int) w (by omega) (by omega)
    rw [br2_list, index_two r h] at this
    exact this.mono fun e w' h => ⟨h.1, by rw [h.2]; exact Below.refl _ _⟩
  · have e : runeAt r = -1 := by unfold runeAt; rw [if_neg (by omega), if_neg (by omega)]
    rw [e]
    by_cases he : r = 65533
    · subst he; exact rune_err w
    · exact rune_far r (by omega) hr he w
set_option maxHeartbeats 4000000 in
set_option maxRecDepth 1000000 in
theorem indexAny_short (s : ByteArray) (hs : s.size ≤ 8) (w : World) : Calls Tryd.prog 62 #[.string s, .string br2] w fun e w' => (∃ i : Int, e = .returned (.int .i64 i) ∧ decide (0 ≤ i) = hasB s.data.toList) ∧ Below w.heap.size w w' := by
  have hem : br2.toList.isEmpty = false := by rw [Lib.toList_data]; rfl
  have hb2 : br2.size = 2 := by decide
  have hn1 : ((br2.size : Int) == 1) = false := beq_eq_false_iff_ne.2 (by rw [hb2]; decide)
  have Hb2 := Lib.hid hb2
  have hU : ∀ W, Calls Tryd.prog 76 #[.int .i64 (s.size : Nat)] W fun e w' => e = .returned (.bool false) ∧ w' = W := fun W => by
    have := Tryd.strings_shouldUseASCIISet (s.size : Int) W
    rw [decide_eq_false (by omega)] at this
    exact this
  have HU := Lib.hid hU
  clear hb2 hU
  obtain ⟨ANS, hANS⟩ : ∃ b, hasB s.data.toList = b := ⟨_, rfl⟩
  rw [hANS]
  have HA := Lib.hid hANS
  clear hANS
  go_enter Tryd.func62, Tryd.ntmps62
  go_wp2_with fail
  go_at_call 76
  refine (HU.out _).mono ?_
  rintro e w' ⟨rfl, rfl⟩
  go_wp2
  go_loopw [] (fun wr => ∃ pos : Nat, wr.heap[w'.heap.size]? = some (.stringIter s pos) ∧ Hid (Below w'.heap.size w' wr) ∧ Hid (hasB (s.data.toList.drop pos) = ANS)) (fun wr => s.size - wr.iterPos w'.heap.size)
  case atStart => exact ⟨0, World.iter_heap w' s 0, (Below.refl _ w').alloc (Nat.le_refl _) _, by unfold Hid; rw [List.drop_zero]; exact HA.out⟩
  case round =>
    obtain ⟨pos, hit, Hb, Hans⟩ := hrel
    have hsz : w'.heap.size < wr.heap.size := (Array.getElem?_eq_some_iff.1 hit).1
    by_cases hp : pos < s.size
    · have hnx : ∀ ty, (Instr.next (.pointer (some ⟨w'.heap.size, 0, none⟩)) true ty).run Tryd.prog wr = _ := fun ty => Lib.run_next_any_at wr w'.heap.size s pos ty hit hp
      have hit2 := Lib.iterAt_heap wr w'.heap.size s pos (pos + (Utf8.decode s pos).2) hit
      have hb2 := Lib.below_iterAt Hb.out (k := w'.heap.size) (by omega) s (pos + (Utf8.decode s pos).2)
      have hR := fun W => rune_any (Utf8.decode s pos).1 (Lib.rune_le s pos) W
      have hwd := Lib.width_pos s pos
      have hst := hasB_step s pos hp
      have hhr := hasB_here s pos hp
      have hpz : (0 : Int) ≤ (pos : Int) := by omega
      have hpz2 : (pos : Int) ≤ 8 := by omega
      have Hst := Lib.hid hst
      have Hhr := Lib.hid hhr
      have HR := Lib.hid hR
      have Hb2' := Lib.hid hb2
      have Hit2 := Lib.hid hit2
      have Hit := Lib.hid hit
      have Hwd := Lib.hid hwd
      clear hst hhr hR hb2 hit2 hit hwd
      by_cases hbr : (Utf8.decode s pos).1 = 123 ∨ (Utf8.decode s pos).1 = 125
      · have hge : decide ((0 : Int) ≤ runeAt (Utf8.decode s pos).1) = true := by
          unfold runeAt
          rcases hbr with h | h <;> rw [h] <;> decide
        have hge2 : (0 : Int) ≤ runeAt (Utf8.decode s pos).1 := of_decide_eq_true hge
        have Hbr := Lib.hid hbr
        clear hbr
        go_wp2_with fail
        go_at_call 75
        refine (HR.out _).mono ?_
        rintro e w2 ⟨rfl, hbw⟩
        have HB := Lib.hid (Hb2'.out.trans (hbw.mono Hb2'.out.size))
        clear hbw
        go_wp2
        go_ret
        exact ⟨⟨_, rfl, by rw [decide_eq_true hpz, ← Hans.out, Hhr.out Hbr.out]⟩, HB.out⟩
      · have hge : decide ((0 : Int) ≤ runeAt (Utf8.decode s pos).1) = false := by
          unfold runeAt
          rw [if_neg (fun h => hbr (.inl h)), if_neg (fun h => hbr (.inr h))]; decide
        have hge2 : ¬ (0 : Int) ≤ runeAt (Utf8.decode s pos).1 := of_decide_eq_false hge
        have hnb := Hst.out ⟨fun h => hbr (.inl h), fun h => hbr (.inr h)⟩
        have Hnb := Lib.hid hnb
        clear hbr hnb
        go_wp2_with fail
        go_at_call 75
        refine (HR.out _).mono ?_
        rintro e w2 ⟨rfl, hbw⟩
        have HB := Lib.hid (Hb2'.out.trans (hbw.mono Hb2'.out.size))
        have hit3 : w2.heap[w'.heap.size]? = some (.stringIter s (pos + (Utf8.decode s pos).2)) := (hbw.block _ (Array.getElem?_eq_some_iff.1 Hit2.out).1).trans Hit2.out
        have Hit3 := Lib.hid hit3
        clear hbw hit3
        go_wp2
        go_roundw
        case rel => exact ⟨pos + (Utf8.decode s pos).2, Hit3.out, HB.out, by unfold Hid; rw [← Hnb.out]; exact Hans.out⟩
        case measure =>
          simp only [World.iterPos, Hit3.out, Hit.out]
          have := Hwd.out
          omega
    · have hnx : ∀ ty, (Instr.next (.pointer (some ⟨w'.heap.size, 0, none⟩)) true ty).run Tryd.prog wr = _ := fun ty => Lib.run_next_end_at wr w'.heap.size s pos ty hit hp
      go_wp2
      go_ret
      refine ⟨⟨-1, rfl, ?_⟩, Hb.out⟩
      rw [← Hans.out, List.drop_eq_nil_of_le (by rw [size_data]; omega)]
      rfl
theorem indexAny_any (s : ByteArray) (hs : s.size ≤ 4000000) (w : World) : Calls Tryd.prog 62 #[.string s, .string br2] w fun e w' => (∃ i : Int, e = .returned (.int .i64 i) ∧ decide (0 ≤ i) = hasB s.data.toList) ∧ Below w.heap.size w w' := by
  by_cases h8 : s.size ≤ 8
  · exact indexAny_short s h8 w
  · have hz := (zero_of_info (P := Tryd.prog) (t := 97) (v := .agg (Array.replicate 256 (.bool false))) (n := 256) (by kernel_rfl)).1
    have := Tryd.strings_IndexAny_long hz s br2 w (by decide) (by omega) (by omega) (by decide) (by
      intro j b hj
      rw [br2_list] at hj
      have : j < 2 := (List.getElem?_eq_some_iff.1 hj).1
      match j, hj with
      | 0, hj => simp at hj; subst hj; decide
      | 1, hj => simp at hj; subst hj; decide)
    refine this.mono ?_
    rintro e w' ⟨rfl, rfl⟩
    refine ⟨⟨_, rfl, ?_⟩, ((Below.refl _ _).alloc (Nat.le_refl _) _).alloc (by simp) _⟩
    rw [br2_list]
    exact containsAny_two s.data.toList
set_option maxHeartbeats 1000000 in
theorem caAll (s : ByteArray) (hs : s.size ≤ 4000000) : CaTo s := by
  intro w
  have hI := fun W => indexAny_any s hs W
  have HI := Lib.hid hI
  obtain ⟨q, hq⟩ : ∃ q, hasBrace s = q := ⟨_, rfl⟩
  rw [hq]
  have Hq := Lib.hid hq
  clear hI hq
  have e2 : (⟨#[123, 125]⟩ : ByteArray) = br2 := rfl
  rw [e2]
  clear e2
  go_enter Tryd.func40, Tryd.ntmps40
  go_wp2_with fail
  go_at_call 62
  refine (HI.out _).mono ?_
  rintro e w' ⟨⟨i, rfl, hi⟩, hb⟩
  have hi2 : decide ((0 : Int) ≤ i) = q := hi.trans Hq.out
  have HB := Lib.hid hb
  clear hi hb
  cases q
  all_goals
    go_wp2
    go_ret
    exact ⟨rfl, HB.out⟩
end Go.Proofs.YtmceblemiboedaaDoor

namespace Go.Proofs.YtmceblemiboedaaDoor
open Go.RowKit
set_option linter.unusedVariables false
set_option linter.unusedSimpArgs false

def strSize : Value → Nat | .string b => b.size | _ => 0
theorem decodeL_pos (l : List UInt8) : 1 ≤ (Lib.decodeL l).2 := Lib.decodeL_width l
theorem ext_size (t : ByteArray) (n : Nat) (h : n ≤ t.size) : (t.extract 0 n).size = n ∧ (t.extract n t.size).size = t.size - n := by
  constructor
  · simp; omega
  · simp
theorem runeIn_any (s : ByteArray) (w : World) (hT : TabU w) (hs : 0 < s.size) : Calls Tryd.prog 48 #[.string s] w fun e w' => e = .returned (.tuple #[.int .i32 (Lib.decodeL s.data.toList).1, .int .i64 (Lib.decodeL s.data.toList).2]) ∧ Below w.heap.size w w' := by
  have h := Tryd.utf8_DecodeRuneInString s w hT
  have e : Lib.decodeGo s = Lib.decodeL s.data.toList := by
    unfold Lib.decodeGo Lib.decodeL
    rw [if_neg (by omega)]
  rw [e] at h
  exact h
theorem infoStr : (Tryd.prog.info? 9).map (fun i => (i.zero, i.size, i.bytes)) = some (some (.string ⟨#[]⟩), 1, 16) := by kernel_rfl
/-- A text's signs, one by one; none: it isn't made of signs alone. -/
def sigs : Nat → List UInt8 → Option (List (List UInt8))
  | 0, _ => some []
  | f + 1, l => if l = [] then some [] else if (Lib.decodeL l).1 = 65533 ∧ (Lib.decodeL l).2 ≤ 1 then none else (sigs f (l.drop (Lib.decodeL l).2)).map (l.take (Lib.decodeL l).2 :: ·)

def strV (l : List UInt8) : Value := .string ⟨l.toArray⟩
def sigAll (l : List UInt8) : Option (List (List UInt8)) := sigs l.length l
def SignsEnd (l : List UInt8) (B : Nat) (w' : World) (e : Ending) : Prop :=
  (sigAll l = none ∧ e = .returned (.tuple #[.slice none 0 0, .bool false])) ∨ ∃ xs v, sigAll l = some xs ∧ xs.length ≤ l.length ∧ e = .returned (.tuple #[v, .bool true]) ∧ w'.ownsRowF B 9 1 v xs.length (xs.map strV)
theorem sigs_step (f : Nat) (l : List UInt8) (hne : l ≠ []) : sigs (f + 1) l = if (Lib.decodeL l).1 = 65533 ∧ (Lib.decodeL l).2 ≤ 1 then none else (sigs f (l.drop (Lib.decodeL l).2)).map (l.take (Lib.decodeL l).2 :: ·) := by
  rw [sigs, if_neg hne]
theorem sigs_nil (f : Nat) : sigs f [] = some [] := by cases f <;> rfl
theorem strV_extract (t : ByteArray) (n : Nat) : strV (t.data.toList.take n) = .string (t.extract 0 n) := by
  unfold strV
  congr 1
  apply bytes_eq
  rw [extract_take]

theorem ownsRowF_below {w w1 : World} {base : Nat} {e : TypeId} {size : Nat} {v : Value} {n : Nat} {xs : List Value} (h : w.ownsRowF base e size v n xs) (hb : Below w.heap.size w w1) : w1.ownsRowF base e size v n xs := by
  refine ⟨h.1, ?_⟩
  rcases h.2 with hn | ⟨g, cap, cur, fz, hv, hbg, hg, rest⟩
  · exact Or.inl hn
  · exact Or.inr ⟨g, cap, cur, fz, hv, hbg, (hb.block g (Array.getElem?_eq_some_iff.1 hg).1).trans hg, rest⟩
theorem owns_empty (w : World) (e : TypeId) : (w.alloc (.cells #[] e)).ownsRowF w.heap.size e 1 (.slice (some ⟨w.heap.size, 0, none⟩) 0 0) 0 [] := by
  refine ⟨rfl, Or.inr ⟨w.heap.size, 0, #[], (0, 0), rfl, Nat.le_refl _, heap_alloc_new w _, Nat.le_refl _, Nat.le_refl _, by decide, rfl, ?_⟩⟩
  simp

set_option maxHeartbeats 4000000 in
set_option maxRecDepth 1000000 in
theorem signs_any (s : ByteArray) (w : World) (hT : TabU w) (hs : s.size ≤ 4000000) :
    Calls Tryd.prog 28 #[.string s] w fun e w' => SignsEnd s.data.toList w.heap.size w' e ∧ Below w.heap.size w w' := by
  obtain ⟨i0, hi, hz0, hz1, hz2⟩ := info_parts infoStr
  have hTw := Lib.hid hT
  clear hT
  go_enter Tryd.func28, Tryd.ntmps28
  go_wp2
  go_loopw [0, 4] (fun st ot wr => ∃ (t : ByteArray) (done : List (List UInt8)) (f : Nat), st = .string t ∧ Hid (wr.ownsRowF w.heap.size 9 1 ot done.length (done.map strV)) ∧ Hid ((sigs f t.data.toList).map (done ++ ·) = sigAll s.data.toList) ∧ Hid (t.size ≤ f) ∧ Hid (done.length + t.size ≤ s.size) ∧ Below w.heap.size w wr) (fun st _ _ => strSize st)
  case atStart =>
    refine ⟨s, [], s.size, rfl, ?_, ?_, by show s.size ≤ s.size; omega, by show 0 + s.size ≤ s.size; omega, (Below.refl _ w).alloc (Nat.le_refl _) _⟩
    · exact owns_empty w 9
    · show _ = _
      unfold sigAll
      rw [size_data]
      cases sigs s.size s.data.toList <;> simp
  case round =>
    obtain ⟨t, done, f, rfl, Hown, Hsig, Hf, Hlen, hbw⟩ := hrel
    by_cases h0 : 0 < t.size
    · have hne : t.data.toList ≠ [] := by
        intro e
        have h1 := size_data t
        rw [e, List.length_nil] at h1
        omega
      obtain ⟨f, rfl⟩ : ∃ f', f = f' + 1 := ⟨f - 1, by have := Hf.out; omega⟩
      have hsg := Hsig.out
      rw [sigs_step f _ hne] at hsg
      have hw1 := decodeL_pos t.data.toList
      have hw2 := Lib.decodeL_le t.data.toList hne
      have hcall' := runeIn_any t wr (hTw.out.below hbw) h0
      have hsv := strV_extract t (Lib.decodeL t.data.toList).2
      have hed := extract_drop t (Lib.decodeL t.data.toList).2
      rw [size_data] at hw2
      generalize Lib.decodeL t.data.toList = rn at *
      obtain ⟨r, n⟩ := rn
      dsimp only at *
      have Hsv := Lib.hid hsv
      have Hed := Lib.hid hed
      have Hsg := Lib.hid hsg
      have hflen := Hlen.out
      clear hsv hed hsg hne Hsig
      have hn1 : (1 : Int) ≤ n := by omega
      have hn2 : (n : Int) ≤ t.size := by omega
      by_cases hbad : r = 65533 ∧ n ≤ 1
      · obtain ⟨hr, hn⟩ := hbad
        obtain rfl : n = 1 := by omega
        subst hr
        have hfin := Hsg.out
        rw [if_pos ⟨rfl, Nat.le_refl _⟩] at hfin
        have Hfin := Lib.hid hfin
        clear hfin Hsg
        go_wp2_with fail
        go_at_call 48
        refine hcall'.mono ?_
        rintro e W1 ⟨rfl, b1⟩
        go_wp2
        go_ret2
        exact ⟨Or.inl ⟨Hfin.out.symm, rfl⟩, hbw.trans (b1.mono hbw.size)⟩
      · have hpart : (((r : Int) == 65533) = true ∧ ¬ ((n : Int) ≤ 1)) ∨ ((r : Int) == 65533) = false := by
          by_cases h : r = 65533
          · left; exact ⟨by rw [h]; rfl, by intro e; exact hbad ⟨h, by omega⟩⟩
          · right; rw [beq_eq_false_iff_ne]; omega
        have hfin := Hsg.out
        rw [if_neg hbad] at hfin
        have Hfin := Lib.hid hfin
        clear hfin Hsg hbad
        rcases hpart with ⟨hq1, hq2⟩ | hq1
        all_goals
          go_wp2_with fail
          go_at_call 48
          refine hcall'.mono ?_
          rintro e W1 ⟨rfl, b1⟩
          have hown1 := ownsRowF_below Hown.out b1
          go_wp2_with (at_builtin; refine wpList_append_ownF _ rfl _ _ 53 rfl w.heap.size 9 i0 (.string ⟨#[]⟩) 1 16 Tryd.underlying53 hi hz0 hz1 hz2 rfl (by decide) _ _ _ rfl (hown1.alloc _) ⟨W1.heap.size, 0, none⟩ 1 1 [.string (t.extract 0 n)] rfl rfl ?c1 ?c2 ?c3 ?c4 ?c5 ?_)
          case c1 =>
            intro j u hj
            match j, hj with
            | 0, hj => simp at hj; subst hj; simp [Addr.add]
          case c2 => intro u hu; simp at hu; subst hu; rfl
          case c3 => unfold maxLen; omega
          case c4 => omega
          case c5 => have := hbw.size; have := b1.size; simp; omega
          intro v' w2 hown' hgrow _
          have hbw2 : Below w.heap.size w w2 := ((hbw.trans (b1.mono hbw.size)).alloc (by have := hbw.size; have := b1.size; omega) _).grown hgrow (by have := hbw.size; have := b1.size; simp; omega) (fun k hk => ((hown1.alloc (.cells #[.string (t.extract 0 n)] 9)).lt k hk).1)
          have Hown' := Lib.hid hown'
          clear hown' hgrow hown1
          go_wp2
          go_roundw
          case rel =>
            refine ⟨_, done ++ [t.data.toList.take n], f, rfl, ?_, ?_, ?_, ?_, hbw2⟩
            · show World.ownsRowF _ _ _ _ _ _ _
              have := Hown'.out
              rw [← Hsv.out] at this
              simpa using this
            · show _ = _
              rw [Hed.out, ← Hfin.out, Option.map_map]
              congr 1
              funext x
              simp
            · show _ ≤ _
              rw [(ext_size t n hw2).2]; have := Hf.out; omega
            · show _ ≤ _
              rw [(ext_size t n hw2).2, List.length_append, List.length_singleton]; omega
          case measure =>
            show (t.extract n t.size).size < t.size
            rw [(ext_size t n hw2).2]; omega
    · have ht0 : t.data.toList = [] := List.eq_nil_of_length_eq_zero (by rw [size_data]; omega)
      have hsg := Hsig.out
      rw [ht0, sigs_nil] at hsg
      have Hsg := Lib.hid hsg
      clear hsg ht0 Hsig
      go_wp2
      go_ret2
      exact ⟨Or.inr ⟨done, _, by rw [← Hsg.out]; simp, by rw [size_data]; have := Hlen.out; omega, rfl, Hown.out⟩, hbw⟩
end Go.Proofs.YtmceblemiboedaaDoor

/-
  Law 06's Name: whatever text (as in ScNames, of greater texts).
-/
namespace Go.Proofs.YtmceblemiboedaaDoor
open Go.RowKit

theorem ldigit_any (c : UInt8) (w : World) : Calls Tryd.prog 30 #[.int .u8 (c.toNat : Int)] w fun e w' => e = .returned (.bool (dgB c)) ∧ w = w' := by
  by_cases h : (48 : Int) ≤ (c.toNat : Int)
  all_goals
    go_enter Tryd.func30, Tryd.ntmps30
    go_wp2
    go_ret
    refine ⟨ret_bool ?_, rfl⟩
    rw [Bool.eq_iff_iff]
    simp [dgB]
    omega
theorem lletter_any (c : UInt8) (w : World) : Calls Tryd.prog 29 #[.int .u8 (c.toNat : Int)] w fun e w' => e = .returned (.bool (leB c)) ∧ w = w' := by
  by_cases h1 : (97 : Int) ≤ (c.toNat : Int)
  · by_cases h2 : (c.toNat : Int) ≤ 122
    · go_enter Tryd.func29, Tryd.ntmps29
      go_wp2
      go_ret
      refine ⟨ret_bool ?_, rfl⟩
      simp [leB, h1, h2]
    · have hb : decide ((c.toNat : Int) ≤ 122) = false := by simp; omega
      by_cases h3 : (65 : Int) ≤ (c.toNat : Int)
      all_goals
        go_enter Tryd.func29, Tryd.ntmps29
        go_wp2
        go_ret
        refine ⟨ret_bool ?_, rfl⟩
        rw [Bool.eq_iff_iff]
        simp [leB]
        omega
  · by_cases h3 : (65 : Int) ≤ (c.toNat : Int)
    all_goals
      go_enter Tryd.func29, Tryd.ntmps29
      go_wp2
      go_ret
      refine ⟨ret_bool ?_, rfl⟩
      rw [Bool.eq_iff_iff]
      simp [leB]
      omega
theorem jo_or (c : UInt8) : joB c = true ↔ ((c.toNat : Int) = 95 ∨ (c.toNat : Int) = 45) := by simp [joB]
set_option maxHeartbeats 2000000 in
theorem lname_any (s : ByteArray) (w : World) (hs : s.size ≤ 4000000) :
    Calls Tryd.prog 18 #[.string s] w fun e w' => e = .returned (.bool (lnameB s.data.toList)) ∧ w = w' := by
  obtain ⟨R, hR⟩ : ∃ R, lnameB s.data.toList = R := ⟨_, rfl⟩
  rw [hR]
  have HR := Lib.hid hR
  clear hR
  have hbad : ∀ j, j < s.size → goodAt s.data.toList j = false → R = false := by
    intro j hj hg
    rw [← HR.out]
    apply Bool.eq_false_iff.2
    intro h
    have := (of_decide_eq_true h).2 j (by rw [size_data]; exact hj)
    rw [hg] at this
    cases this
  have HBad := Lib.hid hbad
  clear hbad
  go_enter Tryd.func18, Tryd.ntmps18
  go_wp2_with fail
  go_loop [3, 4] (fun t _ => ∃ j : Nat, t = .int .i64 j ∧ j ≤ s.size ∧ Hid (∀ m, m < j → goodAt s.data.toList m = true)) (fun t _ => s.size - (intOf t).toNat)
  case atStart => exact ⟨0, rfl, Nat.zero_le _, Lib.hid fun m h => by omega⟩
  case round =>
    obtain ⟨j, rfl, hjs, hg⟩ := hrel
    by_cases hlt : j < s.size
    · have hlt' : j < s.data.toList.length := by rw [size_data]; exact hlt
      have hat : at0 s.data.toList j = s[j] := at0_get _ j hlt'
      have hnext : goodAt s.data.toList j = true → Hid (∀ m, m < j + 1 → goodAt s.data.toList m = true) := fun h => Lib.hid fun m hm => by
        by_cases e : m = j
        · subst e; exact h
        · exact hg.out m (by omega)
      have Hnext := Lib.hid hnext
      have Hat := Lib.hid hat
      clear hnext hat
      cases hl : leB s[j]
      · cases hd : dgB s[j]
        · cases hj : joB s[j]
          · obtain rfl : R = false := HBad.out j hlt (by unfold goodAt; rw [Hat.out, hl, hd, hj]; simp)
            have h1 : ((s[j].toNat : Int) != 95) = true := by
              apply bne_iff_ne.2; intro h; rw [(jo_or _).2 (.inl h)] at hj; cases hj
            have h2 : ((s[j].toNat : Int) != 45) = true := by
              apply bne_iff_ne.2; intro h; rw [(jo_or _).2 (.inr h)] at hj; cases hj
            clear hj
            by_cases hz : j = 0
            · subst hz
              go_wp2_with (first | (go_at_call 29; refine (lletter_any _ _).mono ?_; rw [hl]; rintro e w' ⟨rfl, rfl⟩) | (go_at_call 30; refine (ldigit_any _ _).mono ?_; rw [hd]; rintro e w' ⟨rfl, rfl⟩))
              go_ret
              exact ⟨rfl, rfl⟩
            · have hz' : ((j : Int) == 0) = false := by simp; omega
              go_wp2_with (first | (go_at_call 29; refine (lletter_any _ _).mono ?_; rw [hl]; rintro e w' ⟨rfl, rfl⟩) | (go_at_call 30; refine (ldigit_any _ _).mono ?_; rw [hd]; rintro e w' ⟨rfl, rfl⟩))
              go_ret
              exact ⟨rfl, rfl⟩
          · by_cases hz : j = 0
            · subst hz
              obtain rfl : R = false := HBad.out 0 hlt (by unfold goodAt; rw [Hat.out, hl]; simp)
              clear hj
              go_wp2_with (first | (go_at_call 29; refine (lletter_any _ _).mono ?_; rw [hl]; rintro e w' ⟨rfl, rfl⟩) | (go_at_call 30; refine (ldigit_any _ _).mono ?_; rw [hd]; rintro e w' ⟨rfl, rfl⟩))
              go_ret
              exact ⟨rfl, rfl⟩
            · have hz' : ((j : Int) == 0) = false := by simp; omega
              have hgd := Hnext.out (by unfold goodAt; rw [Hat.out, hl, hj]; simp; omega)
              rcases (jo_or _).1 hj with h | h
              · have h1 : ((s[j].toNat : Int) != 95) = false := by rw [h]; rfl
                clear hj h
                go_wp2_with (first | (go_at_call 29; refine (lletter_any _ _).mono ?_; rw [hl]; rintro e w' ⟨rfl, rfl⟩) | (go_at_call 30; refine (ldigit_any _ _).mono ?_; rw [hd]; rintro e w' ⟨rfl, rfl⟩))
                go_round
                case rel => exact ⟨j + 1, by go_num, by omega, hgd⟩
                case measure => simp [intOf]; omega
              · have h1 : ((s[j].toNat : Int) != 95) = true := by rw [h]; rfl
                have h2 : ((s[j].toNat : Int) != 45) = false := by rw [h]; rfl
                clear hj h
                go_wp2_with (first | (go_at_call 29; refine (lletter_any _ _).mono ?_; rw [hl]; rintro e w' ⟨rfl, rfl⟩) | (go_at_call 30; refine (ldigit_any _ _).mono ?_; rw [hd]; rintro e w' ⟨rfl, rfl⟩))
                go_round
                case rel => exact ⟨j + 1, by go_num, by omega, hgd⟩
                case measure => simp [intOf]; omega
        · by_cases hz : j = 0
          · subst hz
            obtain rfl : R = false := HBad.out 0 hlt (by unfold goodAt; rw [Hat.out, hl]; simp)
            go_wp2_with (first | (go_at_call 29; refine (lletter_any _ _).mono ?_; rw [hl]; rintro e w' ⟨rfl, rfl⟩) | (go_at_call 30; refine (ldigit_any _ _).mono ?_; rw [hd]; rintro e w' ⟨rfl, rfl⟩))
            go_ret
            exact ⟨rfl, rfl⟩
          · have hz' : ((j : Int) == 0) = false := by simp; omega
            have hgd := Hnext.out (by unfold goodAt; rw [Hat.out, hl, hd]; simp; omega)
            go_wp2_with (first | (go_at_call 29; refine (lletter_any _ _).mono ?_; rw [hl]; rintro e w' ⟨rfl, rfl⟩) | (go_at_call 30; refine (ldigit_any _ _).mono ?_; rw [hd]; rintro e w' ⟨rfl, rfl⟩))
            go_round
            case rel => exact ⟨j + 1, by go_num, by omega, hgd⟩
            case measure => simp [intOf]; omega
      · have hgd := Hnext.out (by unfold goodAt; rw [Hat.out, hl]; rfl)
        go_wp2_with (first | (go_at_call 29; refine (lletter_any _ _).mono ?_; rw [hl]; rintro e w' ⟨rfl, rfl⟩) | (go_at_call 30; refine (ldigit_any _ _).mono ?_; rintro e w' ⟨rfl, rfl⟩))
        go_round
        case rel => exact ⟨j + 1, by go_num, by omega, hgd⟩
        case measure => simp [intOf]; omega
    · obtain rfl : j = s.size := by omega
      have hfin := Lib.hid (show R = decide (0 < s.size) by
        rw [← HR.out]
        unfold lnameB
        rw [Bool.eq_iff_iff, decide_eq_true_iff, decide_eq_true_iff, size_data]
        exact ⟨fun h => by omega, fun h => ⟨by omega, hg.out⟩⟩)
      go_wp2
      go_ret
      exact ⟨ret_bool hfin.out.symm, rfl⟩

def bigTo (s : ByteArray) (j : Nat) : Bool := decide (0 < s.size) && (s.data.toList.take j).all biB
theorem bigTo_succ (s : ByteArray) (j : Nat) (h : j < s.size) : bigTo s (j + 1) = (bigTo s j && biB s[j]) := by
  unfold bigTo
  rw [take_succ s j h, List.all_append]
  cases decide (0 < s.size) <;> simp
theorem behN_all (p : UInt8 → Bool) (l : List UInt8) : (behN p l 0 = l.length) ↔ l.all p = true := by
  rw [all_at]
  constructor
  · intro h m hm
    exact behN_so p l 0 m (Nat.zero_le _) (by omega)
  · intro h
    have h1 := behN_le p l 0 (Nat.zero_le _)
    by_cases e : behN p l 0 < l.length
    · have := behN_stop p l 0 e
      rw [h _ e] at this
      cases this
    · omega
theorem empty_size (s : ByteArray) : s.data.toList.isEmpty = !decide (0 < s.size) := by
  rw [Bool.eq_iff_iff, List.isEmpty_iff, ← List.length_eq_zero_iff, size_data]
  simp
theorem bigV_to (s : ByteArray) : bigV s = bigTo s s.size := by
  unfold bigV bigTo behI
  have h := behN_all biB s.data.toList
  rw [if_neg (by omega), empty_size, Bool.not_not, ← size_data, List.take_length]
  congr 1
  rw [Bool.eq_iff_iff, beq_iff_eq, ← h]
  simp only [Int.toNat_zero]
  omega
theorem nameV_l (s : ByteArray) : isNameV s = lnameB s.data.toList := by
  unfold isNameV lnameB
  rw [empty_size, Bool.not_not, Bool.eq_iff_iff, Bool.and_eq_true, decide_eq_true_iff, decide_eq_true_iff, beq_iff_eq, size_data]
  have hl := lname_iff s.data.toList 0 s.size (by rw [size_data]; exact Nat.le_refl _)
  unfold lnameB at hl
  have hpc : pc s.data.toList 0 s.size = s.data.toList := by
    unfold pc
    rw [List.drop_zero, ← size_data, List.take_length]
  rw [hpc, decide_eq_true_iff, size_data] at hl
  rw [hl]
  unfold nameI
  rw [size_data]
  constructor
  · rintro ⟨h0, h1⟩
    by_cases hc : (0 : Int) ≤ 0 ∧ (0 : Int) < s.size ∧ leB (s.data.toList.getD (0 : Int).toNat 0) = true
    · rw [if_pos hc] at h1
      refine ⟨h0, hc.2.2, fun m _ hm => ?_⟩
      unfold behI at h1
      rw [if_neg (by omega)] at h1
      exact behN_so naB _ 0 m (Nat.zero_le _) (by rw [show (0 : Int).toNat = 0 from rfl] at h1; omega)
    · rw [if_neg hc] at h1; omega
  · rintro ⟨h0, h1, h2⟩
    refine ⟨h0, ?_⟩
    rw [if_pos ⟨by omega, by omega, h1⟩]
    unfold behI
    rw [if_neg (by omega), show (0 : Int).toNat = 0 from rfl]
    have h := (behN_all naB s.data.toList).2 ((all_at _ _).2 fun m hm => h2 m (Nat.zero_le _) (by rw [size_data] at hm; exact hm))
    rw [h, size_data]
end Go.Proofs.YtmceblemiboedaaDoor

/-
  Plain mathematics of package scan: numbers, as the law reads them, and the longest one.
-/
namespace Go.Proofs.YtmceblemiboedaaDoor
set_option linter.unusedVariables false

def ptAt (t : List UInt8) (m : Nat) : Bool := decide (at0 t m = 46 ∧ 0 < m ∧ m + 1 < t.length)
def okAt (t : List UInt8) (m : Nat) : Bool := ptAt t m || dgB (at0 t m)
def cntP (t : List UInt8) : Nat → Nat
  | 0 => 0
  | m + 1 => cntP t m + if ptAt t m = true then 1 else 0
def numB (t : List UInt8) : Bool := decide (0 < t.length ∧ (∀ m, m < t.length → okAt t m = true) ∧ cntP t t.length ≤ 1)
def strip (x : List UInt8) : List UInt8 := if at0 x 0 = 45 then x.drop 1 else x
def lnumB (x : List UInt8) : Bool := numB (strip x)
theorem cnt_mono (t : List UInt8) : ∀ (n m : Nat), m ≤ n → cntP t m ≤ cntP t n
  | 0, m, h => by rw [show m = 0 by omega]; exact Nat.le_refl _
  | n + 1, m, h => by
    by_cases e : m = n + 1
    · rw [e]; exact Nat.le_refl _
    · have := cnt_mono t n m (by omega)
      rw [cntP]; omega
theorem cnt_two (t : List UInt8) (p q n : Nat) (hpq : p < q) (hq : q < n) (h1 : ptAt t p = true) (h2 : ptAt t q = true) : 2 ≤ cntP t n := by
  have a := cnt_mono t n (q + 1) (by omega)
  have b := cnt_mono t q (p + 1) (by omega)
  rw [cntP, if_pos h2] at a
  rw [cntP, if_pos h1] at b
  omega
theorem cnt_none (t : List UInt8) : ∀ n, (∀ m, m < n → ptAt t m = false) → cntP t n = 0
  | 0, _ => rfl
  | n + 1, h => by
    rw [cntP, cnt_none t n (fun m hm => h m (by omega)), if_neg (by rw [h n (by omega)]; decide)]
theorem cnt_one (t : List UInt8) (p : Nat) : ∀ n, (∀ m, m < n → m ≠ p → ptAt t m = false) → cntP t n ≤ 1
  | 0, _ => by rw [cntP]; omega
  | n + 1, h => by
    rw [cntP]
    by_cases e : n = p
    · subst e
      rw [cnt_none t n (fun m hm => h m (by omega) (by omega))]
      split <;> omega
    · have := cnt_one t p n (fun m hm => h m (by omega))
      rw [if_neg (by rw [h n (by omega) e]; decide)]
      omega
theorem dg_46 : dgB 46 = false := by decide
theorem dg_45 : dgB 45 = false := by decide

/-- A piece behind its sign: the piece from a on. -/
theorem strip_pc (l : List UInt8) (i k : Nat) (hik : i < k) (hk : k ≤ l.length) : strip (pc l i k) = pc l (if at0 l i = 45 then i + 1 else i) k := by
  unfold strip
  rw [pc_at l i k 0 (by omega), Nat.add_zero]
  split
  · unfold pc; rw [List.drop_drop]
  · rfl
section
variable (l : List UInt8) (a k : Nat) (hk : k ≤ l.length)
include hk
theorem pt_pc (m : Nat) (h : a + m < k) : ptAt (pc l a k) m = decide (at0 l (a + m) = 46 ∧ 0 < m ∧ a + m + 1 < k) := by
  unfold ptAt
  rw [pc_at l a k m h, pc_length l a k hk]
  congr 1
  apply propext
  constructor
  · rintro ⟨x, y, z⟩; exact ⟨x, y, by omega⟩
  · rintro ⟨x, y, z⟩; exact ⟨x, y, by omega⟩
theorem ok_pc (m : Nat) (h : a + m < k) : okAt (pc l a k) m = (decide (at0 l (a + m) = 46 ∧ 0 < m ∧ a + m + 1 < k) || dgB (at0 l (a + m))) := by
  unfold okAt
  rw [pt_pc l a k hk m h, pc_at l a k m h]
/-- Digits alone. -/
theorem num_digits (h : a < k) (hd : ∀ m, a ≤ m → m < k → dgB (at0 l m) = true) : numB (pc l a k) = true := by
  unfold numB
  rw [decide_eq_true_iff, pc_length l a k hk]
  refine ⟨by omega, fun m hm => ?_, ?_⟩
  · rw [ok_pc l a k hk m (by omega), hd _ (by omega) (by omega)]; simp
  · rw [cnt_none]
    · omega
    · intro m hm
      rw [pt_pc l a k hk m (by omega)]
      apply decide_eq_false
      rintro ⟨x, _, _⟩
      have := hd (a + m) (by omega) (by omega)
      rw [x, dg_46] at this
      cases this
/-- Digits, a point, digits. -/
theorem num_point (e : Nat) (hae : a < e) (hek : e + 1 < k) (hp : at0 l e = 46) (hd1 : ∀ m, a ≤ m → m < e → dgB (at0 l m) = true) (hd2 : ∀ m, e + 1 ≤ m → m < k → dgB (at0 l m) = true) : numB (pc l a k) = true := by
  unfold numB
  rw [decide_eq_true_iff, pc_length l a k hk]
  have hdg : ∀ m, a ≤ m → m < k → m ≠ e → dgB (at0 l m) = true := fun m h1 h2 h3 => by
    by_cases h : m < e
    · exact hd1 m h1 h
    · exact hd2 m (by omega) h2
  refine ⟨by omega, fun m hm => ?_, ?_⟩
  · rw [ok_pc l a k hk m (by omega)]
    by_cases h : a + m = e
    · rw [decide_eq_true ⟨by rw [h]; exact hp, by omega, by omega⟩]; rfl
    · rw [hdg _ (by omega) (by omega) h]; simp
  · apply cnt_one _ (e - a)
    intro m hm hne
    rw [pt_pc l a k hk m (by omega)]
    apply decide_eq_false
    rintro ⟨x, _, _⟩
    have := hdg (a + m) (by omega) (by omega) (by omega)
    rw [x, dg_46] at this
    cases this
/-- What is none: a sign that is neither a digit nor a point where one may be. -/
theorem num_bad (p : Nat) (h1 : a ≤ p) (h2 : p < k) (hd : dgB (at0 l p) = false) (hn : ¬ (at0 l p = 46 ∧ a < p ∧ p + 1 < k)) : numB (pc l a k) = false := by
  unfold numB
  apply decide_eq_false
  rintro ⟨_, h, _⟩
  rw [pc_length l a k hk] at h
  have := h (p - a) (by omega)
  rw [ok_pc l a k hk _ (by omega), show a + (p - a) = p by omega, hd, Bool.or_false, decide_eq_true_iff] at this
  exact hn ⟨this.1, by omega, this.2.2⟩
/-- .. or two points. -/
theorem num_two (p q : Nat) (h1 : a < p) (hpq : p < q) (h2 : q < k) (hp : at0 l p = 46) (hd : dgB (at0 l q) = false) : numB (pc l a k) = false := by
  by_cases hq : at0 l q = 46 ∧ a < q ∧ q + 1 < k
  · unfold numB
    apply decide_eq_false
    rintro ⟨_, _, h⟩
    rw [pc_length l a k hk] at h
    have := cnt_two (pc l a k) (p - a) (q - a) (k - a) (by omega) (by omega) (by
      rw [pt_pc l a k hk _ (by omega), show a + (p - a) = p by omega]
      exact decide_eq_true ⟨hp, by omega, by omega⟩) (by
      rw [pt_pc l a k hk _ (by omega), show a + (q - a) = q by omega]
      exact decide_eq_true ⟨hq.1, by omega, by omega⟩)
    omega
  · exact num_bad l a k hk q (by omega) h2 hd hq
omit hk in
theorem num_empty (h : k ≤ a) : numB (pc l a k) = false := by
  unfold numB
  apply decide_eq_false
  rintro ⟨h0, _⟩
  have : (pc l a k).length = 0 := by unfold pc; rw [List.length_drop, List.length_take]; omega
  omega
end
/-- The place behind the longest number: as the program tells it, over places from 0 on. -/
def numN (l : List UInt8) (i : Nat) : Nat :=
  let a := if i < l.length ∧ at0 l i = 45 then i + 1 else i
  let e := behN dgB l a
  let b := if e < l.length ∧ at0 l e = 46 then e + 1 else e
  let e2 := behN dgB l b
  if a < e then (if b < e2 then e2 else e) else i
theorem long_num (l : List UInt8) (i : Nat) (hi : i ≤ l.length) : longN lnumB l i l.length = numN l i := by
  have hstrip : ∀ k, i < k → k ≤ l.length → lnumB (pc l i k) = numB (pc l (if i < l.length ∧ at0 l i = 45 then i + 1 else i) k) := by
    intro k h1 h2
    unfold lnumB
    rw [strip_pc l i k h1 h2]
    by_cases h : at0 l i = 45
    · rw [if_pos h, if_pos ⟨by omega, h⟩]
    · rw [if_neg h, if_neg (fun x => h x.2)]
  unfold numN
  dsimp only
  have hia : i ≤ (if i < l.length ∧ at0 l i = 45 then i + 1 else i) ∧ (if i < l.length ∧ at0 l i = 45 then i + 1 else i) ≤ l.length := by split <;> omega
  generalize (if i < l.length ∧ at0 l i = 45 then i + 1 else i) = a at *
  have he1 := behN_ge dgB l a
  have he2 := behN_le dgB l a hia.2
  have hso := behN_so dgB l a
  have hst := behN_stop dgB l a
  generalize behN dgB l a = e at *
  by_cases hae : a < e
  · rw [if_pos hae]
    by_cases hpt : e < l.length ∧ at0 l e = 46
    · rw [if_pos hpt]
      have hf1 := behN_ge dgB l (e + 1)
      have hf2 := behN_le dgB l (e + 1) (by omega)
      have hso2 := behN_so dgB l (e + 1)
      have hst2 := behN_stop dgB l (e + 1)
      generalize behN dgB l (e + 1) = e2 at *
      by_cases hb : e + 1 < e2
      · rw [if_pos hb]
        apply longN_eq
        · exact .inr ⟨by omega, by rw [hstrip _ (by omega) hf2]; exact num_point l a e2 hf2 e hae hb hpt.2 hso (fun m x y => hso2 m x y)⟩
        · exact .inl hf2
        · intro k h1 h2
          rw [hstrip k (by omega) h2]
          exact num_two l a k h2 e e2 hae (by omega) h1 hpt.2 (hst2 (by omega))
      · rw [if_neg hb]
        have e2e : e2 = e + 1 := by omega
        subst e2e
        apply longN_eq
        · exact .inr ⟨by omega, by rw [hstrip _ (by omega) he2]; exact num_digits l a e he2 hae hso⟩
        · exact .inl he2
        · intro k h1 h2
          rw [hstrip k (by omega) h2]
          by_cases hk1 : k = e + 1
          · exact num_bad l a k h2 e (by omega) h1 (hst (by omega)) (by omega)
          · exact num_two l a k h2 e (e + 1) hae (by omega) (by omega) hpt.2 (hst2 (by omega))
    · rw [if_neg hpt]
      have hb : behN dgB l e = e := by
        by_cases h : e < l.length
        · exact behN_no dgB l e h (by rw [← at0_get l e h]; exact hst h)
        · exact behN_end dgB l e (by omega)
      rw [hb, if_neg (by omega)]
      apply longN_eq
      · exact .inr ⟨by omega, by rw [hstrip _ (by omega) he2]; exact num_digits l a e he2 hae hso⟩
      · exact .inl he2
      · intro k h1 h2
        rw [hstrip k (by omega) h2]
        exact num_bad l a k h2 e (by omega) h1 (hst (by omega)) (fun h => hpt ⟨by omega, h.1⟩)
  · rw [if_neg hae]
    apply longN_eq
    · exact .inl rfl
    · exact .inr rfl
    · intro k h1 h2
      rw [hstrip k h1 h2]
      have : e = a := by omega
      subst this
      by_cases hka : k ≤ e
      · exact num_empty l e k hka
      · exact num_bad l e k h2 e (Nat.le_refl _) (by omega) (hst (by omega)) (by omega)

theorem longI_lo (Q : List UInt8 → Bool) (l : List UInt8) (i : Int) (h : i < 0) : longI Q l i = i := by unfold longI; rw [if_pos (.inl h)]
theorem longI_hi (Q : List UInt8 → Bool) (l : List UInt8) (i : Int) (h : (l.length : Int) < i) : longI Q l i = i := by unfold longI; rw [if_pos (.inr h)]
theorem longI_mid (Q : List UInt8 → Bool) (l : List UInt8) (k : Nat) (h : k ≤ l.length) : longI Q l (k : Int) = (longN Q l k l.length : Int) := by
  unfold longI; rw [if_neg (by omega), Int.toNat_natCast]
theorem sgn_nat (l : List UInt8) (c : UInt8) (k : Nat) : sgnI l c (k : Int) = ((if k < l.length ∧ at0 l k = c then k + 1 else k : Nat) : Int) := by
  unfold sgnI at0
  rw [Int.toNat_natCast]
  by_cases h : k < l.length ∧ l.getD k 0 = c
  · rw [if_pos h, if_pos ⟨by omega, by omega, h.2⟩]; rfl
  · rw [if_neg h, if_neg (fun x => h ⟨by omega, x.2.2⟩)]
theorem behI_nat (p : UInt8 → Bool) (l : List UInt8) (k : Nat) : behI p l (k : Int) = (behN p l k : Int) := by
  unfold behI
  rw [if_neg (by omega), Int.toNat_natCast]
theorem numI_nat (l : List UInt8) (k : Nat) : numI l (k : Int) = (numN l k : Int) := by
  unfold numI numN
  dsimp only
  rw [sgn_nat, behI_nat, sgn_nat, behI_nat]
  generalize (if k < l.length ∧ at0 l k = 45 then k + 1 else k) = a
  generalize behN dgB l a = e
  generalize (if e < l.length ∧ at0 l e = 46 then e + 1 else e) = b
  generalize behN dgB l b = e2
  by_cases h1 : a < e
  · by_cases h2 : b < e2
    · rw [if_pos (by omega), if_pos (by omega), if_pos h1, if_pos h2]
    · rw [if_pos (by omega), if_neg (by omega), if_pos h1, if_neg h2]
  · rw [if_neg (by omega), if_neg h1]
theorem numI_long (l : List UInt8) (i : Int) : numI l i = longI lnumB l i := by
  by_cases h0 : i < 0
  · rw [longI_lo _ _ _ h0]
    unfold numI
    have e1 : sgnI l 45 i = i := by unfold sgnI; rw [if_neg (by omega)]
    have e2 : behI dgB l i = i := by unfold behI; rw [if_pos h0]
    rw [e1, e2, if_neg (by omega)]
  · obtain ⟨k, rfl⟩ : ∃ k : Nat, i = (k : Int) := ⟨i.toNat, by omega⟩
    by_cases h1 : l.length < k
    · rw [longI_hi _ _ _ (by omega), numI_nat]
      unfold numN
      dsimp only
      have e1 : (if k < l.length ∧ at0 l k = 45 then k + 1 else k) = k := by rw [if_neg (by omega)]
      rw [e1, behN_end dgB l k (by omega), if_neg (by omega)]
    · rw [longI_mid _ _ _ (by omega), numI_nat, long_num l k (by omega)]
theorem nameI_long (l : List UInt8) (i : Int) : nameI l i = longI lnameB l i := by
  by_cases h0 : i < 0
  · rw [longI_lo _ _ _ h0]
    unfold nameI
    rw [if_neg (by omega)]
  · obtain ⟨k, rfl⟩ : ∃ k : Nat, i = (k : Int) := ⟨i.toNat, by omega⟩
    by_cases h1 : l.length < k
    · rw [longI_hi _ _ _ (by omega)]
      unfold nameI
      rw [if_neg (by omega)]
    · rw [longI_mid _ _ _ (by omega), long_name l k (by omega)]
      unfold nameI
      rw [Int.toNat_natCast, behI_nat]
      by_cases h : k < l.length ∧ leB (at0 l k) = true
      · have h' : (0 : Int) ≤ (k : Int) ∧ (k : Int) < l.length ∧ leB (l.getD k 0) = true := ⟨by omega, by omega, h.2⟩
        rw [if_pos h', if_pos h]
      · have h' : ¬ ((0 : Int) ≤ (k : Int) ∧ (k : Int) < l.length ∧ leB (l.getD k 0) = true) := fun x => h ⟨by omega, x.2.2⟩
        rw [if_neg h', if_neg h]
end Go.Proofs.YtmceblemiboedaaDoor

/-
  The law's own Number.
-/
namespace Go.Proofs.YtmceblemiboedaaDoor
open Go.RowKit
set_option linter.unusedVariables false

theorem bad_num (T : ByteArray) (j : Nat) (h : j < T.size) (hb : okAt T.data.toList j = false) : numB T.data.toList = false := by
  apply Bool.eq_false_iff.2
  intro hq
  have := (of_decide_eq_true hq).2.1 j (by rw [size_data]; exact h)
  rw [hb] at this
  cases this
set_option maxHeartbeats 8000000 in
theorem lnumber_any (s : ByteArray) (w : World) (hs : s.size ≤ 4000000) :
    Calls Tryd.prog 51 #[.string s] w fun e w' => e = .returned (.bool (lnumB s.data.toList)) ∧ w = w' := by
  obtain ⟨R, hR⟩ : ∃ R, lnumB s.data.toList = R := ⟨_, rfl⟩
  rw [hR]
  by_cases hpos : 0 < s.size
  · have hp1 : decide ((0 : Int) < (s.size : Int)) = true := by simp; omega
    have hat : at0 s.data.toList 0 = s[0] := at0_get _ 0 (by rw [size_data]; exact hpos)
    by_cases h45 : s[0] = 45
    · have h1 : ((s[0].toNat : Int) == 45) = true := by rw [h45]; rfl
      obtain ⟨T, hT⟩ : ∃ T : ByteArray, s.extract 1 s.size = T := ⟨_, rfl⟩
      have hTs : T.size ≤ 4000000 := by rw [← hT, ByteArray.size_extract]; omega
      have HR : Hid (numB T.data.toList = R) := Lib.hid (by
        rw [← hR, ← hT, extract_drop]
        unfold lnumB strip
        rw [hat, if_pos h45])
      clear hR hat h45
      go_enter Tryd.func51, Tryd.ntmps51
      go_wp2_with fail
      go_loop [3, 4] (fun c t => ∃ (j n : Nat), t = .int .i64 j ∧ c = .int .i64 n ∧ j ≤ T.size ∧ n ≤ j ∧ Hid (n = cntP T.data.toList j) ∧ Hid (∀ m, m < j → okAt T.data.toList m = true)) (fun _ t => T.size - (intOf t).toNat)
      case atStart => exact ⟨0, 0, rfl, rfl, Nat.zero_le _, Nat.le_refl _, Lib.hid rfl, Lib.hid fun m h => by omega⟩
      case round =>
        obtain ⟨j, n, rfl, rfl, hjs, hnj, hn, hok⟩ := hrel
        by_cases hlt : j < T.size
        · have hlt' : j < T.data.toList.length := by rw [size_data]; exact hlt
          have Hat := Lib.hid (at0_get T.data.toList j hlt')
          have Hnext := Lib.hid (fun (h : okAt T.data.toList j = true) => Lib.hid (show ∀ m, m < j + 1 → okAt T.data.toList m = true from fun m hm => by
            by_cases e : m = j
            · subst e; exact h
            · exact hok.out m (by omega)))
          have Hcnt : Hid (cntP T.data.toList (j + 1) = cntP T.data.toList j + if ptAt T.data.toList j = true then 1 else 0) := Lib.hid rfl
          have Hbad := Lib.hid (bad_num T j hlt)
          rw [HR.out] at Hbad
          have hq : ((T[j].toNat : Int) == 46) = decide (T[j] = 46) := by
            rw [Bool.eq_iff_iff, beq_iff_eq, decide_eq_true_iff]
            constructor
            · intro h; exact UInt8.toNat_inj.1 (by have : (46 : UInt8).toNat = 46 := rfl; omega)
            · intro h; rw [h]; rfl
          by_cases h46 : T[j] = 46
          · have h1 : ((T[j].toNat : Int) == 46) = true := by rw [hq]; simpa using h46
            have hd0 : dgB T[j] = false := by rw [h46]; decide
            have Hd0 := Lib.hid hd0
            have H46 := Lib.hid h46
            clear hq hd0 h46
            by_cases hj0 : j = 0
            · subst hj0
              obtain rfl : R = false := Hbad.out (by unfold okAt ptAt; rw [Hat.out]; rw [show dgB T.data.toList[0] = false from Hd0.out]; simp)
              go_wp2_with (go_at_call 30; refine (ldigit_any T[0] _).mono ?_; rw [Hd0.out]; rintro e w' ⟨rfl, rfl⟩)
              go_ret
              exact ⟨rfl, rfl⟩
            · have h2 : decide ((0 : Int) < (j : Int)) = true := by simp; omega
              have h2n : decide (0 < j) = true := by simp; omega
              by_cases hje : j + 1 < T.size
              · have h3 : decide ((j : Int) < (T.size : Int) - 1) = true := by simp; omega
                have Hp := Lib.hid (show ptAt T.data.toList j = true by unfold ptAt; rw [Hat.out, size_data]; exact decide_eq_true ⟨H46.out, by omega, hje⟩)
                have Ho := Lib.hid (show okAt T.data.toList j = true by unfold okAt; rw [Hp.out]; rfl)
                go_wp2_with (go_at_call 30; refine (ldigit_any T[j] _).mono ?_; rw [Hd0.out]; rintro e w' ⟨rfl, rfl⟩)
                go_round
                case rel => exact ⟨j + 1, n + 1, by go_num, by go_num, by omega, by omega, Lib.hid (by rw [Hcnt.out, if_pos Hp.out, ← hn.out]), Hnext.out Ho.out⟩
                case measure => simp [intOf]; omega
              · have h3 : decide ((j : Int) < (T.size : Int) - 1) = false := by simp; omega
                obtain rfl : R = false := Hbad.out (by unfold okAt ptAt; rw [Hat.out, size_data]; rw [show dgB T.data.toList[j] = false from Hd0.out]; simp; omega)
                go_wp2_with (go_at_call 30; refine (ldigit_any T[j] _).mono ?_; rw [Hd0.out]; rintro e w' ⟨rfl, rfl⟩)
                go_ret
                exact ⟨rfl, rfl⟩
          · have h1 : ((T[j].toNat : Int) == 46) = false := by rw [hq]; simpa using h46
            have Hp := Lib.hid (show ptAt T.data.toList j = false by unfold ptAt; rw [Hat.out]; exact decide_eq_false fun x => h46 x.1)
            clear hq h46
            cases hd : dgB T[j]
            · obtain rfl : R = false := Hbad.out (by unfold okAt; rw [Hp.out, Hat.out]; exact hd)
              have Hd := Lib.hid hd
              clear hd
              go_wp2_with (go_at_call 30; refine (ldigit_any T[j] _).mono ?_; rw [Hd.out]; rintro e w' ⟨rfl, rfl⟩)
              go_ret
              exact ⟨rfl, rfl⟩
            · have Ho := Lib.hid (show okAt T.data.toList j = true by unfold okAt; rw [Hp.out, Hat.out]; exact hd)
              have Hd := Lib.hid hd
              clear hd
              go_wp2_with (go_at_call 30; refine (ldigit_any T[j] _).mono ?_; rw [Hd.out]; rintro e w' ⟨rfl, rfl⟩)
              go_round
              case rel => exact ⟨j + 1, n, by go_num, rfl, by omega, by omega, Lib.hid (by rw [Hcnt.out, if_neg (by rw [Hp.out]; decide), ← hn.out]; rfl), Hnext.out Ho.out⟩
              case measure => simp [intOf]; omega
        · obtain rfl : j = T.size := by omega
          have Hfin := Lib.hid (show R = (decide (0 < T.size) && decide (n ≤ 1)) by
            rw [← HR.out]
            unfold numB
            rw [Bool.eq_iff_iff, Bool.and_eq_true, decide_eq_true_iff, decide_eq_true_iff, decide_eq_true_iff, size_data, ← hn.out]
            exact ⟨fun h => ⟨h.1, h.2.2⟩, fun h => ⟨h.1, hok.out, h.2⟩⟩)
          by_cases hz : 0 < T.size
          · have hz1 : decide ((0 : Int) < (T.size : Int)) = true := decide_eq_true (by omega); have hz2 : decide (0 < T.size) = true := decide_eq_true hz
            go_wp2
            go_ret
            exact ⟨ret_bool (by rw [Hfin.out, hz2]; simp; omega), rfl⟩
          · have hz0 : T.size = 0 := by omega
            have Hf2 := Lib.hid (show R = false by rw [Hfin.out, decide_eq_false hz]; rfl)
            go_wp2
            go_ret
            exact ⟨ret_bool (by rw [Hf2.out]), rfl⟩
    · have h1 : ((s[0].toNat : Int) == 45) = false := by
        apply beq_eq_false_iff_ne.2
        intro h
        exact h45 (UInt8.toNat_inj.1 (by have : (45 : UInt8).toNat = 45 := rfl; omega))
      have HR : Hid (numB s.data.toList = R) := Lib.hid (by
        rw [← hR]
        unfold lnumB strip
        rw [hat, if_neg h45])
      clear hR hat h45
      have hTs := hs
      go_enter Tryd.func51, Tryd.ntmps51
      go_wp2_with fail
      go_loop [3, 4] (fun c t => ∃ (j n : Nat), t = .int .i64 j ∧ c = .int .i64 n ∧ j ≤ s.size ∧ n ≤ j ∧ Hid (n = cntP s.data.toList j) ∧ Hid (∀ m, m < j → okAt s.data.toList m = true)) (fun _ t => s.size - (intOf t).toNat)
      case atStart => exact ⟨0, 0, rfl, rfl, Nat.zero_le _, Nat.le_refl _, Lib.hid rfl, Lib.hid fun m h => by omega⟩
      case round =>
        obtain ⟨j, n, rfl, rfl, hjs, hnj, hn, hok⟩ := hrel
        by_cases hlt : j < s.size
        · have hlt' : j < s.data.toList.length := by rw [size_data]; exact hlt
          have Hat := Lib.hid (at0_get s.data.toList j hlt')
          have Hnext := Lib.hid (fun (h : okAt s.data.toList j = true) => Lib.hid (show ∀ m, m < j + 1 → okAt s.data.toList m = true from fun m hm => by
            by_cases e : m = j
            · subst e; exact h
            · exact hok.out m (by omega)))
          have Hcnt : Hid (cntP s.data.toList (j + 1) = cntP s.data.toList j + if ptAt s.data.toList j = true then 1 else 0) := Lib.hid rfl
          have Hbad := Lib.hid (bad_num s j hlt)
          rw [HR.out] at Hbad
          have hq : ((s[j].toNat : Int) == 46) = decide (s[j] = 46) := by
            rw [Bool.eq_iff_iff, beq_iff_eq, decide_eq_true_iff]
            constructor
            · intro h; exact UInt8.toNat_inj.1 (by have : (46 : UInt8).toNat = 46 := rfl; omega)
            · intro h; rw [h]; rfl
          by_cases h46 : s[j] = 46
          · have h1 : ((s[j].toNat : Int) == 46) = true := by rw [hq]; simpa using h46
            have hd0 : dgB s[j] = false := by rw [h46]; decide
            have Hd0 := Lib.hid hd0
            have H46 := Lib.hid h46
            clear hq hd0 h46
            by_cases hj0 : j = 0
            · subst hj0
              obtain rfl : R = false := Hbad.out (by unfold okAt ptAt; rw [Hat.out]; rw [show dgB s.data.toList[0] = false from Hd0.out]; simp)
              go_wp2_with (go_at_call 30; refine (ldigit_any s[0] _).mono ?_; rw [Hd0.out]; rintro e w' ⟨rfl, rfl⟩)
              go_ret
              exact ⟨rfl, rfl⟩
            · have h2 : decide ((0 : Int) < (j : Int)) = true := by simp; omega
              have h2n : decide (0 < j) = true := by simp; omega
              by_cases hje : j + 1 < s.size
              · have h3 : decide ((j : Int) < (s.size : Int) - 1) = true := by simp; omega
                have Hp := Lib.hid (show ptAt s.data.toList j = true by unfold ptAt; rw [Hat.out, size_data]; exact decide_eq_true ⟨H46.out, by omega, hje⟩)
                have Ho := Lib.hid (show okAt s.data.toList j = true by unfold okAt; rw [Hp.out]; rfl)
                go_wp2_with (go_at_call 30; refine (ldigit_any s[j] _).mono ?_; rw [Hd0.out]; rintro e w' ⟨rfl, rfl⟩)
                go_round
                case rel => exact ⟨j + 1, n + 1, by go_num, by go_num, by omega, by omega, Lib.hid (by rw [Hcnt.out, if_pos Hp.out, ← hn.out]), Hnext.out Ho.out⟩
                case measure => simp [intOf]; omega
              · have h3 : decide ((j : Int) < (s.size : Int) - 1) = false := by simp; omega
                obtain rfl : R = false := Hbad.out (by unfold okAt ptAt; rw [Hat.out, size_data]; rw [show dgB s.data.toList[j] = false from Hd0.out]; simp; omega)
                go_wp2_with (go_at_call 30; refine (ldigit_any s[j] _).mono ?_; rw [Hd0.out]; rintro e w' ⟨rfl, rfl⟩)
                go_ret
                exact ⟨rfl, rfl⟩
          · have h1 : ((s[j].toNat : Int) == 46) = false := by rw [hq]; simpa using h46
            have Hp := Lib.hid (show ptAt s.data.toList j = false by unfold ptAt; rw [Hat.out]; exact decide_eq_false fun x => h46 x.1)
            clear hq h46
            cases hd : dgB s[j]
            · obtain rfl : R = false := Hbad.out (by unfold okAt; rw [Hp.out, Hat.out]; exact hd)
              have Hd := Lib.hid hd
              clear hd
              go_wp2_with (go_at_call 30; refine (ldigit_any s[j] _).mono ?_; rw [Hd.out]; rintro e w' ⟨rfl, rfl⟩)
              go_ret
              exact ⟨rfl, rfl⟩
            · have Ho := Lib.hid (show okAt s.data.toList j = true by unfold okAt; rw [Hp.out, Hat.out]; exact hd)
              have Hd := Lib.hid hd
              clear hd
              go_wp2_with (go_at_call 30; refine (ldigit_any s[j] _).mono ?_; rw [Hd.out]; rintro e w' ⟨rfl, rfl⟩)
              go_round
              case rel => exact ⟨j + 1, n, by go_num, rfl, by omega, by omega, Lib.hid (by rw [Hcnt.out, if_neg (by rw [Hp.out]; decide), ← hn.out]; rfl), Hnext.out Ho.out⟩
              case measure => simp [intOf]; omega
        · obtain rfl : j = s.size := by omega
          have Hfin := Lib.hid (show R = (decide (0 < s.size) && decide (n ≤ 1)) by
            rw [← HR.out]
            unfold numB
            rw [Bool.eq_iff_iff, Bool.and_eq_true, decide_eq_true_iff, decide_eq_true_iff, decide_eq_true_iff, size_data, ← hn.out]
            exact ⟨fun h => ⟨h.1, h.2.2⟩, fun h => ⟨h.1, hok.out, h.2⟩⟩)
          by_cases hz : 0 < s.size
          · have hz1 : decide ((0 : Int) < (s.size : Int)) = true := decide_eq_true (by omega); have hz2 : decide (0 < s.size) = true := decide_eq_true hz
            go_wp2
            go_ret
            exact ⟨ret_bool (by rw [Hfin.out, hz2]; simp; omega), rfl⟩
          · have hz0 : s.size = 0 := by omega
            have Hf2 := Lib.hid (show R = false by rw [Hfin.out, decide_eq_false hz]; rfl)
            go_wp2
            go_ret
            exact ⟨ret_bool (by rw [Hf2.out]), rfl⟩
  · have hp1 : decide ((0 : Int) < (s.size : Int)) = false := decide_eq_false (by omega)
    have hp2 : decide (0 < s.size) = false := decide_eq_false hpos
    obtain rfl : R = false := by
      rw [← hR]
      have : s.data.toList = [] := List.eq_nil_of_length_eq_zero (by rw [size_data]; omega)
      rw [this]
      decide
    have hz : s.size = 0 := by omega
    clear hR
    go_enter Tryd.func51, Tryd.ntmps51
    go_wp2_with fail
    go_loop [3, 4] (fun c t => t = .int .i64 0 ∧ c = .int .i64 0) (fun _ t => 0)
    case atStart => exact ⟨rfl, rfl⟩
    case round =>
      obtain ⟨rfl, rfl⟩ := hrel
      go_wp2
      go_ret
      exact ⟨rfl, rfl⟩
end Go.Proofs.YtmceblemiboedaaDoor

/-
  Law 07's questions are the code's: numbers, signs; law07.plain.
-/
namespace Go.Proofs.YtmceblemiboedaaDoor
open Go.RowKit
set_option linter.unusedVariables false
set_option linter.unusedSimpArgs false

theorem num_nil : lnumB [] = false := by decide
theorem longN_top (Q : List UInt8 → Bool) (l : List UInt8) (hl : l ≠ []) : longN Q l 0 l.length = l.length ↔ Q l = true := by
  have hpc : pc l 0 l.length = l := by unfold pc; rw [List.drop_zero, List.take_length]
  obtain ⟨m, hm⟩ : ∃ m, l.length = m + 1 := ⟨l.length - 1, by have := List.length_pos_iff.2 hl; omega⟩
  rw [hm] at hpc
  have hle : ∀ k, longN Q l 0 k ≤ k := by
    intro k
    induction k with
    | zero => exact Nat.le_refl _
    | succ k ih =>
      unfold longN
      split
      · exact Nat.le_refl _
      · omega
  rw [hm]
  unfold longN
  rw [hpc]
  constructor
  · intro h
    split at h
    · next h2 => exact h2.2
    · have := hle m; omega
  · intro h
    rw [if_pos ⟨Nat.succ_pos _, h⟩]
theorem isNum_l (s : ByteArray) : isNum s = lnumB s.data.toList := by
  unfold isNum
  have h0 := numI_nat s.data.toList 0
  rw [show ((0 : Nat) : Int) = 0 from rfl] at h0
  rw [h0, ← long_num s.data.toList 0 (Nat.zero_le _)]
  by_cases he : s.data.toList = []
  · rw [he, num_nil]; rfl
  · have ht := longN_top lnumB s.data.toList he
    rw [Bool.eq_iff_iff, Bool.and_eq_true, beq_iff_eq, ← ht, Bool.not_eq_true', List.isEmpty_eq_false_iff, ← size_data]
    constructor
    · rintro ⟨_, h⟩; omega
    · intro h; exact ⟨he, by omega⟩
theorem valid_sigs : ∀ (n : Nat) (l : List UInt8), Lib.validGoD n l = (sigs n l).isSome
  | 0, l => rfl
  | n + 1, l => by
    unfold Lib.validGoD sigs
    by_cases he : l = []
    · rw [if_pos he, if_pos he]; rfl
    · rw [if_neg he, if_neg he]
      have hp := decodeL_pos l
      by_cases h : (Lib.decodeL l).1 = 65533 ∧ (Lib.decodeL l).2 = 1
      · rw [if_pos h, if_pos ⟨h.1, by omega⟩]; rfl
      · rw [if_neg h, if_neg (fun e => h ⟨e.1, by omega⟩), valid_sigs n]
        simp
theorem valid_sig (s : ByteArray) : validB s = (sigAll s.data.toList).isSome := valid_sigs _ _

set_option maxHeartbeats 2000000 in
set_option maxRecDepth 100000 in
theorem plain_any (s : ByteArray) (w : World) (hT : TabU w) (hs : s.size ≤ 4000000) :
    Calls Tryd.prog 17 #[.string s] w fun e w' => e = .returned (.bool (validB s)) ∧ Below w.heap.size w w' := by
  rw [valid_sig]
  obtain ⟨R, hR⟩ : ∃ R, (sigAll s.data.toList).isSome = R := ⟨_, rfl⟩
  rw [hR]
  have HR := Lib.hid hR
  have H := Lib.hid (signs_any s w hT hs)
  clear hT hs hR
  go_enter Tryd.func17, Tryd.ntmps17
  go_wp2_with fail
  go_at_call 28
  refine H.out.mono ?_
  rintro e w' ⟨h, hb⟩
  rcases h with ⟨hn, rfl⟩ | ⟨xs, v, hn, _, rfl, _⟩
  · have hf := HR.out
    rw [hn] at hf
    have HF := Lib.hid (show false = R from hf)
    clear hf
    go_wp2
    go_ret
    exact ⟨ret_bool HF.out, hb⟩
  · have hf := HR.out
    rw [hn] at hf
    have HF := Lib.hid (show true = R from hf)
    clear hf
    go_wp2
    go_ret
    exact ⟨ret_bool HF.out, hb⟩
end Go.Proofs.YtmceblemiboedaaDoor

/-
  Law 07: a pattern's lines, whatever sign stands for a place.
-/
namespace Go.Proofs.YtmceblemiboedaaDoor
open Go.RowKit
set_option linter.unusedVariables false
set_option linter.unusedSimpArgs false

/-- Of what sort is a sign? -/
def sortB (c : UInt8) : Bool × Bool × Bool × Bool := (c == 10, spB c, isMarkB c, blB c)
def Sim (a b : List UInt8) : Prop := a.length = b.length ∧ ∀ m, sortB (at0 a m) = sortB (at0 b m)
theorem Sim.lf {a b : List UInt8} (h : Sim a b) (m : Nat) : (at0 a m == 10) = (at0 b m == 10) := congrArg (·.1) (h.2 m)
theorem Sim.sp {a b : List UInt8} (h : Sim a b) (m : Nat) : spB (at0 a m) = spB (at0 b m) := congrArg (·.2.1) (h.2 m)
theorem Sim.mark {a b : List UInt8} (h : Sim a b) (m : Nat) : isMarkB (at0 a m) = isMarkB (at0 b m) := congrArg (·.2.2.1) (h.2 m)
theorem Sim.bl {a b : List UInt8} (h : Sim a b) (m : Nat) : blB (at0 a m) = blB (at0 b m) := congrArg (·.2.2.2) (h.2 m)
theorem Sim.beh {a b : List UInt8} (h : Sim a b) : ∀ (n k : Nat), a.length - k ≤ n → behN spB a k = behN spB b k := by
  intro n
  induction n with
  | zero =>
    intro k hk
    rw [behN_end spB a k (by omega), behN_end spB b k (by have := h.1; omega)]
  | succ n ih =>
    intro k hk
    by_cases hlt : k < a.length
    · have hb : k < b.length := by have := h.1; omega
      have hs := h.sp k
      rw [at0_get a k hlt, at0_get b k hb] at hs
      cases hv : spB a[k]
      · rw [behN_no spB a k hlt hv, behN_no spB b k hb (by rw [← hs, hv])]
      · rw [← behN_yes spB a k hlt hv, ← behN_yes spB b k hb (by rw [← hs, hv])]
        exact ih (k + 1) (by omega)
    · rw [behN_end spB a k (by omega), behN_end spB b k (by have := h.1; omega)]
theorem anyTo_congr {p q : Nat → Bool} (h : ∀ m, p m = q m) : ∀ n, anyTo p n = anyTo q n
  | 0 => rfl
  | n + 1 => by rw [anyTo, anyTo, anyTo_congr h n, h n]
theorem Sim.lines {a b : List UInt8} (h : Sim a b) : linesB a = linesB b := by
  have hn : ∀ i, newAt a i = newAt b i := fun i => by unfold newAt; rw [h.lf i, h.lf (i + 1), h.1]
  have hb : ∀ i, badAt a i = badAt b i := fun i => by
    unfold badAt; rw [hn i, h.beh _ (i + 1) (Nat.le_refl _), h.lf, h.mark]
  have hf : ∀ i, flushAt a i = flushAt b i := fun i => by unfold flushAt; rw [hn i, h.sp]
  unfold linesB
  rw [h.bl, h.bl, h.mark, h.1, anyTo_congr hn, anyTo_congr hb, anyTo_congr hf]
theorem at0_cons (c : UInt8) (l : List UInt8) (m : Nat) : at0 (c :: l) (m + 1) = at0 l m := by unfold at0; simp
theorem at0_cons0 (c : UInt8) (l : List UInt8) : at0 (c :: l) 0 = c := by unfold at0; simp
theorem Sim.cons {a b : List UInt8} {x y : UInt8} (hxy : sortB x = sortB y) (h : Sim a b) : Sim (x :: a) (y :: b) := by
  refine ⟨by rw [List.length_cons, List.length_cons, h.1], fun m => ?_⟩
  cases m with
  | zero => rw [at0_cons0, at0_cons0, hxy]
  | succ m => rw [at0_cons, at0_cons, h.2]
theorem Sim.pre {a b : List UInt8} (h : Sim a b) : ∀ t : List UInt8, Sim (t ++ a) (t ++ b)
  | [] => h
  | x :: t => (h.pre t).cons rfl
theorem sim_lines : ∀ l : List EL, Sim (linesOf 88 l) (linesOf 123 l)
  | [] => ⟨rfl, fun _ => rfl⟩
  | .mk t none :: r => by rw [linesOf, linesOf]; exact (sim_lines r).pre _
  | .mk t (some e) :: r => by rw [linesOf, linesOf]; exact (sim_lines r).cons (by decide)
theorem lines_88 (l : List EL) : linesB (linesOf 123 l) = linesB (linesOf 88 l) := (sim_lines l).lines.symm
/-- What a text's signs may not be. -/
def offB (c : UInt8) : Bool := decide ((c.toNat : Int) = 123 ∨ (c.toNat : Int) = 125 ∨ (c.toNat : Int) = 13)
theorem off_any (t : ByteArray) (v : Bool) : (v && !t.data.toList.contains 13 && !(t.data.toList.contains 123 || t.data.toList.contains 125)) = (v && !t.data.toList.any offB) := by
  generalize t.data.toList = l
  have hx : ∀ c : UInt8, ∀ n : Nat, n < 256 → ((c.toNat : Int) = n ↔ c = UInt8.ofNat n) := by
    intro c n hn
    rw [← UInt8.toNat_inj, UInt8.toNat_ofNat']
    omega
  have e : l.any offB = (l.contains 13 || (l.contains 123 || l.contains 125)) := by
    rw [Bool.eq_iff_iff]
    simp only [List.any_eq_true, Bool.or_eq_true, List.contains_iff_mem]
    constructor
    · rintro ⟨c, hc, ho⟩
      unfold offB at ho
      rw [decide_eq_true_iff] at ho
      rcases ho with ho | ho | ho
      · rw [show c = 123 from (hx c 123 (by decide)).1 ho] at hc; exact .inr (.inl hc)
      · rw [show c = 125 from (hx c 125 (by decide)).1 ho] at hc; exact .inr (.inr hc)
      · rw [show c = 13 from (hx c 13 (by decide)).1 ho] at hc; exact .inl hc
    · rintro (h | h | h)
      · exact ⟨_, h, by decide⟩
      · exact ⟨_, h, by decide⟩
      · exact ⟨_, h, by decide⟩
  rw [e]
  cases v <;> cases l.contains 13 <;> simp
theorem off_or (c : UInt8) : offB c = ((c.toNat : Int) == 123 || (c.toNat : Int) == 125 || (c.toNat : Int) == 13) := by
  unfold offB
  rw [Bool.eq_iff_iff]
  simp [or_assoc]
theorem mark_or (c : UInt8) : isMarkB c = ((c.toNat : Int) == 46 || (c.toNat : Int) == 42 || (c.toNat : Int) == 91) := by
  unfold isMarkB
  rw [Bool.eq_iff_iff]
  simp [or_assoc]
theorem bytes_app (a b : ByteArray) : (a ++ b).data.toList = a.data.toList ++ b.data.toList := by simp
theorem anyTake (t : ByteArray) (j : Nat) (h : j < t.size) : (t.data.toList.take (j + 1)).any offB = ((t.data.toList.take j).any offB || offB t[j]) := by
  rw [take_succ t j h, List.any_append]
  simp
theorem anyTake_true (l : List UInt8) (j : Nat) (h : (l.take j).any offB = true) : l.any offB = true := by
  rw [List.any_eq_true] at h ⊢
  obtain ⟨x, hx, h2⟩ := h
  exact ⟨x, List.mem_of_mem_take hx, h2⟩
end Go.Proofs.YtmceblemiboedaaDoor

/-
  Package ast: isFilled, isNumber, isBare.
-/
namespace Go.Proofs.YtmceblemiboedaaDoor
open Go.RowKit
set_option linter.unusedVariables false
set_option linter.unusedSimpArgs false

theorem Asked.calm' {W0 : World} {qb : Nat} {D : Qn → Prop} {qs : List Qn} {w w' : World} {b r : Bool} {n : Nat} (hq : QsAt W0 qb qs w) (hs : Below w.heap.size w w') (hb : b = r) : Asked W0 qb D qs w b n (.returned (.bool r)) w' :=
  Asked.plain (hq.later hs) ((StepQ.refl _ _ _).later hs hq.old) hb
theorem isFilled_asks {W0 : World} {qb : Nat} {D : Qn → Prop} (hT : TabU W0) (l : List EL) (HCA : ∀ t p, EL.mk t p ∈ l → validB t = true → CaTo t) {v : Value} (hv : PatAt W0 l v) (d : Nat) (hd : d ≤ 20) (hD : ∀ t e, EL.mk t (some e) ∈ l → D (.may .brc e (d + 1))) (w : World) :
    Asks W0 qb D 27 #[pt qb, v, .int .i64 d] w (!l.isEmpty && patB l d) (sizeEs l) := by
  intro qs hq hn
  have hp := isPattern_asks hT l HCA hv d hd hD w (qb := qb) qs hq hn
  have hv' := hv
  obtain ⟨A, c, rfl, hc1, hc2, _⟩ := hv'
  have Hq := Lib.hid hq
  have HP := Lib.hid hp
  by_cases h0 : 0 < l.length
  · have hie : l.isEmpty = false := by cases l with | nil => simp at h0 | cons _ _ => rfl
    rw [hie]
    have h1 : decide ((0 : Int) < (l.length : Int)) = true := decide_eq_true (by omega)
    have h2 : decide (0 < l.length) = true := decide_eq_true h0
    clear hq hn hp hv hd hc1 hc2 hie hD HCA
    unfold pt
    go_enter Tryd.func27, Tryd.ntmps27
    go_wp2_with fail
    go_at_call 26
    refine HP.out.mono ?_
    rintro e w' ⟨r, new, rfl, h1, h2, h3, h4, h5⟩
    have H4 := Lib.hid h4
    clear h4
    go_wp2
    go_ret
    exact ⟨r, new, by simp, h1, h2, h3, by rw [H4.out]; simp, h5⟩
  · have hie : l.isEmpty = true := by cases l with | nil => rfl | cons _ _ => simp at h0
    rw [hie]
    have h1 : decide ((0 : Int) < (l.length : Int)) = false := decide_eq_false (by omega)
    have h2 : decide (0 < l.length) = false := decide_eq_false h0
    clear hq hn hp hv hd hc1 hc2 hie hD HCA HP
    unfold pt
    go_enter Tryd.func27, Tryd.ntmps27
    go_wp2
    go_ret
    exact Asked.plain Hq.out (StepQ.refl _ _ _) rfl
theorem isNumber_any (s : ByteArray) (w : World) (hs : s.size ≤ 4000000) :
    Calls Tryd.prog 80 #[.string s] w fun e w' => e = .returned (.bool (isNum s)) ∧ Below w.heap.size w w' := by
  have hN := number_any s 0 w (by omega)
  have hv : isNum s = (!s.toList.isEmpty && (numI s.data.toList 0 == (s.size : Int))) := by unfold isNum; rw [Lib.toList_data]
  rw [hv]
  generalize numI s.data.toList 0 = k at *
  cases he : s.toList.isEmpty
  · have HN := Lib.hid hN
    clear hN hv
    go_enter Tryd.func80, Tryd.ntmps80
    go_wp2_with fail
    go_at_call 97
    refine HN.out.mono ?_
    rintro e w' ⟨rfl, hb⟩
    go_wp2
    go_ret
    exact ⟨rfl, hb⟩
  · clear hN hv
    go_enter Tryd.func80, Tryd.ntmps80
    go_wp2
    go_ret
    exact ⟨rfl, Below.refl _ _⟩
/-- An expression as it is handed on. -/
def exV (k : Int) (t n a : ByteArray) (A1 : Option Addr) (n1 c1 : Nat) (i : Option Addr) (A2 : Option Addr) (n2 c2 : Nat) : Value :=
  .agg #[.int .i64 k, .string t, .string n, .string a, .slice A1 n1 c1, .pointer i, .slice A2 n2 c2]
set_option maxHeartbeats 2000000 in
set_option maxRecDepth 100000 in
theorem isBare_any (k : Int) (t n a : ByteArray) (A1 : Option Addr) (n1 c1 : Nat) (i : Option Addr) (A2 : Option Addr) (n2 c2 : Nat) (w : World) :
    Calls Tryd.prog 81 #[exV k t n a A1 n1 c1 i A2 n2 c2] w fun e w' => e = .returned (.bool (emp t && (emp n && (emp a && (decide (n1 = 0) && (i.isNone && decide (n2 = 0))))))) ∧ Below w.heap.size w w' := by
  unfold exV emp
  cases ht : t.toList.isEmpty
  case false =>
    go_enter Tryd.func81, Tryd.ntmps81
    go_wp2
    go_ret
    exact ⟨ret_bool (by simp), (Below.refl _ _).alloc (Nat.le_refl _) _⟩
  cases hn : n.toList.isEmpty
  case false =>
    go_enter Tryd.func81, Tryd.ntmps81
    go_wp2
    go_ret
    exact ⟨ret_bool (by simp), (Below.refl _ _).alloc (Nat.le_refl _) _⟩
  cases ha : a.toList.isEmpty
  case false =>
    go_enter Tryd.func81, Tryd.ntmps81
    go_wp2
    go_ret
    exact ⟨ret_bool (by simp), (Below.refl _ _).alloc (Nat.le_refl _) _⟩
  by_cases h1 : n1 = 0
  case neg =>
    have z1 : ((n1 : Int) == 0) = false := beq_eq_false_iff_ne.2 (by omega)
    rw [decide_eq_false h1]
    go_enter Tryd.func81, Tryd.ntmps81
    go_wp2
    go_ret
    exact ⟨ret_bool (by simp), (Below.refl _ _).alloc (Nat.le_refl _) _⟩
  have z1 : ((n1 : Int) == 0) = true := beq_iff_eq.2 (by omega)
  rw [decide_eq_true h1]
  clear h1
  cases i
  case some q =>
    go_enter Tryd.func81, Tryd.ntmps81
    go_wp2
    go_ret
    exact ⟨ret_bool (by simp), (Below.refl _ _).alloc (Nat.le_refl _) _⟩
  by_cases h2 : n2 = 0
  case neg =>
    have z2 : ((n2 : Int) == 0) = false := beq_eq_false_iff_ne.2 (by omega)
    rw [decide_eq_false h2]
    go_enter Tryd.func81, Tryd.ntmps81
    go_wp2
    go_ret
    exact ⟨ret_bool (by simp), (Below.refl _ _).alloc (Nat.le_refl _) _⟩
  have z2 : ((n2 : Int) == 0) = true := beq_iff_eq.2 (by omega)
  rw [decide_eq_true h2]
  clear h2
  · go_enter Tryd.func81, Tryd.ntmps81
    go_wp2
    go_ret
    exact ⟨ret_bool (by simp), (Below.refl _ _).alloc (Nat.le_refl _) _⟩
end Go.Proofs.YtmceblemiboedaaDoor

/-
  Package ast: isInline, of each kind.
-/
namespace Go.Proofs.YtmceblemiboedaaDoor
open Go.RowKit
set_option linter.unusedVariables false
set_option linter.unusedSimpArgs false

/-- Are all these empty? -/
def bareB (t n a : ByteArray) (n1 : Nat) (i : Option Addr) (n2 : Nat) : Bool := emp t && (emp n && (emp a && (decide (n1 = 0) && (i.isNone && decide (n2 = 0)))))
theorem bare_any (k : Int) (t n a : ByteArray) (A1 : Option Addr) (n1 c1 : Nat) (i : Option Addr) (A2 : Option Addr) (n2 c2 : Nat) (w : World) :
    Calls Tryd.prog 81 #[.agg #[.int .i64 k, .string t, .string n, .string a, .slice A1 n1 c1, .pointer i, .slice A2 n2 c2]] w fun e w' => e = .returned (.bool (bareB t n a n1 i n2)) ∧ Below w.heap.size w w' := isBare_any k t n a A1 n1 c1 i A2 n2 c2 w
theorem Asked.calm {W0 : World} {qb : Nat} {D : Qn → Prop} {qs : List Qn} {w w' : World} {b r : Bool} {n : Nat} (hq : QsAt W0 qb qs w) (hs : Below w.heap.size w w') (hb : b = r) : Asked W0 qb D qs w b n (.returned (.bool r)) w' :=
  Asked.plain (hq.later hs) ((StepQ.refl _ _ _).later hs hq.old) hb
theorem BoxAt.setOther {w : World} {k : Nat} {cs : Array Value} {t : TypeId} (h : BoxAt w k cs t) (p : Addr) (v : Value) (hp : k ≠ p.block) : BoxAt (w.setCell p v) k cs t :=
  (Below.heap_setCell w p v k hp).trans h
theorem BoxAt.new' (w : World) (k : Nat) (cs : Array Value) (t : TypeId) (h : k = w.heap.size) : BoxAt (w.alloc (.cells cs t)) k cs t := by rw [h]; exact BoxAt.new w cs t
/-- A block of cells of that type. -/
def CellsOf (w : World) (k : Nat) (t : TypeId) : Prop := ∃ cs fz, w.heap[k]? = some (.cells cs t fz)
theorem CellsOf.new' (w : World) (k : Nat) (cs : Array Value) (t : TypeId) (h : k = w.heap.size) : CellsOf (w.alloc (.cells cs t)) k t := ⟨cs, (0, 0), BoxAt.new' w k cs t h⟩
theorem CellsOf.alloc {w : World} {k : Nat} {t : TypeId} (h : CellsOf w k t) (o : Obj) : CellsOf (w.alloc o) k t := by
  obtain ⟨cs, fz, h⟩ := h
  exact ⟨cs, fz, (Lib.alloc_old w o k (Array.getElem?_eq_some_iff.1 h).1).trans h⟩
theorem CellsOf.setCell {w : World} {k : Nat} {t : TypeId} (h : CellsOf w k t) (p : Addr) (v : Value) : CellsOf (w.setCell p v) k t := by
  obtain ⟨cs, fz, h⟩ := h
  by_cases e : k = p.block
  · subst e
    exact ⟨_, fz, by simp only [World.setCell, Array.getElem?_modify, h]; rfl⟩
  · exact ⟨cs, fz, (Below.heap_setCell w p v k e).trans h⟩
theorem StepQ.cell {B qb : Nat} {w w' : World} (hs : StepQ B qb w w') {k : Nat} {t : TypeId} (hsh : CellsOf w k t) (ht : t ≠ 27) (hk : k ≠ qb) (o : Nat) : w'.cell? ⟨k, o, none⟩ = w.cell? ⟨k, o, none⟩ := by
  apply World.cell?_of_block
  obtain ⟨cs, fz, h⟩ := hsh
  exact (hs.kept k _ h (by intro e2; exact hk (Option.some.inj e2)) (by intro c2 fz2 e2; cases e2; exact ht rfl)).trans h.symm
set_option maxHeartbeats 4000000 in
set_option maxRecDepth 1000000 in
theorem inl0 {W0 : World} {qb : Nat} {D : Qn → Prop} (hT : TabU W0) (t n a : ByteArray) (A1 : Option Addr) (n1 c1 : Nat) (i : Option Addr) (A2 : Option Addr) (n2 c2 : Nat) (d : Nat) (w : World) (ht : t.size ≤ 4000000) :
    Asks W0 qb D 65 #[pt qb, exV 0 t n a A1 n1 c1 i A2 n2 c2, .int .i64 d] w (validB t && bareB ⟨#[]⟩ n a n1 i n2) 0 := by
  intro qs hq hn
  have Hq := Lib.hid hq
  have hTw : TabU w := hT.below hq.below
  have hB : ∀ W, TabU W → _ := fun W h => Tryd.utf8_ValidString t W (by omega) h
  have HB := Lib.hid hB
  have HT := Lib.hid hTw
  have hbare := fun W => bare_any 0 ⟨#[]⟩ n a A1 n1 c1 i A2 n2 c2 W
  obtain ⟨bb, hbb⟩ : ∃ b, bareB ⟨#[]⟩ n a n1 i n2 = b := ⟨_, rfl⟩
  rw [hbb] at hbare ⊢
  have HBare := Lib.hid hbare
  clear hq hn hTw hB hbare hbb
  unfold pt exV
  go_enter Tryd.func65, Tryd.ntmps65
  go_wp2_with fail
  go_at_call 37
  refine (HB.out _ (HT.out.below ?hb0)).mono ?_
  case hb0 => repeat' first | exact Below.refl _ _ | apply Below.setCell | apply Below.alloc | (simp; done) | (simp; omega)
  rintro e w3 ⟨rfl, hb3⟩
  obtain ⟨q, hq⟩ : ∃ q, validB t = q := ⟨_, rfl⟩
  rw [show Lib.validD t.data.toList = q from hq]
  have HQ := Lib.hid hq
  obtain ⟨hcc, hff⟩ := bcell hb3
  have hB3 : Below w.heap.size w w3 := by
    refine Below.trans ?_ (hb3.mono (by simp; omega))
    repeat' first | exact Below.refl _ _ | apply Below.setCell | apply Below.alloc | (simp; done) | (simp; omega)
  have HB3 := Lib.hid hB3
  clear hq hb3 hB3
  cases q
  case false =>
    go_wp2
    go_ret
    exact Asked.calm Hq.out HB3.out (by rw [HQ.out]; rfl)
  go_wp2_with fail
  go_at_call 81
  refine (HBare.out _).mono ?_
  rintro e w4 ⟨rfl, hb4⟩
  go_wp2
  go_ret
  exact Asked.calm Hq.out (HB3.out.trans (hb4.mono HB3.out.size)) (by rw [HQ.out, Bool.true_and])
set_option maxHeartbeats 4000000 in
set_option maxRecDepth 1000000 in
theorem inl1 {W0 : World} {qb : Nat} {D : Qn → Prop} (hT : TabU W0) (t n a : ByteArray) (A1 : Option Addr) (n1 c1 : Nat) (i : Option Addr) (A2 : Option Addr) (n2 c2 : Nat) (d : Nat) (w : World) (ht : t.size ≤ 4000000) :
    Asks W0 qb D 65 #[pt qb, exV 1 t n a A1 n1 c1 i A2 n2 c2, .int .i64 d] w (isNum t && bareB ⟨#[]⟩ n a n1 i n2) 0 := by
  intro qs hq hn
  have Hq := Lib.hid hq
  have hTw : TabU w := hT.below hq.below
  have hB : ∀ W, TabU W → _ := fun W h => isNumber_any t W ht
  have HB := Lib.hid hB
  have HT := Lib.hid hTw
  have hbare := fun W => bare_any 1 ⟨#[]⟩ n a A1 n1 c1 i A2 n2 c2 W
  obtain ⟨bb, hbb⟩ : ∃ b, bareB ⟨#[]⟩ n a n1 i n2 = b := ⟨_, rfl⟩
  rw [hbb] at hbare ⊢
  have HBare := Lib.hid hbare
  clear hq hn hTw hB hbare hbb
  unfold pt exV
  go_enter Tryd.func65, Tryd.ntmps65
  go_wp2_with fail
  go_at_call 80
  refine (HB.out _ (HT.out.below ?hb0)).mono ?_
  case hb0 => repeat' first | exact Below.refl _ _ | apply Below.setCell | apply Below.alloc | (simp; done) | (simp; omega)
  rintro e w3 ⟨rfl, hb3⟩
  obtain ⟨q, hq⟩ : ∃ q, isNum t = q := ⟨_, rfl⟩
  rw [show isNum t = q from hq]
  have HQ := Lib.hid hq
  obtain ⟨hcc, hff⟩ := bcell hb3
  have hB3 : Below w.heap.size w w3 := by
    refine Below.trans ?_ (hb3.mono (by simp; omega))
    repeat' first | exact Below.refl _ _ | apply Below.setCell | apply Below.alloc | (simp; done) | (simp; omega)
  have HB3 := Lib.hid hB3
  clear hq hb3 hB3
  cases q
  case false =>
    go_wp2
    go_ret
    exact Asked.calm Hq.out HB3.out (by rw [HQ.out]; rfl)
  go_wp2_with fail
  go_at_call 81
  refine (HBare.out _).mono ?_
  rintro e w4 ⟨rfl, hb4⟩
  go_wp2
  go_ret
  exact Asked.calm Hq.out (HB3.out.trans (hb4.mono HB3.out.size)) (by rw [HQ.out, Bool.true_and])
set_option maxHeartbeats 4000000 in
set_option maxRecDepth 1000000 in
theorem inl2 {W0 : World} {qb : Nat} {D : Qn → Prop} (t n a : ByteArray) (A1 : Option Addr) (n1 c1 : Nat) (i : Option Addr) (A2 : Option Addr) (n2 c2 : Nat) (d : Nat) (w : World) (hn9 : n.size ≤ 4000000) :
    Asks W0 qb D 65 #[pt qb, exV 2 t n a A1 n1 c1 i A2 n2 c2, .int .i64 d] w (isNameV n && bareB t ⟨#[]⟩ a n1 i n2) 0 := by
  intro qs hq hn
  have Hq := Lib.hid hq
  have hN := fun W => isName_any n W (by omega)
  obtain ⟨q, hqq⟩ : ∃ q, isNameV n = q := ⟨_, rfl⟩
  rw [hqq] at hN ⊢
  have HN := Lib.hid hN
  have hbare := fun W => bare_any 2 t ⟨#[]⟩ a A1 n1 c1 i A2 n2 c2 W
  obtain ⟨bb, hbb⟩ : ∃ b, bareB t ⟨#[]⟩ a n1 i n2 = b := ⟨_, rfl⟩
  rw [hbb] at hbare ⊢
  have HBare := Lib.hid hbare
  clear hq hn hN hqq hbare hbb
  unfold pt exV
  go_enter Tryd.func65, Tryd.ntmps65
  go_wp2_with fail
  go_at_call 25
  refine (HN.out _).mono ?_
  rintro e w3 ⟨rfl, rfl⟩
  cases q
  case false =>
    go_wp2
    go_ret
    exact Asked.calm Hq.out (by repeat' first | exact Below.refl _ _ | apply Below.setCell | apply Below.alloc | (simp; done) | (simp; omega)) (by rfl)
  go_wp2_with fail
  go_at_call 81
  refine (HBare.out _).mono ?_
  rintro e w4 ⟨rfl, hb4⟩
  go_wp2
  go_ret
  refine Asked.calm Hq.out (Below.trans ?_ (hb4.mono (by simp; omega))) (by rw [Bool.true_and])
  repeat' first | exact Below.refl _ _ | apply Below.setCell | apply Below.alloc | (simp; done) | (simp; omega)
set_option maxHeartbeats 4000000 in
set_option maxRecDepth 1000000 in
theorem inl3 {W0 : World} {qb : Nat} {D : Qn → Prop} (t n a : ByteArray) (A1 : Option Addr) (n1 c1 : Nat) (i : Option Addr) (A2 : Option Addr) (n2 c2 : Nat) (d : Nat) (w : World) (hn9 : n.size ≤ 4000000) (ha9 : a.size ≤ 4000000) :
    Asks W0 qb D 65 #[pt qb, exV 3 t n a A1 n1 c1 i A2 n2 c2, .int .i64 d] w (isNameV n && (emp a || isNameV a) && bareB t ⟨#[]⟩ ⟨#[]⟩ n1 i n2) 0 := by
  intro qs hq hn
  have Hq := Lib.hid hq
  have hN := fun W => isName_any n W (by omega)
  have hA := fun W => isName_any a W (by omega)
  obtain ⟨q, hqq⟩ : ∃ q, isNameV n = q := ⟨_, rfl⟩
  rw [hqq] at hN ⊢
  obtain ⟨q2, hqa⟩ : ∃ q, isNameV a = q := ⟨_, rfl⟩
  rw [hqa] at hA ⊢
  have HN := Lib.hid hN
  have HA := Lib.hid hA
  have hbare := fun W => bare_any 3 t ⟨#[]⟩ ⟨#[]⟩ A1 n1 c1 i A2 n2 c2 W
  obtain ⟨bb, hbb⟩ : ∃ b, bareB t ⟨#[]⟩ ⟨#[]⟩ n1 i n2 = b := ⟨_, rfl⟩
  rw [hbb] at hbare ⊢
  have HBare := Lib.hid hbare
  clear hq hn hN hA hqq hqa hbare hbb
  unfold pt exV
  unfold emp
  cases q
  case false =>
    go_enter Tryd.func65, Tryd.ntmps65
    go_wp2_with fail
    go_at_call 25
    refine (HN.out _).mono ?_
    rintro e w3 ⟨rfl, rfl⟩
    go_wp2
    go_ret
    exact Asked.calm Hq.out (by repeat' first | exact Below.refl _ _ | apply Below.setCell | apply Below.alloc | (simp; done) | (simp; omega)) (by rfl)
  cases he : a.toList.isEmpty
  case true =>
    go_enter Tryd.func65, Tryd.ntmps65
    go_wp2_with fail
    go_at_call 25
    refine (HN.out _).mono ?_
    rintro e w3 ⟨rfl, rfl⟩
    go_wp2_with fail
    go_at_call 81
    refine (HBare.out _).mono ?_
    rintro e w4 ⟨rfl, hb4⟩
    go_wp2
    go_ret
    refine Asked.calm Hq.out (Below.trans ?_ (hb4.mono (by simp; omega))) (by simp)
    repeat' first | exact Below.refl _ _ | apply Below.setCell | apply Below.alloc | (simp; done) | (simp; omega)

  cases q2
  case false =>
    go_enter Tryd.func65, Tryd.ntmps65
    go_wp2_with fail
    go_at_call 25
    refine (HN.out _).mono ?_
    rintro e w3 ⟨rfl, rfl⟩
    go_wp2_with fail
    go_at_call 25
    refine (HA.out _).mono ?_
    rintro e w3 ⟨rfl, rfl⟩
    go_wp2
    go_ret
    exact Asked.calm Hq.out (by repeat' first | exact Below.refl _ _ | apply Below.setCell | apply Below.alloc | (simp; done) | (simp; omega)) (by rfl)
  case true =>
    go_enter Tryd.func65, Tryd.ntmps65
    go_wp2_with fail
    go_at_call 25
    refine (HN.out _).mono ?_
    rintro e w3 ⟨rfl, rfl⟩
    go_wp2_with fail
    go_at_call 25
    refine (HA.out _).mono ?_
    rintro e w3 ⟨rfl, rfl⟩
    go_wp2_with fail
    go_at_call 81
    refine (HBare.out _).mono ?_
    rintro e w4 ⟨rfl, hb4⟩
    go_wp2
    go_ret
    refine Asked.calm Hq.out (Below.trans ?_ (hb4.mono (by simp; omega))) (by simp)
    repeat' first | exact Below.refl _ _ | apply Below.setCell | apply Below.alloc | (simp; done) | (simp; omega)

set_option maxHeartbeats 4000000 in
set_option maxRecDepth 1000000 in
theorem inlX {W0 : World} {qb : Nat} {D : Qn → Prop} (k : Int) (hk : k < 0 ∨ 6 < k) (t n a : ByteArray) (A1 : Option Addr) (n1 c1 : Nat) (i : Option Addr) (A2 : Option Addr) (n2 c2 : Nat) (d : Nat) (w : World) :
    Asks W0 qb D 65 #[pt qb, exV k t n a A1 n1 c1 i A2 n2 c2, .int .i64 d] w false 0 := by
  intro qs hq hn
  have Hq := Lib.hid hq
  have k0 : (k == 0) = false := beq_eq_false_iff_ne.2 (by omega)
  have k1 : (k == 1) = false := beq_eq_false_iff_ne.2 (by omega)
  have k2 : (k == 2) = false := beq_eq_false_iff_ne.2 (by omega)
  have k3 : (k == 3) = false := beq_eq_false_iff_ne.2 (by omega)
  have k4 : (k == 4) = false := beq_eq_false_iff_ne.2 (by omega)
  have k5 : (k == 5) = false := beq_eq_false_iff_ne.2 (by omega)
  have k6 : (k == 6) = false := beq_eq_false_iff_ne.2 (by omega)
  clear hq hn hk
  unfold pt exV
  go_enter Tryd.func65, Tryd.ntmps65
  go_wp2
  go_ret
  exact Asked.calm Hq.out (by repeat' first | exact Below.refl _ _ | apply Below.setCell | apply Below.alloc | (simp; done) | (simp; omega)) rfl
set_option maxHeartbeats 4000000 in
set_option maxRecDepth 1000000 in
theorem inl6 {W0 : World} {qb : Nat} {D : Qn → Prop} (e : Option EX) (t n a : ByteArray) (A1 : Option Addr) (n1 c1 : Nat) (i : Option Addr) (A2 : Option Addr) (n2 c2 : Nat) (d : Nat) (w : World) (hd : d ≤ 20) (hi : OAt W0 e (.pointer i)) (hD : ∀ ex, e = some ex → D (.may .brc ex (d + 1))) :
    Asks W0 qb D 65 #[pt qb, exV 6 t n a A1 n1 c1 i A2 n2 c2, .int .i64 d] w (okO .brc e (d + 1) && bareB t n a n1 none n2) (sizeO e) := by
  intro qs hq hn
  have Hq := Lib.hid hq
  have Hn := Lib.hid hn
  have Hd := Lib.hid hd
  have hold := hq.old
  have hlt := hq.lt
  have hbare := fun W => bare_any 6 t n a A1 n1 c1 none A2 n2 c2 W
  obtain ⟨bb, hbb⟩ : ∃ b, bareB t n a n1 none n2 = b := ⟨_, rfl⟩
  rw [hbb] at hbare ⊢
  have HBare := Lib.hid hbare
  have HD := Lib.hid hD
  clear hq hn hbare hbb hd hD
  cases e with
  | none =>
    simp only [OAt] at hi
    cases hi
    have h0 : okO .brc none (d + 1) = false := by rw [okO]
    rw [h0]
    clear h0
    unfold pt exV
    go_enter Tryd.func65, Tryd.ntmps65
    go_wp2
    go_ret
    exact Asked.calm Hq.out (by repeat' first | exact Below.refl _ _ | apply Below.setCell | apply Below.alloc | (simp; done) | (simp; omega)) rfl
  | some ex =>
    have hi2 := hi
    simp only [OAt] at hi2
    obtain ⟨pb, po, pc7, hpp, _⟩ := hi2
    cases hpp
    have h0 : okO .brc (some ex) (d + 1) = okE .brc ex (d + 1) := by rw [okO]
    rw [h0]
    have hsz : sizeO (some ex) = ex.size := by rw [sizeO]
    rw [hsz] at Hn
    have HI := Lib.hid hi
    clear h0 hi
    unfold pt exV
    go_enter Tryd.func65, Tryd.ntmps65
    go_wp2_with fail
    go_at_call 42
    refine (later_q (W0 := W0) (qb := qb) (qs := qs) 85 #[pt w.heap.size, pt (w.heap.size + 1 + 1 + 1 + 1), pt (w.heap.size + 1 + 1)] (.may .brc ex (d + 1)) ?hf ?hq (by have := Hn.out; exact this)).mono ?_
    case hq =>
      refine Hq.out.later ?_
      repeat' first | exact Below.refl _ _ | apply Below.setCell | apply Below.alloc | (simp; done) | (simp; omega)
    case hf =>
      refine ⟨_, _, _, _, .pointer (some ⟨pb, po, none⟩), d, .inr rfl, rfl, Hd.out, rfl, ?_, ?_, ?_, HI.out⟩
      · repeat' first | exact BoxAt.new' _ _ _ _ (by simp; done) | (refine BoxAt.setOther ?_ _ _ (by simp; done)) | apply BoxAt.alloc
      · repeat' first | exact BoxAt.new' _ _ _ _ (by simp; done) | (refine BoxAt.setOther ?_ _ _ (by simp; done)) | apply BoxAt.alloc
      · repeat' first | exact BoxAt.new' _ _ _ _ (by simp; done) | (refine BoxAt.setOther ?_ _ _ (by simp; done)) | apply BoxAt.alloc
    rintro e w5 ⟨rfl, h5, s5⟩
    have hne : w.heap.size + 1 + 1 + 1 ≠ qb := by omega
    have hco := by
      refine fun o => s5.cell (k := w.heap.size + 1 + 1 + 1) (t := 36) ?_ (by decide) hne o
      repeat' first | exact CellsOf.new' _ _ _ _ (by simp; done) | apply CellsOf.setCell | apply CellsOf.alloc
    have hcs := hco
    clear hco
    have q0 := hcs 0
    have q1 := hcs 1
    have q2 := hcs 2
    have q3 := hcs 3
    have q4 := hcs 4
    have q5 := hcs 5
    have q6 := hcs 6
    have hB5 : StepQ W0.heap.size qb w w5 := by
      refine StepQ.trans ((StepQ.refl _ _ _).later ?_ hold) s5
      repeat' first | exact Below.refl _ _ | apply Below.setCell | apply Below.alloc | (simp; done) | (simp; omega)
    have HB5 := Lib.hid hB5
    have H5 := Lib.hid h5
    clear hcs s5 h5 hB5
    go_wp2_with fail
    go_at_call 81
    refine (HBare.out _).mono ?_
    rintro e w6 ⟨rfl, hb6⟩
    go_wp2
    go_ret
    exact ⟨bb, [.may .brc ex (d + 1)], rfl, H5.out.later hb6, HB5.out.later hb6 H5.out.old, by rw [hsz]; exact Nat.le_refl _, by simp [answers, Qn.ans, Bool.and_comm], by intro x hx; have := List.mem_singleton.1 hx; subst this; exact HD.out ex rfl⟩
set_option maxHeartbeats 4000000 in
set_option maxRecDepth 1000000 in
theorem inl4 {W0 : World} {qb : Nat} {D : Qn → Prop} (bA : Bool) (nA : Nat) (t n a : ByteArray) (A1 : Option Addr) (n1 c1 : Nat) (i : Option Addr) (A2 : Option Addr) (n2 c2 : Nat) (d : Nat) (w : World) (hn9 : n.size ≤ 4000000)
    (hA : ∀ w', Asks W0 qb D 83 #[pt qb, .slice A1 n1 c1, .int .i64 d] w' bA nA) :
    Asks W0 qb D 65 #[pt qb, exV 4 t n a A1 n1 c1 i A2 n2 c2, .int .i64 d] w (isNameV n && bA && bareB t ⟨#[]⟩ a 0 i n2) nA := by
  intro qs hq hn
  have Hq := Lib.hid hq
  have Hn := Lib.hid hn
  have HA := Lib.hid hA
  have hold := hq.old
  have hlt := hq.lt
  have hN := fun W => isName_any n W (by omega)
  obtain ⟨q, hqq⟩ : ∃ q, isNameV n = q := ⟨_, rfl⟩
  rw [hqq] at hN ⊢
  have HN := Lib.hid hN
  have hbare := fun W => bare_any 4 t ⟨#[]⟩ a none 0 0 i A2 n2 c2 W
  obtain ⟨bb, hbb⟩ : ∃ b, bareB t ⟨#[]⟩ a 0 i n2 = b := ⟨_, rfl⟩
  rw [hbb] at hbare ⊢
  have HBare := Lib.hid hbare
  clear hq hn hN hqq hbare hbb hA
  unfold pt exV
  cases q
  case false =>
    go_enter Tryd.func65, Tryd.ntmps65
    go_wp2_with fail
    go_at_call 25
    refine (HN.out _).mono ?_
    rintro e w3 ⟨rfl, rfl⟩
    go_wp2
    go_ret
    exact Asked.calm Hq.out (by repeat' first | exact Below.refl _ _ | apply Below.setCell | apply Below.alloc | (simp; done) | (simp; omega)) (by rfl)
  go_enter Tryd.func65, Tryd.ntmps65
  go_wp2_with fail
  go_at_call 25
  refine (HN.out _).mono ?_
  rintro e w3 ⟨rfl, rfl⟩
  go_wp2_with fail
  go_at_call 83
  refine (HA.out _ qs ?hq Hn.out).mono ?_
  case hq =>
    refine Hq.out.later ?_
    repeat' first | exact Below.refl _ _ | apply Below.setCell | apply Below.alloc | (simp; done) | (simp; omega)
  rintro e w5 ⟨r, new, rfl, h5, s5, ht5, hb5, hD5⟩
  have hne : w.heap.size + 1 + 1 + 1 ≠ qb := by omega
  have hco := by
    refine fun o => s5.cell (k := w.heap.size + 1 + 1 + 1) (t := 36) ?_ (by decide) hne o
    repeat' first | exact CellsOf.new' _ _ _ _ (by simp; done) | apply CellsOf.setCell | apply CellsOf.alloc
  have hcs := hco
  have q0 := hcs 0
  have q1 := hcs 1
  have q2 := hcs 2
  have q3 := hcs 3
  have q4 := hcs 4
  have q5 := hcs 5
  have q6 := hcs 6
  have hB5 : StepQ W0.heap.size qb w w5 := by
    refine StepQ.trans ((StepQ.refl _ _ _).later ?_ hold) s5
    repeat' first | exact Below.refl _ _ | apply Below.setCell | apply Below.alloc | (simp; done) | (simp; omega)
  have HB5 := Lib.hid hB5
  have H5 := Lib.hid h5
  have Hb5 := Lib.hid hb5
  clear hcs hco s5 h5 hB5 hb5
  cases r
  case false =>
    go_wp2
    go_ret
    exact ⟨false, new, rfl, H5.out, HB5.out, ht5, by rw [Hb5.out]; simp, hD5⟩
  go_wp2_with fail
  go_at_call 81
  refine (HBare.out _).mono ?_
  rintro e w6 ⟨rfl, hb6⟩
  go_wp2
  go_ret
  exact ⟨bb, new, rfl, H5.out.later hb6, HB5.out.later hb6 H5.out.old, ht5, by rw [Hb5.out]; simp [Bool.and_comm], hD5⟩
set_option maxHeartbeats 4000000 in
set_option maxRecDepth 1000000 in
theorem inl5 {W0 : World} {qb : Nat} {D : Qn → Prop} (bA : Bool) (nA : Nat) (t n a : ByteArray) (A1 : Option Addr) (n1 c1 : Nat) (i : Option Addr) (A2 : Option Addr) (n2 c2 : Nat) (d : Nat) (w : World) (hn9 : n.size ≤ 4000000)
    (hA : ∀ w', Asks W0 qb D 83 #[pt qb, .slice A1 n1 c1, .int .i64 d] w' bA nA) :
    Asks W0 qb D 65 #[pt qb, exV 5 t n a A1 n1 c1 i A2 n2 c2, .int .i64 d] w (isNameV n && bigV n && bA && bareB t ⟨#[]⟩ a 0 i n2) nA := by
  intro qs hq hn
  have Hq := Lib.hid hq
  have Hn := Lib.hid hn
  have HA := Lib.hid hA
  have hold := hq.old
  have hlt := hq.lt
  have hN := fun W => isName_any n W (by omega)
  obtain ⟨q, hqq⟩ : ∃ q, isNameV n = q := ⟨_, rfl⟩
  rw [hqq] at hN ⊢
  have HN := Lib.hid hN
  have hG := fun W => big_any n W (by omega)
  obtain ⟨g, hgg⟩ : ∃ q, bigV n = q := ⟨_, rfl⟩
  rw [hgg] at hG ⊢
  have HG := Lib.hid hG
  clear hG hgg
  have hbare := fun W => bare_any 5 t ⟨#[]⟩ a none 0 0 i A2 n2 c2 W
  obtain ⟨bb, hbb⟩ : ∃ b, bareB t ⟨#[]⟩ a 0 i n2 = b := ⟨_, rfl⟩
  rw [hbb] at hbare ⊢
  have HBare := Lib.hid hbare
  clear hq hn hN hqq hbare hbb hA
  unfold pt exV
  cases q
  case false =>
    go_enter Tryd.func65, Tryd.ntmps65
    go_wp2_with fail
    go_at_call 25
    refine (HN.out _).mono ?_
    rintro e w3 ⟨rfl, rfl⟩
    go_wp2
    go_ret
    exact Asked.calm Hq.out (by repeat' first | exact Below.refl _ _ | apply Below.setCell | apply Below.alloc | (simp; done) | (simp; omega)) (by rfl)
  cases g
  case false =>
    go_enter Tryd.func65, Tryd.ntmps65
    go_wp2_with fail
    go_at_call 25
    refine (HN.out _).mono ?_
    rintro e w3 ⟨rfl, rfl⟩
    go_wp2_with fail
    go_at_call 84
    refine (HG.out _).mono ?_
    rintro e w3 ⟨rfl, rfl⟩
    go_wp2
    go_ret
    exact Asked.calm Hq.out (by repeat' first | exact Below.refl _ _ | apply Below.setCell | apply Below.alloc | (simp; done) | (simp; omega)) (by rfl)
  go_enter Tryd.func65, Tryd.ntmps65
  go_wp2_with fail
  go_at_call 25
  refine (HN.out _).mono ?_
  rintro e w3 ⟨rfl, rfl⟩
  go_wp2_with fail
  go_at_call 84
  refine (HG.out _).mono ?_
  rintro e w3 ⟨rfl, rfl⟩
  go_wp2_with fail
  go_at_call 83
  refine (HA.out _ qs ?hq Hn.out).mono ?_
  case hq =>
    refine Hq.out.later ?_
    repeat' first | exact Below.refl _ _ | apply Below.setCell | apply Below.alloc | (simp; done) | (simp; omega)
  rintro e w5 ⟨r, new, rfl, h5, s5, ht5, hb5, hD5⟩
  have hne : w.heap.size + 1 + 1 + 1 ≠ qb := by omega
  have hco := by
    refine fun o => s5.cell (k := w.heap.size + 1 + 1 + 1) (t := 36) ?_ (by decide) hne o
    repeat' first | exact CellsOf.new' _ _ _ _ (by simp; done) | apply CellsOf.setCell | apply CellsOf.alloc
  have hcs := hco
  have q0 := hcs 0
  have q1 := hcs 1
  have q2 := hcs 2
  have q3 := hcs 3
  have q4 := hcs 4
  have q5 := hcs 5
  have q6 := hcs 6
  have hB5 : StepQ W0.heap.size qb w w5 := by
    refine StepQ.trans ((StepQ.refl _ _ _).later ?_ hold) s5
    repeat' first | exact Below.refl _ _ | apply Below.setCell | apply Below.alloc | (simp; done) | (simp; omega)
  have HB5 := Lib.hid hB5
  have H5 := Lib.hid h5
  have Hb5 := Lib.hid hb5
  clear hcs hco s5 h5 hB5 hb5
  cases r
  case false =>
    go_wp2
    go_ret
    exact ⟨false, new, rfl, H5.out, HB5.out, ht5, by rw [Hb5.out]; simp, hD5⟩
  go_wp2_with fail
  go_at_call 81
  refine (HBare.out _).mono ?_
  rintro e w6 ⟨rfl, hb6⟩
  go_wp2
  go_ret
  exact ⟨bb, new, rfl, H5.out.later hb6, HB5.out.later hb6 H5.out.old, ht5, by rw [Hb5.out]; simp [Bool.and_comm], hD5⟩
end Go.Proofs.YtmceblemiboedaaDoor

/-
  law07.bare: in the six ways in which it is asked (written by bin/gen_lbare.py).
-/
namespace Go.Proofs.YtmceblemiboedaaDoor
open Go.RowKit
set_option linter.unusedVariables false
set_option linter.unusedSimpArgs false

/-- Is nothing there but what may be? -/
def bareF (ft fn fa fA fi fv : Bool) (t n a : ByteArray) (n1 : Nat) (i : Option Addr) (n2 : Nat) : Bool :=
  (ft || emp t) && ((fn || emp n) && ((fa || emp a) && ((fA || decide (n1 = 0)) && ((fi || i.isNone) && (fv || decide (n2 = 0))))))

set_option maxHeartbeats 4000000 in
set_option maxRecDepth 100000 in
theorem lbare_100000 (k : Int) (t n a : ByteArray) (A1 : Option Addr) (n1 c1 : Nat) (i : Option Addr) (A2 : Option Addr) (n2 c2 : Nat) (w : World) :
    Calls Tryd.prog 50 #[exV k t n a A1 n1 c1 i A2 n2 c2, .bool true, .bool false, .bool false, .bool false, .bool false, .bool false] w fun e w' => e = .returned (.bool (bareF true false false false false false t n a n1 i n2)) ∧ Below w.heap.size w w' := by
  unfold exV bareF emp
  cases hn : n.toList.isEmpty
  case false =>
    go_enter Tryd.func50, Tryd.ntmps50
    go_wp2
    go_ret
    exact ⟨ret_bool (by simp), (Below.refl _ _).alloc (Nat.le_refl _) _⟩
  cases ha : a.toList.isEmpty
  case false =>
    go_enter Tryd.func50, Tryd.ntmps50
    go_wp2
    go_ret
    exact ⟨ret_bool (by simp), (Below.refl _ _).alloc (Nat.le_refl _) _⟩
  by_cases h1 : n1 = 0
  case neg =>
    have z1 : ((n1 : Int) == 0) = false := beq_eq_false_iff_ne.2 (by omega)
    rw [decide_eq_false h1]
    go_enter Tryd.func50, Tryd.ntmps50
    go_wp2
    go_ret
    exact ⟨ret_bool (by simp), (Below.refl _ _).alloc (Nat.le_refl _) _⟩
  have z1 : ((n1 : Int) == 0) = true := beq_iff_eq.2 (by omega)
  rw [decide_eq_true h1]
  clear h1
  cases i
  case some q =>
    go_enter Tryd.func50, Tryd.ntmps50
    go_wp2
    go_ret
    exact ⟨ret_bool (by simp), (Below.refl _ _).alloc (Nat.le_refl _) _⟩
  by_cases h2 : n2 = 0
  case neg =>
    have z2 : ((n2 : Int) == 0) = false := beq_eq_false_iff_ne.2 (by omega)
    rw [decide_eq_false h2]
    go_enter Tryd.func50, Tryd.ntmps50
    go_wp2
    go_ret
    exact ⟨ret_bool (by simp), (Below.refl _ _).alloc (Nat.le_refl _) _⟩
  have z2 : ((n2 : Int) == 0) = true := beq_iff_eq.2 (by omega)
  rw [decide_eq_true h2]
  clear h2
  · go_enter Tryd.func50, Tryd.ntmps50
    go_wp2
    go_ret
    exact ⟨ret_bool (by simp), (Below.refl _ _).alloc (Nat.le_refl _) _⟩

set_option maxHeartbeats 4000000 in
set_option maxRecDepth 100000 in
theorem lbare_010000 (k : Int) (t n a : ByteArray) (A1 : Option Addr) (n1 c1 : Nat) (i : Option Addr) (A2 : Option Addr) (n2 c2 : Nat) (w : World) :
    Calls Tryd.prog 50 #[exV k t n a A1 n1 c1 i A2 n2 c2, .bool false, .bool true, .bool false, .bool false, .bool false, .bool false] w fun e w' => e = .returned (.bool (bareF false true false false false false t n a n1 i n2)) ∧ Below w.heap.size w w' := by
  unfold exV bareF emp
  cases ht : t.toList.isEmpty
  case false =>
    go_enter Tryd.func50, Tryd.ntmps50
    go_wp2
    go_ret
    exact ⟨ret_bool (by simp), (Below.refl _ _).alloc (Nat.le_refl _) _⟩
  cases ha : a.toList.isEmpty
  case false =>
    go_enter Tryd.func50, Tryd.ntmps50
    go_wp2
    go_ret
    exact ⟨ret_bool (by simp), (Below.refl _ _).alloc (Nat.le_refl _) _⟩
  by_cases h1 : n1 = 0
  case neg =>
    have z1 : ((n1 : Int) == 0) = false := beq_eq_false_iff_ne.2 (by omega)
    rw [decide_eq_false h1]
    go_enter Tryd.func50, Tryd.ntmps50
    go_wp2
    go_ret
    exact ⟨ret_bool (by simp), (Below.refl _ _).alloc (Nat.le_refl _) _⟩
  have z1 : ((n1 : Int) == 0) = true := beq_iff_eq.2 (by omega)
  rw [decide_eq_true h1]
  clear h1
  cases i
  case some q =>
    go_enter Tryd.func50, Tryd.ntmps50
    go_wp2
    go_ret
    exact ⟨ret_bool (by simp), (Below.refl _ _).alloc (Nat.le_refl _) _⟩
  by_cases h2 : n2 = 0
  case neg =>
    have z2 : ((n2 : Int) == 0) = false := beq_eq_false_iff_ne.2 (by omega)
    rw [decide_eq_false h2]
    go_enter Tryd.func50, Tryd.ntmps50
    go_wp2
    go_ret
    exact ⟨ret_bool (by simp), (Below.refl _ _).alloc (Nat.le_refl _) _⟩
  have z2 : ((n2 : Int) == 0) = true := beq_iff_eq.2 (by omega)
  rw [decide_eq_true h2]
  clear h2
  · go_enter Tryd.func50, Tryd.ntmps50
    go_wp2
    go_ret
    exact ⟨ret_bool (by simp), (Below.refl _ _).alloc (Nat.le_refl _) _⟩

set_option maxHeartbeats 4000000 in
set_option maxRecDepth 100000 in
theorem lbare_011000 (k : Int) (t n a : ByteArray) (A1 : Option Addr) (n1 c1 : Nat) (i : Option Addr) (A2 : Option Addr) (n2 c2 : Nat) (w : World) :
    Calls Tryd.prog 50 #[exV k t n a A1 n1 c1 i A2 n2 c2, .bool false, .bool true, .bool true, .bool false, .bool false, .bool false] w fun e w' => e = .returned (.bool (bareF false true true false false false t n a n1 i n2)) ∧ Below w.heap.size w w' := by
  unfold exV bareF emp
  cases ht : t.toList.isEmpty
  case false =>
    go_enter Tryd.func50, Tryd.ntmps50
    go_wp2
    go_ret
    exact ⟨ret_bool (by simp), (Below.refl _ _).alloc (Nat.le_refl _) _⟩
  by_cases h1 : n1 = 0
  case neg =>
    have z1 : ((n1 : Int) == 0) = false := beq_eq_false_iff_ne.2 (by omega)
    rw [decide_eq_false h1]
    go_enter Tryd.func50, Tryd.ntmps50
    go_wp2
    go_ret
    exact ⟨ret_bool (by simp), (Below.refl _ _).alloc (Nat.le_refl _) _⟩
  have z1 : ((n1 : Int) == 0) = true := beq_iff_eq.2 (by omega)
  rw [decide_eq_true h1]
  clear h1
  cases i
  case some q =>
    go_enter Tryd.func50, Tryd.ntmps50
    go_wp2
    go_ret
    exact ⟨ret_bool (by simp), (Below.refl _ _).alloc (Nat.le_refl _) _⟩
  by_cases h2 : n2 = 0
  case neg =>
    have z2 : ((n2 : Int) == 0) = false := beq_eq_false_iff_ne.2 (by omega)
    rw [decide_eq_false h2]
    go_enter Tryd.func50, Tryd.ntmps50
    go_wp2
    go_ret
    exact ⟨ret_bool (by simp), (Below.refl _ _).alloc (Nat.le_refl _) _⟩
  have z2 : ((n2 : Int) == 0) = true := beq_iff_eq.2 (by omega)
  rw [decide_eq_true h2]
  clear h2
  · go_enter Tryd.func50, Tryd.ntmps50
    go_wp2
    go_ret
    exact ⟨ret_bool (by simp), (Below.refl _ _).alloc (Nat.le_refl _) _⟩

set_option maxHeartbeats 4000000 in
set_option maxRecDepth 100000 in
theorem lbare_000010 (k : Int) (t n a : ByteArray) (A1 : Option Addr) (n1 c1 : Nat) (i : Option Addr) (A2 : Option Addr) (n2 c2 : Nat) (w : World) :
    Calls Tryd.prog 50 #[exV k t n a A1 n1 c1 i A2 n2 c2, .bool false, .bool false, .bool false, .bool false, .bool true, .bool false] w fun e w' => e = .returned (.bool (bareF false false false false true false t n a n1 i n2)) ∧ Below w.heap.size w w' := by
  unfold exV bareF emp
  cases ht : t.toList.isEmpty
  case false =>
    go_enter Tryd.func50, Tryd.ntmps50
    go_wp2
    go_ret
    exact ⟨ret_bool (by simp), (Below.refl _ _).alloc (Nat.le_refl _) _⟩
  cases hn : n.toList.isEmpty
  case false =>
    go_enter Tryd.func50, Tryd.ntmps50
    go_wp2
    go_ret
    exact ⟨ret_bool (by simp), (Below.refl _ _).alloc (Nat.le_refl _) _⟩
  cases ha : a.toList.isEmpty
  case false =>
    go_enter Tryd.func50, Tryd.ntmps50
    go_wp2
    go_ret
    exact ⟨ret_bool (by simp), (Below.refl _ _).alloc (Nat.le_refl _) _⟩
  by_cases h1 : n1 = 0
  case neg =>
    have z1 : ((n1 : Int) == 0) = false := beq_eq_false_iff_ne.2 (by omega)
    rw [decide_eq_false h1]
    go_enter Tryd.func50, Tryd.ntmps50
    go_wp2
    go_ret
    exact ⟨ret_bool (by simp), (Below.refl _ _).alloc (Nat.le_refl _) _⟩
  have z1 : ((n1 : Int) == 0) = true := beq_iff_eq.2 (by omega)
  rw [decide_eq_true h1]
  clear h1
  by_cases h2 : n2 = 0
  case neg =>
    have z2 : ((n2 : Int) == 0) = false := beq_eq_false_iff_ne.2 (by omega)
    rw [decide_eq_false h2]
    go_enter Tryd.func50, Tryd.ntmps50
    go_wp2
    go_ret
    exact ⟨ret_bool (by simp), (Below.refl _ _).alloc (Nat.le_refl _) _⟩
  have z2 : ((n2 : Int) == 0) = true := beq_iff_eq.2 (by omega)
  rw [decide_eq_true h2]
  clear h2
  · go_enter Tryd.func50, Tryd.ntmps50
    go_wp2
    go_ret
    exact ⟨ret_bool (by simp), (Below.refl _ _).alloc (Nat.le_refl _) _⟩

set_option maxHeartbeats 4000000 in
set_option maxRecDepth 100000 in
theorem lbare_010100 (k : Int) (t n a : ByteArray) (A1 : Option Addr) (n1 c1 : Nat) (i : Option Addr) (A2 : Option Addr) (n2 c2 : Nat) (w : World) :
    Calls Tryd.prog 50 #[exV k t n a A1 n1 c1 i A2 n2 c2, .bool false, .bool true, .bool false, .bool true, .bool false, .bool false] w fun e w' => e = .returned (.bool (bareF false true false true false false t n a n1 i n2)) ∧ Below w.heap.size w w' := by
  unfold exV bareF emp
  cases ht : t.toList.isEmpty
  case false =>
    go_enter Tryd.func50, Tryd.ntmps50
    go_wp2
    go_ret
    exact ⟨ret_bool (by simp), (Below.refl _ _).alloc (Nat.le_refl _) _⟩
  cases ha : a.toList.isEmpty
  case false =>
    go_enter Tryd.func50, Tryd.ntmps50
    go_wp2
    go_ret
    exact ⟨ret_bool (by simp), (Below.refl _ _).alloc (Nat.le_refl _) _⟩
  cases i
  case some q =>
    go_enter Tryd.func50, Tryd.ntmps50
    go_wp2
    go_ret
    exact ⟨ret_bool (by simp), (Below.refl _ _).alloc (Nat.le_refl _) _⟩
  by_cases h2 : n2 = 0
  case neg =>
    have z2 : ((n2 : Int) == 0) = false := beq_eq_false_iff_ne.2 (by omega)
    rw [decide_eq_false h2]
    go_enter Tryd.func50, Tryd.ntmps50
    go_wp2
    go_ret
    exact ⟨ret_bool (by simp), (Below.refl _ _).alloc (Nat.le_refl _) _⟩
  have z2 : ((n2 : Int) == 0) = true := beq_iff_eq.2 (by omega)
  rw [decide_eq_true h2]
  clear h2
  · go_enter Tryd.func50, Tryd.ntmps50
    go_wp2
    go_ret
    exact ⟨ret_bool (by simp), (Below.refl _ _).alloc (Nat.le_refl _) _⟩

set_option maxHeartbeats 4000000 in
set_option maxRecDepth 100000 in
theorem lbare_000011 (k : Int) (t n a : ByteArray) (A1 : Option Addr) (n1 c1 : Nat) (i : Option Addr) (A2 : Option Addr) (n2 c2 : Nat) (w : World) :
    Calls Tryd.prog 50 #[exV k t n a A1 n1 c1 i A2 n2 c2, .bool false, .bool false, .bool false, .bool false, .bool true, .bool true] w fun e w' => e = .returned (.bool (bareF false false false false true true t n a n1 i n2)) ∧ Below w.heap.size w w' := by
  unfold exV bareF emp
  cases ht : t.toList.isEmpty
  case false =>
    go_enter Tryd.func50, Tryd.ntmps50
    go_wp2
    go_ret
    exact ⟨ret_bool (by simp), (Below.refl _ _).alloc (Nat.le_refl _) _⟩
  cases hn : n.toList.isEmpty
  case false =>
    go_enter Tryd.func50, Tryd.ntmps50
    go_wp2
    go_ret
    exact ⟨ret_bool (by simp), (Below.refl _ _).alloc (Nat.le_refl _) _⟩
  cases ha : a.toList.isEmpty
  case false =>
    go_enter Tryd.func50, Tryd.ntmps50
    go_wp2
    go_ret
    exact ⟨ret_bool (by simp), (Below.refl _ _).alloc (Nat.le_refl _) _⟩
  by_cases h1 : n1 = 0
  case neg =>
    have z1 : ((n1 : Int) == 0) = false := beq_eq_false_iff_ne.2 (by omega)
    rw [decide_eq_false h1]
    go_enter Tryd.func50, Tryd.ntmps50
    go_wp2
    go_ret
    exact ⟨ret_bool (by simp), (Below.refl _ _).alloc (Nat.le_refl _) _⟩
  have z1 : ((n1 : Int) == 0) = true := beq_iff_eq.2 (by omega)
  rw [decide_eq_true h1]
  clear h1
  · go_enter Tryd.func50, Tryd.ntmps50
    go_wp2
    go_ret
    exact ⟨ret_bool (by simp), (Below.refl _ _).alloc (Nat.le_refl _) _⟩

end Go.Proofs.YtmceblemiboedaaDoor

/-
  Package ast: allHold; isInBraces; the questions of braces.
-/
namespace Go.Proofs.YtmceblemiboedaaDoor
open Go.RowKit
set_option linter.unusedVariables false
set_option linter.unusedSimpArgs false

/-- A call of it enters it. -/
def Enters (N : FuncId) : Prop := ∀ (args : Array Value) (w : World), (callFunc N args).run Tryd.prog w = .ok (.enter N args) w
/-- Each question that D lets in is asked so. -/
def QC (W0 : World) (qb : Nat) (D : Qn → Prop) : Prop := ∀ q, D q → ∀ fv w qs, IsQ W0 qb fv q w → QsAt W0 qb qs w → total qs + q.size ≤ qMax →
  ∃ N caps, fv = .func (.func N) #[] caps ∧ Enters N ∧ Calls Tryd.prog N caps w (Asked W0 qb D qs w q.ans (q.size - 1))
theorem QsAt.pop {W0 : World} {qb : Nat} {qs : List Qn} {q : Qn} {w : World} (h : QsAt W0 qb (qs ++ [q]) w) :
    ∃ g cap fv n, w.cell? ⟨qb, 0, none⟩ = some (.slice (some ⟨g, 0, none⟩) (n + 1) cap) ∧ w.frozen? ⟨qb, 0, none⟩ = false ∧ n + 1 ≤ cap ∧ cap ≤ maxLen ∧ n = qs.length ∧ w.cell? ⟨g, n, none⟩ = some fv ∧ IsQ W0 qb fv q w ∧
      QsAt W0 qb qs (w.setCell ⟨qb, 0, none⟩ (.slice (some ⟨g, 0, none⟩) n cap)) ∧ StepQ W0.heap.size qb w (w.setCell ⟨qb, 0, none⟩ (.slice (some ⟨g, 0, none⟩) n cap)) := by
  have hold := h.old
  obtain ⟨fvs, ⟨h1, v, h2, h3⟩, h4, h5⟩ := h
  obtain ⟨fs, f, rfl, h6, h7⟩ := h4.pop
  rw [List.length_append, List.length_singleton] at h3
  have hl := h6.len
  have h3' := h3
  obtain ⟨_, g2⟩ := h3'
  rcases g2 with ⟨_, h0⟩ | ⟨g, cap, cur, rfl, hg, hh, hn, hcap, hcs, htk⟩
  · omega
  have hst : StepQ W0.heap.size qb w (w.setCell ⟨qb, 0, none⟩ (.slice (some ⟨g, 0, none⟩) fs.length cap)) :=
    ⟨(Below.refl _ _).setCell (p := ⟨qb, 0, none⟩) h1 _, (Lib.OthersKept.refl _ _ _).setCell ⟨qb, 0, none⟩ rfl _⟩
  refine ⟨g, cap, f, fs.length, h2.cell 0, Lib.frozen_of_heap h2 0, hn, hcap, hl, ?_, h7, ⟨fs, ⟨h1, .slice (some ⟨g, 0, none⟩) fs.length cap, ?_, ?_⟩, h6.step h2 hst, h5.trans hst.below⟩, hst⟩
  · rw [Lib.cell_of_heap hh]
    have e1 : (cur.toList.take ((fs.length + 1) * 1))[fs.length]? = some f := by rw [htk]; simp
    rw [List.getElem?_take_of_lt (by omega)] at e1
    simpa using e1
  · unfold BoxAt at h2 ⊢
    simp [World.setCell, Array.getElem?_modify, h2]
  · have hp := ownsRow_pop (by simp) h3
    refine ownsRow_setCell_other hp ?_ _
    exact Lib.ownBlock_ne hp h2 (by decide)
theorem QsAt.none {W0 : World} {qb : Nat} {w : World} (h : QsAt W0 qb [] w) : ∃ ao cap, w.cell? ⟨qb, 0, none⟩ = some (.slice ao 0 cap) := by
  obtain ⟨fvs, ⟨h1, v, h2, h3⟩, h4, h5⟩ := h
  have hl := h4.len
  have : fvs = [] := List.eq_nil_of_length_eq_zero hl
  subst this
  rcases h3.2 with ⟨rfl, _⟩ | ⟨g, cap, cur, rfl, _⟩
  · exact ⟨_, _, h2.cell 0⟩
  · exact ⟨_, _, h2.cell 0⟩
set_option maxHeartbeats 2000000 in
set_option maxRecDepth 1000000 in
theorem allHold_any {W0 : World} {qb : Nat} {D : Qn → Prop} (HQ : QC W0 qb D) (qs : List Qn) (w : World) (hq : QsAt W0 qb qs w) (hD : ∀ q ∈ qs, D q) (hn : total qs ≤ qMax) :
    Calls Tryd.prog 16 #[pt qb] w fun e w' => e = .returned (.bool (answers qs)) ∧ Below W0.heap.size w w' := by
  have Hq := Lib.hid hq
  have HD := Lib.hid hD
  have Hn := Lib.hid hn
  obtain ⟨ANS, hANS⟩ : ∃ b, answers qs = b := ⟨_, rfl⟩
  rw [hANS]
  have HA := Lib.hid hANS
  have HC := Lib.hid HQ
  clear hq hD hn hANS HQ
  unfold pt
  go_enter Tryd.func16, Tryd.ntmps16
  go_wp2
  go_loopg [] (total qs + 1) (fun gk wr => ∃ qs' : List Qn, Hid (QsAt W0 qb qs' wr) ∧ Hid (∀ q ∈ qs', D q) ∧ total qs' < gk ∧ Hid (total qs' ≤ qMax) ∧ Hid (answers qs' = ANS) ∧ Hid (Below W0.heap.size w wr))
  case atStart => exact ⟨qs, Hq.out, HD.out, by omega, Hn.out, HA.out, Below.refl _ _⟩
  case round =>
    obtain ⟨qs', Hqs, HDs, hlt, Hns, Hans, Hbel⟩ := hrel
    clear Hq HD Hn HA
    rcases List.eq_nil_or_concat qs' with rfl | ⟨qs1, q, rfl⟩
    · obtain ⟨ao, cap, c0⟩ := Hqs.out.none
      go_wp2
      go_ret
      exact ⟨by rw [← Hans.out]; rfl, Hbel.out⟩
    · have hqs := Hqs.out
      rw [List.concat_eq_append] at hqs
      obtain ⟨g, cap, fv, n, c0, f0, hn1, hn2, hn3, c1, hIs, hq2, hst⟩ := hqs.pop
      have hDs := HDs.out
      rw [List.concat_eq_append] at hDs
      have hans := Hans.out
      rw [List.concat_eq_append, answers_append] at hans
      have hns := Hns.out
      rw [List.concat_eq_append, total_append] at hns hlt
      have htq : total [q] = q.size := by simp [total]
      rw [htq] at hns hlt
      have hp := q.size_pos
      obtain ⟨v, hbx⟩ := hqs.box
      obtain ⟨N, caps, rfl, hE, hcall⟩ := HC.out q (hDs q (by simp)) fv _ qs1 (hIs.step hbx hst) hq2 hns
      have HCall := Lib.hid hcall
      have Hst := Lib.hid hst
      have HDs1 := Lib.hid (fun x (hx : x ∈ qs1) => hDs x (List.mem_append_left _ hx))
      have Hans1 := Lib.hid hans
      have Hns1 := Lib.hid hns
      have Hn3 := Lib.hid hn3
      have hnm : (n : Int) + 1 ≤ 9223372036854775807 := by unfold maxLen at hn2; omega
      unfold maxLen at hn2
      unfold Enters at hE
      clear hcall hst hDs hans hns hn3 hIs hq2 hbx hqs Hqs HDs Hns Hans htq
      have hd1 : decide ((0 : Int) < (n : Int) + 1) = true := decide_eq_true (by omega)
      have hnc : n ≤ cap := by omega
      go_wp2_with fail
      refine HCall.out.mono ?_
      rintro e w2 ⟨r, new, rfl, h1, h2, h3, h4, h5⟩
      have hbel : Below W0.heap.size w w2 := (Hbel.out.trans Hst.out.below).trans h2.below
      have H1 := Lib.hid h1
      have H4 := Lib.hid h4
      have H5 := Lib.hid h5
      have Hbel2 := Lib.hid hbel
      clear h1 h2 h4 h5 hbel
      cases r
      case false =>
        go_wp2
        go_ret
        exact ⟨ret_bool (by rw [← Hans1.out]; simp [answers, H4.out]), Hbel2.out⟩
      go_wp2
      go_roundg (total (qs1 ++ new) + 1)
      case measure => rw [total_append]; omega
      case rel =>
        refine ⟨qs1 ++ new, H1.out, ?_, by omega, ?_, ?_, Hbel2.out⟩
        · intro x hx
          rcases List.mem_append.1 hx with h | h
          · exact HDs1.out x h
          · exact H5.out x h
        · have := Hns1.out
          show _ ≤ _
          rw [total_append]
          omega
        · show _ = _
          rw [answers_append, ← Hans1.out]
          simp [answers, H4.out]

/-- The cells of an expression in memory, as they are handed on. -/
theorem cells_ex {W : World} {k : Int} {t n a : ByteArray} {al : List AR} {i : Option EX} {vs : List VA} {c : C7} (h : ExAt W (.mk k t n a al i vs) c) :
    ∃ A1 c1 p A2 c2, c = ⟨.int .i64 k, .string t, .string n, .string a, .slice A1 al.length c1, .pointer p, .slice A2 vs.length c2⟩ ∧ LieAt (AsAt W al) (.slice A1 al.length c1) al.length ∧ OAt W i (.pointer p) ∧ LieAt (VsAt W vs) (.slice A2 vs.length c2) vs.length := by
  rw [ExAt] at h
  obtain ⟨h1, h2, h3, h4, h5, h6, h7⟩ := h
  obtain ⟨A1, c1, e1, r1⟩ := h5
  obtain ⟨A2, c2, e2, r2⟩ := h7
  obtain ⟨p, e3⟩ : ∃ p, c.i = .pointer p := by
    cases i with
    | none => simp only [OAt] at h6; exact ⟨_, h6⟩
    | some e => simp only [OAt] at h6; obtain ⟨_, _, _, e, _⟩ := h6; exact ⟨_, e⟩
  refine ⟨A1, c1, p, A2, c2, ?_, ⟨_, _, rfl, r1⟩, by rw [← e3]; exact h6, ⟨_, _, rfl, r2⟩⟩
  cases c
  simp_all
set_option maxHeartbeats 2000000 in
set_option maxRecDepth 1000000 in
theorem inBraces_asks {W0 : World} {qb : Nat} {D : Qn → Prop} (k : Int) (t n a : ByteArray) (A1 : Option Addr) (n1 c1 : Nat) (i : Option Addr) (A2 : Option Addr) (n2 c2 : Nat) (b o : Nat) (hb : b < W0.heap.size) (hc : CellsAt W0 b o ⟨.int .i64 k, .string t, .string n, .string a, .slice A1 n1 c1, .pointer i, .slice A2 n2 c2⟩) (d : Nat) (hd : d ≤ 21) (w : World) (bI : Bool) (m : Nat)
    (hS : k = 7 → d ≤ 20 → Asks W0 qb D 64 #[pt qb, exV k t n a A1 n1 c1 i A2 n2 c2, .int .i64 d] w bI m)
    (hI : k ≠ 7 → d ≤ 20 → Asks W0 qb D 65 #[pt qb, exV k t n a A1 n1 c1 i A2 n2 c2, .int .i64 d] w bI m) :
    Asks W0 qb D 44 #[pt qb, .pointer (some ⟨b, o, none⟩), .int .i64 d] w (decide (d ≤ 20) && bI) m := by
  intro qs hq hn
  have Hq := Lib.hid hq
  have Hn := Lib.hid hn
  have hbel := hq.below
  obtain ⟨c0, c1', c2', c3, c4, c5, c6⟩ := hc
  rw [← hbel.cell (p := ⟨b, o, none⟩) hb] at c0
  rw [← hbel.cell (p := ⟨b, o + 1, none⟩) hb] at c1'
  rw [← hbel.cell (p := ⟨b, o + 2, none⟩) hb] at c2'
  rw [← hbel.cell (p := ⟨b, o + 3, none⟩) hb] at c3
  rw [← hbel.cell (p := ⟨b, o + 4, none⟩) hb] at c4
  rw [← hbel.cell (p := ⟨b, o + 5, none⟩) hb] at c5
  rw [← hbel.cell (p := ⟨b, o + 6, none⟩) hb] at c6
  clear hq hn hbel
  by_cases h20 : d ≤ 20
  · have hd1 : decide ((20 : Int) < (d : Int)) = false := decide_eq_false (by omega)
    have hd2 : decide (20 < d) = false := decide_eq_false (by omega)
    rw [decide_eq_true h20, Bool.true_and]
    by_cases h7 : k = 7
    · have hz : (k == 7) = true := beq_iff_eq.2 h7
      have HS := Lib.hid (hS h7 h20 qs Hq.out Hn.out)
      clear hS hI h7
      unfold pt
      unfold exV pt at HS
      go_enter Tryd.func44, Tryd.ntmps44
      go_wp2_with fail
      go_at_call 64
      refine HS.out.mono ?_
      rintro e w2 ⟨r, new, rfl, h1, h2, h3, h4, h5⟩
      have H4 := Lib.hid h4
      clear h4
      go_wp2
      go_ret
      exact ⟨r, new, rfl, h1, h2, h3, H4.out, h5⟩
    · have hz : (k == 7) = false := beq_eq_false_iff_ne.2 h7
      have HS := Lib.hid (hI h7 h20 qs Hq.out Hn.out)
      clear hS hI h7
      unfold pt
      unfold exV pt at HS
      go_enter Tryd.func44, Tryd.ntmps44
      go_wp2_with fail
      go_at_call 65
      refine HS.out.mono ?_
      rintro e w2 ⟨r, new, rfl, h1, h2, h3, h4, h5⟩
      have H4 := Lib.hid h4
      clear h4
      go_wp2
      go_ret
      exact ⟨r, new, rfl, h1, h2, h3, H4.out, h5⟩
  · have hd1 : decide ((20 : Int) < (d : Int)) = true := decide_eq_true (by omega)
    have hd2 : decide (20 < d) = true := decide_eq_true (by omega)
    rw [decide_eq_false h20, Bool.false_and]
    clear hS hI
    unfold pt
    go_enter Tryd.func44, Tryd.ntmps44
    go_wp2
    go_ret
    exact Asked.plain Hq.out (StepQ.refl _ _ _) rfl
end Go.Proofs.YtmceblemiboedaaDoor

/-
  Package ast: the questions of braces; those of variables within nests.
-/
namespace Go.Proofs.YtmceblemiboedaaDoor
open Go.RowKit
set_option linter.unusedVariables false
set_option linter.unusedSimpArgs false

theorem enters_pat : Enters 43 := fun args w => by go_simp
theorem enters_inl : Enters 85 := fun args w => by go_simp
theorem enters_arg : Enters 98 := fun args w => by go_simp
set_option maxHeartbeats 1000000 in
theorem brc_call {W0 : World} {qb : Nat} {D : Qn → Prop} {N : FuncId} (hN : N = 43 ∨ N = 85) (k1 k2 k3 : Nat) (p : Option Addr) (d : Nat) (hd : d ≤ 20) (w : World) (qs : List Qn) (b : Bool) (m : Nat)
    (h1 : BoxAt w k1 #[pt qb] 52) (h2 : BoxAt w k2 #[.pointer p] 33) (h3 : BoxAt w k3 #[.int .i64 d] 3)
    (h : Calls Tryd.prog 44 #[pt qb, .pointer p, .int .i64 ((d + 1 : Nat) : Int)] w (Asked W0 qb D qs w b m)) :
    Calls Tryd.prog N #[pt k1, pt k2, pt k3] w (Asked W0 qb D qs w b m) := by
  have c1 := h1.cell 0
  have c2 := h2.cell 0
  have c3 := h3.cell 0
  have l1 := h1.lt
  have l2 := h2.lt
  have l3 := h3.lt
  have hd0 : (0 : Int) ≤ (d : Int) := by omega
  have hd1 : (d : Int) ≤ 20 := by omega
  have e1 : ((d + 1 : Nat) : Int) = (d : Int) + 1 := by omega
  rw [e1] at h
  have H := Lib.hid h
  clear h h1 h2 h3 e1 hd
  unfold pt at *
  simp at c1 c2 c3
  rcases hN with rfl | rfl
  · go_enter Tryd.func43, Tryd.ntmps43
    go_wp2_with fail
    go_at_call 44
    refine H.out.mono ?_
    rintro e w2 ⟨r, new, rfl, h1, h2, h3, h4, h5⟩
    have H4 := Lib.hid h4
    clear h4
    go_wp2
    go_ret
    exact ⟨r, new, rfl, h1, h2, h3, H4.out, h5⟩
  · go_enter Tryd.func85, Tryd.ntmps85
    go_wp2_with fail
    go_at_call 44
    refine H.out.mono ?_
    rintro e w2 ⟨r, new, rfl, h1, h2, h3, h4, h5⟩
    have H4 := Lib.hid h4
    clear h4
    go_wp2
    go_ret
    exact ⟨r, new, rfl, h1, h2, h3, H4.out, h5⟩

/-- A variable within nests. -/
def nvE : EX → Bool
  | .mk k t n a [] none [] => k == 2 && decide (n.size ≤ 1000)
  | .mk k t n a [] (some e) [] => k == 6 && nvE e
  | _ => false
def Nd (q : Qn) : Prop := ∃ e d, q = .may .brc e d ∧ nvE e = true
theorem emp_nil : emp ⟨#[]⟩ = true := by unfold emp; rw [Lib.toList_data]; rfl
theorem nd_qc {W0 : World} {qb : Nat} (hT : TabU W0) : QC W0 qb Nd := by
  rintro q ⟨e, d, rfl, hnv⟩ fv w qs hIs hq hn
  obtain ⟨N, k1, k2, k3, p, d', hN, rfl, hd, rfl, b1, b2, b3, hO⟩ := hIs
  simp only [OAt] at hO
  obtain ⟨b, o, c, rfl, hb, hc, hE⟩ := hO
  refine ⟨N, _, rfl, by rcases hN with rfl | rfl; exact enters_pat; exact enters_inl, ?_⟩
  refine brc_call hN k1 k2 k3 _ d' hd w qs _ _ b1 b2 b3 ?_
  cases e with
  | mk k t n a al i vs =>
    obtain ⟨A1, c1, pi, A2, c2, rfl, hA, hi, hV⟩ := cells_ex hE
    have hk7 : k ≠ 7 := by
      rintro rfl
      cases al <;> cases i <;> cases vs <;> simp [nvE] at hnv
    have hok : okE .brc (.mk k t n a al i vs) (d' + 1) = (decide (d' + 1 ≤ 20) && okE .inl (.mk k t n a al i vs) (d' + 1)) := by
      rw [okE, okE]
      simp [hk7]
    rw [show (Qn.may .brc (EX.mk k t n a al i vs) (d' + 1)).ans = (decide (d' + 1 ≤ 20) && okE .inl (.mk k t n a al i vs) (d' + 1)) from hok]
    have hsz : total qs + (EX.mk k t n a al i vs).size ≤ qMax := hn
    rw [EX.size] at hsz
    have hszq : (Qn.may .brc (.mk k t n a al i vs) (d' + 1)).size - 1 = t.size + n.size + a.size + sizeAs al + sizeO i + sizeVs vs := by
      show (EX.mk k t n a al i vs).size - 1 = _
      rw [EX.size]
      omega
    rw [hszq]
    refine (inBraces_asks k t n a A1 al.length c1 pi A2 vs.length c2 b o hb hc (d' + 1) (by omega) w (okE .inl (.mk k t n a al i vs) (d' + 1)) _ (fun h => absurd h hk7) (fun _ hd20 => ?_)) qs hq (by omega)
    cases al with
    | cons x r => simp [nvE] at hnv
    | nil =>
      cases vs with
      | cons x r => cases i <;> simp [nvE] at hnv
      | nil =>
        cases i with
        | none =>
          simp [nvE] at hnv
          obtain ⟨rfl, hn1⟩ := hnv
          simp only [OAt] at hi
          cases hi
          have h := inl2 (W0 := W0) (qb := qb) (D := Nd) t n a A1 0 c1 none A2 0 c2 (d' + 1) w (by omega)
          have e1 : okE .inl (.mk 2 t n a [] none []) (d' + 1) = (isNameV n && bareB t ⟨#[]⟩ a 0 none 0) := by
            rw [okE]
            unfold inlP bareB
            rw [emp_nil]
            simp
          rw [e1]
          intro qs' hq' hn'
          exact (h qs' hq' (by omega)).mono fun e w' hh => Asked.pre (StepQ.refl _ _ _) hh (Nat.zero_le _)
        | some ex =>
          simp [nvE] at hnv
          obtain ⟨rfl, hn1⟩ := hnv
          have h := inl6 (W0 := W0) (qb := qb) (D := Nd) (some ex) t n a A1 0 c1 pi A2 0 c2 (d' + 1) w hd20 hi (fun ex' he => by cases he; exact ⟨ex, _, rfl, hn1⟩)
          have e1 : okE .inl (.mk 6 t n a [] (some ex) []) (d' + 1) = (okO .brc (some ex) (d' + 1 + 1) && bareB t n a 0 none 0) := by
            rw [okE]
            unfold inlP bareB
            simp [Bool.and_assoc]
          rw [e1]
          intro qs' hq' hn'
          exact (h qs' hq' (by omega)).mono fun e w' hh => Asked.pre (StepQ.refl _ _ _) hh (by omega)
end Go.Proofs.YtmceblemiboedaaDoor
