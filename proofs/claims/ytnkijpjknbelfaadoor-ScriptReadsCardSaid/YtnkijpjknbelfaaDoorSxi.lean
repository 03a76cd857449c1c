/-
  Package script: ScriptReads.
-/
import Derived.Test.YtnkijpjknbelfaaDoorSxh
namespace Go.Proofs.YtnkijpjknbelfaaDoor
open Go.RowKit
set_option linter.unusedVariables false
set_option linter.unusedSimpArgs false

set_option maxHeartbeats 4000000 in
set_option maxRecDepth 100000 in
theorem reads_long (s : ByteArray) (A : Option Addr) (c : Nat) (w : World) (hE : Env w) (hs : 600 < s.size) :
    Calls Tryd.prog 4 #[.slice A s.size c] w fun e w' => e = .returned (.bool true) ∧ Below w.heap.size w w' := by
  have d1 : decide ((600 : Int) < (s.size : Int)) = true := decide_eq_true (by omega)
  have d2 : (600 : Int) < (s.size : Int) := by omega
  have HE := Lib.hid hE
  clear hE
  go_enter Tryd.func4, Tryd.ntmps4
  go_wp2_with fail
  go_at_call 9
  refine (head_any _ HE.out).mono ?_
  rintro e w1 ⟨rfl, hb1⟩
  go_wp2
  go_ret
  exact ⟨rfl, hb1⟩
set_option maxHeartbeats 8000000 in
set_option maxRecDepth 100000 in
theorem reads_few (s : ByteArray) (A : Option Addr) (c : Nat) (w : World) (hE : Env w) (hB : BIn w s A c) (hs : s.size ≤ 600) :
    Calls Tryd.prog 4 #[.slice A s.size c] w fun e w' => e = .returned (.bool true) ∧ Below w.heap.size w w' := by
  have d1 : decide ((600 : Int) < (s.size : Int)) = false := decide_eq_false (by omega)
  have d2 : ¬ (600 : Int) < (s.size : Int) := by omega
  obtain ⟨l, n, er, hd, hv, hn, htk, hl6, he6, hor⟩ := dec_of hs
  have HE := Lib.hid hE
  have HBI := Lib.hid hB
  have HD := Lib.hid hd
  have HV := Lib.hid hv
  have HTk := Lib.hid htk
  have HOr := Lib.hid hor
  have HE6 := Lib.hid he6
  have hcap := hB.1
  have s0 : (s.size : Int) ≤ 600 := by omega
  have n0 : (0 : Int) ≤ (n : Int) := by omega
  have n1 : (n : Int) ≤ (s.size : Int) := by omega
  have n2 : (n : Int) ≤ 600 := by omega
  have l0 : (l.length : Int) ≤ 600 := by omega
  clear hE hB hd hv htk hor he6
  go_enter Tryd.func4, Tryd.ntmps4
  go_wp2_with fail
  go_at_call 9
  refine (head_any _ HE.out).mono ?_
  rintro e w1 ⟨rfl, hb1⟩
  have HB1 := Lib.hid hb1
  have hdc := decode_any w1 (HE.out.below hb1) (conv_all (HBI.out.later hb1))
  rw [HD.out] at hdc
  have HDC := Lib.hid hdc
  clear hb1 hdc
  go_wp2_with fail
  go_at_call 15
  refine HDC.out.mono ?_
  rintro e w2 ⟨A2, c2, rfl, hb2, hl2⟩
  have HB2 := Lib.hid (HB1.out.trans (hb2.mono HB1.out.size))
  have HL2 := Lib.hid hl2
  clear hb2 hl2 HDC d1 d2
  dsimp only
  go_wp2_with fail
  go_loopw [6, 25] (fun t6 t25 wr => ∃ (i : Nat) (P : ByteArray), t6 = .string P ∧ t25 = .int .i64 i ∧ i ≤ l.length ∧ Hid (P = mkS (encL (l.take i))) ∧ Hid (Below w2.heap.size w2 wr)) (fun _ t25 _ => l.length - (intOf t25).toNat)
  case atStart => exact ⟨0, ⟨#[]⟩, rfl, rfl, Nat.zero_le _, Lib.hid (by rw [List.take_zero]; rfl), Lib.hid (Below.refl _ _)⟩
  case round =>
    generalize wr = w3 at *
    obtain ⟨i, P, rfl, rfl, hi, HP, HB⟩ := hrel
    have i0 : (i : Int) ≤ 600 := by omega
    by_cases hlt : i < l.length
    · have d1 : decide ((i : Int) < (l.length : Int)) = true := decide_eq_true (by omega)
      have d2 : (i : Int) < (l.length : Int) := by omega
      obtain ⟨b, o, rfl, hbs, hcs⟩ := HL2.out (by omega)
      obtain ⟨x, hx⟩ : ∃ x, l[i]? = some x := ⟨_, List.getElem?_eq_getElem hlt⟩
      obtain ⟨X1, m1, X2, m2, hst, hsf⟩ := hcs i x hx
      have hb2 : b < w2.heap.size := hbs.2
      obtain ⟨k0, k1, k2, k3, k4, k5, k6, k7⟩ := stL_cells (fun i' u hu => (HB.out.cell (p := ⟨b, o + i * 8 + i', none⟩) hb2).trans (hst i' u hu))
      have hbr : b < w3.heap.size := Nat.lt_of_lt_of_le hb2 HB.out.size
      have hfO : StF w2 (Old w2) x X1 X2 := ⟨hsf.1.carry fun b hb => ⟨hb.2, rfl⟩, hsf.2.carry fun b hb => ⟨hb.2, rfl⟩⟩
      have hmem := List.mem_of_getElem? hx
      obtain ⟨hvx, hrx⟩ := HV.out x hmem
      have hex := encS_in hmem
      have hE6 := HE6.out
      have HSF := Lib.hid (fun W (g : Below w2.heap.size w2 W) => StF.later hfO g)
      have HEw := Lib.hid (fun W (g : Below w2.heap.size w2 W) => HE.out.below (HB2.out.trans (g.mono HB2.out.size)))
      have hR := fun W (g : Below w2.heap.size w2 W) => lright_any x X1 X2 m1 m2 W (HEw.out W g) (HSF.out W g) (by rcases hvx with h | h | h; rw [h.2.1]; simp; have := h.2.2.2.2.2.2.2.1; omega; rw [h.2.2.2.2.1]; simp) (by rcases hvx with h | h | h; rw [h.2.2.2.2.1]; simp; rw [h.2.2.2.2.2.1]; simp; have := h.2.2.2.2.2.2.2.1; omega) (fun a ha => by have := text_in hvx ha; omega)
      rw [hrx] at hR
      have hY := fun W (g : Below w2.heap.size w2 W) => lbytes_any x X1 X2 m1 m2 W (HEw.out W g) (HSF.out W g) hvx (by omega)
      unfold stA at hR hY
      have HR := Lib.hid hR
      have HY := Lib.hid hY
      have hPs := congrArg ByteArray.size HP.out
      rw [size_mkS] at hPs
      have hle := encL_le l i
      have y1 : ¬ 9223372036854775807 < P.size + (mkS (encS x)).size := by rw [size_mkS]; omega
      have HNx := Lib.hid (show P ++ mkS (encS x) = mkS (encL (l.take (i + 1))) by rw [encL_take l i x hx, HP.out, mkS_app])
      generalize mkS (encS x) = Y at *
      have hbx := BoxAt.new w3 #[.int .i64 x.kind, .string x.tag, .string x.bytes, .bool x.over, .slice X1 x.wishes.length m1, .string x.name, .string x.attr, .slice X2 x.args.length m2] 29
      have hB4 : Below w2.heap.size w2 (w3.alloc (.cells #[.int .i64 x.kind, .string x.tag, .string x.bytes, .bool x.over, .slice X1 x.wishes.length m1, .string x.name, .string x.attr, .slice X2 x.args.length m2] 29)) := HB.out.alloc HB.out.size _
      clear hcs hx hst hsf hfO hmem hvx hrx hex hE6 hR hY hPs hle
      go_upto_region 10 with fail
      generalize w3.alloc (.cells #[.int .i64 x.kind, .string x.tag, .string x.bytes, .bool x.over, .slice X1 x.wishes.length m1, .string x.name, .string x.attr, .slice X2 x.args.length m2] 29) = V at *
      have HX := Lib.hid hbx
      have HB4 := Lib.hid hB4
      obtain ⟨a0, a1, a2, a3, a4, a5, a6, a7, _⟩ := cellsB8 hbx
      clear hbx hB4 k0 k1 k2 k3 k4 k5 k6 k7
      go_wp2_with fail
      go_at_call 12
      refine (HR.out _ HB4.out).mono ?_
      rintro e w5 ⟨rfl, hb5⟩
      have HB5 := Lib.hid (bstep HB4.out hb5)
      clear a0 a1 a2 a3 a4 a5 a6 a7
      obtain ⟨a0, a1, a2, a3, a4, a5, a6, a7, _⟩ := cellsB8 (HX.out.later hb5)
      clear hb5
      go_wp2_with fail
      go_at_call 13
      refine (HY.out _ HB5.out).mono ?_
      rintro e w6 ⟨rfl, hb6⟩
      have HB6 := Lib.hid (bstep HB5.out hb6)
      clear hb6 a0 a1 a2 a3 a4 a5 a6 a7
      go_wp2
      go_roundw
      case rel => exact ⟨i + 1, P ++ Y, rfl, by go_num, hlt, HNx, HB6⟩
      case measure => simp [intOf]; omega
    · have d1 : decide ((i : Int) < (l.length : Int)) = false := decide_eq_false (by omega)
      have d2 : ¬ (i : Int) < (l.length : Int) := by omega
      have hp := HP.out
      rw [List.take_of_length_le (l := l) (by omega)] at hp
      have HBw := Lib.hid (HB2.out.trans (HB.out.mono HB2.out.size))
      have hcv := conv_pre (k := n) (HBI.out.later HBw.out) hn
      rw [HTk.out, ← hp] at hcv
      unfold CvT at hcv
      have g1 : decide ((n : Int) < 0) = false := decide_eq_false (by omega)
      have g2 : ¬ (n : Int) < 0 := by omega
      have g3 : decide ((s.size : Int) < (n : Int)) = false := decide_eq_false (by omega)
      have g4 : ¬ (s.size : Int) < (n : Int) := by omega
      have g5 : decide (s.size < n) = false := decide_eq_false (by omega)
      have g6 : ¬ s.size < n := by omega
      have g7 : n ≤ c := by omega
      have g8 : (n : Int) ≤ (c : Int) := by omega
      have hor := HOr.out
      clear hp hi hlt
      rcases hor with ⟨rfl, rfl⟩ | ⟨rfl, hlt, hdn⟩
      · go_wp2
        go_ret
        exact ⟨rfl, HBw.out⟩
      · obtain ⟨b, o, rfl, hsu⟩ := conv_suf (HBI.out.later HBw.out) hlt
        have hdc := decode_any (A := some ⟨b, o + n, none⟩) (c := c - n) (s := mkS (s.data.toList.drop n)) w3 (HE.out.below HBw.out) (by rw [size_mkS, List.length_drop, size_data]; exact hsu)
        rw [hdn, size_mkS, List.length_drop, size_data] at hdc
        have HDC := Lib.hid hdc
        have r1 : decide ((n : Int) < (s.size : Int)) = true := decide_eq_true (by omega)
        have r2 : (n : Int) < (s.size : Int) := by omega
        have r3 : decide (n < s.size) = true := decide_eq_true hlt
        have r4 : n ≤ s.size := by omega
        have r5 : s.size ≤ c := by omega
        have r6 : ((s.size - n : Nat) : Int) = (s.size : Int) - (n : Int) := by omega
        clear hsu hdn hdc
        go_wp2_with fail
        go_at_call 15
        refine HDC.out.mono ?_
        rintro e w7 ⟨A7, c7, rfl, hb7, _⟩
        have HB7 := Lib.hid (bstep HBw.out hb7)
        clear hb7
        dsimp only [List.length_nil]
        go_wp2
        go_ret
        exact ⟨rfl, HB7.out⟩
theorem lawReads (s : ByteArray) (A : Option Addr) (c : Nat) (w : World) (hE : Env w) (hB : BIn w s A c) :
    Calls Tryd.prog 4 #[.slice A s.size c] w fun e w' => e = .returned (.bool true) ∧ Below w.heap.size w w' := by
  by_cases hs : 600 < s.size
  · exact reads_long s A c w hE hs
  · exact reads_few s A c w hE hB (by omega)
end Go.Proofs.YtnkijpjknbelfaaDoor
