/-
  Package script: ScriptBytes (written by bin/gen_sxj.py).
-/
import Derived.Test.YtnkijpjknbelfaaDoorSxg
import Derived.Deep.RegionHeld3
import Derived.StillTailTactics
namespace Go.Proofs.YtnkijpjknbelfaaDoor
open Go.RowKit
set_option linter.unusedVariables false
set_option linter.unusedSimpArgs false

set_option maxHeartbeats 16000000 in
set_option maxRecDepth 100000 in
theorem lbs_1 (l : List ST) (A : Option Addr) (c : Nat) (w : World) (hE : Env w) (hin : StsIn w (Old w) l A) (zs : sumOf szS l ≤ 2000000) (fs : fewB l = false) :
    Calls Tryd.prog 3 #[.slice A l.length c] w fun e w' => e = .returned (.bool true) ∧ Below w.heap.size w w' := by
  have HE := Lib.hid hE
  have HI := Lib.hid hin
  have HZ := Lib.hid zs
  clear hE hin zs
  go_enter Tryd.func3, Tryd.ntmps3
  go_wp2_with fail
  go_at_call 9
  refine (head_any _ HE.out).mono ?_
  rintro e w1 ⟨rfl, hb1⟩
  have HB1 := Lib.hid hb1
  clear hb1
  go_wp2_with fail
  go_at_call 10
  refine (few_any _ (HI.out.later HB1.out) HZ.out).mono ?_
  rw [fs]
  rintro e w2 ⟨rfl, hb2⟩
  have HB2 := Lib.hid (HB1.out.trans (hb2.mono HB1.out.size))
  clear hb2
  go_wp2
  go_ret
  exact ⟨rfl, HB2.out⟩
theorem encS_in' {x : ST} : ∀ {l : List ST}, x ∈ l → (encS x).length ≤ (encL l).length
  | y :: l, h => by
    rw [encL_cons, List.length_append]
    rcases List.mem_cons.1 h with rfl | h
    · omega
    · have := encS_in' h; omega
set_option maxHeartbeats 16000000 in
set_option maxRecDepth 100000 in
theorem lbs_2 (l : List ST) (A : Option Addr) (c : Nat) (w : World) (hE : Env w) (hin : StsIn w (Old w) l A) (zs : sumOf szS l ≤ 2000000) (fs : fewB l = true) :
    Calls Tryd.prog 3 #[.slice A l.length c] w fun e w' => e = .returned (.bool true) ∧ Below w.heap.size w w' := by
  have hfe := few_enc fs
  obtain ⟨hln, hsh⟩ := few_short fs
  have HE6 := Lib.hid hfe
  have HSh := Lib.hid hsh
  have l0 : (l.length : Int) ≤ 20 := by omega
  clear hfe hsh
  have HE := Lib.hid hE
  have HI := Lib.hid hin
  have HZ := Lib.hid zs
  clear hE hin zs
  go_enter Tryd.func3, Tryd.ntmps3
  go_wp2_with fail
  go_at_call 9
  refine (head_any _ HE.out).mono ?_
  rintro e w1 ⟨rfl, hb1⟩
  have HB1 := Lib.hid hb1
  clear hb1
  go_wp2_with fail
  go_at_call 10
  refine (few_any _ (HI.out.later HB1.out) HZ.out).mono ?_
  rw [fs]
  rintro e w2 ⟨rfl, hb2⟩
  have HB2 := Lib.hid (HB1.out.trans (hb2.mono HB1.out.size))
  clear hb2
  go_wp2_with fail
  go_loopw [3, 4, 20] (fun t3 t4 t20 wr => ∃ (i : Nat) (g : Bool) (P : ByteArray), t3 = .bool g ∧ t4 = .string P ∧ t20 = .int .i64 i ∧ i ≤ l.length ∧ Hid (g = (l.take i).all rightS) ∧ Hid (g = true → P = mkS (encL (l.take i))) ∧ Hid (Below w.heap.size w wr)) (fun _ _ t20 _ => l.length - (intOf t20).toNat)
  case atStart => exact ⟨0, true, ⟨#[]⟩, rfl, rfl, rfl, Nat.zero_le _, Lib.hid rfl, Lib.hid (fun _ => by rw [List.take_zero]; rfl), HB2⟩
  case round =>
    generalize wr = w3 at *
    obtain ⟨i, g, P, rfl, rfl, rfl, hi, HG, HP, HB⟩ := hrel
    have i0 : (i : Int) ≤ 20 := by omega
    by_cases hlt : i < l.length
    · have d1 : decide ((i : Int) < (l.length : Int)) = true := decide_eq_true (by omega)
      have d2 : (i : Int) < (l.length : Int) := by omega
      obtain ⟨b, o, rfl, hb0, hcs⟩ := HI.out (by omega)
      obtain ⟨x, hx⟩ : ∃ x, l[i]? = some x := ⟨_, List.getElem?_eq_getElem hlt⟩
      obtain ⟨X1, m1, X2, m2, hst, hsf⟩ := hcs i x hx
      obtain ⟨k0, k1, k2, k3, k4, k5, k6, k7⟩ := stL_cells (fun i' u hu => (HB.out.cell (p := ⟨b, o + i * 8 + i', none⟩) hb0).trans (hst i' u hu))
      have hbr : b < w3.heap.size := Nat.lt_of_lt_of_le hb0 HB.out.size
      have hmem := List.mem_of_getElem? hx
      obtain ⟨hsS, hsw, hsa, hfw⟩ := HSh.out x hmem
      unfold fwS at hfw
      have hex := encS_in' hmem
      have hE6 := HE6.out
      have hR := fun W (q : Below w.heap.size w W) => lright_any x X1 X2 m1 m2 W (HE.out.below q) (hsf.later q) (by omega) (by omega) (fun a ha => by have h : a.name.size + a.text.size ≤ _ := sum_mem fwA ha; omega)
      have hR2 := fun W (q : Below w.heap.size w W) => right_any x X1 X2 m1 m2 W (HE.out.below q) (hsf.later q) (by omega) (by omega) (fun a ha => by have h : a.name.size + a.text.size ≤ _ := sum_mem fwA ha; omega)
      have hY := fun W (q : Below w.heap.size w W) (hr : rightS x = true) => lbytes_any x X1 X2 m1 m2 W (HE.out.below q) (hsf.later q) (valS_of hsS hr) (by omega)
      have hta := take_all rightS l i x hx
      have hys : (mkS (encS x)).size ≤ 100000 := by rw [size_mkS]; omega
      have hle := encL_le l i
      have HNx := Lib.hid (fun (h : P = mkS (encL (l.take i))) => show P ++ mkS (encS x) = mkS (encL (l.take (i + 1))) by rw [encL_take l i x hx, h, mkS_app])
      have HPs := Lib.hid (fun (h : P = mkS (encL (l.take i))) => show ¬ 9223372036854775807 < P.size + (mkS (encS x)).size by rw [h, size_mkS]; omega)
      obtain ⟨r, hr⟩ : ∃ r, rightS x = r := ⟨_, rfl⟩
      rw [hr] at hR hR2 hY hta
      unfold stA at hR hR2 hY
      have HR := Lib.hid hR
      have HR2 := Lib.hid hR2
      have HY := Lib.hid hY
      have HTa := Lib.hid hta
      generalize mkS (encS x) = Y at *
      have hbx := BoxAt.new w3 #[.int .i64 x.kind, .string x.tag, .string x.bytes, .bool x.over, .slice X1 x.wishes.length m1, .string x.name, .string x.attr, .slice X2 x.args.length m2] 29
      have hB4 : Below w.heap.size w (w3.alloc (.cells #[.int .i64 x.kind, .string x.tag, .string x.bytes, .bool x.over, .slice X1 x.wishes.length m1, .string x.name, .string x.attr, .slice X2 x.args.length m2] 29)) := HB.out.alloc HB.out.size _
      clear hcs hx hst hsf hmem hsS hsw hsa hfw hex hE6 hR hR2 hY hta hys hle hr
      go_upto_region 10 with fail
      generalize w3.alloc (.cells #[.int .i64 x.kind, .string x.tag, .string x.bytes, .bool x.over, .slice X1 x.wishes.length m1, .string x.name, .string x.attr, .slice X2 x.args.length m2] 29) = V at *
      generalize w3.heap.size = vb at *
      have HX := Lib.hid hbx
      have HB4 := Lib.hid hB4
      obtain ⟨a0, a1, a2, a3, a4, a5, a6, a7, _⟩ := cellsB8 hbx
      clear hB4 k0 k1 k2 k3 k4 k5 k6 k7 hbx
      have HS := Lib.hid (show ∀ w', Below V.heap.size V w' → (w'.cell? ⟨vb, 0, none⟩ = some (.int .i64 x.kind) ∧ w'.cell? ⟨vb, 1, none⟩ = some (.string x.tag) ∧ w'.cell? ⟨vb, 2, none⟩ = some (.string x.bytes) ∧ w'.cell? ⟨vb, 3, none⟩ = some (.bool x.over) ∧ w'.cell? ⟨vb, 4, none⟩ = some (.slice X1 x.wishes.length m1) ∧ w'.cell? ⟨vb, 5, none⟩ = some (.string x.name) ∧ w'.cell? ⟨vb, 6, none⟩ = some (.string x.attr) ∧ w'.cell? ⟨vb, 7, none⟩ = some (.slice X2 x.args.length m2)) from fun w' q => by
        have t := HX.out.later q
        exact ⟨t.cell 0, t.cell 1, t.cell 2, t.cell 3, t.cell 4, t.cell 5, t.cell 6, t.cell 7⟩)
      have HRv := Lib.hid (fun W (q : Below V.heap.size V W) => HR.out W (HB4.out.trans (q.mono HB4.out.size)))
      have HR2v := Lib.hid (fun W (q : Below V.heap.size V W) => HR2.out W (HB4.out.trans (q.mono HB4.out.size)))
      go_region_held3 (fun w' => w'.cell? ⟨vb, 0, none⟩ = some (.int .i64 x.kind) ∧ w'.cell? ⟨vb, 1, none⟩ = some (.string x.tag) ∧ w'.cell? ⟨vb, 2, none⟩ = some (.string x.bytes) ∧ w'.cell? ⟨vb, 3, none⟩ = some (.bool x.over) ∧ w'.cell? ⟨vb, 4, none⟩ = some (.slice X1 x.wishes.length m1) ∧ w'.cell? ⟨vb, 5, none⟩ = some (.string x.name) ∧ w'.cell? ⟨vb, 6, none⟩ = some (.string x.attr) ∧ w'.cell? ⟨vb, 7, none⟩ = some (.slice X2 x.args.length m2)) (first | exact HS.out _ (by repeat' first | assumption | with_reducible exact Below.refl _ _ | with_reducible apply Below.drew)) (first
        | (go_at_call 11; with_reducible refine (HR2v.out _ (by repeat' first | assumption | with_reducible exact Below.refl _ _ | with_reducible apply Below.drew)).mono ?_; rintro e wN ⟨rfl, bN⟩; have qN : Below V.heap.size V wN := bstep (by repeat' first | assumption | with_reducible exact Below.refl _ _ | with_reducible apply Below.drew) bN; clear bN)
        | (go_at_call 12; with_reducible refine (HRv.out _ (by repeat' first | assumption | with_reducible exact Below.refl _ _ | with_reducible apply Below.drew)).mono ?_; rintro e wN ⟨rfl, bN⟩; have qN : Below V.heap.size V wN := bstep (by repeat' first | assumption | with_reducible exact Below.refl _ _ | with_reducible apply Below.drew) bN; clear bN))
      all_goals
        have HB5 := Lib.hid (show Below V.heap.size V wN from qN)
        have HB5w := Lib.hid (HB4.out.trans (HB5.out.mono HB4.out.size))
        clear a0 a1 a2 a3 a4 a5 a6 a7
        obtain ⟨a0, a1, a2, a3, a4, a5, a6, a7, _⟩ := cellsB8 (HX.out.later HB5.out)
        cases g
        · go_wp2
          go_roundw
          case rel => exact ⟨i + 1, false, P, rfl, rfl, by go_num, hlt, Lib.hid (by rw [HTa.out, ← HG.out]; rfl), Lib.hid (fun h => by cases h), HB5w⟩
          case measure => simp [intOf]; omega
        · cases r
          · go_wp2_with fail
            go_at_call 12
            refine (HR.out _ HB5w.out).mono ?_
            rintro e w6 ⟨rfl, hb6⟩
            have HB6 := Lib.hid (HB5w.out.trans (hb6.mono HB5w.out.size))
            clear hb6 a0 a1 a2 a3 a4 a5 a6 a7
            go_wp2
            go_roundw
            case rel => exact ⟨i + 1, false, P, rfl, rfl, by go_num, hlt, Lib.hid (by rw [HTa.out, ← HG.out]; rfl), Lib.hid (fun h => by cases h), HB6⟩
            case measure => simp [intOf]; omega
          · have hP := HP.out rfl
            have HN2 := Lib.hid (HNx.out hP)
            have y1 := HPs.out hP
            have HY2 := Lib.hid (fun W (q : Below w.heap.size w W) => HY.out W q rfl)
            clear hP
            go_wp2_with fail
            go_at_call 12
            refine (HR.out _ HB5w.out).mono ?_
            rintro e w6 ⟨rfl, hb6⟩
            have HB6 := Lib.hid (HB5w.out.trans (hb6.mono HB5w.out.size))
            clear a0 a1 a2 a3 a4 a5 a6 a7
            obtain ⟨a0, a1, a2, a3, a4, a5, a6, a7, _⟩ := cellsB8 ((HX.out.later HB5.out).later hb6)
            clear hb6
            go_wp2_with fail
            go_at_call 13
            refine (HY2.out _ HB6.out).mono ?_
            rintro e w7 ⟨rfl, hb7⟩
            have HB7 := Lib.hid (HB6.out.trans (hb7.mono HB6.out.size))
            clear hb7 a0 a1 a2 a3 a4 a5 a6 a7
            go_wp2
            go_roundw
            case rel => exact ⟨i + 1, true, P ++ Y, rfl, rfl, by go_num, hlt, Lib.hid (by rw [HTa.out, ← HG.out]; rfl), Lib.hid (fun _ => HN2.out), HB7⟩
            case measure => simp [intOf]; omega
    · have d1 : decide ((i : Int) < (l.length : Int)) = false := decide_eq_false (by omega)
      have d2 : ¬ (i : Int) < (l.length : Int) := by omega
      have hg := HG.out
      have hp := HP.out
      rw [List.take_of_length_le (l := l) (by omega)] at hg hp
      have HEn := Lib.hid (encode_any (c := c) w3 (HE.out.below HB.out) (HI.out.later HB.out) (fun x hx => (HSh.out x hx).1.ok) (by omega) (by have := HE6.out; omega))
      rw [encR_few (show l.length ≤ 4096 by omega), ← hg] at HEn
      cases g
      · rw [if_neg (by simp)] at HEn
        clear hg hp
        go_wp2_with fail
        go_at_call 14
        refine HEn.out.mono ?_
        rintro e w4 ⟨v, rfl, hb4, ho4⟩
        have HB4 := Lib.hid (HB.out.trans (hb4.mono HB.out.size))
        obtain ⟨A4, c4, rfl⟩ := own_len ho4
        clear hb4 ho4
        dsimp only [List.length_nil]
        go_wp2
        go_ret
        exact ⟨rfl, HB4.out⟩
      · rw [if_pos rfl] at HEn
        have HD := Lib.hid (decD_enc l (fun x hx => ⟨valS_of (HSh.out x hx).1 (List.all_eq_true.1 hg.symm x hx), List.all_eq_true.1 hg.symm x hx⟩) (by omega) (by have := HE6.out; omega))
        have HPl := Lib.hid (hp rfl)
        clear hg hp
        go_wp2_with fail
        go_at_call 14
        refine HEn.out.mono ?_
        rintro e w4 ⟨v, rfl, hb4, ho4⟩
        have HB4 := Lib.hid (HB.out.trans (hb4.mono HB.out.size))
        have HO4 := Lib.hid ho4
        have hdo := decode_own ho4 (HE.out.below HB4.out)
        rw [HD.out] at hdo
        have HDO := Lib.hid hdo
        obtain ⟨A4, c4, rfl⟩ := own_len ho4
        clear hb4 ho4 hdo
        go_wp2_with fail
        go_at_call 15
        refine HDO.out.mono ?_
        rintro e w5 ⟨A5, c5, rfl, hb5, hl5⟩
        have HB5 := Lib.hid (HB4.out.trans (hb5.mono HB4.out.size))
        have hcv := own_conv (HO4.out.later hb5)
        unfold CvT at hcv
        rw [← HPl.out] at hcv
        have HL5 := Lib.hid hl5
        have t0 : (((encL l).length : Nat) : Int) ≤ 100000 := by have := HE6.out; omega
        clear hb5 hl5
        dsimp only
        generalize (encL l).length = T at *
        go_wp2_with fail
        clear hcv
        go_loopw [87] (fun t87 wr => ∃ j : Nat, t87 = .int .i64 j ∧ j ≤ l.length ∧ Hid (Below w5.heap.size w5 wr)) (fun t87 _ => l.length - (intOf t87).toNat)
        case atStart => exact ⟨0, rfl, Nat.zero_le _, Lib.hid (Below.refl _ _)⟩
        case round =>
          generalize wr = w6 at *
          obtain ⟨j, rfl, hj, HB6⟩ := hrel
          have j0 : (j : Int) ≤ 20 := by omega
          have HB6w := Lib.hid (HB5.out.trans (HB6.out.mono HB5.out.size))
          by_cases hjt : j < l.length
          · have p1 : decide ((j : Int) < (l.length : Int)) = true := decide_eq_true (by omega)
            have p2 : (j : Int) < (l.length : Int) := by omega
            have p3 : (0 : Int) ≤ (j : Int) := by omega
            obtain ⟨b, o, rfl, hb0, hcs⟩ := HI.out (by omega)
            obtain ⟨b5, o5, rfl, hb5, hc5⟩ := HL5.out (by omega)
            obtain ⟨x, hx⟩ : ∃ x, l[j]? = some x := ⟨_, List.getElem?_eq_getElem hjt⟩
            obtain ⟨X1, m1, X2, m2, hst, hsf⟩ := hcs j x hx
            obtain ⟨Y1, q1, Y2, q2, hst5, hsf5⟩ := hc5 j x hx
            obtain ⟨k0, k1, k2, k3, k4, k5, k6, k7⟩ := stL_cells (fun i' u hu => (HB6w.out.cell (p := ⟨b, o + j * 8 + i', none⟩) hb0).trans (hst i' u hu))
            obtain ⟨e0, e1, e2, e3, e4, e5, e6, e7⟩ := stL_cells (fun i' u hu => (HB6.out.cell (p := ⟨b5, o5 + j * 8 + i', none⟩) hb5.2).trans (hst5 i' u hu))
            have hbr : b < w6.heap.size := Nat.lt_of_lt_of_le hb0 HB6w.out.size
            have hbr5 : b5 < w6.heap.size := Nat.lt_of_lt_of_le hb5.2 HB6.out.size
            have hmem := List.mem_of_getElem? hx
            obtain ⟨_, hsw, hsa, _⟩ := HSh.out x hmem
            have hfO : StF w5 (Old w5) x Y1 Y2 := ⟨hsf5.1.carry fun b hb => ⟨hb.2, rfl⟩, hsf5.2.carry fun b hb => ⟨hb.2, rfl⟩⟩
            have hsm := same_any x Y1 Y2 X1 X2 q1 q2 m1 m2 w6.drew (hfO.later HB6.out.drew) (hsf.later HB6w.out.drew) (by omega) (by omega)
            unfold stA at hsm
            have HSm := Lib.hid hsm
            clear hcs hc5 hx hst hst5 hsf hsf5 hmem hsw hsa hfO hsm
            go_upto_region 25 with fail
            go_still_tail 8, (by kernel_rfl)
            change wpList _ _ _ _ _ w6.drew
            go_wp2_with fail
            go_at_call 16
            refine HSm.out.mono ?_
            rintro e w7 ⟨rfl, hb7⟩
            have HB7 := Lib.hid (bstep HB6.out.drew hb7)
            clear hb7 k0 k1 k2 k3 k4 k5 k6 k7 e0 e1 e2 e3 e4 e5 e6 e7
            go_wp2
            go_roundw
            case rel => exact ⟨j + 1, by go_num, hjt, HB7⟩
            case measure => simp [intOf]; omega
          · have p1 : decide ((j : Int) < (l.length : Int)) = false := decide_eq_false (by omega)
            have p2 : ¬ (j : Int) < (l.length : Int) := by omega
            go_wp2
            go_ret
            exact ⟨rfl, HB6w.out⟩
theorem lawBytes (l : List ST) (A : Option Addr) (c : Nat) (w : World) (hE : Env w) (hin : StsIn w (Old w) l A) (zs : sumOf szS l ≤ 2000000) :
    Calls Tryd.prog 3 #[.slice A l.length c] w fun e w' => e = .returned (.bool true) ∧ Below w.heap.size w w' := by
  cases fs : fewB l
  · exact lbs_1 l A c w hE hin zs fs
  · exact lbs_2 l A c w hE hin zs fs
end Go.Proofs.YtnkijpjknbelfaaDoor
