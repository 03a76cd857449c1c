/-
  Several texts put together (part 10): what the law and the program call, walked; their contracts.
-/
import Derived.Test.YtdoambpiafkmmaaGreatDoorQ9
import Derived.Lib.IndexAny
import Derived.Lib.Bytealg
import Derived.Deep.DeepCutAuto
namespace Go.Proofs.YtdoambpiafkmmaaGreatDoor
open Go.RowKit
set_option linter.unusedVariables false
set_option linter.unusedSimpArgs false
theorem idxAny_tw (chars : List UInt8) : ∀ l : List UInt8, Lib.indexAny l chars = if (l.takeWhile (fun c => !chars.contains c)).length < l.length then ((l.takeWhile (fun c => !chars.contains c)).length : Int) else -1
  | [] => by simp [Lib.indexAny]
  | b :: l => by
    have ih := idxAny_tw chars l
    rw [Lib.indexAny, List.takeWhile_cons]
    generalize hT : l.takeWhile (fun c => !chars.contains c) = T at ih ⊢
    by_cases h : chars.contains b = true
    · have h2 : ¬ ((!chars.contains b) = true) := by rw [h]; decide
      rw [if_pos h, if_neg h2, if_pos (by simp)]
      rfl
    · have h2 : (!chars.contains b) = true := by rw [Bool.eq_false_iff.2 h]; rfl
      rw [if_neg h, if_pos h2, ih, List.length_cons, List.length_cons]
      by_cases hl : T.length < l.length
      · rw [if_pos hl]
        have h3 : ¬ (((T.length : Int) == -1) = true) := by rw [beq_iff_eq]; omega
        rw [if_neg h3, if_pos (show T.length + 1 < l.length + 1 by omega)]
        omega
      · rw [if_neg hl, if_neg (show ¬ T.length + 1 < l.length + 1 by omega)]
        rfl
theorem tx_idx (s : ByteArray) (i : Nat) (hi : i ≤ s.size) : (Lib.indexAny (s.extract i s.size).data.toList [10, 123, 125] = -1 ∧ tx s i = s.size) ∨ (∃ n : Nat, Lib.indexAny (s.extract i s.size).data.toList [10, 123, 125] = (n : Int) ∧ tx s i = i + n ∧ i + n < s.size) := by
  rw [extract_drop, idxAny_tw]
  have e : (fun c : UInt8 => !([10, 123, 125] : List UInt8).contains c) = txB := by
    funext c
    unfold txB
    rw [List.contains_cons, List.contains_cons, List.contains_cons, List.contains_nil, Bool.or_false, Bool.or_assoc]
  rw [e]
  unfold tx behN
  have hl : (s.data.toList.drop i).length = s.size - i := by rw [List.length_drop, size_data]
  have hle := takeWhile_le txB (s.data.toList.drop i)
  by_cases h : ((s.data.toList.drop i).takeWhile txB).length < (s.data.toList.drop i).length
  · rw [if_pos h]
    exact .inr ⟨_, rfl, rfl, by omega⟩
  · rw [if_neg h]
    exact .inl ⟨rfl, by omega⟩
set_option maxHeartbeats 2000000 in
set_option maxRecDepth 100000 in
theorem endText_of {s : ByteArray} (hIx : ∀ (x : ByteArray) (W : World), x.size ≤ 4000000 → Calls Tryz.prog 118 #[.string x, .string ⟨#[10, 123, 125]⟩] W fun e w' => e = .returned (.int .i64 (Lib.indexAny x.data.toList [10, 123, 125])) ∧ Below W.heap.size W w') : EndFn 90 tx s := by
  refine ⟨fun args w => by go_simp, fun i w hs hi => ?_⟩
  have hI := fun W => hIx (s.extract i s.size) W (by rw [ByteArray.size_extract]; omega)
  have hi0 : (i : Int) ≤ 4000000 := by omega
  have hjs : (i : Int) ≤ (s.size : Int) := by omega
  have hss : (s.size : Int) ≤ 4000000 := by omega
  rcases tx_idx s i hi with ⟨h1, h2⟩ | ⟨n, h1, h2, h3⟩
  · refine ⟨by omega, by omega, ?_⟩
    rw [h1] at hI
    have HI := Lib.hid hI
    rw [h2]
    clear hIx
    clear hI h1 h2
    go_enter Tryz.func90, Tryz.ntmps90
    go_wp2_with fail
    go_at_call 118
    refine (HI.out _).mono ?_
    rintro e w' ⟨rfl, hb⟩
    have HB := Lib.hid hb
    clear hb
    go_wp2
    go_ret
    exact ⟨rfl, HB.out⟩
  · refine ⟨by omega, by omega, ?_⟩
    rw [h1] at hI
    have HI := Lib.hid hI
    rw [h2]
    clear hIx
    have hn0 : (n : Int) ≤ 4000000 := by omega
    have hnd : decide ((0 : Int) ≤ (n : Int)) = true := decide_eq_true (by omega)
    clear hI h1 h2
    go_enter Tryz.func90, Tryz.ntmps90
    go_wp2_with fail
    go_at_call 118
    refine (HI.out _).mono ?_
    rintro e w' ⟨rfl, hb⟩
    have HB := Lib.hid hb
    clear hb
    go_wp2
    go_ret
    exact ⟨by congr 2, HB.out⟩
theorem stop_idx (c : UInt8) : decide ((0 : Int) ≤ Lib.indexByte [46, 42, 91, 125] c) = stopB c := by
  unfold stopB
  have e : ∀ x : UInt8, (x == c) = (c == x) := fun x => by rw [Bool.eq_iff_iff, beq_iff_eq, beq_iff_eq]; exact eq_comm
  unfold Lib.indexByte Lib.indexByte Lib.indexByte Lib.indexByte Lib.indexByte
  rw [e 46, e 42, e 91, e 125]
  cases c == 46 <;> cases c == 42 <;> cases c == 91 <;> cases c == 125 <;> decide
end Go.Proofs.YtdoambpiafkmmaaGreatDoor

namespace Go.Proofs.YtdoambpiafkmmaaGreatDoor
open Go.RowKit
set_option linter.unusedVariables false
set_option linter.unusedSimpArgs false
set_option maxHeartbeats 4000000 in
set_option maxRecDepth 100000 in
theorem nextLine_any {rb : Nat} {s : ByteArray} (hs : s.size ≤ 1000000) (i : Nat) (w : World) (hr : Rd rb s i w) (hi : i ≤ s.size) : Calls Tryz.prog 68 #[pt rb] w (GotL rb s i w (nextS s i)) := by
  have HR := Lib.hid hr
  have hlt := hr.lt
  have c0 := (hr.alloc (.cells zL 108)).c0
  have c1 := (hr.alloc (.cells zL 108)).c1
  obtain ⟨R, hRR⟩ : ∃ R, nextS s i = R := ⟨_, rfl⟩
  rw [hRR]
  have HRR := Lib.hid hRR
  have hi0 : (i : Int) ≤ 1000000 := by omega
  have hss : (s.size : Int) ≤ 1000000 := by omega
  clear hr hRR
  unfold pt
  go_enter Tryz.func68, Tryz.ntmps68
  go_wp2
  go_region
  go_wp2
  go_loopw [4, 5, 6] (fun t4 t5 t6 wr => ∃ f fr q : Nat, t4 = .int .i64 f ∧ t5 = .int .i64 fr ∧ t6 = .int .i64 q ∧ q ≤ s.size ∧ fr ≤ q ∧ f ≤ q ∧ Hid (nlS s f fr q = nlS s 0 i i) ∧ Hid (Rd rb s i wr) ∧ Hid (Kp rb w wr) ∧ Hid (BoxAt wr w.heap.size zL 108)) (fun _ _ t6 _ => s.size - (intOf t6).toNat)
  case atStart => exact ⟨0, i, i, rfl, rfl, rfl, hi, Nat.le_refl _, Nat.zero_le _, rfl, (HR.out.alloc _).drew, ((Kp.refl _ _).alloc (Nat.le_of_lt hlt) _).drew, (BoxAt.new _ _ _).drew⟩
  case round =>
    obtain ⟨f, fr, q, rfl, rfl, rfl, hq, hfr, hf, Hn, HRd, HK, HC⟩ := hrel
    have hp := fun W => Tryz.strings_HasPrefix (s.extract q s.size) ⟨#[10]⟩ W
    rw [isAt_prefix s q 10 hq] at hp
    obtain ⟨b, hb⟩ : ∃ b, isAt s q 10 = b := ⟨_, rfl⟩
    rw [hb] at hp
    have HP := Lib.hid hp
    have Hb := Lib.hid hb
    have d0 := HRd.out.c0
    have d1 := HRd.out.c1
    have e1 := HRd.out.f 1
    have hrl := HRd.out.lt
    have hcl := HC.out.lt
    have hq0 : (q : Int) ≤ 1000000 := by omega
    have hqs : (q : Int) ≤ (s.size : Int) := by omega
    have hfr0 : (fr : Int) ≤ (q : Int) := by omega
    have hf0 : (f : Int) ≤ 1000000 := by omega
    clear hp hb c0 c1
    cases b
    case true =>
      have hq1 : q + 1 ≤ s.size := isAt_lt Hb.out
      have hS := fun W => spaces_any s ((q : Int) + 1) W (by omega)
      have he : behI spB s.data.toList ((q : Int) + 1) = (sp s (q + 1) : Int) := by
        unfold behI sp
        rw [if_neg (by omega), show ((q : Int) + 1).toNat = q + 1 by omega]
      rw [he] at hS
      have hso := sp_ok s (q + 1) hq1
      have hn := Hn.out
      rw [nlS_step s f fr q Hb.out] at hn
      obtain ⟨m, hm⟩ : ∃ m, sp s (q + 1) = m := ⟨_, rfl⟩
      rw [hm] at hS hso hn
      have HS := Lib.hid hS
      have Hn2 := Lib.hid hn
      clear hS he hm hn
      go_wp2_with fail
      go_at_call 72
      refine (HP.out _).mono ?_
      rintro e w' ⟨rfl, rfl⟩
      go_wp2_with fail
      go_at_call 62
      refine (HS.out _).mono ?_
      rintro e w' ⟨rfl, rfl⟩
      go_wp2
      go_roundw
      case rel => exact ⟨f + 1, q + 1, m, by go_num, by go_num, rfl, hso.2, hso.1, by omega, Hn2.out, HRd.out, HK.out, HC.out⟩
      case measure => simp [intOf]; omega
    case false =>
      have hn := Hn.out
      rw [nlS_end s f fr q Hb.out] at hn
      have hR := HRR.out
      unfold nextS at hR
      rw [← hn] at hR
      dsimp only at hR
      have HR2 := Lib.hid hR
      obtain ⟨q0, q1, q2, p0, p1, p2⟩ := cells3 HC.out
      clear hn hR Hn
      by_cases hqf : q = fr
      · have z1 : ((q : Int) == (fr : Int)) = true := beq_iff_eq.2 (by omega)
        have HR3 := Lib.hid (show R = none by rw [← HR2.out, if_pos (.inl hqf)])
        clear hqf
        go_wp2_with fail
        go_at_call 72
        refine (HP.out _).mono ?_
        rintro e w' ⟨rfl, rfl⟩
        go_wp2
        obtain rfl := HR3.out
        exact end3w Tryz.results68 (box_set3 HC.out _ _ _) rfl rfl rfl ⟨HK.out.set3 (Nat.le_refl _) hlt _ _ _, 0, 0, i, rfl, HRd.out.set3 (by omega) _ _ _, hi, Nat.zero_le _, Nat.zero_le _, fun _ => rfl, fun _ _ _ h => by cases h⟩
      have z1 : ((q : Int) == (fr : Int)) = false := beq_eq_false_iff_ne.2 (by omega)
      by_cases hqz : q = s.size
      · have z2 : ((q : Int) == (s.size : Int)) = true := beq_iff_eq.2 (by omega)
        have HR3 := Lib.hid (show R = none by rw [← HR2.out, if_pos (.inr (.inl hqz))])
        clear hqz
        go_wp2_with fail
        go_at_call 72
        refine (HP.out _).mono ?_
        rintro e w' ⟨rfl, rfl⟩
        go_wp2
        obtain rfl := HR3.out
        exact end3w Tryz.results68 (box_set3 HC.out _ _ _) rfl rfl rfl ⟨HK.out.set3 (Nat.le_refl _) hlt _ _ _, 0, 0, i, rfl, HRd.out.set3 (by omega) _ _ _, hi, Nat.zero_le _, Nat.zero_le _, fun _ => rfl, fun _ _ _ h => by cases h⟩
      have z2 : ((q : Int) == (s.size : Int)) = false := beq_eq_false_iff_ne.2 (by omega)
      have hql : q < s.size := by omega
      have hql2 : (q : Int) < (s.size : Int) := by omega
      have hI := fun W => Tryz.strings_IndexByte ⟨#[46, 42, 91, 125]⟩ (s[q].toNat : Int) W
      have hst := stop_idx s[q]
      rw [show (⟨#[46, 42, 91, 125]⟩ : ByteArray).data.toList = [46, 42, 91, 125] from rfl, show ((s[q].toNat : Int).toNat.toUInt8) = s[q] by simp] at hI
      obtain ⟨x, hx⟩ : ∃ x, Lib.indexByte [46, 42, 91, 125] s[q] = x := ⟨_, rfl⟩
      rw [hx] at hI hst
      have hat : at0 s.data.toList q = s[q] := by rw [at0_get _ _ (by rw [size_data]; exact hql)]; rfl
      have hR := HR2.out
      rw [hat, ← hst] at hR
      have HI := Lib.hid hI
      cases hx0 : decide ((0 : Int) ≤ x)
      case true =>
        have HR3 := Lib.hid (show R = none by rw [← hR, hx0, if_pos (.inr (.inr rfl))])
        clear hI hst hx hat hR HR2
        go_wp2_with fail
        go_at_call 72
        refine (HP.out _).mono ?_
        rintro e w' ⟨rfl, rfl⟩
        go_wp2_with fail
        go_at_call 89
        refine (HI.out _).mono ?_
        rintro e w' ⟨rfl, rfl⟩
        go_wp2
        obtain rfl := HR3.out
        exact end3w Tryz.results68 (box_set3 HC.out _ _ _) rfl rfl rfl ⟨HK.out.set3 (Nat.le_refl _) hlt _ _ _, 0, 0, i, rfl, HRd.out.set3 (by omega) _ _ _, hi, Nat.zero_le _, Nat.zero_le _, fun _ => rfl, fun _ _ _ h => by cases h⟩
      case false =>
        have HR3 := Lib.hid (show R = some (f, q - fr, q) by rw [← hR, hx0, if_neg (by simp [hqf, hqz])])
        have hsub : (q : Int) - (fr : Int) = ((q - fr : Nat) : Int) := by omega
        have Hsub := Lib.hid hsub
        have hsub0 : (0 : Int) ≤ (q : Int) - (fr : Int) := by omega
        have hsub1 : (q : Int) - (fr : Int) ≤ 1000000 := by omega
        have HRq := Lib.hid (HRd.out.set q)
        have HKq := Lib.hid (HK.out.setCell 1 (.int .i64 (q : Nat)))
        have HCq := Lib.hid (BoxAt.setOther HC.out ⟨rb, 1, none⟩ (.int .i64 (q : Nat)) (by show w.heap.size ≠ rb; omega))
        clear hI hst hx hat hR HR2 hsub
        go_wp2_with fail
        go_at_call 72
        refine (HP.out _).mono ?_
        rintro e w' ⟨rfl, rfl⟩
        go_wp2_with fail
        go_at_call 89
        refine (HI.out _).mono ?_
        rintro e w' ⟨rfl, rfl⟩
        go_wp2
        obtain rfl := HR3.out
        exact end3w Tryz.results68 (box_set3 HCq.out _ _ _) rfl rfl rfl ⟨HKq.out.set3 (Nat.le_refl _) hlt _ _ _, f, q - fr, q, by rw [Hsub.out]; rfl, HRq.out.set3 (by omega) _ _ _, hq, by omega, by omega, (fun h => by cases h), fun _ _ _ h => by cases h; exact ⟨rfl, rfl, rfl⟩⟩
end Go.Proofs.YtdoambpiafkmmaaGreatDoor

namespace Go.Proofs.YtdoambpiafkmmaaGreatDoor
open Go.RowKit
set_option linter.unusedVariables false
set_option linter.unusedSimpArgs false
theorem len0 {α : Type} (l : List α) : decide (l.length = 0) = l.isEmpty := by cases l <;> simp
def GotP (rb : Nat) (s : ByteArray) (w : World) (r : Option (List EL × Nat)) (e : Ending) (w' : World) : Prop :=
  Kp rb w w' ∧ ∃ (A : Option Addr) (n c j : Nat), e = .returned (.tuple #[.slice A n c, .bool r.isSome]) ∧ Rd rb s j w' ∧ j ≤ s.size ∧ n ≤ 4000000 ∧ ∀ l m, r = some (l, m) → m = j ∧ l.length = n ∧ PatF w' (Since w.heap.size w') l (.slice A n c)
def PatTo (rb : Nat) (s : ByteArray) (d : Nat) (Q : Nat → Option (List EL × Nat)) : Prop := ∀ (i : Nat) (w : World), Rd rb s i w → i ≤ s.size → Calls Tryz.prog 46 #[pt rb, .int .i64 d] w (GotP rb s w (Q i))
def GotV (rb : Nat) (s : ByteArray) (w : World) (r : Option (VA × Nat)) (e : Ending) (w' : World) : Prop :=
  Kp rb w w' ∧ ∃ (X : ByteArray) (df : Bool) (A : Option Addr) (n c j : Nat), e = .returned (.tuple #[.agg #[.string X, .bool df, .slice A n c], .bool r.isSome]) ∧ Rd rb s j w' ∧ j ≤ s.size ∧ n ≤ 4000000 ∧
    ∀ x m, r = some (x, m) → m = j ∧ ∃ l, x = .mk X df l ∧ l.length = n ∧ PatF w' (Since w.heap.size w') l (.slice A n c)
abbrev zV : Array Value := #[.string ⟨#[]⟩, .bool false, .slice none 0 0]
set_option maxRecDepth 100000 in
theorem res3v {fn : Func} {A M : Nat} {tmps : Array Value} {w : World} {b : Nat} {x0 x1 x2 v : Value} {t : TypeId} (hres : fn.results = #[.cell A 69, .tmp M]) (ha : tmps.getD A undef = .pointer (some ⟨b, 0, none⟩)) (hm : tmps.getD M undef = v)
    (hb : BoxAt w b #[x0, x1, x2] t) : (results fn tmps).run Tryz.prog w = .ok (.tuple #[.agg #[x0, x1, x2], v]) w := by
  obtain ⟨q0, q1, q2, _⟩ := cells3 hb
  have ha' : tmps[A]?.getD undef = .pointer (some ⟨b, 0, none⟩) := by rw [← ha]; simp
  have hm' : tmps[M]?.getD undef = v := by rw [← hm]; simp
  simp [results, hres, ha', hm', go_sem, q0, q1, q2]
theorem end3v {fn : Func} {R : Ending → World → Prop} {a : Act} {w2 : World} {A M b : Nat} {x0 x1 x2 v : Value} {t : TypeId} (hres : fn.results = #[.cell A 69, .tmp M]) (hbox : BoxAt w2 b #[x0, x1, x2] t)
    (ha : a.tmps.getD A undef = .pointer (some ⟨b, 0, none⟩)) (hm : a.tmps.getD M undef = v) (hd : a.defers = []) (hR : R (.returned (.tuple #[.agg #[x0, x1, x2], v])) w2) : bodyPost Tryz.prog fn R .ret a w2 :=
  bodyPost_ret (res3v hres ha hm hbox) hd hR
theorem gotV_none {rb : Nat} {s : ByteArray} {w w2 : World} {j : Nat} (hK : Kp rb w w2) (hR : Rd rb s j w2) (hj : j ≤ s.size) : GotV rb s w none (.returned (.tuple #[.agg zV, .bool false])) w2 :=
  ⟨hK, ⟨#[]⟩, false, none, 0, 0, j, rfl, hR, hj, Nat.zero_le _, fun x m h => by cases h⟩
set_option maxHeartbeats 8000000 in
set_option maxRecDepth 100000 in
theorem variant_any {rb : Nat} {s : ByteArray} {d : Nat} {P : Nat → Res} (hs : s.size ≤ 1000000) (hd : d ≤ 4000) (hPat : PatTo rb s d (patS P s)) (i : Nat) (w : World) (hr : Rd rb s i w) (hi : i ≤ s.size) :
    Calls Tryz.prog 79 #[pt rb, .int .i64 d] w (GotV rb s w (variS P s i)) := by
  have HR := Lib.hid hr
  have hlt := hr.lt
  obtain ⟨R, hRR⟩ : ∃ R, variS P s i = R := ⟨_, rfl⟩
  rw [hRR]
  unfold variS at hRR
  have hT1 := fun W (h : Rd rb s i W) => take_any 42 W h (by omega) hi
  obtain ⟨b1, hb1⟩ : ∃ b, isAt s i 42 = b := ⟨_, rfl⟩
  have hi1 : (if b1 = true then i + 1 else i) ≤ s.size := by
    cases b1
    · exact hi
    · exact isAt_lt hb1
  rw [hb1] at hT1 hRR
  obtain ⟨i1, hi1e⟩ : ∃ i1, (if b1 = true then i + 1 else i) = i1 := ⟨_, rfl⟩
  rw [hi1e] at hT1 hi1 hRR
  have hT2 := fun W (h : Rd rb s i1 W) => take_any 91 W h (by omega) hi1
  obtain ⟨b2, hb2⟩ : ∃ b, isAt s i1 91 = b := ⟨_, rfl⟩
  have hi2 : b2 = true → i1 + 1 ≤ s.size := fun h => isAt_lt (hb2.trans h)
  rw [hb2] at hT2 hRR
  have HT1 := Lib.hid hT1
  have HT2 := Lib.hid hT2
  have Hpat := Lib.hid hPat
  have hd0 : (d : Int) ≤ 4000 := by omega
  clear hr hT1 hb1 hi1e hT2 hb2 hPat
  unfold pt at HT1 HT2 ⊢
  cases b2
  case false =>
    rw [if_neg (by simp)] at hRR
    subst hRR
    go_enter Tryz.func79, Tryz.ntmps79
    go_wp2_with fail
    go_at_call 48
    refine (HT1.out _ (HR.out.alloc _)).mono ?_
    rintro e w1 ⟨rfl, g1, g2⟩
    have G1 := Lib.hid g1
    have HK := Lib.hid (((Kp.refl rb w).alloc (Nat.le_of_lt hlt) _).trans g2)
    have hc := BoxAt.kp (BoxAt.new w zV 69) g2 (by omega)
    have hcl := hc.lt
    have HC := Lib.hid hc
    clear g1 g2 hc
    go_wp2_with fail
    go_at_call 48
    refine (HT2.out _ G1.out).mono ?_
    rintro e w2 ⟨rfl, g3, g4⟩
    have G3 := Lib.hid (show Rd rb s i1 w2 by simpa using g3)
    have HK2 := Lib.hid (HK.out.trans g4)
    have hc2 := BoxAt.kp HC.out g4 (by omega)
    have hcl2 := hc2.lt
    have HC2 := Lib.hid hc2
    obtain ⟨q0, q1, q2, p0, p1, p2⟩ := cells3 hc2
    clear g3 g4 hc2
    go_wp2
    exact end3v Tryz.results79 (box_set3 HC2.out _ _ _) rfl rfl rfl (gotV_none (HK2.out.set3 (Nat.le_refl _) hlt _ _ _) (G3.out.set3 (by omega) _ _ _) hi1)
  have hi3 := hi2 rfl
  rw [if_pos rfl] at hRR
  have hB := bl_ok s (i1 + 1) hi3
  have hP1 := fun W (h : Rd rb s (i1 + 1) W) => pass_any endBlank W h (by omega) hi3
  obtain ⟨a, ha⟩ : ∃ a, bl s (i1 + 1) = a := ⟨_, rfl⟩
  rw [ha] at hB hP1 hRR
  have hP2 := fun W (h : Rd rb s a W) => pass_any endName W h (by omega) hB.2
  have hP3 := fun W (h : Rd rb s a W) => pass_any endNumber W h (by omega) hB.2
  have hn := nm_ok s a hB.2
  have hu := nu_ok s a hB.2
  have he1 := ext_empty s a (nm s a) hn.1 hn.2
  have hk : keyE s a = if nm s a = a then nu s a else nm s a := rfl
  obtain ⟨n1, hn1⟩ : ∃ n1, nm s a = n1 := ⟨_, rfl⟩
  obtain ⟨u1, hu1⟩ : ∃ u1, nu s a = u1 := ⟨_, rfl⟩
  rw [hn1] at hn he1 hk hP2
  rw [hu1] at hu hk hP3
  obtain ⟨k, hke⟩ : ∃ k, keyE s a = k := ⟨_, rfl⟩
  rw [hke] at hk hRR
  have hk2 : a ≤ k ∧ k ≤ s.size := by rw [hk]; split <;> omega
  have he2 := ext_empty s a k hk2.1 hk2.2
  have hP4 := fun W (h : Rd rb s k W) => pass_any endBlank W h (by omega) hk2.2
  have hB2 := bl_ok s k hk2.2
  obtain ⟨m, hm⟩ : ∃ m, bl s k = m := ⟨_, rfl⟩
  rw [hm] at hB2 hP4 hRR
  have hT3 := fun W (h : Rd rb s m W) => take_any 93 W h (by omega) hB2.2
  obtain ⟨b3, hb3⟩ : ∃ b, isAt s m 93 = b := ⟨_, rfl⟩
  have hm1 : b3 = true → m + 1 ≤ s.size := fun h => isAt_lt (hb3.trans h)
  rw [hb3] at hT3 hRR
  obtain ⟨X1, hX1⟩ : ∃ X, s.extract a n1 = X := ⟨_, rfl⟩
  obtain ⟨X, hX⟩ : ∃ X, s.extract a k = X := ⟨_, rfl⟩
  have hX2 : n1 ≠ a → X1 = X := fun h => by rw [← hX1, ← hX, hk, if_neg h]
  have hX3 : n1 = a → s.extract a u1 = X ∧ u1 = k := fun h => by rw [← hX, hk, if_pos h]; exact ⟨rfl, rfl⟩
  have hk5 : n1 ≠ a → n1 = k := fun h => by rw [hk, if_neg h]
  rw [hX1] at he1 hP2
  rw [hX] at he2 hRR
  have HP1 := Lib.hid hP1
  have HP2 := Lib.hid hP2
  have HP3 := Lib.hid hP3
  have HP4 := Lib.hid hP4
  have HT3 := Lib.hid hT3
  have HRR := Lib.hid hRR
  have HE1 := Lib.hid he1
  have HE2 := Lib.hid he2
  have HX2 := Lib.hid hX2
  have HX3 := Lib.hid hX3
  have Hk5 := Lib.hid hk5
  have Hm1 := Lib.hid hm1
  clear hP1 ha hP2 hP3 hk hn1 hu1 hke hP4 hm hT3 hb3 hX1 hX hX2 hX3 hk5 he1 he2 hRR hi2 hm1
  unfold pt at HP1 HP2 HP3 HP4 HT3
  go_enter Tryz.func79, Tryz.ntmps79
  go_wp2_with fail
  go_at_call 48
  refine (HT1.out _ (HR.out.alloc _)).mono ?_
  rintro e w1 ⟨rfl, g1, g2⟩
  have G1 := Lib.hid g1
  have HK := Lib.hid (show Kp rb (w.alloc (.cells zV 69)) w1 from g2)
  clear g1 g2
  go_wp2_with fail
  go_at_call 48
  refine (HT2.out _ G1.out).mono ?_
  rintro e w2 ⟨rfl, g1, g2⟩
  have G1 := Lib.hid (show Rd rb s (i1 + 1) w2 by simpa using g1)
  have HK2 := Lib.hid (HK.out.trans g2)
  clear g1 g2
  go_wp2_with fail
  go_at_call 49
  refine (HP1.out _ G1.out).mono ?_
  rintro e w3 ⟨rfl, g1, g2⟩
  have G3 := Lib.hid g1
  have HK3 := Lib.hid (HK2.out.trans g2)
  clear g1 g2
  go_wp2_with fail
  go_at_call 49
  refine (HP2.out _ G3.out).mono ?_
  rintro e w4 ⟨rfl, g1, g2⟩
  have G4 := Lib.hid g1
  have HK4 := Lib.hid (HK3.out.trans g2)
  clear g1 g2
  obtain ⟨x1, hx1⟩ : ∃ x, X1.toList.isEmpty = x := ⟨_, rfl⟩
  go_upto_if 22 with fail
  go_cut [7] (fun v wx => v = .string X ∧ Hid (Rd rb s k wx) ∧ Hid (Kp rb (w.alloc (.cells zV 69)) wx))
  case first =>
    cases x1
    case false =>
      have hne : n1 ≠ a := fun h => by have := HE1.out; rw [hx1, decide_eq_true h] at this; cases this
      have HX := Lib.hid (HX2.out hne)
      have Hk := Lib.hid (Hk5.out hne)
      clear hne
      go_wp2_with fail
      go_meet
      exact ⟨by rw [HX.out], by rw [← Hk.out]; exact G4.out, HK4.out⟩
    case true =>
      have hne : n1 = a := by have := HE1.out; rw [hx1] at this; exact of_decide_eq_true this.symm
      obtain ⟨hX, hk⟩ := HX3.out hne
      have G4a := Lib.hid (show Rd rb s a w4 by rw [← hne]; exact G4.out)
      have HX := Lib.hid hX
      have Hk := Lib.hid hk
      clear hne hX hk
      go_wp2_with fail
      go_at_call 49
      refine (HP3.out _ G4a.out).mono ?_
      rintro e w5 ⟨rfl, g1, g2⟩
      have G5 := Lib.hid g1
      have HK5 := Lib.hid (HK4.out.trans g2)
      clear g1 g2
      go_wp2_with fail
      go_meet
      exact ⟨by rw [HX.out], by rw [← Hk.out]; exact G5.out, HK5.out⟩
  obtain ⟨rfl, HRk, HKk⟩ := hcut
  clear HP2 HP3 HE1 HX2 HX3 Hk5 G1 G3 G4 HK HK2 HK3 HK4 hx1
  go_wp2_with fail
  go_at_call 49
  refine (HP4.out _ HRk.out).mono ?_
  rintro e w5 ⟨rfl, g1, g2⟩
  have G5 := Lib.hid g1
  have HK5 := Lib.hid (HKk.out.trans g2)
  have hc5 := BoxAt.kp (BoxAt.new w zV 69) HK5.out (by omega)
  have hcl5 := hc5.lt
  have HC5 := Lib.hid hc5
  clear g1 g2
  have HA := Lib.hid ((Kp.refl rb w).alloc (Nat.le_of_lt hlt) (.cells zV 69))
  cases hx2 : X.toList.isEmpty
  case true =>
    have hka : k = a := by have := HE2.out; rw [hx2] at this; exact of_decide_eq_true this.symm
    have hR := HRR.out
    rw [if_pos hka] at hR
    subst hR
    obtain ⟨q0, q1, q2, p0, p1, p2⟩ := cells3 hc5
    clear hka hc5
    go_wp2
    exact end3v Tryz.results79 (box_set3 HC5.out _ _ _) rfl rfl rfl (gotV_none ((HA.out.trans HK5.out).set3 (Nat.le_refl _) hlt _ _ _) (G5.out.set3 (by omega) _ _ _) hB2.2)
  have hka : k ≠ a := fun h => by have := HE2.out; rw [hx2, decide_eq_true h] at this; cases this
  have hR := HRR.out
  rw [if_neg hka] at hR
  have HR2 := Lib.hid hR
  clear hka hR hc5
  cases b3
  case false =>
    have hR := HR2.out
    rw [if_neg (by simp)] at hR
    subst hR
    go_wp2_with fail
    go_at_call 48
    refine (HT3.out _ G5.out).mono ?_
    rintro e w6 ⟨rfl, g1, g2⟩
    have G6 := Lib.hid (show Rd rb s m w6 by simpa using g1)
    have HK6 := Lib.hid (HK5.out.trans g2)
    have hc6 := BoxAt.kp HC5.out g2 (by omega)
    have hcl6 := hc6.lt
    have HC6 := Lib.hid hc6
    obtain ⟨q0, q1, q2, p0, p1, p2⟩ := cells3 hc6
    clear g1 g2 hc6
    go_wp2
    exact end3v Tryz.results79 (box_set3 HC6.out _ _ _) rfl rfl rfl (gotV_none ((HA.out.trans HK6.out).set3 (Nat.le_refl _) hlt _ _ _) (G6.out.set3 (by omega) _ _ _) hB2.2)
  have hR := HR2.out
  rw [if_pos rfl] at hR
  obtain ⟨r, hr⟩ : ∃ r, patS P s (m + 1) = r := ⟨_, rfl⟩
  have hm1 := Hm1.out rfl
  have hPt := fun W h => Hpat.out (m + 1) W h hm1
  rw [hr] at hPt hR
  have HPt := Lib.hid hPt
  have HR3 := Lib.hid hR
  unfold pt at HPt
  clear hR hr hPt
  go_wp2_with fail
  go_at_call 48
  refine (HT3.out _ G5.out).mono ?_
  rintro e w6 ⟨rfl, g1, g2⟩
  have G6 := Lib.hid (show Rd rb s (m + 1) w6 by simpa using g1)
  have HK6 := Lib.hid (HK5.out.trans g2)
  have hs6 := HK6.out.size
  rw [World.size_alloc] at hs6
  clear g1 g2
  go_wp2_with fail
  go_at_call 46
  refine (HPt.out _ G6.out).mono ?_
  rintro e w7 ⟨h1, A, n, c, j, rfl, h2, hj, hn4, h3⟩
  have HK7 := Lib.hid (HK6.out.trans h1)
  have hc7 := BoxAt.kp (BoxAt.new w zV 69) HK7.out (by omega)
  have hcl7 := hc7.lt
  have HC7 := Lib.hid hc7
  have H2 := Lib.hid h2
  have H3 := Lib.hid h3
  have d0 := h2.c0
  have d1 := h2.c1
  have hl7 := h2.lt
  have hj0 : (j : Int) ≤ 1000000 := by omega
  have hss : (s.size : Int) ≤ 1000000 := by omega
  have hn0 : (n : Int) ≤ 4000000 := by omega
  obtain ⟨il, hil⟩ : ∃ b, isAt s j 10 = b := ⟨_, rfl⟩
  have Hil := Lib.hid hil
  clear h1 h2 h3 hc7 HPt hil
  go_upto_region 12 with fail
  go_cut [10] (fun v wx => v = .bool il ∧ wx = w7.drew)
  case first =>
    have hil := Hil.out
    unfold isAt at hil
    by_cases hjl : j < s.size
    · have z1 : decide ((j : Int) < (s.size : Int)) = true := decide_eq_true (by omega)
      have z2 : (j : Int) < (s.size : Int) := by omega
      have z3 : ((s[j].toNat : Int) == 10) = il := by
        rw [decide_eq_true hjl, Bool.true_and, at0_get _ _ (by rw [size_data]; exact hjl)] at hil
        rw [← hil]
        show ((s[j].toNat : Int) == 10) = (s[j] == 10)
        rw [Bool.eq_iff_iff, beq_iff_eq, beq_iff_eq, ← UInt8.toNat_inj]
        simp
        omega
      clear hil
      go_region
      go_wp2_with fail
      go_meet
      exact ⟨rfl, rfl⟩
    · have z1 : decide ((j : Int) < (s.size : Int)) = false := decide_eq_false (by omega)
      rw [decide_eq_false hjl, Bool.false_and] at hil
      subst hil
      go_region
      go_wp2_with fail
      go_meet
      exact ⟨rfl, rfl⟩
  obtain ⟨rfl, rfl⟩ := hcut
  obtain ⟨q0, q1, q2, p0, p1, p2⟩ := cells3 HC7.out
  have hA := HA.out.trans HK7.out
  have HKf := Lib.hid hA.drew
  clear hA d0 d1
  cases r with
  | none =>
    have hR := HR3.out
    dsimp only at hR
    subst hR
    go_wp2
    exact end3v Tryz.results79 (box_set3 HC7.out.drew _ _ _) rfl rfl rfl ⟨HKf.out.set3 (Nat.le_refl _) hlt _ _ _, X, b1, A, n, c, j, rfl, H2.out.drew.set3 (by omega) _ _ _, hj, hn4, fun x q h => by cases h⟩
  | some lm =>
    obtain ⟨l, q⟩ := lm
    obtain ⟨rfl, hln, hpt⟩ := H3.out l q rfl
    have hR := HR3.out
    dsimp only at hR
    rw [Hil.out, ← len0, hln] at hR
    have HR4 := Lib.hid hR
    have HPF := Lib.hid hpt
    have Hln := Lib.hid hln
    clear hR hpt hln
    cases il
    case false =>
      have hR := HR4.out
      rw [Bool.false_and, if_neg (by simp)] at hR
      subst hR
      go_wp2
      exact end3v Tryz.results79 (box_set3 HC7.out.drew _ _ _) rfl rfl rfl ⟨HKf.out.set3 (Nat.le_refl _) hlt _ _ _, X, b1, A, n, c, q, rfl, H2.out.drew.set3 (by omega) _ _ _, hj, hn4, fun x q h => by cases h⟩
    by_cases h0 : 0 < n
    · have z : decide ((0 : Int) < (n : Int)) = true := decide_eq_true (by omega)
      have hR := HR4.out
      rw [decide_eq_false (show ¬ n = 0 by omega), if_pos (by decide)] at hR
      subst hR
      go_wp2
      refine end3v Tryz.results79 (box_set3 HC7.out.drew _ _ _) rfl rfl rfl ⟨HKf.out.set3 (Nat.le_refl _) hlt _ _ _, X, b1, A, n, c, q, rfl, H2.out.drew.set3 (by omega) _ _ _, hj, hn4, fun x q' h => ?_⟩
      cases h
      refine ⟨rfl, l, rfl, Hln.out, PatF.carry (fun z hz => ?_) HPF.out⟩
      obtain ⟨hz1, hz2⟩ := hz
      refine ⟨⟨by omega, ?_⟩, set3_heap w7 w.heap.size (.string X) (.bool b1) (.slice A n c) z (by omega)⟩
      show z < (set3 w7 w.heap.size (.string X) (.bool b1) (.slice A n c)).heap.size
      rw [set3_size]
      exact hz2
    · have z : decide ((0 : Int) < (n : Int)) = false := decide_eq_false (by omega)
      have hR := HR4.out
      rw [decide_eq_true (show n = 0 by omega), if_neg (by decide)] at hR
      subst hR
      go_wp2
      exact end3v Tryz.results79 (box_set3 HC7.out.drew _ _ _) rfl rfl rfl ⟨HKf.out.set3 (Nat.le_refl _) hlt _ _ _, X, b1, A, n, c, q, rfl, H2.out.drew.set3 (by omega) _ _ _, hj, hn4, fun x q h => by cases h⟩
end Go.Proofs.YtdoambpiafkmmaaGreatDoor
