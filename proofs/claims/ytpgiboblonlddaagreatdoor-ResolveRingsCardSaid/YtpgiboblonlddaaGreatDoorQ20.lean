/-
  Several texts put together (part 20): what the law and the program call, walked; their contracts.
-/
import Derived.Test.YtpgiboblonlddaaGreatDoorQ19
import Derived.Lib.IndexAny
import Derived.Lib.Bytealg
import Derived.Deep.DeepCutAuto
namespace Go.Proofs.YtpgiboblonlddaaGreatDoor
open Go.RowKit
set_option linter.unusedVariables false
set_option linter.unusedSimpArgs false
set_option maxHeartbeats 2000000 in
set_option maxRecDepth 100000 in
theorem termsAttr_any (k : Int) (t n a : ByteArray) (A1 : Option Addr) (n1 c1 : Nat) (p : Option Addr) (A2 : Option Addr) (n2 c2 : Nat) (w : World) :
    Calls Tryz.prog 255 #[exV k t n a A1 n1 c1 p A2 n2 c2] w fun e w' => e = .returned (.bool ((k == 4) && !emp a)) ∧ Below w.heap.size w w' := by
  unfold exV emp
  cases hz : (k == 4)
  case false =>
    go_enter Tryz.func255, Tryz.ntmps255
    go_wp2
    go_ret
    exact ⟨ret_bool (by rfl), (Below.refl _ _).alloc (Nat.le_refl _) _⟩
  cases hg : a.toList.isEmpty
  all_goals
    go_enter Tryz.func255, Tryz.ntmps255
    go_wp2
    go_ret
    exact ⟨ret_bool (by rfl), (Below.refl _ _).alloc (Nat.le_refl _) _⟩
set_option maxHeartbeats 2000000 in
set_option maxRecDepth 100000 in
theorem mayAsk_any (k : Int) (t n a : ByteArray) (A1 : Option Addr) (n1 c1 : Nat) (p : Option Addr) (A2 : Option Addr) (n2 c2 : Nat) (w : World) :
    Calls Tryz.prog 256 #[exV k t n a A1 n1 c1 p A2 n2 c2] w fun e w' => e = .returned (.bool (decide (k = 0 ∨ k = 1 ∨ k = 2 ∨ k = 5) || ((k == 4) && !emp a))) ∧ Below w.heap.size w w' := by
  have HT := Lib.hid (fun W => termsAttr_any k t n a A1 n1 c1 p A2 n2 c2 W)
  by_cases h : k = 0 ∨ k = 1 ∨ k = 2 ∨ k = 5
  · rw [decide_eq_true h, Bool.true_or]
    unfold exV
    clear HT
    rcases h with rfl | rfl | rfl | rfl
    all_goals
      go_enter Tryz.func256, Tryz.ntmps256
      go_wp2
      go_ret
      exact ⟨rfl, (Below.refl _ _).alloc (Nat.le_refl _) _⟩
  · rw [decide_eq_false h, Bool.false_or]
    obtain ⟨q, hq⟩ : ∃ q, ((k == 4) && !emp a) = q := ⟨_, rfl⟩
    rw [hq] at HT ⊢
    have z0 : (k == 0) = false := beq_eq_false_iff_ne.2 (by omega)
    have z1 : (k == 1) = false := beq_eq_false_iff_ne.2 (by omega)
    have z2 : (k == 2) = false := beq_eq_false_iff_ne.2 (by omega)
    have z5 : (k == 5) = false := beq_eq_false_iff_ne.2 (by omega)
    clear h hq
    unfold exV at HT ⊢
    go_enter Tryz.func256, Tryz.ntmps256
    go_wp2_with fail
    go_at_call 255
    refine (HT.out _).mono ?_
    rintro e w' ⟨rfl, hb⟩
    have HB := Lib.hid (((Below.refl w.heap.size w).alloc (Nat.le_refl _) _).trans (hb.mono (by simp)))
    clear hb
    go_wp2
    go_ret
    exact ⟨rfl, HB.out⟩
abbrev zL : Array Value := #[.int .i64 0, .int .i64 0, .slice none 0 0]
theorem cells3 {w : World} {k : Nat} {x0 x1 x2 : Value} {t : TypeId} (h : BoxAt w k #[x0, x1, x2] t) :
    w.cell? ⟨k, 0, none⟩ = some x0 ∧ w.cell? ⟨k, 1, none⟩ = some x1 ∧ w.cell? ⟨k, 2, none⟩ = some x2 ∧ w.frozen? ⟨k, 0, none⟩ = false ∧ w.frozen? ⟨k, 1, none⟩ = false ∧ w.frozen? ⟨k, 2, none⟩ = false :=
  ⟨h.cell 0, h.cell 1, h.cell 2, Lib.frozen_of_heap h 0, Lib.frozen_of_heap h 1, Lib.frozen_of_heap h 2⟩
def set3 (w : World) (b : Nat) (x0 x1 x2 : Value) : World := ((w.setCell ⟨b, 0, none⟩ x0).setCell ⟨b, 1, none⟩ x1).setCell ⟨b, 2, none⟩ x2
theorem set3_heap (w : World) (b : Nat) (x0 x1 x2 : Value) (k : Nat) (hk : k ≠ b) : (set3 w b x0 x1 x2).heap[k]? = w.heap[k]? := by
  unfold set3
  rw [Below.heap_setCell _ _ _ k hk, Below.heap_setCell _ _ _ k hk, Below.heap_setCell _ _ _ k hk]
theorem set3_size (w : World) (b : Nat) (x0 x1 x2 : Value) : (set3 w b x0 x1 x2).heap.size = w.heap.size := by
  unfold set3; simp
theorem Kp.set3 {rb : Nat} {a w : World} (h : Kp rb a w) {b : Nat} (hb : a.heap.size ≤ b) (hr : rb < a.heap.size) (x0 x1 x2 : Value) : Kp rb a (set3 w b x0 x1 x2) := ((h.setNew hb hr 0 x0).setNew hb hr 1 x1).setNew hb hr 2 x2
theorem Rd.set3 {rb : Nat} {s : ByteArray} {i : Nat} {w : World} (h : Rd rb s i w) {b : Nat} (hb : rb ≠ b) (x0 x1 x2 : Value) : Rd rb s i (set3 w b x0 x1 x2) := ((h.setOther hb 0 x0).setOther hb 1 x1).setOther hb 2 x2
theorem box_set3 {w : World} {E : Nat} {x0 x1 x2 : Value} {t : TypeId} (h : BoxAt w E #[x0, x1, x2] t) (y0 y1 y2 : Value) : BoxAt (set3 w E y0 y1 y2) E #[y0, y1, y2] t := by
  unfold set3
  unfold BoxAt at h ⊢
  simp [World.setCell, Array.getElem?_modify, h]
set_option maxRecDepth 100000 in
theorem res3 (T : TypeId) (hT : Tryz.prog.cellsOf T = 3) {fn : Func} {A M : Nat} {tmps : Array Value} {w : World} {b : Nat} {x0 x1 x2 v : Value} {t : TypeId} (hres : fn.results = #[.cell A 300, .tmp M]) (ha : tmps.getD A undef = .pointer (some ⟨b, 0, none⟩)) (hm : tmps.getD M undef = v)
    (hb : BoxAt w b #[x0, x1, x2] t) : (results fn tmps).run Tryz.prog w = .ok (.tuple #[.agg #[x0, x1, x2], v]) w := by
  obtain ⟨q0, q1, q2, _⟩ := cells3 hb
  have ha' : tmps[A]?.getD undef = .pointer (some ⟨b, 0, none⟩) := by rw [← ha]; simp
  have hm' : tmps[M]?.getD undef = v := by rw [← hm]; simp
  simp [results, hres, ha', hm', go_sem, q0, q1, q2]
theorem end3w {fn : Func} {R : Ending → World → Prop} {a : Act} {w2 : World} {A M b : Nat} {x0 x1 x2 v : Value} {t : TypeId} (hres : fn.results = #[.cell A 300, .tmp M]) (hbox : BoxAt w2 b #[x0, x1, x2] t)
    (ha : a.tmps.getD A undef = .pointer (some ⟨b, 0, none⟩)) (hm : a.tmps.getD M undef = v) (hd : a.defers = []) (hR : R (.returned (.tuple #[.agg #[x0, x1, x2], v])) w2) : bodyPost Tryz.prog fn R .ret a w2 :=
  bodyPost_ret (res3 300 (by kernel_rfl) hres ha hm hbox) hd hR
def GotL (rb : Nat) (s : ByteArray) (i : Nat) (w : World) (r : Option (Nat × Nat × Nat)) (e : Ending) (w' : World) : Prop :=
  Kp rb w w' ∧ ∃ f p j : Nat, e = .returned (.tuple #[.agg #[.int .i64 f, .int .i64 p, .slice none 0 0], .bool r.isSome]) ∧ Rd rb s j w' ∧ j ≤ s.size ∧ f ≤ s.size ∧ p ≤ s.size ∧ (r = none → j = i) ∧ ∀ f' p' m, r = some (f', p', m) → f' = f ∧ p' = p ∧ m = j
theorem sp_ok (s : ByteArray) (i : Nat) (hi : i ≤ s.size) : i ≤ sp s i ∧ sp s i ≤ s.size := ⟨behN_ge _ _ _, by have := behN_le spB s.data.toList i (by rw [size_data]; exact hi); rw [size_data] at this; exact this⟩
theorem nlS_step (s : ByteArray) (f fr i : Nat) (h : isAt s i 10 = true) : nlS s f fr i = nlS s (f + 1) (i + 1) (sp s (i + 1)) := by
  rw [nlS, dif_pos h]
theorem nlS_end (s : ByteArray) (f fr i : Nat) (h : isAt s i 10 = false) : nlS s f fr i = (f, fr, i) := by
  rw [nlS, dif_neg (by rw [h]; simp)]
end Go.Proofs.YtpgiboblonlddaaGreatDoor

namespace Go.Proofs.YtpgiboblonlddaaGreatDoor
open Go.RowKit
set_option linter.unusedVariables false
set_option linter.unusedSimpArgs false
theorem idxAny_tw (chars : List UInt8) : ∀ l : List UInt8, Lib.indexAny l chars = if (l.takeWhile (fun c => !chars.contains c)).length < l.length then ((l.takeWhile (fun c => !chars.contains c)).length : Int) else -1
  | [] => by simp [Lib.indexAny]
  | b :: l => by
    have ih := idxAny_tw chars l
    rw [Lib.indexAny, List.takeWhile_cons]
    generalize hT : l.takeWhile (fun c => !chars.contains c) = T at ih ⊢
    by_cases h : chars.contains b = true
    · have h2 : ¬ ((!chars.contains b) = true) := by rw [h]; decide
      rw [if_pos h, if_neg h2, if_pos (by simp)]
      rfl
    · have h2 : (!chars.contains b) = true := by rw [Bool.eq_false_iff.2 h]; rfl
      rw [if_neg h, if_pos h2, ih, List.length_cons, List.length_cons]
      by_cases hl : T.length < l.length
      · rw [if_pos hl]
        have h3 : ¬ (((T.length : Int) == -1) = true) := by rw [beq_iff_eq]; omega
        rw [if_neg h3, if_pos (show T.length + 1 < l.length + 1 by omega)]
        omega
      · rw [if_neg hl, if_neg (show ¬ T.length + 1 < l.length + 1 by omega)]
        rfl
theorem tx_idx (s : ByteArray) (i : Nat) (hi : i ≤ s.size) : (Lib.indexAny (s.extract i s.size).data.toList [10, 123, 125] = -1 ∧ tx s i = s.size) ∨ (∃ n : Nat, Lib.indexAny (s.extract i s.size).data.toList [10, 123, 125] = (n : Int) ∧ tx s i = i + n ∧ i + n < s.size) := by
  rw [extract_drop, idxAny_tw]
  have e : (fun c : UInt8 => !([10, 123, 125] : List UInt8).contains c) = txB := by
    funext c
    unfold txB
    rw [List.contains_cons, List.contains_cons, List.contains_cons, List.contains_nil, Bool.or_false, Bool.or_assoc]
  rw [e]
  unfold tx behN
  have hl : (s.data.toList.drop i).length = s.size - i := by rw [List.length_drop, size_data]
  have hle := takeWhile_le txB (s.data.toList.drop i)
  by_cases h : ((s.data.toList.drop i).takeWhile txB).length < (s.data.toList.drop i).length
  · rw [if_pos h]
    exact .inr ⟨_, rfl, rfl, by omega⟩
  · rw [if_neg h]
    exact .inl ⟨rfl, by omega⟩
set_option maxHeartbeats 2000000 in
set_option maxRecDepth 100000 in
theorem endText_of {s : ByteArray} (hIx : ∀ (x : ByteArray) (W : World), x.size ≤ 4000000 → Calls Tryz.prog 252 #[.string x, .string ⟨#[10, 123, 125]⟩] W fun e w' => e = .returned (.int .i64 (Lib.indexAny x.data.toList [10, 123, 125])) ∧ Below W.heap.size W w') : EndFn 240 tx s := by
  refine ⟨fun args w => by go_simp, fun i w hs hi => ?_⟩
  have hI := fun W => hIx (s.extract i s.size) W (by rw [ByteArray.size_extract]; omega)
  have hi0 : (i : Int) ≤ 4000000 := by omega
  have hjs : (i : Int) ≤ (s.size : Int) := by omega
  have hss : (s.size : Int) ≤ 4000000 := by omega
  rcases tx_idx s i hi with ⟨h1, h2⟩ | ⟨n, h1, h2, h3⟩
  · refine ⟨by omega, by omega, ?_⟩
    rw [h1] at hI
    have HI := Lib.hid hI
    rw [h2]
    clear hIx
    clear hI h1 h2
    go_enter Tryz.func240, Tryz.ntmps240
    go_wp2_with fail
    go_at_call 252
    refine (HI.out _).mono ?_
    rintro e w' ⟨rfl, hb⟩
    have HB := Lib.hid hb
    clear hb
    go_wp2
    go_ret
    exact ⟨rfl, HB.out⟩
  · refine ⟨by omega, by omega, ?_⟩
    rw [h1] at hI
    have HI := Lib.hid hI
    rw [h2]
    clear hIx
    have hn0 : (n : Int) ≤ 4000000 := by omega
    have hnd : decide ((0 : Int) ≤ (n : Int)) = true := decide_eq_true (by omega)
    clear hI h1 h2
    go_enter Tryz.func240, Tryz.ntmps240
    go_wp2_with fail
    go_at_call 252
    refine (HI.out _).mono ?_
    rintro e w' ⟨rfl, hb⟩
    have HB := Lib.hid hb
    clear hb
    go_wp2
    go_ret
    exact ⟨by congr 2, HB.out⟩
theorem stop_idx (c : UInt8) : decide ((0 : Int) ≤ Lib.indexByte [46, 42, 91, 125] c) = stopB c := by
  unfold stopB
  have e : ∀ x : UInt8, (x == c) = (c == x) := fun x => by rw [Bool.eq_iff_iff, beq_iff_eq, beq_iff_eq]; exact eq_comm
  unfold Lib.indexByte Lib.indexByte Lib.indexByte Lib.indexByte Lib.indexByte
  rw [e 46, e 42, e 91, e 125]
  cases c == 46 <;> cases c == 42 <;> cases c == 91 <;> cases c == 125 <;> decide
end Go.Proofs.YtpgiboblonlddaaGreatDoor

namespace Go.Proofs.YtpgiboblonlddaaGreatDoor
open Go.RowKit
set_option linter.unusedVariables false
set_option linter.unusedSimpArgs false
set_option maxHeartbeats 4000000 in
set_option maxRecDepth 100000 in
theorem nextLine_any {rb : Nat} {s : ByteArray} (hs : s.size ≤ 1000000) (i : Nat) (w : World) (hr : Rd rb s i w) (hi : i ≤ s.size) : Calls Tryz.prog 219 #[pt rb] w (GotL rb s i w (nextS s i)) := by
  have HR := Lib.hid hr
  have hlt := hr.lt
  have c0 := (hr.alloc (.cells zL 300)).c0
  have c1 := (hr.alloc (.cells zL 300)).c1
  obtain ⟨R, hRR⟩ : ∃ R, nextS s i = R := ⟨_, rfl⟩
  rw [hRR]
  have HRR := Lib.hid hRR
  have hi0 : (i : Int) ≤ 1000000 := by omega
  have hss : (s.size : Int) ≤ 1000000 := by omega
  clear hr hRR
  unfold pt
  go_enter Tryz.func219, Tryz.ntmps219
  go_wp2
  go_region
  go_wp2
  go_loopw [4, 5, 6] (fun t4 t5 t6 wr => ∃ f fr q : Nat, t4 = .int .i64 f ∧ t5 = .int .i64 fr ∧ t6 = .int .i64 q ∧ q ≤ s.size ∧ fr ≤ q ∧ f ≤ q ∧ Hid (nlS s f fr q = nlS s 0 i i) ∧ Hid (Rd rb s i wr) ∧ Hid (Kp rb w wr) ∧ Hid (BoxAt wr w.heap.size zL 300)) (fun _ _ t6 _ => s.size - (intOf t6).toNat)
  case atStart => exact ⟨0, i, i, rfl, rfl, rfl, hi, Nat.le_refl _, Nat.zero_le _, rfl, (HR.out.alloc _).drew, ((Kp.refl _ _).alloc (Nat.le_of_lt hlt) _).drew, (BoxAt.new _ _ _).drew⟩
  case round =>
    obtain ⟨f, fr, q, rfl, rfl, rfl, hq, hfr, hf, Hn, HRd, HK, HC⟩ := hrel
    have hp := fun W => Tryz.strings_HasPrefix (s.extract q s.size) ⟨#[10]⟩ W
    rw [isAt_prefix s q 10 hq] at hp
    obtain ⟨b, hb⟩ : ∃ b, isAt s q 10 = b := ⟨_, rfl⟩
    rw [hb] at hp
    have HP := Lib.hid hp
    have Hb := Lib.hid hb
    have d0 := HRd.out.c0
    have d1 := HRd.out.c1
    have e1 := HRd.out.f 1
    have hrl := HRd.out.lt
    have hcl := HC.out.lt
    have hq0 : (q : Int) ≤ 1000000 := by omega
    have hqs : (q : Int) ≤ (s.size : Int) := by omega
    have hfr0 : (fr : Int) ≤ (q : Int) := by omega
    have hf0 : (f : Int) ≤ 1000000 := by omega
    clear hp hb c0 c1
    cases b
    case true =>
      have hq1 : q + 1 ≤ s.size := isAt_lt Hb.out
      have hS := fun W => spaces_any s ((q : Int) + 1) W (by omega)
      have he : behI spB s.data.toList ((q : Int) + 1) = (sp s (q + 1) : Int) := by
        unfold behI sp
        rw [if_neg (by omega), show ((q : Int) + 1).toNat = q + 1 by omega]
      rw [he] at hS
      have hso := sp_ok s (q + 1) hq1
      have hn := Hn.out
      rw [nlS_step s f fr q Hb.out] at hn
      obtain ⟨m, hm⟩ : ∃ m, sp s (q + 1) = m := ⟨_, rfl⟩
      rw [hm] at hS hso hn
      have HS := Lib.hid hS
      have Hn2 := Lib.hid hn
      clear hS he hm hn
      go_wp2_with fail
      go_at_call 127
      refine (HP.out _).mono ?_
      rintro e w' ⟨rfl, rfl⟩
      go_wp2_with fail
      go_at_call 98
      refine (HS.out _).mono ?_
      rintro e w' ⟨rfl, rfl⟩
      go_wp2
      go_roundw
      case rel => exact ⟨f + 1, q + 1, m, by go_num, by go_num, rfl, hso.2, hso.1, by omega, Hn2.out, HRd.out, HK.out, HC.out⟩
      case measure => simp [intOf]; omega
    case false =>
      have hn := Hn.out
      rw [nlS_end s f fr q Hb.out] at hn
      have hR := HRR.out
      unfold nextS at hR
      rw [← hn] at hR
      dsimp only at hR
      have HR2 := Lib.hid hR
      obtain ⟨q0, q1, q2, p0, p1, p2⟩ := cells3 HC.out
      clear hn hR Hn
      by_cases hqf : q = fr
      · have z1 : ((q : Int) == (fr : Int)) = true := beq_iff_eq.2 (by omega)
        have HR3 := Lib.hid (show R = none by rw [← HR2.out, if_pos (.inl hqf)])
        clear hqf
        go_wp2_with fail
        go_at_call 127
        refine (HP.out _).mono ?_
        rintro e w' ⟨rfl, rfl⟩
        go_wp2
        obtain rfl := HR3.out
        exact end3w Tryz.results219 (box_set3 HC.out _ _ _) rfl rfl rfl ⟨HK.out.set3 (Nat.le_refl _) hlt _ _ _, 0, 0, i, rfl, HRd.out.set3 (by omega) _ _ _, hi, Nat.zero_le _, Nat.zero_le _, fun _ => rfl, fun _ _ _ h => by cases h⟩
      have z1 : ((q : Int) == (fr : Int)) = false := beq_eq_false_iff_ne.2 (by omega)
      by_cases hqz : q = s.size
      · have z2 : ((q : Int) == (s.size : Int)) = true := beq_iff_eq.2 (by omega)
        have HR3 := Lib.hid (show R = none by rw [← HR2.out, if_pos (.inr (.inl hqz))])
        clear hqz
        go_wp2_with fail
        go_at_call 127
        refine (HP.out _).mono ?_
        rintro e w' ⟨rfl, rfl⟩
        go_wp2
        obtain rfl := HR3.out
        exact end3w Tryz.results219 (box_set3 HC.out _ _ _) rfl rfl rfl ⟨HK.out.set3 (Nat.le_refl _) hlt _ _ _, 0, 0, i, rfl, HRd.out.set3 (by omega) _ _ _, hi, Nat.zero_le _, Nat.zero_le _, fun _ => rfl, fun _ _ _ h => by cases h⟩
      have z2 : ((q : Int) == (s.size : Int)) = false := beq_eq_false_iff_ne.2 (by omega)
      have hql : q < s.size := by omega
      have hql2 : (q : Int) < (s.size : Int) := by omega
      have hI := fun W => Tryz.strings_IndexByte ⟨#[46, 42, 91, 125]⟩ (s[q].toNat : Int) W
      have hst := stop_idx s[q]
      rw [show (⟨#[46, 42, 91, 125]⟩ : ByteArray).data.toList = [46, 42, 91, 125] from rfl, show ((s[q].toNat : Int).toNat.toUInt8) = s[q] by simp] at hI
      obtain ⟨x, hx⟩ : ∃ x, Lib.indexByte [46, 42, 91, 125] s[q] = x := ⟨_, rfl⟩
      rw [hx] at hI hst
      have hat : at0 s.data.toList q = s[q] := by rw [at0_get _ _ (by rw [size_data]; exact hql)]; rfl
      have hR := HR2.out
      rw [hat, ← hst] at hR
      have HI := Lib.hid hI
      cases hx0 : decide ((0 : Int) ≤ x)
      case true =>
        have HR3 := Lib.hid (show R = none by rw [← hR, hx0, if_pos (.inr (.inr rfl))])
        clear hI hst hx hat hR HR2
        go_wp2_with fail
        go_at_call 127
        refine (HP.out _).mono ?_
        rintro e w' ⟨rfl, rfl⟩
        go_wp2_with fail
        go_at_call 165
        refine (HI.out _).mono ?_
        rintro e w' ⟨rfl, rfl⟩
        go_wp2
        obtain rfl := HR3.out
        exact end3w Tryz.results219 (box_set3 HC.out _ _ _) rfl rfl rfl ⟨HK.out.set3 (Nat.le_refl _) hlt _ _ _, 0, 0, i, rfl, HRd.out.set3 (by omega) _ _ _, hi, Nat.zero_le _, Nat.zero_le _, fun _ => rfl, fun _ _ _ h => by cases h⟩
      case false =>
        have HR3 := Lib.hid (show R = some (f, q - fr, q) by rw [← hR, hx0, if_neg (by simp [hqf, hqz])])
        have hsub : (q : Int) - (fr : Int) = ((q - fr : Nat) : Int) := by omega
        have Hsub := Lib.hid hsub
        have hsub0 : (0 : Int) ≤ (q : Int) - (fr : Int) := by omega
        have hsub1 : (q : Int) - (fr : Int) ≤ 1000000 := by omega
        have HRq := Lib.hid (HRd.out.set q)
        have HKq := Lib.hid (HK.out.setCell 1 (.int .i64 (q : Nat)))
        have HCq := Lib.hid (BoxAt.setOther HC.out ⟨rb, 1, none⟩ (.int .i64 (q : Nat)) (by show w.heap.size ≠ rb; omega))
        clear hI hst hx hat hR HR2 hsub
        go_wp2_with fail
        go_at_call 127
        refine (HP.out _).mono ?_
        rintro e w' ⟨rfl, rfl⟩
        go_wp2_with fail
        go_at_call 165
        refine (HI.out _).mono ?_
        rintro e w' ⟨rfl, rfl⟩
        go_wp2
        obtain rfl := HR3.out
        exact end3w Tryz.results219 (box_set3 HCq.out _ _ _) rfl rfl rfl ⟨HKq.out.set3 (Nat.le_refl _) hlt _ _ _, f, q - fr, q, by rw [Hsub.out]; rfl, HRq.out.set3 (by omega) _ _ _, hq, by omega, by omega, (fun h => by cases h), fun _ _ _ h => by cases h; exact ⟨rfl, rfl, rfl⟩⟩
end Go.Proofs.YtpgiboblonlddaaGreatDoor

namespace Go.Proofs.YtpgiboblonlddaaGreatDoor
open Go.RowKit
set_option linter.unusedVariables false
set_option linter.unusedSimpArgs false
theorem len0 {α : Type} (l : List α) : decide (l.length = 0) = l.isEmpty := by cases l <;> simp
def GotP (rb : Nat) (s : ByteArray) (w : World) (r : Option (List EL × Nat)) (e : Ending) (w' : World) : Prop :=
  Kp rb w w' ∧ ∃ (A : Option Addr) (n c j : Nat), e = .returned (.tuple #[.slice A n c, .bool r.isSome]) ∧ Rd rb s j w' ∧ j ≤ s.size ∧ n ≤ 4000000 ∧ ∀ l m, r = some (l, m) → m = j ∧ l.length = n ∧ PatF w' (Since w.heap.size w') l (.slice A n c)
def PatTo (rb : Nat) (s : ByteArray) (d : Nat) (Q : Nat → Option (List EL × Nat)) : Prop := ∀ (i : Nat) (w : World), Rd rb s i w → i ≤ s.size → Calls Tryz.prog 195 #[pt rb, .int .i64 d] w (GotP rb s w (Q i))
def GotV (rb : Nat) (s : ByteArray) (w : World) (r : Option (VA × Nat)) (e : Ending) (w' : World) : Prop :=
  Kp rb w w' ∧ ∃ (X : ByteArray) (df : Bool) (A : Option Addr) (n c j : Nat), e = .returned (.tuple #[.agg #[.string X, .bool df, .slice A n c], .bool r.isSome]) ∧ Rd rb s j w' ∧ j ≤ s.size ∧ n ≤ 4000000 ∧
    ∀ x m, r = some (x, m) → m = j ∧ ∃ l, x = .mk X df l ∧ l.length = n ∧ PatF w' (Since w.heap.size w') l (.slice A n c)
abbrev zV : Array Value := #[.string ⟨#[]⟩, .bool false, .slice none 0 0]
set_option maxRecDepth 100000 in
theorem res3v {fn : Func} {A M : Nat} {tmps : Array Value} {w : World} {b : Nat} {x0 x1 x2 v : Value} {t : TypeId} (hres : fn.results = #[.cell A 281, .tmp M]) (ha : tmps.getD A undef = .pointer (some ⟨b, 0, none⟩)) (hm : tmps.getD M undef = v)
    (hb : BoxAt w b #[x0, x1, x2] t) : (results fn tmps).run Tryz.prog w = .ok (.tuple #[.agg #[x0, x1, x2], v]) w := by
  obtain ⟨q0, q1, q2, _⟩ := cells3 hb
  have ha' : tmps[A]?.getD undef = .pointer (some ⟨b, 0, none⟩) := by rw [← ha]; simp
  have hm' : tmps[M]?.getD undef = v := by rw [← hm]; simp
  simp [results, hres, ha', hm', go_sem, q0, q1, q2]
theorem end3v {fn : Func} {R : Ending → World → Prop} {a : Act} {w2 : World} {A M b : Nat} {x0 x1 x2 v : Value} {t : TypeId} (hres : fn.results = #[.cell A 281, .tmp M]) (hbox : BoxAt w2 b #[x0, x1, x2] t)
    (ha : a.tmps.getD A undef = .pointer (some ⟨b, 0, none⟩)) (hm : a.tmps.getD M undef = v) (hd : a.defers = []) (hR : R (.returned (.tuple #[.agg #[x0, x1, x2], v])) w2) : bodyPost Tryz.prog fn R .ret a w2 :=
  bodyPost_ret (res3v hres ha hm hbox) hd hR
theorem gotV_none {rb : Nat} {s : ByteArray} {w w2 : World} {j : Nat} (hK : Kp rb w w2) (hR : Rd rb s j w2) (hj : j ≤ s.size) : GotV rb s w none (.returned (.tuple #[.agg zV, .bool false])) w2 :=
  ⟨hK, ⟨#[]⟩, false, none, 0, 0, j, rfl, hR, hj, Nat.zero_le _, fun x m h => by cases h⟩
set_option maxHeartbeats 8000000 in
set_option maxRecDepth 100000 in
theorem variant_any {rb : Nat} {s : ByteArray} {d : Nat} {P : Nat → Res} (hs : s.size ≤ 1000000) (hd : d ≤ 4000) (hPat : PatTo rb s d (patS P s)) (i : Nat) (w : World) (hr : Rd rb s i w) (hi : i ≤ s.size) :
    Calls Tryz.prog 266 #[pt rb, .int .i64 d] w (GotV rb s w (variS P s i)) := by
  have HR := Lib.hid hr
  have hlt := hr.lt
  obtain ⟨R, hRR⟩ : ∃ R, variS P s i = R := ⟨_, rfl⟩
  rw [hRR]
  unfold variS at hRR
  have hT1 := fun W (h : Rd rb s i W) => take_any 42 W h (by omega) hi
  obtain ⟨b1, hb1⟩ : ∃ b, isAt s i 42 = b := ⟨_, rfl⟩
  have hi1 : (if b1 = true then i + 1 else i) ≤ s.size := by
    cases b1
    · exact hi
    · exact isAt_lt hb1
  rw [hb1] at hT1 hRR
  obtain ⟨i1, hi1e⟩ : ∃ i1, (if b1 = true then i + 1 else i) = i1 := ⟨_, rfl⟩
  rw [hi1e] at hT1 hi1 hRR
  have hT2 := fun W (h : Rd rb s i1 W) => take_any 91 W h (by omega) hi1
  obtain ⟨b2, hb2⟩ : ∃ b, isAt s i1 91 = b := ⟨_, rfl⟩
  have hi2 : b2 = true → i1 + 1 ≤ s.size := fun h => isAt_lt (hb2.trans h)
  rw [hb2] at hT2 hRR
  have HT1 := Lib.hid hT1
  have HT2 := Lib.hid hT2
  have Hpat := Lib.hid hPat
  have hd0 : (d : Int) ≤ 4000 := by omega
  clear hr hT1 hb1 hi1e hT2 hb2 hPat
  unfold pt at HT1 HT2 ⊢
  cases b2
  case false =>
    rw [if_neg (by simp)] at hRR
    subst hRR
    go_enter Tryz.func266, Tryz.ntmps266
    go_wp2_with fail
    go_at_call 253
    refine (HT1.out _ (HR.out.alloc _)).mono ?_
    rintro e w1 ⟨rfl, g1, g2⟩
    have G1 := Lib.hid g1
    have HK := Lib.hid (((Kp.refl rb w).alloc (Nat.le_of_lt hlt) _).trans g2)
    have hc := BoxAt.kp (BoxAt.new w zV 281) g2 (by omega)
    have hcl := hc.lt
    have HC := Lib.hid hc
    clear g1 g2 hc
    go_wp2_with fail
    go_at_call 253
    refine (HT2.out _ G1.out).mono ?_
    rintro e w2 ⟨rfl, g3, g4⟩
    have G3 := Lib.hid (show Rd rb s i1 w2 by simpa using g3)
    have HK2 := Lib.hid (HK.out.trans g4)
    have hc2 := BoxAt.kp HC.out g4 (by omega)
    have hcl2 := hc2.lt
    have HC2 := Lib.hid hc2
    obtain ⟨q0, q1, q2, p0, p1, p2⟩ := cells3 hc2
    clear g3 g4 hc2
    go_wp2
    exact end3v Tryz.results266 (box_set3 HC2.out _ _ _) rfl rfl rfl (gotV_none (HK2.out.set3 (Nat.le_refl _) hlt _ _ _) (G3.out.set3 (by omega) _ _ _) hi1)
  have hi3 := hi2 rfl
  rw [if_pos rfl] at hRR
  have hB := bl_ok s (i1 + 1) hi3
  have hP1 := fun W (h : Rd rb s (i1 + 1) W) => pass_any endBlank W h (by omega) hi3
  obtain ⟨a, ha⟩ : ∃ a, bl s (i1 + 1) = a := ⟨_, rfl⟩
  rw [ha] at hB hP1 hRR
  have hP2 := fun W (h : Rd rb s a W) => pass_any endName W h (by omega) hB.2
  have hP3 := fun W (h : Rd rb s a W) => pass_any endNumber W h (by omega) hB.2
  have hn := nm_ok s a hB.2
  have hu := nu_ok s a hB.2
  have he1 := ext_empty s a (nm s a) hn.1 hn.2
  have hk : keyE s a = if nm s a = a then nu s a else nm s a := rfl
  obtain ⟨n1, hn1⟩ : ∃ n1, nm s a = n1 := ⟨_, rfl⟩
  obtain ⟨u1, hu1⟩ : ∃ u1, nu s a = u1 := ⟨_, rfl⟩
  rw [hn1] at hn he1 hk hP2
  rw [hu1] at hu hk hP3
  obtain ⟨k, hke⟩ : ∃ k, keyE s a = k := ⟨_, rfl⟩
  rw [hke] at hk hRR
  have hk2 : a ≤ k ∧ k ≤ s.size := by rw [hk]; split <;> omega
  have he2 := ext_empty s a k hk2.1 hk2.2
  have hP4 := fun W (h : Rd rb s k W) => pass_any endBlank W h (by omega) hk2.2
  have hB2 := bl_ok s k hk2.2
  obtain ⟨m, hm⟩ : ∃ m, bl s k = m := ⟨_, rfl⟩
  rw [hm] at hB2 hP4 hRR
  have hT3 := fun W (h : Rd rb s m W) => take_any 93 W h (by omega) hB2.2
  obtain ⟨b3, hb3⟩ : ∃ b, isAt s m 93 = b := ⟨_, rfl⟩
  have hm1 : b3 = true → m + 1 ≤ s.size := fun h => isAt_lt (hb3.trans h)
  rw [hb3] at hT3 hRR
  obtain ⟨X1, hX1⟩ : ∃ X, s.extract a n1 = X := ⟨_, rfl⟩
  obtain ⟨X, hX⟩ : ∃ X, s.extract a k = X := ⟨_, rfl⟩
  have hX2 : n1 ≠ a → X1 = X := fun h => by rw [← hX1, ← hX, hk, if_neg h]
  have hX3 : n1 = a → s.extract a u1 = X ∧ u1 = k := fun h => by rw [← hX, hk, if_pos h]; exact ⟨rfl, rfl⟩
  have hk5 : n1 ≠ a → n1 = k := fun h => by rw [hk, if_neg h]
  rw [hX1] at he1 hP2
  rw [hX] at he2 hRR
  have HP1 := Lib.hid hP1
  have HP2 := Lib.hid hP2
  have HP3 := Lib.hid hP3
  have HP4 := Lib.hid hP4
  have HT3 := Lib.hid hT3
  have HRR := Lib.hid hRR
  have HE1 := Lib.hid he1
  have HE2 := Lib.hid he2
  have HX2 := Lib.hid hX2
  have HX3 := Lib.hid hX3
  have Hk5 := Lib.hid hk5
  have Hm1 := Lib.hid hm1
  clear hP1 ha hP2 hP3 hk hn1 hu1 hke hP4 hm hT3 hb3 hX1 hX hX2 hX3 hk5 he1 he2 hRR hi2 hm1
  unfold pt at HP1 HP2 HP3 HP4 HT3
  go_enter Tryz.func266, Tryz.ntmps266
  go_wp2_with fail
  go_at_call 253
  refine (HT1.out _ (HR.out.alloc _)).mono ?_
  rintro e w1 ⟨rfl, g1, g2⟩
  have G1 := Lib.hid g1
  have HK := Lib.hid (show Kp rb (w.alloc (.cells zV 281)) w1 from g2)
  clear g1 g2
  go_wp2_with fail
  go_at_call 253
  refine (HT2.out _ G1.out).mono ?_
  rintro e w2 ⟨rfl, g1, g2⟩
  have G1 := Lib.hid (show Rd rb s (i1 + 1) w2 by simpa using g1)
  have HK2 := Lib.hid (HK.out.trans g2)
  clear g1 g2
  go_wp2_with fail
  go_at_call 218
  refine (HP1.out _ G1.out).mono ?_
  rintro e w3 ⟨rfl, g1, g2⟩
  have G3 := Lib.hid g1
  have HK3 := Lib.hid (HK2.out.trans g2)
  clear g1 g2
  go_wp2_with fail
  go_at_call 218
  refine (HP2.out _ G3.out).mono ?_
  rintro e w4 ⟨rfl, g1, g2⟩
  have G4 := Lib.hid g1
  have HK4 := Lib.hid (HK3.out.trans g2)
  clear g1 g2
  obtain ⟨x1, hx1⟩ : ∃ x, X1.toList.isEmpty = x := ⟨_, rfl⟩
  go_upto_if 22 with fail
  go_cut [7] (fun v wx => v = .string X ∧ Hid (Rd rb s k wx) ∧ Hid (Kp rb (w.alloc (.cells zV 281)) wx))
  case first =>
    cases x1
    case false =>
      have hne : n1 ≠ a := fun h => by have := HE1.out; rw [hx1, decide_eq_true h] at this; cases this
      have HX := Lib.hid (HX2.out hne)
      have Hk := Lib.hid (Hk5.out hne)
      clear hne
      go_wp2_with fail
      go_meet
      exact ⟨by rw [HX.out], by rw [← Hk.out]; exact G4.out, HK4.out⟩
    case true =>
      have hne : n1 = a := by have := HE1.out; rw [hx1] at this; exact of_decide_eq_true this.symm
      obtain ⟨hX, hk⟩ := HX3.out hne
      have G4a := Lib.hid (show Rd rb s a w4 by rw [← hne]; exact G4.out)
      have HX := Lib.hid hX
      have Hk := Lib.hid hk
      clear hne hX hk
      go_wp2_with fail
      go_at_call 218
      refine (HP3.out _ G4a.out).mono ?_
      rintro e w5 ⟨rfl, g1, g2⟩
      have G5 := Lib.hid g1
      have HK5 := Lib.hid (HK4.out.trans g2)
      clear g1 g2
      go_wp2_with fail
      go_meet
      exact ⟨by rw [HX.out], by rw [← Hk.out]; exact G5.out, HK5.out⟩
  obtain ⟨rfl, HRk, HKk⟩ := hcut
  clear HP2 HP3 HE1 HX2 HX3 Hk5 G1 G3 G4 HK HK2 HK3 HK4 hx1
  go_wp2_with fail
  go_at_call 218
  refine (HP4.out _ HRk.out).mono ?_
  rintro e w5 ⟨rfl, g1, g2⟩
  have G5 := Lib.hid g1
  have HK5 := Lib.hid (HKk.out.trans g2)
  have hc5 := BoxAt.kp (BoxAt.new w zV 281) HK5.out (by omega)
  have hcl5 := hc5.lt
  have HC5 := Lib.hid hc5
  clear g1 g2
  have HA := Lib.hid ((Kp.refl rb w).alloc (Nat.le_of_lt hlt) (.cells zV 281))
  cases hx2 : X.toList.isEmpty
  case true =>
    have hka : k = a := by have := HE2.out; rw [hx2] at this; exact of_decide_eq_true this.symm
    have hR := HRR.out
    rw [if_pos hka] at hR
    subst hR
    obtain ⟨q0, q1, q2, p0, p1, p2⟩ := cells3 hc5
    clear hka hc5
    go_wp2
    exact end3v Tryz.results266 (box_set3 HC5.out _ _ _) rfl rfl rfl (gotV_none ((HA.out.trans HK5.out).set3 (Nat.le_refl _) hlt _ _ _) (G5.out.set3 (by omega) _ _ _) hB2.2)
  have hka : k ≠ a := fun h => by have := HE2.out; rw [hx2, decide_eq_true h] at this; cases this
  have hR := HRR.out
  rw [if_neg hka] at hR
  have HR2 := Lib.hid hR
  clear hka hR hc5
  cases b3
  case false =>
    have hR := HR2.out
    rw [if_neg (by simp)] at hR
    subst hR
    go_wp2_with fail
    go_at_call 253
    refine (HT3.out _ G5.out).mono ?_
    rintro e w6 ⟨rfl, g1, g2⟩
    have G6 := Lib.hid (show Rd rb s m w6 by simpa using g1)
    have HK6 := Lib.hid (HK5.out.trans g2)
    have hc6 := BoxAt.kp HC5.out g2 (by omega)
    have hcl6 := hc6.lt
    have HC6 := Lib.hid hc6
    obtain ⟨q0, q1, q2, p0, p1, p2⟩ := cells3 hc6
    clear g1 g2 hc6
    go_wp2
    exact end3v Tryz.results266 (box_set3 HC6.out _ _ _) rfl rfl rfl (gotV_none ((HA.out.trans HK6.out).set3 (Nat.le_refl _) hlt _ _ _) (G6.out.set3 (by omega) _ _ _) hB2.2)
  have hR := HR2.out
  rw [if_pos rfl] at hR
  obtain ⟨r, hr⟩ : ∃ r, patS P s (m + 1) = r := ⟨_, rfl⟩
  have hm1 := Hm1.out rfl
  have hPt := fun W h => Hpat.out (m + 1) W h hm1
  rw [hr] at hPt hR
  have HPt := Lib.hid hPt
  have HR3 := Lib.hid hR
  unfold pt at HPt
  clear hR hr hPt
  go_wp2_with fail
  go_at_call 253
  refine (HT3.out _ G5.out).mono ?_
  rintro e w6 ⟨rfl, g1, g2⟩
  have G6 := Lib.hid (show Rd rb s (m + 1) w6 by simpa using g1)
  have HK6 := Lib.hid (HK5.out.trans g2)
  have hs6 := HK6.out.size
  rw [World.size_alloc] at hs6
  clear g1 g2
  go_wp2_with fail
  go_at_call 195
  refine (HPt.out _ G6.out).mono ?_
  rintro e w7 ⟨h1, A, n, c, j, rfl, h2, hj, hn4, h3⟩
  have HK7 := Lib.hid (HK6.out.trans h1)
  have hc7 := BoxAt.kp (BoxAt.new w zV 281) HK7.out (by omega)
  have hcl7 := hc7.lt
  have HC7 := Lib.hid hc7
  have H2 := Lib.hid h2
  have H3 := Lib.hid h3
  have d0 := h2.c0
  have d1 := h2.c1
  have hl7 := h2.lt
  have hj0 : (j : Int) ≤ 1000000 := by omega
  have hss : (s.size : Int) ≤ 1000000 := by omega
  have hn0 : (n : Int) ≤ 4000000 := by omega
  obtain ⟨il, hil⟩ : ∃ b, isAt s j 10 = b := ⟨_, rfl⟩
  have Hil := Lib.hid hil
  clear h1 h2 h3 hc7 HPt hil
  go_upto_region 12 with fail
  go_cut [10] (fun v wx => v = .bool il ∧ wx = w7.drew)
  case first =>
    have hil := Hil.out
    unfold isAt at hil
    by_cases hjl : j < s.size
    · have z1 : decide ((j : Int) < (s.size : Int)) = true := decide_eq_true (by omega)
      have z2 : (j : Int) < (s.size : Int) := by omega
      have z3 : ((s[j].toNat : Int) == 10) = il := by
        rw [decide_eq_true hjl, Bool.true_and, at0_get _ _ (by rw [size_data]; exact hjl)] at hil
        rw [← hil]
        show ((s[j].toNat : Int) == 10) = (s[j] == 10)
        rw [Bool.eq_iff_iff, beq_iff_eq, beq_iff_eq, ← UInt8.toNat_inj]
        simp
        omega
      clear hil
      go_region
      go_wp2_with fail
      go_meet
      exact ⟨rfl, rfl⟩
    · have z1 : decide ((j : Int) < (s.size : Int)) = false := decide_eq_false (by omega)
      rw [decide_eq_false hjl, Bool.false_and] at hil
      subst hil
      go_region
      go_wp2_with fail
      go_meet
      exact ⟨rfl, rfl⟩
  obtain ⟨rfl, rfl⟩ := hcut
  obtain ⟨q0, q1, q2, p0, p1, p2⟩ := cells3 HC7.out
  have hA := HA.out.trans HK7.out
  have HKf := Lib.hid hA.drew
  clear hA d0 d1
  cases r with
  | none =>
    have hR := HR3.out
    dsimp only at hR
    subst hR
    go_wp2
    exact end3v Tryz.results266 (box_set3 HC7.out.drew _ _ _) rfl rfl rfl ⟨HKf.out.set3 (Nat.le_refl _) hlt _ _ _, X, b1, A, n, c, j, rfl, H2.out.drew.set3 (by omega) _ _ _, hj, hn4, fun x q h => by cases h⟩
  | some lm =>
    obtain ⟨l, q⟩ := lm
    obtain ⟨rfl, hln, hpt⟩ := H3.out l q rfl
    have hR := HR3.out
    dsimp only at hR
    rw [Hil.out, ← len0, hln] at hR
    have HR4 := Lib.hid hR
    have HPF := Lib.hid hpt
    have Hln := Lib.hid hln
    clear hR hpt hln
    cases il
    case false =>
      have hR := HR4.out
      rw [Bool.false_and, if_neg (by simp)] at hR
      subst hR
      go_wp2
      exact end3v Tryz.results266 (box_set3 HC7.out.drew _ _ _) rfl rfl rfl ⟨HKf.out.set3 (Nat.le_refl _) hlt _ _ _, X, b1, A, n, c, q, rfl, H2.out.drew.set3 (by omega) _ _ _, hj, hn4, fun x q h => by cases h⟩
    by_cases h0 : 0 < n
    · have z : decide ((0 : Int) < (n : Int)) = true := decide_eq_true (by omega)
      have hR := HR4.out
      rw [decide_eq_false (show ¬ n = 0 by omega), if_pos (by decide)] at hR
      subst hR
      go_wp2
      refine end3v Tryz.results266 (box_set3 HC7.out.drew _ _ _) rfl rfl rfl ⟨HKf.out.set3 (Nat.le_refl _) hlt _ _ _, X, b1, A, n, c, q, rfl, H2.out.drew.set3 (by omega) _ _ _, hj, hn4, fun x q' h => ?_⟩
      cases h
      refine ⟨rfl, l, rfl, Hln.out, PatF.carry (fun z hz => ?_) HPF.out⟩
      obtain ⟨hz1, hz2⟩ := hz
      refine ⟨⟨by omega, ?_⟩, set3_heap w7 w.heap.size (.string X) (.bool b1) (.slice A n c) z (by omega)⟩
      show z < (set3 w7 w.heap.size (.string X) (.bool b1) (.slice A n c)).heap.size
      rw [set3_size]
      exact hz2
    · have z : decide ((0 : Int) < (n : Int)) = false := decide_eq_false (by omega)
      have hR := HR4.out
      rw [decide_eq_true (show n = 0 by omega), if_neg (by decide)] at hR
      subst hR
      go_wp2
      exact end3v Tryz.results266 (box_set3 HC7.out.drew _ _ _) rfl rfl rfl ⟨HKf.out.set3 (Nat.le_refl _) hlt _ _ _, X, b1, A, n, c, q, rfl, H2.out.drew.set3 (by omega) _ _ _, hj, hn4, fun x q h => by cases h⟩
end Go.Proofs.YtpgiboblonlddaaGreatDoor

namespace Go.Proofs.YtpgiboblonlddaaGreatDoor
open Go.RowKit
set_option linter.unusedVariables false
set_option linter.unusedSimpArgs false
def GotPC (s : ByteArray) (w : World) (r : Option (List EL × Nat)) (e : Ending) (w' : World) : Prop :=
  Below w.heap.size w w' ∧ ∃ (A : Option Addr) (n c j : Nat), e = .returned (.tuple #[.slice A n c, .int .i64 j, .bool r.isSome]) ∧ j ≤ s.size ∧ n ≤ 4000000 ∧
    ∀ l m, r = some (l, m) → m = j ∧ l.length = n ∧ PatF w' (Since w.heap.size w') l (.slice A n c)
def PatCall (s : ByteArray) : Prop := ∀ (i : Nat) (w : World), i ≤ s.size → Calls Tryz.prog 167 #[.string s, .int .i64 i] w (GotPC s w (patS (placeS s 20) s i))
def GotN (s : ByteArray) (w : World) (r : Option (ByteArray × List EL × Nat)) (e : Ending) (w' : World) : Prop :=
  Below w.heap.size w w' ∧ ∃ (X : ByteArray) (A : Option Addr) (n c j : Nat), e = .returned (.tuple #[.agg #[.string X, .slice A n c], .int .i64 j, .bool r.isSome]) ∧ j ≤ s.size ∧ n ≤ 4000000 ∧
    ∀ x l m, r = some (x, l, m) → x = X ∧ m = j ∧ l.length = n ∧ PatF w' (Since w.heap.size w') l (.slice A n c)
abbrev zAt : Array Value := #[.string ⟨#[]⟩, .slice none 0 0]
set_option maxRecDepth 100000 in
theorem res2a {fn : Func} {A M N : Nat} {tmps : Array Value} {w : World} {b : Nat} {x0 x1 u v : Value} {t : TypeId} (hres : fn.results = #[.cell A 128, .tmp M, .tmp N]) (ha : tmps.getD A undef = .pointer (some ⟨b, 0, none⟩)) (hm : tmps.getD M undef = u) (hn : tmps.getD N undef = v)
    (hb : BoxAt w b #[x0, x1] t) : (results fn tmps).run Tryz.prog w = .ok (.tuple #[.agg #[x0, x1], u, v]) w := by
  have q0 := hb.cell 0
  have q1 := hb.cell 1
  simp at q0 q1
  have ha' : tmps[A]?.getD undef = .pointer (some ⟨b, 0, none⟩) := by rw [← ha]; simp
  have hm' : tmps[M]?.getD undef = u := by rw [← hm]; simp
  have hn' : tmps[N]?.getD undef = v := by rw [← hn]; simp
  simp [results, hres, ha', hm', hn', go_sem, q0, q1]
theorem end2a {fn : Func} {R : Ending → World → Prop} {a : Act} {w2 : World} {A M N b : Nat} {x0 x1 u v : Value} {t : TypeId} (hres : fn.results = #[.cell A 128, .tmp M, .tmp N]) (hbox : BoxAt w2 b #[x0, x1] t)
    (ha : a.tmps.getD A undef = .pointer (some ⟨b, 0, none⟩)) (hm : a.tmps.getD M undef = u) (hn : a.tmps.getD N undef = v) (hd : a.defers = []) (hR : R (.returned (.tuple #[.agg #[x0, x1], u, v])) w2) : bodyPost Tryz.prog fn R .ret a w2 :=
  bodyPost_ret (res2a hres ha hm hn hbox) hd hR
theorem box_set2 {w : World} {E : Nat} {x0 x1 : Value} {t : TypeId} (h : BoxAt w E #[x0, x1] t) (y0 y1 : Value) : BoxAt ((w.setCell ⟨E, 0, none⟩ y0).setCell ⟨E, 1, none⟩ y1) E #[y0, y1] t := by
  unfold BoxAt at h ⊢
  simp [World.setCell, Array.getElem?_modify, h]
theorem below_set2 {B : Nat} {a w : World} (h : Below B a w) {b : Nat} (hb : B ≤ b) (x0 x1 : Value) : Below B a ((w.setCell ⟨b, 0, none⟩ x0).setCell ⟨b, 1, none⟩ x1) := (h.setCell (p := ⟨b, 0, none⟩) hb x0).setCell (p := ⟨b, 1, none⟩) hb x1
theorem set2_heap (w : World) (b : Nat) (x0 x1 : Value) (k : Nat) (hk : k ≠ b) : ((w.setCell ⟨b, 0, none⟩ x0).setCell ⟨b, 1, none⟩ x1).heap[k]? = w.heap[k]? := by
  rw [Below.heap_setCell _ _ _ k hk, Below.heap_setCell _ _ _ k hk]
theorem set2_size (w : World) (b : Nat) (x0 x1 : Value) : ((w.setCell ⟨b, 0, none⟩ x0).setCell ⟨b, 1, none⟩ x1).heap.size = w.heap.size := by simp
theorem pat_set2 {w w2 : World} {l : List EL} {v : Value} (h : PatF w2 (Since (w.heap.size + 1) w2) l v) (x0 x1 : Value) : PatF ((w2.setCell ⟨w.heap.size, 0, none⟩ x0).setCell ⟨w.heap.size, 1, none⟩ x1) (Since w.heap.size ((w2.setCell ⟨w.heap.size, 0, none⟩ x0).setCell ⟨w.heap.size, 1, none⟩ x1)) l v :=
  PatF.carry (fun b hb => ⟨⟨by have := hb.1; omega, by rw [set2_size]; exact hb.2⟩, set2_heap _ _ _ _ b (by have := hb.1; omega)⟩) h
set_option maxHeartbeats 2000000 in
set_option maxRecDepth 100000 in
theorem named_call {s : ByteArray} (hPC : PatCall s) (hs : s.size ≤ 1000000) (i : Nat) (hi : i ≤ s.size) (w : World) : Calls Tryz.prog 139 #[.string s, .int .i64 i] w (GotN s w (namedS s i)) := by
  have hN := fun W => ((endName (s := s)).2 i W (by omega) hi).2.2
  have hnk := nm_ok s i hi
  obtain ⟨R, hR⟩ : ∃ R, namedS s i = R := ⟨_, rfl⟩
  rw [hR]
  unfold namedS at hR
  obtain ⟨m, hm⟩ : ∃ m, nm s i = m := ⟨_, rfl⟩
  rw [hm] at hN hnk hR
  have hS := fun W => ((endSpaces (s := s)).2 m W (by omega) hnk.2).2.2
  have hsk : m ≤ sp s m ∧ sp s m ≤ s.size := ⟨sp_ge s m, by have := behN_le spB s.data.toList m (by rw [size_data]; exact hnk.2); rw [size_data] at this; exact this⟩
  obtain ⟨q, hq⟩ : ∃ q, sp s m = q := ⟨_, rfl⟩
  rw [hq] at hS hsk hR
  have hx := isAt_prefix s q 61 hsk.2
  have hp := fun W => Tryz.strings_HasPrefix (s.extract q s.size) ⟨#[61]⟩ W
  rw [hx] at hp
  obtain ⟨b, hb⟩ : ∃ b, isAt s q 61 = b := ⟨_, rfl⟩
  have hq1 : b = true → q + 1 ≤ s.size := fun h => isAt_lt (hb.trans h)
  rw [hb] at hp hR
  have HN := Lib.hid hN
  have HS := Lib.hid hS
  have HP := Lib.hid hp
  have hi0 : (i : Int) ≤ 1000000 := by omega
  have hm0 : (m : Int) ≤ 1000000 := by omega
  have hq0 : (q : Int) ≤ 1000000 := by omega
  have hqs : (q : Int) ≤ (s.size : Int) := by omega
  have hss : (s.size : Int) ≤ 1000000 := by omega
  have hq2 : (0 : Int) ≤ (q : Int) := by omega
  have hc0 := BoxAt.new w zAt 128
  have HC0 := Lib.hid hc0
  clear hN hS hp hx hm hq hb hc0
  go_enter Tryz.func139, Tryz.ntmps139
  go_wp2_with fail
  go_at_call 166
  refine (HN.out _).mono ?_
  rintro e w1 ⟨rfl, hb1⟩
  have HB1 := Lib.hid (((Below.refl w.heap.size w).alloc (Nat.le_refl _) (.cells zAt 128)).trans (hb1.mono (by simp)))
  have HC1 := Lib.hid (BoxAt.later HC0.out hb1)
  clear hb1
  go_wp2_with fail
  go_at_call 98
  refine (HS.out _).mono ?_
  rintro e w2 ⟨rfl, hb2⟩
  have HB2 := Lib.hid (HB1.out.trans (hb2.mono HB1.out.size))
  have hc2 := BoxAt.later HC1.out hb2
  have HC2 := Lib.hid hc2
  have q0 := hc2.cell 0
  have q1 := hc2.cell 1
  have f0 := Lib.frozen_of_heap hc2 0
  have f1 := Lib.frozen_of_heap hc2 1
  have hlt := hc2.lt
  simp at q0 q1
  clear hb2 hc2 HN HS HC0 HC1
  by_cases hmi : m = i
  · rw [if_pos hmi] at hR
    subst hR
    have d1 : ((m : Int) == (i : Int)) = true := beq_iff_eq.2 (by omega)
    clear hmi
    go_wp2
    exact end2a Tryz.results139 (box_set2 HC2.out _ _) rfl rfl rfl rfl ⟨below_set2 HB2.out (Nat.le_refl _) _ _, ⟨#[]⟩, none, 0, 0, 0, rfl, Nat.zero_le _, Nat.zero_le _, fun x l m h => by cases h⟩
  have d1 : ((m : Int) == (i : Int)) = false := beq_eq_false_iff_ne.2 (by omega)
  have d2 : ¬ (m : Int) = (i : Int) := by omega
  rw [if_neg hmi] at hR
  cases b
  case false =>
    rw [if_neg (by simp)] at hR
    subst hR
    clear hmi
    go_wp2_with fail
    go_at_call 127
    refine (HP.out _).mono ?_
    rintro e w3 ⟨rfl, rfl⟩
    go_wp2
    exact end2a Tryz.results139 (box_set2 HC2.out _ _) rfl rfl rfl rfl ⟨below_set2 HB2.out (Nat.le_refl _) _ _, ⟨#[]⟩, none, 0, 0, 0, rfl, Nat.zero_le _, Nat.zero_le _, fun x l m h => by cases h⟩
  rw [if_pos rfl] at hR
  have hq3 := hq1 rfl
  have hPt := fun W => hPC (q + 1) W hq3
  obtain ⟨r, hr⟩ : ∃ r, patS (placeS s 20) s (q + 1) = r := ⟨_, rfl⟩
  rw [hr, show ((q + 1 : Nat) : Int) = (q : Int) + 1 by omega] at hPt
  rw [hr] at hR
  have HPt := Lib.hid hPt
  have HR := Lib.hid hR
  have hmi1 : (i : Int) ≤ (m : Int) := by omega
  have hms : (m : Int) ≤ (s.size : Int) := by omega
  clear hPt hr hR hq1 hmi
  go_wp2_with fail
  go_at_call 127
  refine (HP.out _).mono ?_
  rintro e w3 ⟨rfl, rfl⟩
  go_wp2_with fail
  go_at_call 167
  refine (HPt.out _).mono ?_
  rintro e w4 ⟨hb4, A, n, c, j, rfl, hj, hn4, h3⟩
  have HB4 := Lib.hid (HB2.out.trans (hb4.mono HB2.out.size))
  have hc4 := BoxAt.later HC2.out hb4
  have HC4 := Lib.hid hc4
  have e0 := hc4.cell 0
  have e1 := hc4.cell 1
  have g0 := Lib.frozen_of_heap hc4 0
  have g1 := Lib.frozen_of_heap hc4 1
  have hlt4 := hc4.lt
  simp at e0 e1
  have H3 := Lib.hid h3
  have hs4 := hb4.size
  have hj0 : (j : Int) ≤ 1000000 := by omega
  have hj1 : (0 : Int) ≤ (j : Int) := by omega
  clear hb4 hc4 h3 q0 q1 f0 f1
  obtain ⟨ib, hib⟩ : ∃ ib : Bool, (decide (j = s.size) || isAt s j 10) = ib := ⟨_, rfl⟩
  have hfin : R.isSome = (r.isSome && ib) ∧ ∀ x l m', R = some (x, l, m') → x = s.extract i m ∧ m' = j ∧ l.length = n ∧ PatF w4 (Since (w.heap.size + 1) w4) l (.slice A n c) := by
    have hR := HR.out
    cases r with
    | none => dsimp only at hR; subst hR; exact ⟨rfl, fun x l m' h => by cases h⟩
    | some le =>
      obtain ⟨l, e⟩ := le
      obtain ⟨rfl, h5, h6⟩ := H3.out l e rfl
      dsimp only at hR
      by_cases hc : e = s.size ∨ isAt s e 10 = true
      · rw [if_pos hc] at hR
        subst hR
        have : ib = true := by
          rw [← hib]
          rcases hc with h | h
          · rw [decide_eq_true h]; rfl
          · rw [h, Bool.or_true]
        rw [this]
        refine ⟨rfl, fun x l' m' h => ?_⟩
        cases h
        exact ⟨rfl, rfl, h5, PatF.carry (fun b hb => ⟨⟨by have := hb.1; have := HB2.out.size; omega, hb.2⟩, rfl⟩) h6⟩
      · rw [if_neg hc] at hR
        subst hR
        have : ib = false := by
          rw [← hib]
          simp only [not_or, Bool.not_eq_true] at hc
          rw [decide_eq_false hc.1, hc.2]; rfl
        rw [this, Bool.and_false]
        exact ⟨rfl, fun x l' m' h => by cases h⟩
  obtain ⟨rs, hrs⟩ : ∃ q : Bool, r.isSome = q := ⟨_, rfl⟩
  rw [hrs] at hfin ⊢
  have Hfin := Lib.hid hfin
  clear hfin hrs H3 HR
  by_cases hje : j = s.size
  · have d3 : ((j : Int) == (s.size : Int)) = true := beq_iff_eq.2 (by omega)
    have hib2 : ib = true := by rw [← hib, decide_eq_true hje]; rfl
    subst hib2
    clear hib hje
    cases rs
    all_goals
      go_wp2
      exact end2a Tryz.results139 (box_set2 HC4.out _ _) rfl rfl rfl rfl ⟨below_set2 HB4.out (Nat.le_refl _) _ _, s.extract i m, A, n, c, j, by rw [Hfin.out.1]; rfl, hj, hn4, fun x l m' h => by
        obtain ⟨h1, h2, h3, h4⟩ := Hfin.out.2 x l m' h
        exact ⟨h1, h2, h3, pat_set2 h4 _ _⟩⟩
  · have d3 : ((j : Int) == (s.size : Int)) = false := beq_eq_false_iff_ne.2 (by omega)
    have hjl : j < s.size := by omega
    have d4 : (j : Int) < (s.size : Int) := by omega
    have hg := isAt_get s j hjl 10
    rw [decide_eq_false hje, Bool.false_or] at hib
    rw [hg] at hib
    have hib3 : (((s[j]'hjl).toNat : Int) == 10) = ib := by rw [← hib, Bool.eq_iff_iff, beq_iff_eq, beq_iff_eq]; show _ ↔ (s[j]'hjl).toNat = 10; omega
    clear hib hje hg
    cases rs
    all_goals
      go_wp2
      exact end2a Tryz.results139 (box_set2 HC4.out _ _) rfl rfl rfl rfl ⟨below_set2 HB4.out (Nat.le_refl _) _ _, s.extract i m, A, n, c, j, by rw [Hfin.out.1]; rfl, hj, hn4, fun x l m' h => by
        obtain ⟨h1, h2, h3, h4⟩ := Hfin.out.2 x l m' h
        exact ⟨h1, h2, h3, pat_set2 h4 _ _⟩⟩
end Go.Proofs.YtpgiboblonlddaaGreatDoor

namespace Go.Proofs.YtpgiboblonlddaaGreatDoor
open Go.RowKit
set_option linter.unusedVariables false
set_option linter.unusedSimpArgs false
theorem at0_byte (s : ByteArray) (q : Nat) (hc : q < s.size) (c : UInt8) : (at0 s.data.toList q == c) = ((s[q]'hc).toNat == c.toNat) := by
  have := isAt_get s q hc c
  unfold isAt at this
  rw [decide_eq_true hc, Bool.true_and] at this
  exact this
theorem pat_fin2 {w w2 : World} {l : List EL} {v : Value} (h : PatF w2 (Since (w.heap.size + 1) w2) l v) (x0 x1 : Value) (o : Obj) : PatF (((w2.setCell ⟨w.heap.size, 0, none⟩ x0).setCell ⟨w.heap.size, 1, none⟩ x1).alloc o).drew (Since w.heap.size (((w2.setCell ⟨w.heap.size, 0, none⟩ x0).setCell ⟨w.heap.size, 1, none⟩ x1).alloc o).drew) l v :=
  PatF.carry (fun b hb => by
    have h2 : b < ((w2.setCell ⟨w.heap.size, 0, none⟩ x0).setCell ⟨w.heap.size, 1, none⟩ x1).heap.size := by rw [set2_size]; exact hb.2
    exact ⟨⟨by have := hb.1; omega, by show b < (World.alloc _ o).heap.size; rw [World.size_alloc]; omega⟩, (Lib.alloc_old _ o b h2).trans (set2_heap _ _ _ _ b (by have := hb.1; omega))⟩) h
set_option maxHeartbeats 4000000 in
set_option maxRecDepth 100000 in
theorem attr_call {s : ByteArray} (hPC : PatCall s) (hs : s.size ≤ 1000000) (i : Nat) (h1i : 1 ≤ i) (hi : i ≤ s.size) (w : World) : Calls Tryz.prog 168 #[.string s, .int .i64 i] w (GotN s w (attrS s i)) := by
  have hBl := fun W => ((endBlank (s := s)).2 i W (by omega) hi).2.2
  have hbk := bl_ok s i hi
  obtain ⟨R, hR⟩ : ∃ R, attrS s i = R := ⟨_, rfl⟩
  rw [hR]
  unfold attrS at hR
  obtain ⟨q, hq⟩ : ∃ q, bl s i = q := ⟨_, rfl⟩
  rw [hq] at hBl hbk hR
  have hx := isAt_prefix s q 46 hbk.2
  have hp := fun W => Tryz.strings_HasPrefix (s.extract q s.size) ⟨#[46]⟩ W
  rw [hx] at hp
  obtain ⟨b, hb⟩ : ∃ b, isAt s q 46 = b := ⟨_, rfl⟩
  have hq1 : b = true → q + 1 ≤ s.size := fun h => isAt_lt (hb.trans h)
  rw [hb] at hp hR
  have HB := Lib.hid hBl
  have HP := Lib.hid hp
  have hq0 : (q : Int) ≤ 1000000 := by omega
  have hqs : (q : Int) ≤ (s.size : Int) := by omega
  have hss : (s.size : Int) ≤ 1000000 := by omega
  have hq2 : (1 : Int) ≤ (q : Int) := by omega
  have hq22 : (0 : Int) ≤ (q : Int) := by omega
  have hc0 := BoxAt.new w zAt 128
  have HC0 := Lib.hid hc0
  clear hBl hp hx hq hb hc0
  go_enter Tryz.func168, Tryz.ntmps168
  go_wp2_with fail
  go_at_call 196
  refine (HB.out _).mono ?_
  rintro e w1 ⟨rfl, hb1⟩
  have HB1 := Lib.hid (((Below.refl w.heap.size w).alloc (Nat.le_refl _) (.cells zAt 128)).trans (hb1.mono (by simp)))
  have hc1 := BoxAt.later HC0.out hb1
  have HC1 := Lib.hid hc1
  have q0 := hc1.cell 0
  have q1 := hc1.cell 1
  have f0 := Lib.frozen_of_heap hc1 0
  have f1 := Lib.frozen_of_heap hc1 1
  have hlt := hc1.lt
  simp at q0 q1
  clear hb1 hc1 HB HC0
  cases b
  case false =>
    rw [Bool.false_and, if_neg (by simp)] at hR
    subst hR
    go_wp2_with fail
    go_at_call 127
    refine (HP.out _).mono ?_
    rintro e w3 ⟨rfl, rfl⟩
    go_wp2
    exact end2a Tryz.results168 (box_set2 HC1.out _ _) rfl rfl rfl rfl ⟨below_set2 HB1.out (Nat.le_refl _) _ _, ⟨#[]⟩, none, 0, 0, 0, rfl, Nat.zero_le _, Nat.zero_le _, fun x l m h => by cases h⟩
  have hq3 := hq1 rfl
  rw [Bool.true_and, at0_byte s (q - 1) (by omega) 32] at hR
  obtain ⟨k, rfl⟩ : ∃ k, q = k + 1 := ⟨q - 1, by omega⟩
  have hkl : k < s.size := by omega
  have hk1 : (k : Int) < (s.size : Int) := by omega
  have hk0 : (0 : Int) ≤ (k : Int) := by omega
  have hR2 : (if ((s[k]'hkl).toNat == (32 : UInt8).toNat) = true then (match namedS s (k + 1 + 1) with
      | none => none
      | some (x, l, e) => if l.isEmpty = true then none else some (x, l, e)) else none) = R := hR
  obtain ⟨c, hc⟩ : ∃ c, (s[k]'hkl).toNat = c := ⟨_, rfl⟩
  rw [hc, show (32 : UInt8).toNat = 32 from rfl] at hR2
  clear hR hq1
  by_cases h32 : c = 32
  case neg =>
    have d1 : ((c : Int) != 32) = true := by rw [bne_iff_ne]; omega
    rw [if_neg (by rw [beq_iff_eq]; exact h32)] at hR2
    subst hR2
    clear h32
    go_wp2_with fail
    go_at_call 127
    refine (HP.out _).mono ?_
    rintro e w3 ⟨rfl, rfl⟩
    go_wp2
    exact end2a Tryz.results168 (box_set2 HC1.out _ _) rfl rfl rfl rfl ⟨below_set2 HB1.out (Nat.le_refl _) _ _, ⟨#[]⟩, none, 0, 0, 0, rfl, Nat.zero_le _, Nat.zero_le _, fun x l m h => by cases h⟩
  have d1 : ((c : Int) != 32) = false := by rw [bne_eq_false_iff_eq]; omega
  rw [if_pos (by rw [beq_iff_eq]; exact h32)] at hR2
  have hNm := fun W => named_call hPC hs (k + 1 + 1) hq3 W
  obtain ⟨r, hr⟩ : ∃ r, namedS s (k + 1 + 1) = r := ⟨_, rfl⟩
  rw [hr, show ((k + 1 + 1 : Nat) : Int) = (k : Int) + 1 + 1 by omega] at hNm
  rw [hr] at hR2
  have HNm := Lib.hid hNm
  have HR := Lib.hid hR2
  clear hNm hr hR2 h32
  go_wp2_with fail
  go_at_call 127
  refine (HP.out _).mono ?_
  rintro e w3 ⟨rfl, rfl⟩
  go_wp2_with fail
  go_at_call 139
  refine (HNm.out _).mono ?_
  rintro e w4 ⟨hb4, X, A, n, cp, j, rfl, hj, hn4, h3⟩
  have HB4 := Lib.hid (HB1.out.trans (hb4.mono HB1.out.size))
  have hc4 := BoxAt.later HC1.out hb4
  have HC4 := Lib.hid hc4
  have hlt4 := hc4.lt
  have e0 := hc4.cell 0
  have e1 := hc4.cell 1
  have g0 := Lib.frozen_of_heap hc4 0
  have g1 := Lib.frozen_of_heap hc4 1
  simp at e0 e1
  have H3 := Lib.hid h3
  have hs4 := hb4.size
  have hj0 : (j : Int) ≤ 1000000 := by omega
  have hn0 : (n : Int) ≤ 4000000 := by omega
  have hfin : R.isSome = (r.isSome && decide (0 < n)) ∧ ∀ x l m', R = some (x, l, m') → x = X ∧ m' = j ∧ l.length = n ∧ PatF w4 (Since (w.heap.size + 1) w4) l (.slice A n cp) := by
    have hR := HR.out
    cases r with
    | none => dsimp only at hR; subst hR; exact ⟨rfl, fun x l m' h => by cases h⟩
    | some le =>
      obtain ⟨x, l, e⟩ := le
      obtain ⟨h4, h5, h6, h7⟩ := H3.out x l e rfl
      dsimp only at hR
      by_cases hl : l = []
      · rw [hl] at hR
        simp at hR
        subst hR
        rw [hl] at h6
        have : n = 0 := h6.symm
        rw [this]
        exact ⟨rfl, fun x l' m' h => by cases h⟩
      · have hle : l.isEmpty = false := by cases l with
          | nil => exact absurd rfl hl
          | cons a b => rfl
        rw [hle] at hR
        simp at hR
        subst hR
        have hl0 : 0 < n := by rw [← h6]; exact List.length_pos_iff.2 hl
        rw [decide_eq_true hl0]
        refine ⟨rfl, fun x' l' m' h => ?_⟩
        cases h
        exact ⟨h4, h5, h6, PatF.carry (fun b hb => ⟨⟨by have := hb.1; have := HB1.out.size; omega, hb.2⟩, rfl⟩) h7⟩
  obtain ⟨rs, hrs⟩ : ∃ q : Bool, r.isSome = q := ⟨_, rfl⟩
  rw [hrs] at hfin ⊢
  have Hfin := Lib.hid hfin
  clear hb4 hc4 h3 hfin hrs H3 HR q0 q1 f0 f1
  cases rs
  all_goals
    go_wp2_with fail
    go_region
    all_goals (go_wp2_with fail)
    exact end2a Tryz.results168 (((box_set2 HC4.out _ _).alloc _)) rfl rfl rfl rfl ⟨((below_set2 HB4.out (Nat.le_refl _) _ _).alloc (by rw [set2_size]; omega) _).drew, X, A, n, cp, j, by rw [Hfin.out.1]; rfl, hj, hn4, fun x l m' h => by
      obtain ⟨h1, h2, h3, h4⟩ := Hfin.out.2 x l m' h
      exact ⟨h1, h2, h3, pat_fin2 h4 _ _ _⟩⟩
end Go.Proofs.YtpgiboblonlddaaGreatDoor
