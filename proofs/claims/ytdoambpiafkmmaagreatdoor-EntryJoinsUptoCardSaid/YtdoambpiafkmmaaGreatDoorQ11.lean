/-
  Several texts put together (part 11): what the law and the program call, walked; their contracts.
-/
import Derived.Test.YtdoambpiafkmmaaGreatDoorQ9
import Derived.Test.YtdoambpiafkmmaaGreatDoorQ10
import Derived.Test.YtdoambpiafkmmaaGreatDoorQ1
import Derived.Laws.AppendOwn
namespace Go.Proofs.YtdoambpiafkmmaaGreatDoor
open Go.RowKit
set_option linter.unusedVariables false
set_option linter.unusedSimpArgs false
def GotPC (s : ByteArray) (w : World) (r : Option (List EL × Nat)) (e : Ending) (w' : World) : Prop :=
  Below w.heap.size w w' ∧ ∃ (A : Option Addr) (n c j : Nat), e = .returned (.tuple #[.slice A n c, .int .i64 j, .bool r.isSome]) ∧ j ≤ s.size ∧ n ≤ 4000000 ∧
    ∀ l m, r = some (l, m) → m = j ∧ l.length = n ∧ PatF w' (Since w.heap.size w') l (.slice A n c)
def PatCall (s : ByteArray) : Prop := ∀ (i : Nat) (w : World), i ≤ s.size → Calls Tryz.prog 23 #[.string s, .int .i64 i] w (GotPC s w (patS (placeS s 20) s i))
def GotN (s : ByteArray) (w : World) (r : Option (ByteArray × List EL × Nat)) (e : Ending) (w' : World) : Prop :=
  Below w.heap.size w w' ∧ ∃ (X : ByteArray) (A : Option Addr) (n c j : Nat), e = .returned (.tuple #[.agg #[.string X, .slice A n c], .int .i64 j, .bool r.isSome]) ∧ j ≤ s.size ∧ n ≤ 4000000 ∧
    ∀ x l m, r = some (x, l, m) → x = X ∧ m = j ∧ l.length = n ∧ PatF w' (Since w.heap.size w') l (.slice A n c)
abbrev zAt : Array Value := #[.string ⟨#[]⟩, .slice none 0 0]
set_option maxRecDepth 100000 in
theorem res2a {fn : Func} {A M N : Nat} {tmps : Array Value} {w : World} {b : Nat} {x0 x1 u v : Value} {t : TypeId} (hres : fn.results = #[.cell A 82, .tmp M, .tmp N]) (ha : tmps.getD A undef = .pointer (some ⟨b, 0, none⟩)) (hm : tmps.getD M undef = u) (hn : tmps.getD N undef = v)
    (hb : BoxAt w b #[x0, x1] t) : (results fn tmps).run Tryz.prog w = .ok (.tuple #[.agg #[x0, x1], u, v]) w := by
  have q0 := hb.cell 0
  have q1 := hb.cell 1
  simp at q0 q1
  have ha' : tmps[A]?.getD undef = .pointer (some ⟨b, 0, none⟩) := by rw [← ha]; simp
  have hm' : tmps[M]?.getD undef = u := by rw [← hm]; simp
  have hn' : tmps[N]?.getD undef = v := by rw [← hn]; simp
  simp [results, hres, ha', hm', hn', go_sem, q0, q1]
theorem end2a {fn : Func} {R : Ending → World → Prop} {a : Act} {w2 : World} {A M N b : Nat} {x0 x1 u v : Value} {t : TypeId} (hres : fn.results = #[.cell A 82, .tmp M, .tmp N]) (hbox : BoxAt w2 b #[x0, x1] t)
    (ha : a.tmps.getD A undef = .pointer (some ⟨b, 0, none⟩)) (hm : a.tmps.getD M undef = u) (hn : a.tmps.getD N undef = v) (hd : a.defers = []) (hR : R (.returned (.tuple #[.agg #[x0, x1], u, v])) w2) : bodyPost Tryz.prog fn R .ret a w2 :=
  bodyPost_ret (res2a hres ha hm hn hbox) hd hR
theorem box_set2 {w : World} {E : Nat} {x0 x1 : Value} {t : TypeId} (h : BoxAt w E #[x0, x1] t) (y0 y1 : Value) : BoxAt ((w.setCell ⟨E, 0, none⟩ y0).setCell ⟨E, 1, none⟩ y1) E #[y0, y1] t := by
  unfold BoxAt at h ⊢
  simp [World.setCell, Array.getElem?_modify, h]
theorem below_set2 {B : Nat} {a w : World} (h : Below B a w) {b : Nat} (hb : B ≤ b) (x0 x1 : Value) : Below B a ((w.setCell ⟨b, 0, none⟩ x0).setCell ⟨b, 1, none⟩ x1) := (h.setCell (p := ⟨b, 0, none⟩) hb x0).setCell (p := ⟨b, 1, none⟩) hb x1
theorem set2_heap (w : World) (b : Nat) (x0 x1 : Value) (k : Nat) (hk : k ≠ b) : ((w.setCell ⟨b, 0, none⟩ x0).setCell ⟨b, 1, none⟩ x1).heap[k]? = w.heap[k]? := by
  rw [Below.heap_setCell _ _ _ k hk, Below.heap_setCell _ _ _ k hk]
theorem set2_size (w : World) (b : Nat) (x0 x1 : Value) : ((w.setCell ⟨b, 0, none⟩ x0).setCell ⟨b, 1, none⟩ x1).heap.size = w.heap.size := by simp
theorem pat_set2 {w w2 : World} {l : List EL} {v : Value} (h : PatF w2 (Since (w.heap.size + 1) w2) l v) (x0 x1 : Value) : PatF ((w2.setCell ⟨w.heap.size, 0, none⟩ x0).setCell ⟨w.heap.size, 1, none⟩ x1) (Since w.heap.size ((w2.setCell ⟨w.heap.size, 0, none⟩ x0).setCell ⟨w.heap.size, 1, none⟩ x1)) l v :=
  PatF.carry (fun b hb => ⟨⟨by have := hb.1; omega, by rw [set2_size]; exact hb.2⟩, set2_heap _ _ _ _ b (by have := hb.1; omega)⟩) h
set_option maxHeartbeats 2000000 in
set_option maxRecDepth 100000 in
theorem named_call {s : ByteArray} (hPC : PatCall s) (hs : s.size ≤ 1000000) (i : Nat) (hi : i ≤ s.size) (w : World) : Calls Tryz.prog 85 #[.string s, .int .i64 i] w (GotN s w (namedS s i)) := by
  have hN := fun W => ((endName (s := s)).2 i W (by omega) hi).2.2
  have hnk := nm_ok s i hi
  obtain ⟨R, hR⟩ : ∃ R, namedS s i = R := ⟨_, rfl⟩
  rw [hR]
  unfold namedS at hR
  obtain ⟨m, hm⟩ : ∃ m, nm s i = m := ⟨_, rfl⟩
  rw [hm] at hN hnk hR
  have hS := fun W => ((endSpaces (s := s)).2 m W (by omega) hnk.2).2.2
  have hsk : m ≤ sp s m ∧ sp s m ≤ s.size := ⟨sp_ge s m, by have := behN_le spB s.data.toList m (by rw [size_data]; exact hnk.2); rw [size_data] at this; exact this⟩
  obtain ⟨q, hq⟩ : ∃ q, sp s m = q := ⟨_, rfl⟩
  rw [hq] at hS hsk hR
  have hx := isAt_prefix s q 61 hsk.2
  have hp := fun W => Tryz.strings_HasPrefix (s.extract q s.size) ⟨#[61]⟩ W
  rw [hx] at hp
  obtain ⟨b, hb⟩ : ∃ b, isAt s q 61 = b := ⟨_, rfl⟩
  have hq1 : b = true → q + 1 ≤ s.size := fun h => isAt_lt (hb.trans h)
  rw [hb] at hp hR
  have HN := Lib.hid hN
  have HS := Lib.hid hS
  have HP := Lib.hid hp
  have hi0 : (i : Int) ≤ 1000000 := by omega
  have hm0 : (m : Int) ≤ 1000000 := by omega
  have hq0 : (q : Int) ≤ 1000000 := by omega
  have hqs : (q : Int) ≤ (s.size : Int) := by omega
  have hss : (s.size : Int) ≤ 1000000 := by omega
  have hq2 : (0 : Int) ≤ (q : Int) := by omega
  have hc0 := BoxAt.new w zAt 82
  have HC0 := Lib.hid hc0
  clear hN hS hp hx hm hq hb hc0
  go_enter Tryz.func85, Tryz.ntmps85
  go_wp2_with fail
  go_at_call 110
  refine (HN.out _).mono ?_
  rintro e w1 ⟨rfl, hb1⟩
  have HB1 := Lib.hid (((Below.refl w.heap.size w).alloc (Nat.le_refl _) (.cells zAt 82)).trans (hb1.mono (by simp)))
  have HC1 := Lib.hid (BoxAt.later HC0.out hb1)
  clear hb1
  go_wp2_with fail
  go_at_call 62
  refine (HS.out _).mono ?_
  rintro e w2 ⟨rfl, hb2⟩
  have HB2 := Lib.hid (HB1.out.trans (hb2.mono HB1.out.size))
  have hc2 := BoxAt.later HC1.out hb2
  have HC2 := Lib.hid hc2
  have q0 := hc2.cell 0
  have q1 := hc2.cell 1
  have f0 := Lib.frozen_of_heap hc2 0
  have f1 := Lib.frozen_of_heap hc2 1
  have hlt := hc2.lt
  simp at q0 q1
  clear hb2 hc2 HN HS HC0 HC1
  by_cases hmi : m = i
  · rw [if_pos hmi] at hR
    subst hR
    have d1 : ((m : Int) == (i : Int)) = true := beq_iff_eq.2 (by omega)
    clear hmi
    go_wp2
    exact end2a Tryz.results85 (box_set2 HC2.out _ _) rfl rfl rfl rfl ⟨below_set2 HB2.out (Nat.le_refl _) _ _, ⟨#[]⟩, none, 0, 0, 0, rfl, Nat.zero_le _, Nat.zero_le _, fun x l m h => by cases h⟩
  have d1 : ((m : Int) == (i : Int)) = false := beq_eq_false_iff_ne.2 (by omega)
  have d2 : ¬ (m : Int) = (i : Int) := by omega
  rw [if_neg hmi] at hR
  cases b
  case false =>
    rw [if_neg (by simp)] at hR
    subst hR
    clear hmi
    go_wp2_with fail
    go_at_call 72
    refine (HP.out _).mono ?_
    rintro e w3 ⟨rfl, rfl⟩
    go_wp2
    exact end2a Tryz.results85 (box_set2 HC2.out _ _) rfl rfl rfl rfl ⟨below_set2 HB2.out (Nat.le_refl _) _ _, ⟨#[]⟩, none, 0, 0, 0, rfl, Nat.zero_le _, Nat.zero_le _, fun x l m h => by cases h⟩
  rw [if_pos rfl] at hR
  have hq3 := hq1 rfl
  have hPt := fun W => hPC (q + 1) W hq3
  obtain ⟨r, hr⟩ : ∃ r, patS (placeS s 20) s (q + 1) = r := ⟨_, rfl⟩
  rw [hr, show ((q + 1 : Nat) : Int) = (q : Int) + 1 by omega] at hPt
  rw [hr] at hR
  have HPt := Lib.hid hPt
  have HR := Lib.hid hR
  have hmi1 : (i : Int) ≤ (m : Int) := by omega
  have hms : (m : Int) ≤ (s.size : Int) := by omega
  clear hPt hr hR hq1 hmi
  go_wp2_with fail
  go_at_call 72
  refine (HP.out _).mono ?_
  rintro e w3 ⟨rfl, rfl⟩
  go_wp2_with fail
  go_at_call 23
  refine (HPt.out _).mono ?_
  rintro e w4 ⟨hb4, A, n, c, j, rfl, hj, hn4, h3⟩
  have HB4 := Lib.hid (HB2.out.trans (hb4.mono HB2.out.size))
  have hc4 := BoxAt.later HC2.out hb4
  have HC4 := Lib.hid hc4
  have e0 := hc4.cell 0
  have e1 := hc4.cell 1
  have g0 := Lib.frozen_of_heap hc4 0
  have g1 := Lib.frozen_of_heap hc4 1
  have hlt4 := hc4.lt
  simp at e0 e1
  have H3 := Lib.hid h3
  have hs4 := hb4.size
  have hj0 : (j : Int) ≤ 1000000 := by omega
  have hj1 : (0 : Int) ≤ (j : Int) := by omega
  clear hb4 hc4 h3 q0 q1 f0 f1
  obtain ⟨ib, hib⟩ : ∃ ib : Bool, (decide (j = s.size) || isAt s j 10) = ib := ⟨_, rfl⟩
  have hfin : R.isSome = (r.isSome && ib) ∧ ∀ x l m', R = some (x, l, m') → x = s.extract i m ∧ m' = j ∧ l.length = n ∧ PatF w4 (Since (w.heap.size + 1) w4) l (.slice A n c) := by
    have hR := HR.out
    cases r with
    | none => dsimp only at hR; subst hR; exact ⟨rfl, fun x l m' h => by cases h⟩
    | some le =>
      obtain ⟨l, e⟩ := le
      obtain ⟨rfl, h5, h6⟩ := H3.out l e rfl
      dsimp only at hR
      by_cases hc : e = s.size ∨ isAt s e 10 = true
      · rw [if_pos hc] at hR
        subst hR
        have : ib = true := by
          rw [← hib]
          rcases hc with h | h
          · rw [decide_eq_true h]; rfl
          · rw [h, Bool.or_true]
        rw [this]
        refine ⟨rfl, fun x l' m' h => ?_⟩
        cases h
        exact ⟨rfl, rfl, h5, PatF.carry (fun b hb => ⟨⟨by have := hb.1; have := HB2.out.size; omega, hb.2⟩, rfl⟩) h6⟩
      · rw [if_neg hc] at hR
        subst hR
        have : ib = false := by
          rw [← hib]
          simp only [not_or, Bool.not_eq_true] at hc
          rw [decide_eq_false hc.1, hc.2]; rfl
        rw [this, Bool.and_false]
        exact ⟨rfl, fun x l' m' h => by cases h⟩
  obtain ⟨rs, hrs⟩ : ∃ q : Bool, r.isSome = q := ⟨_, rfl⟩
  rw [hrs] at hfin ⊢
  have Hfin := Lib.hid hfin
  clear hfin hrs H3 HR
  by_cases hje : j = s.size
  · have d3 : ((j : Int) == (s.size : Int)) = true := beq_iff_eq.2 (by omega)
    have hib2 : ib = true := by rw [← hib, decide_eq_true hje]; rfl
    subst hib2
    clear hib hje
    cases rs
    all_goals
      go_wp2
      exact end2a Tryz.results85 (box_set2 HC4.out _ _) rfl rfl rfl rfl ⟨below_set2 HB4.out (Nat.le_refl _) _ _, s.extract i m, A, n, c, j, by rw [Hfin.out.1]; rfl, hj, hn4, fun x l m' h => by
        obtain ⟨h1, h2, h3, h4⟩ := Hfin.out.2 x l m' h
        exact ⟨h1, h2, h3, pat_set2 h4 _ _⟩⟩
  · have d3 : ((j : Int) == (s.size : Int)) = false := beq_eq_false_iff_ne.2 (by omega)
    have hjl : j < s.size := by omega
    have d4 : (j : Int) < (s.size : Int) := by omega
    have hg := isAt_get s j hjl 10
    rw [decide_eq_false hje, Bool.false_or] at hib
    rw [hg] at hib
    have hib3 : (((s[j]'hjl).toNat : Int) == 10) = ib := by rw [← hib, Bool.eq_iff_iff, beq_iff_eq, beq_iff_eq]; show _ ↔ (s[j]'hjl).toNat = 10; omega
    clear hib hje hg
    cases rs
    all_goals
      go_wp2
      exact end2a Tryz.results85 (box_set2 HC4.out _ _) rfl rfl rfl rfl ⟨below_set2 HB4.out (Nat.le_refl _) _ _, s.extract i m, A, n, c, j, by rw [Hfin.out.1]; rfl, hj, hn4, fun x l m' h => by
        obtain ⟨h1, h2, h3, h4⟩ := Hfin.out.2 x l m' h
        exact ⟨h1, h2, h3, pat_set2 h4 _ _⟩⟩
end Go.Proofs.YtdoambpiafkmmaaGreatDoor

namespace Go.Proofs.YtdoambpiafkmmaaGreatDoor
open Go.RowKit
set_option linter.unusedVariables false
set_option linter.unusedSimpArgs false
theorem at0_byte (s : ByteArray) (q : Nat) (hc : q < s.size) (c : UInt8) : (at0 s.data.toList q == c) = ((s[q]'hc).toNat == c.toNat) := by
  have := isAt_get s q hc c
  unfold isAt at this
  rw [decide_eq_true hc, Bool.true_and] at this
  exact this
theorem pat_fin2 {w w2 : World} {l : List EL} {v : Value} (h : PatF w2 (Since (w.heap.size + 1) w2) l v) (x0 x1 : Value) (o : Obj) : PatF (((w2.setCell ⟨w.heap.size, 0, none⟩ x0).setCell ⟨w.heap.size, 1, none⟩ x1).alloc o).drew (Since w.heap.size (((w2.setCell ⟨w.heap.size, 0, none⟩ x0).setCell ⟨w.heap.size, 1, none⟩ x1).alloc o).drew) l v :=
  PatF.carry (fun b hb => by
    have h2 : b < ((w2.setCell ⟨w.heap.size, 0, none⟩ x0).setCell ⟨w.heap.size, 1, none⟩ x1).heap.size := by rw [set2_size]; exact hb.2
    exact ⟨⟨by have := hb.1; omega, by show b < (World.alloc _ o).heap.size; rw [World.size_alloc]; omega⟩, (Lib.alloc_old _ o b h2).trans (set2_heap _ _ _ _ b (by have := hb.1; omega))⟩) h
set_option maxHeartbeats 4000000 in
set_option maxRecDepth 100000 in
theorem attr_call {s : ByteArray} (hPC : PatCall s) (hs : s.size ≤ 1000000) (i : Nat) (h1i : 1 ≤ i) (hi : i ≤ s.size) (w : World) : Calls Tryz.prog 116 #[.string s, .int .i64 i] w (GotN s w (attrS s i)) := by
  have hBl := fun W => ((endBlank (s := s)).2 i W (by omega) hi).2.2
  have hbk := bl_ok s i hi
  obtain ⟨R, hR⟩ : ∃ R, attrS s i = R := ⟨_, rfl⟩
  rw [hR]
  unfold attrS at hR
  obtain ⟨q, hq⟩ : ∃ q, bl s i = q := ⟨_, rfl⟩
  rw [hq] at hBl hbk hR
  have hx := isAt_prefix s q 46 hbk.2
  have hp := fun W => Tryz.strings_HasPrefix (s.extract q s.size) ⟨#[46]⟩ W
  rw [hx] at hp
  obtain ⟨b, hb⟩ : ∃ b, isAt s q 46 = b := ⟨_, rfl⟩
  have hq1 : b = true → q + 1 ≤ s.size := fun h => isAt_lt (hb.trans h)
  rw [hb] at hp hR
  have HB := Lib.hid hBl
  have HP := Lib.hid hp
  have hq0 : (q : Int) ≤ 1000000 := by omega
  have hqs : (q : Int) ≤ (s.size : Int) := by omega
  have hss : (s.size : Int) ≤ 1000000 := by omega
  have hq2 : (1 : Int) ≤ (q : Int) := by omega
  have hq22 : (0 : Int) ≤ (q : Int) := by omega
  have hc0 := BoxAt.new w zAt 82
  have HC0 := Lib.hid hc0
  clear hBl hp hx hq hb hc0
  go_enter Tryz.func116, Tryz.ntmps116
  go_wp2_with fail
  go_at_call 50
  refine (HB.out _).mono ?_
  rintro e w1 ⟨rfl, hb1⟩
  have HB1 := Lib.hid (((Below.refl w.heap.size w).alloc (Nat.le_refl _) (.cells zAt 82)).trans (hb1.mono (by simp)))
  have hc1 := BoxAt.later HC0.out hb1
  have HC1 := Lib.hid hc1
  have q0 := hc1.cell 0
  have q1 := hc1.cell 1
  have f0 := Lib.frozen_of_heap hc1 0
  have f1 := Lib.frozen_of_heap hc1 1
  have hlt := hc1.lt
  simp at q0 q1
  clear hb1 hc1 HB HC0
  cases b
  case false =>
    rw [Bool.false_and, if_neg (by simp)] at hR
    subst hR
    go_wp2_with fail
    go_at_call 72
    refine (HP.out _).mono ?_
    rintro e w3 ⟨rfl, rfl⟩
    go_wp2
    exact end2a Tryz.results116 (box_set2 HC1.out _ _) rfl rfl rfl rfl ⟨below_set2 HB1.out (Nat.le_refl _) _ _, ⟨#[]⟩, none, 0, 0, 0, rfl, Nat.zero_le _, Nat.zero_le _, fun x l m h => by cases h⟩
  have hq3 := hq1 rfl
  rw [Bool.true_and, at0_byte s (q - 1) (by omega) 32] at hR
  obtain ⟨k, rfl⟩ : ∃ k, q = k + 1 := ⟨q - 1, by omega⟩
  have hkl : k < s.size := by omega
  have hk1 : (k : Int) < (s.size : Int) := by omega
  have hk0 : (0 : Int) ≤ (k : Int) := by omega
  have hR2 : (if ((s[k]'hkl).toNat == (32 : UInt8).toNat) = true then (match namedS s (k + 1 + 1) with
      | none => none
      | some (x, l, e) => if l.isEmpty = true then none else some (x, l, e)) else none) = R := hR
  obtain ⟨c, hc⟩ : ∃ c, (s[k]'hkl).toNat = c := ⟨_, rfl⟩
  rw [hc, show (32 : UInt8).toNat = 32 from rfl] at hR2
  clear hR hq1
  by_cases h32 : c = 32
  case neg =>
    have d1 : ((c : Int) != 32) = true := by rw [bne_iff_ne]; omega
    rw [if_neg (by rw [beq_iff_eq]; exact h32)] at hR2
    subst hR2
    clear h32
    go_wp2_with fail
    go_at_call 72
    refine (HP.out _).mono ?_
    rintro e w3 ⟨rfl, rfl⟩
    go_wp2
    exact end2a Tryz.results116 (box_set2 HC1.out _ _) rfl rfl rfl rfl ⟨below_set2 HB1.out (Nat.le_refl _) _ _, ⟨#[]⟩, none, 0, 0, 0, rfl, Nat.zero_le _, Nat.zero_le _, fun x l m h => by cases h⟩
  have d1 : ((c : Int) != 32) = false := by rw [bne_eq_false_iff_eq]; omega
  rw [if_pos (by rw [beq_iff_eq]; exact h32)] at hR2
  have hNm := fun W => named_call hPC hs (k + 1 + 1) hq3 W
  obtain ⟨r, hr⟩ : ∃ r, namedS s (k + 1 + 1) = r := ⟨_, rfl⟩
  rw [hr, show ((k + 1 + 1 : Nat) : Int) = (k : Int) + 1 + 1 by omega] at hNm
  rw [hr] at hR2
  have HNm := Lib.hid hNm
  have HR := Lib.hid hR2
  clear hNm hr hR2 h32
  go_wp2_with fail
  go_at_call 72
  refine (HP.out _).mono ?_
  rintro e w3 ⟨rfl, rfl⟩
  go_wp2_with fail
  go_at_call 85
  refine (HNm.out _).mono ?_
  rintro e w4 ⟨hb4, X, A, n, cp, j, rfl, hj, hn4, h3⟩
  have HB4 := Lib.hid (HB1.out.trans (hb4.mono HB1.out.size))
  have hc4 := BoxAt.later HC1.out hb4
  have HC4 := Lib.hid hc4
  have hlt4 := hc4.lt
  have e0 := hc4.cell 0
  have e1 := hc4.cell 1
  have g0 := Lib.frozen_of_heap hc4 0
  have g1 := Lib.frozen_of_heap hc4 1
  simp at e0 e1
  have H3 := Lib.hid h3
  have hs4 := hb4.size
  have hj0 : (j : Int) ≤ 1000000 := by omega
  have hn0 : (n : Int) ≤ 4000000 := by omega
  have hfin : R.isSome = (r.isSome && decide (0 < n)) ∧ ∀ x l m', R = some (x, l, m') → x = X ∧ m' = j ∧ l.length = n ∧ PatF w4 (Since (w.heap.size + 1) w4) l (.slice A n cp) := by
    have hR := HR.out
    cases r with
    | none => dsimp only at hR; subst hR; exact ⟨rfl, fun x l m' h => by cases h⟩
    | some le =>
      obtain ⟨x, l, e⟩ := le
      obtain ⟨h4, h5, h6, h7⟩ := H3.out x l e rfl
      dsimp only at hR
      by_cases hl : l = []
      · rw [hl] at hR
        simp at hR
        subst hR
        rw [hl] at h6
        have : n = 0 := h6.symm
        rw [this]
        exact ⟨rfl, fun x l' m' h => by cases h⟩
      · have hle : l.isEmpty = false := by cases l with
          | nil => exact absurd rfl hl
          | cons a b => rfl
        rw [hle] at hR
        simp at hR
        subst hR
        have hl0 : 0 < n := by rw [← h6]; exact List.length_pos_iff.2 hl
        rw [decide_eq_true hl0]
        refine ⟨rfl, fun x' l' m' h => ?_⟩
        cases h
        exact ⟨h4, h5, h6, PatF.carry (fun b hb => ⟨⟨by have := hb.1; have := HB1.out.size; omega, hb.2⟩, rfl⟩) h7⟩
  obtain ⟨rs, hrs⟩ : ∃ q : Bool, r.isSome = q := ⟨_, rfl⟩
  rw [hrs] at hfin ⊢
  have Hfin := Lib.hid hfin
  clear hb4 hc4 h3 hfin hrs H3 HR q0 q1 f0 f1
  cases rs
  all_goals
    go_wp2_with fail
    go_region
    all_goals (go_wp2_with fail)
    exact end2a Tryz.results116 (((box_set2 HC4.out _ _).alloc _)) rfl rfl rfl rfl ⟨((below_set2 HB4.out (Nat.le_refl _) _ _).alloc (by rw [set2_size]; omega) _).drew, X, A, n, cp, j, by rw [Hfin.out.1]; rfl, hj, hn4, fun x l m' h => by
      obtain ⟨h1, h2, h3, h4⟩ := Hfin.out.2 x l m' h
      exact ⟨h1, h2, h3, pat_fin2 h4 _ _ _⟩⟩
end Go.Proofs.YtdoambpiafkmmaaGreatDoor

namespace Go.Proofs.YtdoambpiafkmmaaGreatDoor
open Go.RowKit Go Go.Op
set_option linter.unusedVariables false
section
variable {P : Program} (w : World)
theorem run_append_where (base : Nat) (t ty e : TypeId) (i : TypeInfo) (z : Value) (size bytes : Nat) (ht : P.underlying t = some (.slice e)) (hi : P.info? e = some i) (hz : i.zero = some z)
    (hsize : i.size = size) (hby : i.bytes = bytes) (hzs : z.cells.size = size) (hsz : 0 < size)
    (v : Value) (n : Nat) (xs : List Value) (hown : w.ownsRow base e size v n xs)
    (a : Addr) (m c : Nat) (news : List Value) (hl : news.length = m * size) (hnews : ∀ j u, news[j]? = some u → w.cell? (a.add j) = some u) (h1 : ∀ u ∈ news, u.oneCell' = true)
    (h63 : n + m ≤ maxLen) (hbytes : (n + m) * bytes ≤ 140737488355328) (hbase : base ≤ w.heap.size) (hm0 : 0 < m) :
    ∃ v' w', (Builtin.append_ #[t, t] ty #[v, .slice (some a) m c]).run P w = .ok v' w' ∧ w'.ownsRow base e size v' (n + m) (xs ++ news) ∧ w.grownBy w' v.ownBlock ∧
      (v'.ownBlock = v.ownBlock ∨ v'.ownBlock = some w.heap.size) := by
  obtain ⟨v', w', hr, h2, h3, _⟩ := run_append_own (P := P) w base t ty e i z size bytes ht hi hz hsize hby hzs hsz v n xs hown a m c news hl hnews h1 h63 hbytes hbase
  refine ⟨v', w', hr, h2, h3, ?_⟩
  subst hsize
  subst hby
  have hsmall : n + m ≤ 9223372036854775807 := by simp only [maxLen] at h63; omega
  rcases hown.2 with ⟨rfl, rfl⟩ | ⟨g, cap, cur, rfl, hbg, hg, hnc, hcm, hcs, htake⟩
  · have hr2 := run_append_nil (P := P) w t ty e i z ht hi hz a m c news hl hnews (by omega) (by omega) (by have hb := hbytes; simp only [Nat.zero_add] at hb; omega)
    have hv := hr.symm.trans hr2
    injection hv with e1 _
    rw [e1]
    exact .inr rfl
  · by_cases hroom : n + m ≤ cap
    · have hfit : n * i.size + news.length ≤ cur.size := by rw [hl, hcs, ← Nat.add_mul]; exact Nat.mul_le_mul_right _ hroom
      have hr2 := run_append_room (P := P) w t ty e i ht hi g n cap cur hg a m c news hl hnews h1 hroom hfit
      have hv := hr.symm.trans hr2
      injection hv with e1 _
      rw [e1]
      exact .inl rfl
    · have holds : ∀ j u, xs[j]? = some u → w.cell? ((⟨g, 0, none⟩ : Addr).add j) = some u := hown.cells (g := g) rfl
      have hr2 := run_append_grow (P := P) w t ty e i z ht hi hz ⟨g, 0, none⟩ n cap xs hown.1 holds a m c news hl hnews (by omega) (by omega) (growslice_fits (by omega) hbytes)
      have hv := hr.symm.trans hr2
      injection hv with e1 _
      rw [e1]
      exact .inr rfl
theorem wpList_append_where {ops : Array Oper} {rest : List Oper} {o : Oper} {a : Act} {Q : Exit → Act → World → Prop} (hgd : o.guard = none) (s x : Operand) (t : TypeId)
    (ho : o.op = .call { callee := .builtin .append, args := #[s, x], argTypes := #[t, t] })
    (base : Nat) (e : TypeId) (i : TypeInfo) (z : Value) (size bytes : Nat) (ht : P.underlying t = some (.slice e)) (hi : P.info? e = some i) (hz : i.zero = some z)
    (hsize : i.size = size) (hby : i.bytes = bytes) (hzs : z.cells.size = size) (hsz : 0 < size)
    (v : Value) (n : Nat) (xs : List Value) (hs : a.eval s = v) (hown : w.ownsRow base e size v n xs)
    (ad : Addr) (m c : Nat) (news : List Value) (hx : a.eval x = .slice (some ad) m c) (hl : news.length = m * size) (hnews : ∀ j u, news[j]? = some u → w.cell? (ad.add j) = some u) (h1 : ∀ u ∈ news, u.oneCell' = true)
    (h63 : n + m ≤ maxLen) (hbytes : (n + m) * bytes ≤ 140737488355328) (hbase : base ≤ w.heap.size) (hm0 : 0 < m)
    (h : ∀ v' w', w'.ownsRow base e size v' (n + m) (xs ++ news) → w.grownBy w' v.ownBlock → (v'.ownBlock = v.ownBlock ∨ v'.ownBlock = some w.heap.size) → wpList P ops Q rest (a.put o.dst v') w') : wpList P ops Q (o :: rest) a w := by
  refine wpList_plain hgd fun K hK => ?_
  obtain ⟨v', w', hr, h2, h3, h4⟩ := run_append_where (P := P) w base t o.type e i z size bytes ht hi hz hsize hby hzs hsz v n xs hown ad m c news hl hnews h1 h63 hbytes hbase hm0
  unfold Oper.wp execOp
  simp only [ho, resolve, invoke, builtin, Sem.run_bind, Sem.run_pure, Result.andThen_ok, List.map_toArray, List.map_cons, List.map_nil, hs, hx, hr]
  exact hK _ _ (h v' w' h2 h3 h4)
end
end Go.Proofs.YtdoambpiafkmmaaGreatDoor
