/-
  Package serial: how a pattern begins; patterns.
-/
import Derived.Test.YtminidoiaplhjaaDoorZi
namespace Go.Proofs.YtminidoiaplhjaaDoor
open Go.RowKit
set_option linter.unusedVariables false
set_option linter.unusedSimpArgs false

theorem enters_feed : ∀ (args : Array Value) (w : World), (callFunc 67 args).run Tryd.prog w = .ok (.enter 67 args) w := fun args w => by
  go_simp
set_option maxHeartbeats 2000000 in
set_option maxRecDepth 100000 in
theorem feed_any (t : ByteArray) (u : Value) (w : World) : Calls Tryd.prog 67 #[.agg #[.string t, u]] w fun e w' => e = .returned (.bool (t.data.toList.contains 10)) ∧ Below w.heap.size w w' := by
  have HC := Lib.hid (fun W => Tryd.strings_Contains_one t 10 W)
  have he := Lib.contains_iff_indexByte t.data.toList 10
  rw [he]
  have C0 := Lib.hid (BoxAt.new w #[.string t, u] 39)
  clear he
  go_enter Tryd.func67, Tryd.ntmps67
  go_wp2_with fail
  go_at_call 68
  refine (HC.out _).mono ?_
  rintro e w1 ⟨rfl, rfl⟩
  go_wp2
  go_ret
  exact ⟨rfl, (Below.refl _ _).alloc (Nat.le_refl _) _⟩
theorem feed_take (l : List EL) (j : Nat) (t : ByteArray) (p : Option EX) (h : l[j]? = some (.mk t p)) : feedOf (l.take (j + 1)) = (feedOf (l.take j) || t.data.toList.contains 10) := by
  unfold feedOf
  rw [take_snoc l j _ h, List.any_append]
  simp [elText]
theorem feed_here (l : List EL) (j : Nat) (t : ByteArray) (p : Option EX) (h : l[j]? = some (.mk t p)) (hc : t.data.toList.contains 10 = true) : feedOf l = true := by
  unfold feedOf
  rw [List.any_eq_true]
  exact ⟨_, List.mem_of_getElem? h, hc⟩
/-- Elements, one by one: their cells. -/
theorem el_at {W0 : World} {l : List EL} {v : Value} (hv : PatAt W0 l v) {j : Nat} (hj : j < l.length) : ∃ b o c, v = .slice (some ⟨b, o, none⟩) l.length c ∧ b < W0.heap.size ∧ ∃ t p u, l[j]? = some (.mk t p) ∧ W0.cell? ⟨b, o + j * 2, none⟩ = some (.string t) ∧ W0.cell? ⟨b, o + j * 2 + 1, none⟩ = some u ∧ OAt W0 p u := by
  obtain ⟨b, o, c, hv, hb, hcs⟩ := pat_get hv hj
  obtain ⟨t, p, he⟩ : ∃ t p, l[j]? = some (.mk t p) := by
    cases e : l[j] with
    | mk t p => exact ⟨t, p, by rw [List.getElem?_eq_getElem hj, e]⟩
  obtain ⟨h1, u, h2, h3⟩ := hcs j t p he
  exact ⟨b, o, c, hv, hb, t, p, u, he, h1, h2, h3⟩
theorem o_shape {W : World} {p : Option EX} {u : Value} (h : OAt W p u) : ∃ a, u = .pointer a := by
  cases p with
  | none => simp only [OAt] at h; exact ⟨_, h⟩
  | some e => simp only [OAt] at h; obtain ⟨b, o, c, h, _⟩ := h; exact ⟨_, h⟩
set_option maxHeartbeats 4000000 in
set_option maxRecDepth 100000 in
theorem idxF_any {W0 : World} (l : List EL) (v : Value) (hv : PatAt W0 l v) (hl : l.length ≤ 4000000) (w : World) (hW : Below W0.heap.size W0 w) :
    Calls Tryd.prog 77 #[v, .func (.func 67) #[] #[]] w fun e w' => (∃ i : Int, e = .returned (.int .i64 i) ∧ decide (0 ≤ i) = feedOf l) ∧ Below w.heap.size w w' := by
  have HF := Lib.hid feed_any
  have HV := Lib.hid hv
  have HW := Lib.hid hW
  have hl0 : (l.length : Int) ≤ 4000000 := by omega
  obtain ⟨A, c, rfl, _⟩ := hv
  have he := enters_feed
  clear hW
  go_enter Tryd.func77, Tryd.ntmps77
  go_wp2
  go_loopw [8] (fun t8 wr => ∃ j : Nat, t8 = .int .i64 j ∧ j ≤ l.length ∧ Hid (feedOf (l.take j) = false) ∧ Hid (Below w.heap.size w wr)) (fun t8 _ => l.length - (intOf t8).toNat)
  case atStart => exact ⟨0, rfl, Nat.zero_le _, rfl, Below.refl _ _⟩
  case round =>
    obtain ⟨j, rfl, hj, HA, HB⟩ := hrel
    have hj0 : (j : Int) ≤ 4000000 := by omega
    by_cases hlt : j < l.length
    · have d1 : decide ((j : Int) < (l.length : Int)) = true := decide_eq_true (by omega)
      have d2 : (j : Int) < (l.length : Int) := by omega
      obtain ⟨b, o, c', e, hb, t, p, u, hel, c0, c1, hou⟩ := el_at HV.out hlt
      cases e
      obtain ⟨pa, rfl⟩ := o_shape hou
      have hbel : Below W0.heap.size W0 wr := HW.out.trans (HB.out.mono HW.out.size)
      rw [← hbel.cell (p := ⟨b, o + j * 2, none⟩) hb] at c0
      rw [← hbel.cell (p := ⟨b, o + j * 2 + 1, none⟩) hb] at c1
      have hbw : b < wr.heap.size := Nat.lt_of_lt_of_le hb hbel.size
      have HT := Lib.hid (feed_take l j t p hel)
      have HE := Lib.hid (feed_here l j t p hel)
      obtain ⟨x, hx⟩ : ∃ x, t.data.toList.contains 10 = x := ⟨_, rfl⟩
      rw [hx] at HT HE
      have HX := Lib.hid hx
      clear hx hel hou hbel
      cases x
      · go_wp2_with fail
        refine (HF.out _ _ _).mono ?_
        rw [HX.out]
        rintro e w1 ⟨rfl, hb1⟩
        have HB1 := Lib.hid (HB.out.trans (hb1.mono HB.out.size))
        clear hb1
        go_wp2
        go_roundw
        case rel => exact ⟨j + 1, by go_num, hlt, Lib.hid (by rw [HT.out, HA.out]; rfl), HB1⟩
        case measure => simp [intOf]; omega
      · go_wp2_with fail
        refine (HF.out _ _ _).mono ?_
        rw [HX.out]
        rintro e w1 ⟨rfl, hb1⟩
        have HB1 := Lib.hid (HB.out.trans (hb1.mono HB.out.size))
        clear hb1
        go_wp2
        go_ret
        exact ⟨⟨_, rfl, by rw [HE.out (by first | trivial | rfl), decide_eq_true (by omega)]⟩, HB1.out⟩
    · obtain rfl : j = l.length := by omega
      have d1 : decide ((l.length : Int) < (l.length : Int)) = false := decide_eq_false (by omega)
      have hA := HA.out
      rw [List.take_of_length_le (Nat.le_refl _)] at hA
      have HA2 := Lib.hid hA
      clear hA
      go_wp2
      go_ret
      exact ⟨⟨_, rfl, by rw [HA2.out]; rfl⟩, HB.out⟩
set_option maxHeartbeats 4000000 in
set_option maxRecDepth 100000 in
theorem contF_any {W0 : World} (l : List EL) (v : Value) (hv : PatAt W0 l v) (hl : l.length ≤ 4000000) (w : World) (hW : Below W0.heap.size W0 w) :
    Calls Tryd.prog 69 #[v, .func (.func 67) #[] #[]] w fun e w' => e = .returned (.bool (feedOf l)) ∧ Below w.heap.size w w' := by
  have HI := Lib.hid (idxF_any l v hv hl w hW)
  clear hv hW
  go_enter Tryd.func69, Tryd.ntmps69
  go_wp2_with fail
  go_at_call 77
  refine HI.out.mono ?_
  rintro e w1 ⟨⟨i, rfl, hi⟩, hb⟩
  have Hi := Lib.hid hi
  have HB := Lib.hid hb
  clear hi hb
  go_wp2
  go_ret
  exact ⟨ret_bool Hi.out, HB.out⟩
theorem odd_idx (t : ByteArray) : ∃ i : Int, Lib.indexAny t.data.toList [46, 42, 91] = i ∧ (i != 0) = !(match t.data.toList with | [] => false | c :: _ => isMarkB c) := by
  refine ⟨_, rfl, ?_⟩
  cases h : t.data.toList with
  | nil => rfl
  | cons c r =>
    have hm : isMarkB c = ([46, 42, 91] : List UInt8).contains c := by
      unfold isMarkB
      rw [Bool.eq_iff_iff, decide_eq_true_iff]
      have e : ∀ d : UInt8, c = d ↔ (c.toNat : Int) = (d.toNat : Int) := fun d => ⟨fun h => by rw [h], fun h => UInt8.toNat_inj.1 (by omega)⟩
      simp only [List.contains_cons, List.contains_nil, Bool.or_false, Bool.or_eq_true, beq_iff_eq, e 46, e 42, e 91]
      exact or_congr Iff.rfl Iff.rfl
    dsimp only
    rw [hm, Lib.indexAny]
    cases hc : ([46, 42, 91] : List UInt8).contains c
    · rw [if_neg (by simp)]
      have hg : -1 ≤ Lib.indexAny r [46, 42, 91] := by
        rw [idxAny_twM]
        split <;> omega
      split
      · rfl
      · next hh =>
        rw [beq_iff_eq] at hh
        rw [Bool.not_false, bne_iff_ne]; omega
    · rw [if_pos rfl]; rfl
set_option maxHeartbeats 4000000 in
set_option maxRecDepth 100000 in
theorem begins_any {W0 : World} (l : List EL) (v : Value) (hv : PatAt W0 l v) (hl : sizeEs l ≤ 4000000) (w : World) (hW : Below W0.heap.size W0 w) :
    Calls Tryd.prog 58 #[v] w fun e w' => e = .returned (.bool (feedOf l && !oddOf l)) ∧ Below w.heap.size w w' := by
  have hll := sizeEs_length l
  have HI := Lib.hid (contF_any l v hv (by omega) w hW)
  have HW := Lib.hid hW
  obtain ⟨f, hf⟩ : ∃ f, feedOf l = f := ⟨_, rfl⟩
  rw [hf] at HI ⊢
  cases f
  · obtain ⟨A, c, rfl, _⟩ := hv
    rw [Bool.false_and]
    clear hW hf
    go_enter Tryd.func58, Tryd.ntmps58
    go_wp2_with fail
    go_at_call 69
    refine HI.out.mono ?_
    rintro e w1 ⟨rfl, hb⟩
    have HB := Lib.hid hb
    clear hb
    go_wp2
    go_ret
    exact ⟨rfl, HB.out⟩
  · have h0 : 0 < l.length := by
      cases l with
      | nil => cases hf
      | cons x r => simp
    obtain ⟨b, o, c', e, hb, t, p, u, hel, c0, c1, hou⟩ := el_at hv h0
    subst e
    obtain ⟨pa, rfl⟩ := o_shape hou
    obtain ⟨i, hi, hio⟩ := odd_idx t
    have hod : oddOf l = (match t.data.toList with | [] => false | c :: _ => isMarkB c) := by
      cases l with
      | nil => cases h0
      | cons x r =>
        simp at hel
        subst hel
        rfl
    rw [← hod] at hio
    have ht : t.size ≤ 4000000 := by
      cases l with
      | nil => cases h0
      | cons x r => simp at hel; subst hel; rw [sizeEs] at hl; omega
    have hx := fun W => indexAny_anyM t ht W
    rw [hi] at hx
    have HX := Lib.hid hx
    obtain ⟨od, ho⟩ : ∃ od, oddOf l = od := ⟨_, rfl⟩
    rw [ho] at hio ⊢
    have hl0 : (l.length : Int) ≤ 4000000 := by omega
    have h00 : 0 < (l.length : Int) := by omega
    rw [Bool.true_and]
    rw [Nat.zero_mul, Nat.add_zero] at c0 c1
    have HC0 := Lib.hid c0
    clear hW hf hel hou hi hod hx ho c0 c1 hv hll hl
    go_enter Tryd.func58, Tryd.ntmps58
    go_wp2_with fail
    go_at_call 69
    refine HI.out.mono ?_
    rintro e w1 ⟨rfl, hb1⟩
    have hbel : Below W0.heap.size W0 w1 := HW.out.trans (hb1.mono HW.out.size)
    have c0 := (hbel.cell (p := ⟨b, o, none⟩) hb).trans HC0.out
    have hbw : b < w1.heap.size := Nat.lt_of_lt_of_le hb hbel.size
    have HB := Lib.hid hb1
    clear hb1 hbel
    go_wp2_with fail
    go_at_call 70
    refine (HX.out _).mono ?_
    rintro e w2 ⟨rfl, hb2⟩
    have HB2 := Lib.hid (HB.out.trans (hb2.mono HB.out.size))
    clear hb2
    go_wp2
    go_ret
    exact ⟨ret_bool (by first | exact hio | simp_all), HB2.out⟩
end Go.Proofs.YtminidoiaplhjaaDoor
