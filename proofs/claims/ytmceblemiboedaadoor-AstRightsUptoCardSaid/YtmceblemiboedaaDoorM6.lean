/-
  Several texts put together (part 6): what the law and the program call, walked; their contracts.
-/
import Derived.Deep.QuietTactic
import Derived.BigQuiet
import Derived.Deep.RegionHeld3
import Derived.LaidEqlPtr
import Derived.StillTailTactics
import Derived.Test.YtmceblemiboedaaDoorRows
import Derived.ChangeArms
import Derived.ChangeOld
import Derived.DataReads
import Derived.KernelRfl
import Derived.Lib.LaidU8
import Derived.Test.YtmceblemiboedaaDoorM5
/-
  Law 07: Count, CountIn, Small: they end, and are no more than the size.
-/
namespace Go.Proofs.YtmceblemiboedaaDoor
open Go.RowKit
set_option linter.unusedVariables false
set_option linter.unusedSimpArgs false

set_option maxHeartbeats 4000000 in
set_option maxRecDepth 1000000 in
theorem cntIn_any {W0 : World} (l : List EL) {v : Value} (hv : PatAt W0 l v) (hsz : sizeEs l ≤ 4000000) (hP : ∀ t e, EL.mk t (some e) ∈ l → CntTo W0 e) (m : Int) (w : World) (hW : Below W0.heap.size W0 w) :
    Calls Tryd.prog 13 #[v, .int .i64 m] w fun e w' => (∃ n : Nat, e = .returned (.int .i64 n) ∧ n ≤ sizeEs l) ∧ Below w.heap.size w w' := by
  have hv' := hv
  obtain ⟨A, c, rfl, hc1, hc2, _⟩ := hv'
  have HV := Lib.hid hv
  have hlen : (l.length : Int) ≤ 4000000 := by have := sizeEs_length l; omega
  have HP := Lib.hid hP
  have HW := Lib.hid hW
  have hWs := hW.size
  have Hsz := Lib.hid hsz
  clear hv hP hW hsz
  go_enter Tryd.func13, Tryd.ntmps13
  go_wp2
  go_loopw [5, 10] (fun s5 t10 wr => ∃ (i n : Nat), t10 = .int .i64 i ∧ s5 = .int .i64 n ∧ i ≤ l.length ∧ Hid (n ≤ sizeEs (l.take i)) ∧ Hid (Below w.heap.size w wr)) (fun _ t10 _ => l.length - (intOf t10).toNat)
  case atStart => exact ⟨0, 0, rfl, rfl, Nat.zero_le _, Nat.zero_le _, Below.refl _ _⟩
  case round =>
    obtain ⟨i, n, rfl, rfl, hi, Hn, HB⟩ := hrel
    have hi0 : (i : Int) ≤ 4000000 := by omega
    have hn0 : (n : Int) ≤ 4000000 := by have := Hn.out; have := sizeEs_take l i; have := Hsz.out; omega
    have hbw0 := HB.out.size
    have hbel : Below W0.heap.size W0 wr := HW.out.trans (HB.out.mono hWs)
    have hbs := hbel.size
    have Hbel := Lib.hid hbel
    by_cases hlt : i < l.length
    · obtain ⟨b, o, c', e, hb, hcs⟩ := pat_get HV.out hlt
      cases e
      obtain ⟨t, p, hel⟩ : ∃ t p, l[i]? = some (.mk t p) := by
        cases e : l[i] with
        | mk t p => exact ⟨t, p, by rw [List.getElem?_eq_getElem hlt, e]⟩
      obtain ⟨c0, u, c1, hu⟩ := hcs i t p hel
      rw [← hbel.cell (p := ⟨b, o + i * 2, none⟩) hb] at c0
      rw [← hbel.cell (p := ⟨b, o + i * 2 + 1, none⟩) hb] at c1
      have hbw : b < wr.heap.size := by omega
      have hbw1 : b < wr.heap.size + 1 := by omega
      have hlt' : decide ((i : Int) < (l.length : Int)) = true := decide_eq_true (by omega)
      have hlt3 : ((i : Nat) : Int) < (l.length : Int) := by omega
      have hszt : sizeEs (l.take (i + 1)) = sizeEs (l.take i) + (1 + t.size + sizeO p) := by
        rw [take_snoc l i _ hel, sizeEs_append, sizeEs, sizeEs, Nat.add_zero]
      have hszl := sizeEs_take l (i + 1)
      have Hel := Lib.hid hel
      have Hszt := Lib.hid hszt
      have Hszl := Lib.hid hszl
      clear hel hszt hszl hbel hcs
      cases p with
      | none =>
        simp only [OAt] at hu
        subst hu
        have hns : n + 1 ≤ sizeEs (l.take (i + 1)) := by have := Hn.out; have := Hszt.out; omega
        have Hns := Lib.hid hns
        have hnl : n + 1 ≤ sizeEs l := by have := Hszl.out; omega
        have Hnl := Lib.hid hnl
        clear hns hnl
        by_cases hm : m ≤ (n : Int) + 1
        · have hm' : decide (m ≤ (n : Int) + 1) = true := decide_eq_true hm
          go_wp2
          go_ret
          exact ⟨⟨n + 1, by go_num, Hnl.out⟩, HB.out.alloc hbw0 _⟩
        · have hm' : decide (m ≤ (n : Int) + 1) = false := decide_eq_false hm
          go_wp2
          go_roundw
          case rel => exact ⟨i + 1, n + 1, by go_num, by go_num, hlt, Hns.out, HB.out.alloc hbw0 _⟩
          case measure => simp [intOf]; omega
      | some e =>
        simp only [OAt] at hu
        obtain ⟨b', o', c7, rfl, hb', hca, hex⟩ := hu
        obtain ⟨k0, k1, k2, k3, k4, k5, k6⟩ := hca.under hb' Hbel.out
        have hbw' : b' < wr.heap.size := by omega
        have hC := fun W m h => HP.out t e (List.mem_of_getElem? Hel.out) W c7 m hex h
        have HC := Lib.hid hC
        have hes : sizeO (some e) = e.size := by rw [sizeO]
        rw [hes] at Hszt
        clear hC hex hca hes
        unfold C7.arr at HC
        by_cases h1 : (n : Int) + 1 < m
        · have h1' : decide ((n : Int) + 1 < m) = true := decide_eq_true h1
          go_wp2_with fail
          go_at_call 23
          refine (HC.out _ _ ((Hbel.out.alloc hbs _))).mono ?_
          rintro e3 w3 ⟨⟨k, rfl, hk⟩, hb3⟩
          have hbb := (HB.out.alloc hbw0 _).trans (hb3.mono (by simp; omega))
          have HBB := Lib.hid hbb
          have hns : n + 1 + k ≤ sizeEs (l.take (i + 1)) := by have := Hn.out; have := Hszt.out; omega
          have Hns := Lib.hid hns
          have hnl : n + 1 + k ≤ sizeEs l := by have := Hszl.out; omega
          have hk0 : (k : Int) ≤ 4000000 := by have := Hsz.out; omega
          have Hnl := Lib.hid hnl
          clear hb3 hbb hns hnl hk
          by_cases hm : m ≤ (n : Int) + 1 + (k : Int)
          · have hm' : decide (m ≤ (n : Int) + 1 + (k : Int)) = true := decide_eq_true hm
            go_wp2
            go_ret
            exact ⟨⟨n + 1 + k, by go_num, Hnl.out⟩, HBB.out⟩
          · have hm' : decide (m ≤ (n : Int) + 1 + (k : Int)) = false := decide_eq_false hm
            go_wp2
            go_roundw
            case rel => exact ⟨i + 1, n + 1 + k, by go_num, by go_num, hlt, Hns.out, HBB.out⟩
            case measure => simp [intOf]; omega
        · have h1' : decide ((n : Int) + 1 < m) = false := decide_eq_false h1
          have hm : m ≤ (n : Int) + 1 := by omega
          have hm' : decide (m ≤ (n : Int) + 1) = true := decide_eq_true hm
          have hnl : n + 1 ≤ sizeEs l := by have := Hszl.out; have := Hszt.out; have := Hn.out; omega
          have Hnl := Lib.hid hnl
          clear hnl
          go_wp2
          go_ret
          exact ⟨⟨n + 1, by go_num, Hnl.out⟩, HB.out.alloc hbw0 _⟩
    · obtain rfl : i = l.length := by omega
      have hlt' : decide ((l.length : Int) < (l.length : Int)) = false := decide_eq_false (by omega)
      have hn := Hn.out
      rw [List.take_length] at hn
      have Hn2 := Lib.hid hn
      clear hn
      go_wp2
      go_ret
      exact ⟨⟨n, rfl, Hn2.out⟩, HB.out⟩

set_option maxHeartbeats 8000000 in
set_option maxRecDepth 1000000 in
theorem cnt_any {W0 : World} (k : Int) (t n a : ByteArray) (al : List AR) (ie : Option EX) (vs : List VA) (hs : (EX.mk k t n a al ie vs).size ≤ 4000000)
    (hA : ∀ t x, AR.mk t x ∈ al → CntTo W0 x) (hI : ∀ x, ie = some x → CntTo W0 x) (hV : ∀ k d l, VA.mk k d l ∈ vs → ∀ t x, EL.mk t (some x) ∈ l → CntTo W0 x) : CntTo W0 (.mk k t n a al ie vs) := by
  intro w c m hex hW
  rw [EX.size] at hs
  rw [EX.size]
  rw [ExAt] at hex
  obtain ⟨ck, ct, cn, ca, cal, ci, cvs⟩ := c
  obtain ⟨e1, e2, e3, e4, hv, hi, hvv⟩ := hex
  simp only at e1 e2 e3 e4 hv hi hvv
  subst e1 e2 e3 e4
  have hv' := hv
  obtain ⟨A1, c1, rfl, _⟩ := hv'
  have hvv' := hvv
  obtain ⟨A2, c2, rfl, _⟩ := hvv'
  obtain ⟨ip, rfl⟩ : ∃ p, ci = .pointer p := by
    cases ie with
    | none => simp only [OAt] at hi; exact ⟨_, hi⟩
    | some e => simp only [OAt] at hi; obtain ⟨b, o, c, h, _⟩ := hi; exact ⟨_, h⟩
  unfold C7.arr
  have hall : (al.length : Int) ≤ 4000000 := by have := sizeAs_length al; omega
  have hvl : (vs.length : Int) ≤ 4000000 := by have := sizeVs_length vs; omega
  have HV := Lib.hid hv
  have HVV := Lib.hid hvv
  have HO := Lib.hid hi
  have HA := Lib.hid hA
  have HI := Lib.hid hI
  have HVa := Lib.hid hV
  have HW := Lib.hid hW
  have hWs := hW.size
  have Hs := Lib.hid hs
  clear hv hvv hi hA hI hV hW hs
  go_enter Tryd.func23, Tryd.ntmps23
  go_upto_region 2 with fail
  go_cut [17] (fun v wx => v = .bool (ip.isSome && decide (1 < m)) ∧ wx = w.alloc (.cells #[.int .i64 k, .string t, .string n, .string a, .slice A1 al.length c1, .pointer ip, .slice A2 vs.length c2] 36))
  case first =>
    cases ip with
    | none =>
      go_wp2_with fail
      go_meet
      exact ⟨rfl, rfl⟩
    | some q =>
      cases h1 : decide (1 < m)
      all_goals
        go_wp2_with fail
        go_meet
        exact ⟨by rw [h1]; rfl, rfl⟩
  obtain ⟨rfl, rfl⟩ := hcut
  obtain ⟨bq, hbq⟩ : ∃ b, (ip.isSome && decide (1 < m)) = b := ⟨_, rfl⟩
  rw [hbq]
  go_upto_if 17 with fail
  go_cut [5] (fun v wx => ∃ q : Nat, v = .int .i64 q ∧ Hid (q ≤ 1 + sizeO ie) ∧ Hid (Below w.heap.size w wx) ∧ Hid (BoxAt wx w.heap.size #[.int .i64 k, .string t, .string n, .string a, .slice A1 al.length c1, .pointer ip, .slice A2 vs.length c2] 36))
  case first =>
    cases bq
    case false =>
      go_wp2_with fail
      go_meet
      exact ⟨1, rfl, by unfold Hid; omega, (Below.refl _ _).alloc (Nat.le_refl _) _, BoxAt.new _ _ _⟩
    cases ie with
    | none =>
      have h := HO.out
      simp only [OAt] at h
      cases h
      cases hbq
    | some e =>
      have h := HO.out
      simp only [OAt] at h
      obtain ⟨b', o', c7, e2, hb', hca, hex⟩ := h
      cases e2
      obtain ⟨k0, k1, k2, k3, k4, k5, k6⟩ := hca.under hb' HW.out
      have hbw' : b' < w.heap.size := by omega
      have hC := fun W m h => HI.out e rfl W c7 m hex h
      have HC := Lib.hid hC
      have hes : sizeO (some e) = e.size := by rw [sizeO]
      unfold C7.arr at HC
      clear hC hex hca hbq
      go_wp2_with fail
      go_at_call 23
      refine (HC.out _ _ (HW.out.alloc hWs _)).mono ?_
      rintro e3 w3 ⟨⟨j, rfl, hk⟩, hb3⟩
      have hbr : Below w.heap.size w w3 := ((Below.refl w.heap.size w).alloc (Nat.le_refl _) _).trans (hb3.mono (by simp))
      have HBr := Lib.hid hbr
      have HBx := Lib.hid ((BoxAt.new w #[.int .i64 k, .string t, .string n, .string a, .slice A1 al.length c1, .pointer (some ⟨b', o', none⟩), .slice A2 vs.length c2] 36).later hb3)
      have hj : (j : Int) ≤ 4000000 := by have := Hs.out; omega
      have Hj := Lib.hid (show 1 + j ≤ 1 + sizeO (some e) by omega)
      clear hb3 hbr hk hes
      go_wp2_with fail
      go_meet
      exact ⟨1 + j, by go_num, Hj.out, HBr.out, HBx.out⟩
  obtain ⟨q, rfl, Hq, HB0, HX0⟩ := hcut
  clear hbq HO HI
  have hq0 : (q : Int) ≤ 4000000 := by have := Hs.out; have := Hq.out; omega
  have x4 := HX0.out.cell 4
  have hx0 := HX0.out.lt
  simp at x4
  go_wp2
  go_loopw [5, 31] (fun s5 t31 wr => ∃ (i z : Nat), t31 = .int .i64 i ∧ s5 = .int .i64 z ∧ i ≤ al.length ∧ Hid (z ≤ 1 + sizeO ie + sizeAs (al.take i)) ∧ Hid (Below w.heap.size w wr) ∧ Hid (BoxAt wr w.heap.size #[.int .i64 k, .string t, .string n, .string a, .slice A1 al.length c1, .pointer ip, .slice A2 vs.length c2] 36)) (fun _ t31 _ => al.length - (intOf t31).toNat)
  case atStart => exact ⟨0, q, rfl, rfl, Nat.zero_le _, by unfold Hid; have := Hq.out; omega, HB0.out, HX0.out⟩
  case round =>
    obtain ⟨i, nn, rfl, rfl, hi, Hn, HB, HX⟩ := hrel
    have hi0 : (i : Int) ≤ 4000000 := by omega
    have hn0 : (nn : Int) ≤ 4000000 := by have := Hn.out; have := sizeAs_take al i; have := Hs.out; omega
    have hbel : Below W0.heap.size W0 wr := HW.out.trans (HB.out.mono hWs)
    have hbs := hbel.size
    have hxl := HX.out.lt
    have hbw0 := HB.out.size
    by_cases hlt : i < al.length
    · obtain ⟨b, o, c', e, hb, hcs⟩ := args_get HV.out hlt
      cases e
      obtain ⟨nm, ex, hel⟩ : ∃ t p, al[i]? = some (.mk t p) := by
        cases e : al[i] with
        | mk t p => exact ⟨t, p, by rw [List.getElem?_eq_getElem hlt, e]⟩
      obtain ⟨c0, c7, hca, hex⟩ := hcs i nm ex hel
      have hC := fun W m h => HA.out nm ex (List.mem_of_getElem? hel) W c7 m hex h
      obtain ⟨k2, t2, n3, a2, B1, m1, q1, p2, B2, m2, q2, rfl⟩ := ex_shape hex
      obtain ⟨k0, k1, k2', k3, k4, k5, k6⟩ := hca.under hb hbel
      rw [← hbel.cell (p := ⟨b, o + i * 8, none⟩) hb] at c0
      have hbw : b < wr.heap.size := by omega
      have hlt' : decide ((i : Int) < (al.length : Int)) = true := decide_eq_true (by omega)
      have hlt3 : ((i : Nat) : Int) < (al.length : Int) := by omega
      have hszt : sizeAs (al.take (i + 1)) = sizeAs (al.take i) + (nm.size + ex.size) := by
        rw [take_snoc al i _ hel, sizeAs_append, sizeAs, sizeAs, Nat.add_zero]
      have hszl := sizeAs_take al (i + 1)
      have HC := Lib.hid hC
      unfold C7.arr at HC
      have Hszt := Lib.hid hszt
      have Hszl := Lib.hid hszl
      have Hbel := Lib.hid hbel
      clear hC hca hex hszt hszl hbel hcs hel
      by_cases h1 : (nn : Int) < m
      · have h1' : decide ((nn : Int) < m) = true := decide_eq_true h1
        go_wp2_with fail
        go_at_call 23
        refine (HC.out _ _ ((Hbel.out.alloc hbs _))).mono ?_
        rintro e3 w3 ⟨⟨j, rfl, hk⟩, hb3⟩
        have hr3 : Below wr.heap.size wr w3 := ((Below.refl wr.heap.size wr).alloc (Nat.le_refl _) _).trans (hb3.mono (by simp))
        have HBB := Lib.hid (HB.out.trans (hr3.mono hbw0))
        have HXX := Lib.hid (HX.out.later hr3)
        have hj0 : (j : Int) ≤ 4000000 := by have := Hs.out; have := Hszt.out; have := Hszl.out; omega
        have Hns := Lib.hid (show nn + j ≤ 1 + sizeO ie + sizeAs (al.take (i + 1)) by have := Hn.out; have := Hszt.out; omega)
        clear hb3 hr3 hk
        go_wp2
        go_roundw
        case rel => exact ⟨i + 1, nn + j, by go_num, by go_num, hlt, Hns.out, HBB.out, HXX.out⟩
        case measure => simp [intOf]; omega
      · have h1' : decide ((nn : Int) < m) = false := decide_eq_false h1
        have Hns := Lib.hid (show nn ≤ 1 + sizeO ie + sizeAs (al.take (i + 1)) by have := Hn.out; have := Hszt.out; omega)
        go_wp2
        go_roundw
        case rel => exact ⟨i + 1, nn, by go_num, by go_num, hlt, Hns.out, HB.out.alloc hbw0 _, HX.out.alloc _⟩
        case measure => simp [intOf]; omega
    · obtain rfl : i = al.length := by omega
      have hlt' : decide ((al.length : Int) < (al.length : Int)) = false := decide_eq_false (by omega)
      have x6 := HX.out.cell 6
      simp at x6
      have hn := Hn.out
      rw [List.take_length] at hn
      have Hn2 := Lib.hid hn
      have hn20 : nn ≤ 1 + sizeO ie + sizeAs al := hn
      clear hn hbel x4 hx0
      obtain ⟨wo, hwo⟩ : ∃ x, x = wr := ⟨_, rfl⟩
      subst hwo
      go_wp2
      go_loopw [5, 50] (fun s5 t50 wr => ∃ (i z : Nat), t50 = .int .i64 i ∧ s5 = .int .i64 z ∧ i ≤ vs.length ∧ Hid (z ≤ 1 + sizeO ie + sizeAs al + sizeVs (vs.take i)) ∧ Hid (Below w.heap.size w wr)) (fun _ t50 _ => vs.length - (intOf t50).toNat)
      case atStart => exact ⟨0, nn, rfl, rfl, Nat.zero_le _, by unfold Hid; omega, HB.out⟩
      case round =>
        obtain ⟨i, y, rfl, rfl, hiv, Hny, HBy⟩ := hrel
        have hi0 : (i : Int) ≤ 4000000 := by omega
        have hy0 : (y : Int) ≤ 4000000 := by have := Hny.out; have := sizeVs_take vs i; have := Hs.out; omega
        have hbel : Below W0.heap.size W0 wr := HW.out.trans (HBy.out.mono hWs)
        have hbs2 := hbel.size
        have hbw2 := HBy.out.size
        by_cases hlt : i < vs.length
        · obtain ⟨b, o, c', e, hb, hcs⟩ := vars_get HVV.out hlt
          cases e
          obtain ⟨key, df, p, hel⟩ : ∃ t d p, vs[i]? = some (.mk t d p) := by
            cases e : vs[i] with
            | mk t d p => exact ⟨t, d, p, by rw [List.getElem?_eq_getElem hlt, e]⟩
          obtain ⟨c0, cd, uv, cu, hpat⟩ := hcs i key df p hel
          rw [← hbel.cell (p := ⟨b, o + i * 3, none⟩) hb] at c0
          rw [← hbel.cell (p := ⟨b, o + i * 3 + 1, none⟩) hb] at cd
          rw [← hbel.cell (p := ⟨b, o + i * 3 + 2, none⟩) hb] at cu
          have hp' := hpat
          obtain ⟨A3, c3, rfl, _, _, _⟩ := hp'
          have hbw : b < wr.heap.size := by omega
          have hlt' : decide ((i : Int) < (vs.length : Int)) = true := decide_eq_true (by omega)
          have hlt3 : ((i : Nat) : Int) < (vs.length : Int) := by omega
          have hszt : sizeVs (vs.take (i + 1)) = sizeVs (vs.take i) + (1 + key.size + sizeEs p) := by
            rw [take_snoc vs i _ hel, sizeVs_append, sizeVs, sizeVs, Nat.add_zero]
          have hszl := sizeVs_take vs (i + 1)
          have hC := fun W m h => cntIn_any p hpat (by have := Hs.out; omega) (HVa.out key df p (List.mem_of_getElem? hel)) m W h
          have HC := Lib.hid hC
          have Hszt := Lib.hid hszt
          have Hszl := Lib.hid hszl
          have Hbel := Lib.hid hbel
          clear hC hszt hszl hbel hcs hel hpat
          by_cases h1 : (y : Int) < m
          · have h1' : decide ((y : Int) < m) = true := decide_eq_true h1
            go_wp2_with fail
            go_at_call 13
            refine (HC.out _ _ ((Hbel.out.alloc hbs2 _))).mono ?_
            rintro e3 w3 ⟨⟨j, rfl, hk⟩, hb3⟩
            have hr3 : Below wr.heap.size wr w3 := ((Below.refl wr.heap.size wr).alloc (Nat.le_refl _) _).trans (hb3.mono (by simp))
            have HBB := Lib.hid (HBy.out.trans (hr3.mono hbw2))
            have hj0 : (j : Int) ≤ 4000000 := by have := Hs.out; have := Hszt.out; have := Hszl.out; omega
            have Hns := Lib.hid (show y + (1 + j) ≤ 1 + sizeO ie + sizeAs al + sizeVs (vs.take (i + 1)) by have := Hny.out; have := Hszt.out; omega)
            clear hb3 hr3 hk
            go_wp2
            go_roundw
            case rel => exact ⟨i + 1, y + (1 + j), by go_num, by go_num, hlt, Hns.out, HBB.out⟩
            case measure => simp [intOf]; omega
          · have h1' : decide ((y : Int) < m) = false := decide_eq_false h1
            have Hns := Lib.hid (show y ≤ 1 + sizeO ie + sizeAs al + sizeVs (vs.take (i + 1)) by have := Hny.out; have := Hszt.out; omega)
            go_wp2
            go_roundw
            case rel => exact ⟨i + 1, y, by go_num, by go_num, hlt, Hns.out, HBy.out.alloc hbw2 _⟩
            case measure => simp [intOf]; omega
        · obtain rfl : i = vs.length := by omega
          have hlt' : decide ((vs.length : Int) < (vs.length : Int)) = false := decide_eq_false (by omega)
          have hn := Hny.out
          rw [List.take_length] at hn
          have Hn2 := Lib.hid hn
          clear hn hbel
          go_wp2
          go_ret
          exact ⟨⟨y, rfl, by have := Hn2.out; omega⟩, HBy.out⟩
end Go.Proofs.YtmceblemiboedaaDoor

/-
  Law 07: Inline, Place and Count of whatever tree; Pattern of whatever pattern.
-/
namespace Go.Proofs.YtmceblemiboedaaDoor
open Go.RowKit
set_option linter.unusedVariables false
set_option linter.unusedSimpArgs false

theorem el_in {l : List EL} {t : ByteArray} {e : EX} (h : EL.mk t (some e) ∈ l) : e.size + 1 ≤ sizeEs l := by
  induction l with
  | nil => cases h
  | cons x r ih =>
    cases x with
    | mk t' p' =>
      rw [sizeEs]
      rcases List.mem_cons.1 h with h | h
      · cases h
        have : sizeO (some e) = e.size := by rw [sizeO]
        omega
      · have := ih h; omega
set_option maxHeartbeats 2000000 in
set_option maxRecDepth 1000000 in
theorem lin_other {W0 : World} (k : Int) (t n a : ByteArray) (al : List AR) (ie : Option EX) (vs : List VA) (d : Nat) (hk : ¬ (0 ≤ k ∧ k ≤ 6)) : InTo W0 (.mk k t n a al ie vs) d := by
  intro w c hex hW
  rw [ExAt] at hex
  obtain ⟨ck, ct, cn, ca, cal, ci, cvs⟩ := c
  obtain ⟨e1, e2, e3, e4, ⟨A1, c1, e5, hr1⟩, hi, ⟨A2, c2, e7, _⟩⟩ := hex
  simp only at e1 e2 e3 e4 e5 e7 hi
  subst e1 e2 e3 e4 e5 e7
  obtain ⟨p, rfl⟩ : ∃ p, ci = .pointer p := by
    cases ie with
    | none => simp only [OAt] at hi; exact ⟨_, hi⟩
    | some e => simp only [OAt] at hi; obtain ⟨b, o, c, h, _⟩ := hi; exact ⟨_, h⟩
  have e : okE .inl (.mk k t n a al ie vs) d = false := by
    rw [okE]; unfold inlP
    rw [if_neg (by omega), if_neg (by omega), if_neg (by omega), if_neg (by omega), if_neg (by omega), if_neg (by omega), if_neg (by omega)]
  rw [e]
  unfold C7.arr
  have z0 : (k == 0) = false := beq_eq_false_iff_ne.2 (by omega)
  have z1 : (k == 1) = false := beq_eq_false_iff_ne.2 (by omega)
  have z2 : (k == 2) = false := beq_eq_false_iff_ne.2 (by omega)
  have z3 : (k == 3) = false := beq_eq_false_iff_ne.2 (by omega)
  have z4 : (k == 4) = false := beq_eq_false_iff_ne.2 (by omega)
  have z5 : (k == 5) = false := beq_eq_false_iff_ne.2 (by omega)
  have z6 : (k == 6) = false := beq_eq_false_iff_ne.2 (by omega)
  clear hk hW hi hr1 e
  go_enter Tryd.func49, Tryd.ntmps49
  go_wp2
  go_ret
  exact ⟨rfl, by repeat' first | with_reducible exact Below.refl _ _ | with_reducible apply Below.setCell | with_reducible apply Below.alloc | (simp; done) | (simp; omega)⟩
theorem brc_inl (e : EX) (d : Nat) (hd : d ≤ 20) (hk : ∀ k t n a al ie vs, e = .mk k t n a al ie vs → k ≠ 7) : okE .brc e d = okE .inl e d := by
  obtain ⟨k, t, n, a, al, ie, vs⟩ := e
  have := hk _ _ _ _ _ _ _ rfl
  rw [okE, okE]
  simp only [decide_eq_true hd, if_neg this, Bool.true_and]
theorem place_plain {W0 : World} (k : Int) (t n a : ByteArray) (al : List AR) (ie : Option EX) (vs : List VA) (d : Nat) (hd : d ≤ 20) (hk : k ≠ 7) (hI : InTo W0 (.mk k t n a al ie vs) d) : PlaceTo W0 (.mk k t n a al ie vs) d := by
  intro w c hex hW
  rw [brc_inl _ d hd (by rintro _ _ _ _ _ _ _ h; cases h; exact hk)]
  have hI2 := fun w1 h => hI w1 c hex h
  rw [ExAt] at hex
  obtain ⟨ck, ct, cn, ca, cal, ci, cvs⟩ := c
  obtain ⟨e1, e2, e3, e4, ⟨A1, c1, e5, hr1⟩, hi, ⟨A2, c2, e7, _⟩⟩ := hex
  simp only at e1 e2 e3 e4 e5 e7 hi
  subst e1 e2 e3 e4 e5 e7
  obtain ⟨p, rfl⟩ : ∃ p, ci = .pointer p := by
    cases ie with
    | none => simp only [OAt] at hi; exact ⟨_, hi⟩
    | some e => simp only [OAt] at hi; obtain ⟨b, o, c, h, _⟩ := hi; exact ⟨_, h⟩
  exact lplace_plain k t n a A1 al.length c1 p A2 vs.length c2 d hd hk _ w (fun w1 hb => hI2 w1 (hW.trans (hb.mono hW.size)))
theorem place_deep (W0 : World) (e : EX) (d : Nat) (hd : 20 < d) : PlaceTo W0 e d := by
  intro w c hex hW
  have : okE .brc e d = false := by
    obtain ⟨k, t, n, a, al, ie, vs⟩ := e
    rw [okE]
    simp only [decide_eq_false (show ¬ d ≤ 20 by omega), Bool.false_and]
  rw [this]
  exact lplace_deep c d hd w
theorem knot {W0 : World} (hT : TabU W0) : ∀ (m : Nat) (e : EX), e.size ≤ m → m ≤ 4000000 → (∀ d, d ≤ 20 → InTo W0 e d) ∧ (∀ d, PlaceTo W0 e d) := by
  intro m
  induction m with
  | zero => intro e h _; have := e.size_pos; omega
  | succ m ih =>
    intro e he hm
    have hIn : ∀ d, d ≤ 20 → InTo W0 e d := by
      intro d hd
      obtain ⟨k, t, n, a, al, ie, vs⟩ := e
      have hs := he
      rw [EX.size] at hs
      by_cases hk : 0 ≤ k ∧ k ≤ 6
      · by_cases h45 : k = 4 ∨ k = 5
        · exact lin_args k t n a al ie vs d h45 (by omega) (fun t e hmem => (ih e (by have := ar_size hmem; omega) (by omega)).1 d hd)
        · refine lin_simple hT k t n a al ie vs d (by omega) (by omega) (by omega) (fun e hee => (ih e ?_ (by omega)).2 (d + 1))
          have : sizeO ie = e.size := by rw [hee, sizeO]
          omega
      · exact lin_other k t n a al ie vs d hk
    refine ⟨hIn, fun d => ?_⟩
    by_cases hd : d ≤ 20
    · have hi := hIn d hd
      obtain ⟨k, t, n, a, al, ie, vs⟩ := e
      have hs := he
      rw [EX.size] at hs
      by_cases hk : k = 7
      · subst hk
        refine lsel hT t n a al ie vs d hd (by omega) (fun key b l hmem t e hel => (ih e (by have := va_size hmem; have := el_in hel; omega) (by omega)).2 (d + 1)) (fun e hee => (ih (askedE e) ?_ (by omega)).1 d hd)
        have := asked_size e
        have : sizeO ie = e.size := by rw [hee, sizeO]
        omega
      · exact place_plain k t n a al ie vs d hd hk hi
    · exact place_deep W0 e d (by omega)
theorem place_any {W0 : World} (hT : TabU W0) (e : EX) (he : e.size ≤ 4000000) (d : Nat) : PlaceTo W0 e d := (knot hT 4000000 e he (Nat.le_refl _)).2 d
theorem lpattern {W0 : World} (hT : TabU W0) (l : List EL) {v : Value} (hv : PatAt W0 l v) (d : Nat) (hd : d ≤ 4000000) (hsz : sizeEs l ≤ 4000000) (w : World) (hW : Below W0.heap.size W0 w) :
    Calls Tryd.prog 19 #[v, .int .i64 d] w fun e w' => e = .returned (.bool (patB l d)) ∧ Below w.heap.size w w' :=
  lpat_any hT l hv d hd hsz (fun t e h => place_any hT e (by have := el_in h; omega) (d + 1)) w hW
theorem cnt_all (W0 : World) : ∀ (m : Nat) (e : EX), e.size ≤ m → m ≤ 4000000 → CntTo W0 e := by
  intro m
  induction m with
  | zero => intro e h _; have := e.size_pos; omega
  | succ m ih =>
    intro e he hm
    obtain ⟨k, t, n, a, al, ie, vs⟩ := e
    have hs := he
    rw [EX.size] at hs
    refine cnt_any k t n a al ie vs (by omega) (fun t x hx => ih x (by have := ar_size hx; omega) (by omega)) (fun x hx => ih x ?_ (by omega)) (fun key b l hmem t x hx => ih x (by have := va_size hmem; have := el_in hx; omega) (by omega))
    have : sizeO ie = x.size := by rw [hx, sizeO]
    omega
theorem cntIn_all {W0 : World} (l : List EL) {v : Value} (hv : PatAt W0 l v) (hsz : sizeEs l ≤ 4000000) (m : Int) (w : World) (hW : Below W0.heap.size W0 w) :
    Calls Tryd.prog 13 #[v, .int .i64 m] w fun e w' => (∃ n : Nat, e = .returned (.int .i64 n) ∧ n ≤ sizeEs l) ∧ Below w.heap.size w w' :=
  cntIn_any l hv hsz (fun t e h => cnt_all W0 4000000 e (by have := el_in h; omega) (Nat.le_refl _)) m w hW
end Go.Proofs.YtmceblemiboedaaDoor

/-
  Law 07: Right of whatever entry; Small.
-/
namespace Go.Proofs.YtmceblemiboedaaDoor
open Go.RowKit
set_option linter.unusedVariables false
set_option linter.unusedSimpArgs false

theorem contains_step (s : ByteArray) (i : Nat) (h : i < s.size) : (s.data.toList.drop i).contains 13 = (((s[i].toNat : Int) == 13) || (s.data.toList.drop (i + 1)).contains 13) := by
  have hl : i < s.data.toList.length := by rw [size_data]; exact h
  rw [List.drop_eq_getElem_cons hl, List.contains_cons]
  congr 1
  show (13 == s[i]) = ((s[i].toNat : Int) == 13)
  rw [Bool.eq_iff_iff, beq_iff_eq, beq_iff_eq, eq_comm, ← UInt8.toNat_inj]
  simp
  omega
set_option maxHeartbeats 4000000 in
set_option maxRecDepth 1000000 in
theorem small_any {W0 : World} (ty level : Int) (text name : ByteArray) (val : List EL) (ats : List AT) (v u : Value) (fr tu : Int) (hv : PatAt W0 val v) (hu : LieAt (TsAt W0 ats) u ats.length)
    (hsz : sizeEs val + sizeTs ats ≤ 4000000) (w : World) (hW : Below W0.heap.size W0 w) :
    Calls Tryd.prog 7 #[entV ty level text name v u fr tu] w fun e w' => (∃ b, e = .returned (.bool b)) ∧ Below w.heap.size w w' := by
  have hC := fun W h => cntIn_all val hv (by omega) 400 W h
  have HC := Lib.hid hC
  obtain ⟨A, c, rfl, _⟩ := hv
  have HU := Lib.hid hu
  obtain ⟨A2, c2, rfl, _⟩ := hu
  have HW := Lib.hid hW
  have hWs := hW.size
  have Hsz := Lib.hid hsz
  have hal : (ats.length : Int) ≤ 4000000 := by have := sizeTs_length ats; omega
  clear hC hW hsz
  unfold entV
  go_enter Tryd.func7, Tryd.ntmps7
  go_wp2_with fail
  go_at_call 13
  refine (HC.out _ (HW.out.alloc hWs _)).mono ?_
  rintro e1 w1 ⟨⟨q, rfl, hq⟩, hb1⟩
  have hE := (BoxAt.new w #[.int .i64 ty, .int .i64 level, .string text, .string name, .slice A val.length c, .slice A2 ats.length c2, .int .i64 fr, .int .i64 tu] 26).later hb1
  have hbr : Below w.heap.size w w1 := ((Below.refl w.heap.size w).alloc (Nat.le_refl _) _).trans (hb1.mono (by simp))
  have d5 := hE.cell 5
  have hlt0 := hE.lt
  simp at d5
  have HBr := Lib.hid hbr
  have Hq := Lib.hid hq
  have hq0 : (q : Int) ≤ 4000000 := by have := Hsz.out; omega
  clear hE hb1 hbr hq HC
  go_wp2
  go_loopw [3, 12] (fun s3 t12 wr => ∃ (i z : Nat), t12 = .int .i64 i ∧ s3 = .int .i64 z ∧ i ≤ ats.length ∧ Hid (z ≤ sizeEs val + sizeTs (ats.take i)) ∧ Hid (Below w.heap.size w wr)) (fun _ t12 _ => ats.length - (intOf t12).toNat)
  case atStart => exact ⟨0, q, rfl, rfl, Nat.zero_le _, by unfold Hid; have := Hq.out; omega, HBr.out⟩
  case round =>
    obtain ⟨i, z, rfl, rfl, hi, Hz, HB⟩ := hrel
    have hi0 : (i : Int) ≤ 4000000 := by omega
    have hz0 : (z : Int) ≤ 4000000 := by have := Hz.out; have := sizeTs_take ats i; have := Hsz.out; omega
    have hbel : Below W0.heap.size W0 wr := HW.out.trans (HB.out.mono hWs)
    have hbs := hbel.size
    have hbw0 := HB.out.size
    by_cases hlt : i < ats.length
    · obtain ⟨b, o, c', e, hb, hcs⟩ := ats_get HU.out hlt
      cases e
      obtain ⟨t, p, hel⟩ : ∃ t p, ats[i]? = some (.mk t p) := by
        cases e : ats[i] with
        | mk t p => exact ⟨t, p, by rw [List.getElem?_eq_getElem hlt, e]⟩
      obtain ⟨c0, uv, c1, hpat⟩ := hcs i t p hel
      rw [← hbel.cell (p := ⟨b, o + i * 2, none⟩) hb] at c0
      rw [← hbel.cell (p := ⟨b, o + i * 2 + 1, none⟩) hb] at c1
      have hp' := hpat
      obtain ⟨A3, c3, rfl, _, _, _⟩ := hp'
      have hbw : b < wr.heap.size := by omega
      have hlt' : decide ((i : Int) < (ats.length : Int)) = true := decide_eq_true (by omega)
      have hlt3 : ((i : Nat) : Int) < (ats.length : Int) := by omega
      have hszt : sizeTs (ats.take (i + 1)) = sizeTs (ats.take i) + (1 + t.size + sizeEs p) := by
        rw [take_snoc ats i _ hel, sizeTs_append, sizeTs, sizeTs, Nat.add_zero]
      have hszl := sizeTs_take ats (i + 1)
      have hC := fun W h => cntIn_all p hpat (by have := Hsz.out; omega) 400 W h
      have HC := Lib.hid hC
      have Hszt := Lib.hid hszt
      have Hszl := Lib.hid hszl
      have Hbel := Lib.hid hbel
      clear hC hszt hszl hbel hcs hel hpat
      by_cases h1 : (z : Int) < 400
      · have h1' : decide ((z : Int) < 400) = true := decide_eq_true h1
        go_wp2_with fail
        go_at_call 13
        refine (HC.out _ ((Hbel.out.alloc hbs _))).mono ?_
        rintro e3 w3 ⟨⟨j, rfl, hk⟩, hb3⟩
        have hr3 : Below wr.heap.size wr w3 := ((Below.refl wr.heap.size wr).alloc (Nat.le_refl _) _).trans (hb3.mono (by simp))
        have HBB := Lib.hid (HB.out.trans (hr3.mono hbw0))
        have hj0 : (j : Int) ≤ 4000000 := by have := Hsz.out; have := Hszt.out; have := Hszl.out; omega
        have Hns := Lib.hid (show z + (1 + j) ≤ sizeEs val + sizeTs (ats.take (i + 1)) by have := Hz.out; have := Hszt.out; omega)
        clear hb3 hr3 hk
        go_wp2
        go_roundw
        case rel => exact ⟨i + 1, z + (1 + j), by go_num, by go_num, hlt, Hns.out, HBB.out⟩
        case measure => simp [intOf]; omega
      · have h1' : decide ((z : Int) < 400) = false := decide_eq_false h1
        have Hns := Lib.hid (show z ≤ sizeEs val + sizeTs (ats.take (i + 1)) by have := Hz.out; have := Hszt.out; omega)
        go_wp2
        go_roundw
        case rel => exact ⟨i + 1, z, by go_num, by go_num, hlt, Hns.out, HB.out.alloc hbw0 _⟩
        case measure => simp [intOf]; omega
    · obtain rfl : i = ats.length := by omega
      have hlt' : decide ((ats.length : Int) < (ats.length : Int)) = false := decide_eq_false (by omega)
      clear hbel
      go_wp2
      go_ret
      exact ⟨⟨_, rfl⟩, HB.out⟩
end Go.Proofs.YtmceblemiboedaaDoor

/-
  Law 07: Right of whatever entry.
-/
namespace Go.Proofs.YtmceblemiboedaaDoor
open Go.RowKit
set_option linter.unusedVariables false
set_option linter.unusedSimpArgs false

set_option maxHeartbeats 4000000 in
set_option maxRecDepth 1000000 in
theorem lright_com {W0 : World} (hT : TabU W0) (level : Int) (text name : ByteArray) (A : Option Addr) (n1 c1 : Nat) (A2 : Option Addr) (n2 c2 : Nat) (fr tu : Int) (hs : text.size ≤ 4000000) (w : World) (hW : Below W0.heap.size W0 w) :
    Calls Tryd.prog 9 #[entV 0 level text name (.slice A n1 c1) (.slice A2 n2 c2) fr tu] w fun e w' => e = .returned (.bool (comB level text name n1 n2)) ∧ Below w.heap.size w w' := by
  have HT := Lib.hid (hT.below hW)
  have Hp := Lib.hid (fun W h => plain_any text W h hs)
  obtain ⟨q, hq⟩ : ∃ q, validB text = q := ⟨_, rfl⟩
  obtain ⟨c13, hc13⟩ : ∃ q, text.data.toList.contains 13 = q := ⟨_, rfl⟩
  unfold comB textB
  rw [hq] at Hp ⊢
  rw [hc13]
  have Hc := Lib.hid hc13
  have HN0 := Lib.hid (show text.data.toList.contains 13 = (text.data.toList.drop 0).contains 13 by rw [List.drop_zero])
  clear hT hW hq hc13
  unfold entV
  have hts0 : (text.size : Int) ≤ 4000000 := by omega
  have z1 : ((n1 : Int) == 0) = decide (n1 = 0) := by by_cases h : n1 = 0 <;> simp [h]
  have z2 : ((n2 : Int) == 0) = decide (n2 = 0) := by by_cases h : n2 = 0 <;> simp [h]
  obtain ⟨y1, hy1⟩ : ∃ y, decide (n1 = 0) = y := ⟨_, rfl⟩
  obtain ⟨y2, hy2⟩ : ∃ y, decide (n2 = 0) = y := ⟨_, rfl⟩
  obtain ⟨g, hg⟩ : ∃ g, emp name = g := ⟨_, rfl⟩
  have hg2 : name.toList.isEmpty = g := hg
  rw [hy1] at z1 ⊢
  rw [hy2] at z2 ⊢
  rw [hg]
  clear hy1 hy2 hg
  go_enter Tryd.func9, Tryd.ntmps9
  go_wp2
  go_loop [3] (fun s3 => ∃ j : Nat, s3 = .int .i64 j ∧ j ≤ text.size ∧ Hid ((text.data.toList.drop j).contains 13 = c13)) (fun s3 => text.size - (intOf s3).toNat)
  case atStart => exact ⟨0, rfl, Nat.zero_le _, by unfold Hid; rw [← HN0.out]; exact Hc.out⟩
  case round =>
    obtain ⟨j, rfl, hj, Hoff⟩ := hrel
    by_cases hjl : j < text.size
    · have hj' : decide ((j : Int) < (text.size : Int)) = true := decide_eq_true (by omega)
      have hj3 : (j : Int) < (text.size : Int) := by omega
      have hj4 : decide (j < text.size) = true := decide_eq_true hjl
      have hst := contains_step text j hjl
      rw [Hoff.out] at hst
      obtain ⟨x1, hx1⟩ : ∃ x, ((text[j].toNat : Int) == 13) = x := ⟨_, rfl⟩
      rw [hx1] at hst
      have Hst := Lib.hid hst
      clear hst Hoff
      cases x1
      case true =>
        go_wp2
        go_ret
        exact ⟨ret_bool (by rw [Hst.out]; simp), (Below.refl _ _).alloc (Nat.le_refl _) _⟩
      go_wp2
      go_round
      case rel => exact ⟨j + 1, by go_num, hjl, by unfold Hid; rw [Hst.out]; rfl⟩
      case measure => simp [intOf]; omega
    · have hj' : decide ((j : Int) < (text.size : Int)) = false := decide_eq_false (by omega)
      have hj3 : ¬ (j : Int) < (text.size : Int) := by omega
      have hoff := Hoff.out
      rw [List.drop_eq_nil_of_le (by rw [size_data]; omega)] at hoff
      have hc0 : c13 = false := hoff.symm
      subst hc0
      clear hoff Hoff Hc HN0
      by_cases h1 : 1 ≤ level
      case neg =>
        have hz : decide ((1 : Int) ≤ level) = false := decide_eq_false h1
        go_wp2
        go_ret
        exact ⟨ret_bool (by first | rfl | simp [hz]), (Below.refl _ _).alloc (Nat.le_refl _) _⟩
      have hz : decide ((1 : Int) ≤ level) = true := decide_eq_true h1
      by_cases h3 : level ≤ 3
      case neg =>
        have hy : decide (level ≤ 3) = false := decide_eq_false h3
        go_wp2
        go_ret
        exact ⟨ret_bool (by first | rfl | simp [hy]), (Below.refl _ _).alloc (Nat.le_refl _) _⟩
      have hy : decide (level ≤ 3) = true := decide_eq_true h3
      cases q
      case false =>
        go_wp2_with fail
        go_at_call 17
        refine (Hp.out _ (HT.out.below ((Below.refl _ _).alloc (Nat.le_refl _) _))).mono ?_
        rintro e w2 ⟨rfl, hb⟩
        have HB := Lib.hid (below_box hb)
        clear hb
        go_wp2
        go_ret
        exact ⟨ret_bool (by simp), HB.out⟩
      cases g <;> cases y1 <;> cases y2 <;>
      · go_wp2_with fail
        go_at_call 17
        refine (Hp.out _ (HT.out.below ((Below.refl _ _).alloc (Nat.le_refl _) _))).mono ?_
        rintro e w2 ⟨rfl, hb⟩
        obtain ⟨hcc, hff⟩ := bcell hb
        have HB := Lib.hid (below_box hb)
        clear hb
        go_wp2
        go_ret
        exact ⟨ret_bool (by first | rfl | simp [hz, hy]), HB.out⟩

theorem msg_eq (ty level : Int) (text name : ByteArray) (val : List EL) (ats : List AT) :
    msgB ty level text name val ats = (ats.all attrOk && ((level == 0) && emp text && isNameV name && (!val.isEmpty || (ty == 1) && !ats.isEmpty) && patB val 0)) := by
  unfold msgB
  generalize (!val.isEmpty || (ty == 1) && !ats.isEmpty) = S
  generalize ats.all attrOk = X
  cases (level == 0) <;> cases emp text <;> cases isNameV name <;> cases S <;> cases X <;> cases patB val 0 <;> rfl
set_option maxHeartbeats 8000000 in
set_option maxRecDepth 1000000 in
theorem lright_msg {W0 : World} (hT : TabU W0) (ty level : Int) (hty : ty = 1 ∨ ty = 2) (text name : ByteArray) (val : List EL) (ats : List AT) (v u : Value) (fr tu : Int) (hv : PatAt W0 val v) (hu : LieAt (TsAt W0 ats) u ats.length)
    (hnm : name.size ≤ 4000000) (hsz : sizeEs val + sizeTs ats ≤ 4000000) (w : World) (hW : Below W0.heap.size W0 w) :
    Calls Tryd.prog 9 #[entV ty level text name v u fr tu] w fun e w' => e = .returned (.bool (msgB ty level text name val ats)) ∧ Below w.heap.size w w' := by
  rw [msg_eq]
  have hP := fun W h => lpattern hT val hv 0 (by omega) (by omega) W h
  obtain ⟨PV, hPV⟩ : ∃ p, patB val 0 = p := ⟨_, rfl⟩
  rw [hPV] at hP ⊢
  have HP := Lib.hid hP
  have hN := fun W => lname_any name W hnm
  rw [nameV_l]
  obtain ⟨NM, hNM⟩ : ∃ p, lnameB name.data.toList = p := ⟨_, rfl⟩
  rw [hNM] at hN ⊢
  have HN := Lib.hid hN
  obtain ⟨em, hem⟩ : ∃ g, emp text = g := ⟨_, rfl⟩
  have hem2 : text.toList.isEmpty = em := hem
  rw [hem]
  obtain ⟨lv, hlv⟩ : ∃ g, (level == 0) = g := ⟨_, rfl⟩
  rw [hlv]
  obtain ⟨S, hS⟩ : ∃ S, (!val.isEmpty || (ty == 1) && !ats.isEmpty) = S := ⟨_, rfl⟩
  rw [hS]
  obtain ⟨z, hz⟩ : ∃ z, (ats.all attrOk && (lv && em && NM && S && PV)) = z := ⟨_, rfl⟩
  rw [hz]
  have HZ := Lib.hid hz
  have HS := Lib.hid hS
  have hvl : (val.length : Int) ≤ 4000000 := by have := sizeEs_length val; omega
  have hal : (ats.length : Int) ≤ 4000000 := by have := sizeTs_length ats; omega
  obtain ⟨A, c, rfl, _⟩ := hv
  have HU := Lib.hid hu
  obtain ⟨A2, c2, rfl, _⟩ := hu
  have HW := Lib.hid hW
  have hWs := hW.size
  have HT := Lib.hid hT
  have Hsz := Lib.hid hsz
  clear hP hPV hN hNM hem hz hS hT hW hsz
  unfold entV
  rcases hty with rfl | rfl
  all_goals
    go_enter Tryd.func9, Tryd.ntmps9
    go_wp2
    go_loopw [59] (fun t59 wr => ∃ j : Nat, t59 = .int .i64 j ∧ j ≤ ats.length ∧ Hid (((ats.drop j).all attrOk && (lv && em && NM && S && PV)) = z) ∧ Hid (Below w.heap.size w wr) ∧
      Hid (BoxAt wr w.heap.size #[.int .i64 _, .int .i64 level, .string text, .string name, .slice A val.length c, .slice A2 ats.length c2, .int .i64 fr, .int .i64 tu] 26)) (fun t59 _ => ats.length - (intOf t59).toNat)
    case atStart => exact ⟨0, rfl, Nat.zero_le _, by unfold Hid; rw [List.drop_zero]; exact HZ.out, (Below.refl _ _).alloc (Nat.le_refl _) _, BoxAt.new _ _ _⟩
    case round =>
      obtain ⟨j, rfl, hj, Hans, HB, HE⟩ := hrel
      have hj0 : (j : Int) ≤ 4000000 := by omega
      have hbel : Below W0.heap.size W0 wr := HW.out.trans (HB.out.mono hWs)
      have hbs := hbel.size
      have hbw0 := HB.out.size
      have hel0 := HE.out.lt
      by_cases hlt : j < ats.length
      · obtain ⟨b, o, c', e, hb, hcs⟩ := ats_get HU.out hlt
        cases e
        obtain ⟨t, p, hel⟩ : ∃ t p, ats[j]? = some (.mk t p) := by
          cases e : ats[j] with
          | mk t p => exact ⟨t, p, by rw [List.getElem?_eq_getElem hlt, e]⟩
        obtain ⟨c0, uv, c1, hpat⟩ := hcs j t p hel
        rw [← hbel.cell (p := ⟨b, o + j * 2, none⟩) hb] at c0
        rw [← hbel.cell (p := ⟨b, o + j * 2 + 1, none⟩) hb] at c1
        have hp' := hpat
        obtain ⟨A3, c3, rfl, _, _, _⟩ := hp'
        have hbw : b < wr.heap.size := by omega
        have hlt' : decide ((j : Int) < (ats.length : Int)) = true := decide_eq_true (by omega)
        have hlt3 : ((j : Nat) : Int) < (ats.length : Int) := by omega
        have hszt : sizeTs (ats.take (j + 1)) = sizeTs (ats.take j) + (1 + t.size + sizeEs p) := by
          rw [take_snoc ats j _ hel, sizeTs_append, sizeTs, sizeTs, Nat.add_zero]
        have hszl := sizeTs_take ats (j + 1)
        have hks : t.size ≤ 4000000 := by have := Hsz.out; omega
        have hps : sizeEs p ≤ 4000000 := by have := Hsz.out; omega
        have hpl : (p.length : Int) ≤ 4000000 := by have := sizeEs_length p; omega
        have hL := fun W h => lpattern HT.out p hpat 0 (by omega) hps W h
        obtain ⟨r, hr⟩ : ∃ r, patB p 0 = r := ⟨_, rfl⟩
        rw [hr] at hL
        have HL := Lib.hid hL
        have hans := Hans.out
        rw [drop_cons ats j _ hel, List.all_cons] at hans
        obtain ⟨vk, hvk⟩ : ∃ v, attrOk (.mk t p) = v := ⟨_, rfl⟩
        rw [hvk] at hans
        have hvk2 : (isNameV t && (!p.isEmpty && patB p 0)) = vk := hvk
        have hM := fun W => lname_any t W hks
        rw [hr, nameV_l] at hvk2
        obtain ⟨g, hg⟩ : ∃ g, lnameB t.data.toList = g := ⟨_, rfl⟩
        rw [hg] at hM hvk2
        have HM := Lib.hid hM
        have Hans2 := Lib.hid hans
        have Hvk := Lib.hid hvk2
        have Hbel := Lib.hid hbel
        clear hL hr hans hvk hvk2 hM hg hbel hcs hel hpat hszt hszl Hans
        go_upto_region 14 with fail
        go_cut [78] (fun v wx => v = .bool (!vk) ∧ Hid (Below (wr.heap.size + 1) (wr.alloc (.cells #[.string t, .slice A3 p.length c3] 40)) wx))
        case first =>
          cases g
          case false =>
            have hv := Hvk.out
            rw [Bool.false_and] at hv
            subst hv
            go_wp2_with fail
            go_at_call 18
            refine (HM.out _).mono ?_
            rintro e2 w2 ⟨rfl, rfl⟩
            go_wp2_with fail
            go_meet
            exact ⟨rfl, Below.refl _ _⟩
          by_cases h0 : p.length = 0
          · have hz0 : ((p.length : Int) == 0) = true := beq_iff_eq.2 (by omega)
            have hpe : p.isEmpty = true := by rw [← len0]; exact decide_eq_true h0
            have hv := Hvk.out
            rw [hpe] at hv
            have hv0 : vk = false := by rw [← hv]; simp
            subst hv0
            clear hv hpe h0
            go_wp2_with fail
            go_at_call 18
            refine (HM.out _).mono ?_
            rintro e2 w2 ⟨rfl, rfl⟩
            go_wp2_with fail
            go_meet
            exact ⟨rfl, Below.refl _ _⟩
          · have hz0 : ((p.length : Int) == 0) = false := beq_eq_false_iff_ne.2 (by omega)
            have hpe : p.isEmpty = false := by rw [← len0]; exact decide_eq_false h0
            have hv := Hvk.out
            rw [hpe] at hv
            have Hv := Lib.hid hv
            clear hv hpe
            go_wp2_with fail
            go_at_call 18
            refine (HM.out _).mono ?_
            rintro e2 w2 ⟨rfl, rfl⟩
            go_wp2_with fail
            go_at_call 19
            refine (HL.out _ (Hbel.out.alloc hbs _)).mono ?_
            rintro e3 w3 ⟨rfl, hb3⟩
            have Hb3 := Lib.hid hb3
            clear hb3
            go_wp2_with fail
            go_meet
            exact ⟨by rw [← Hv.out]; simp, by unfold Hid; simpa using Hb3.out⟩
        case rest =>
          obtain ⟨rfl, Hc⟩ := hcut
          have hcb : Below (wr.alloc (.cells #[.string t, .slice A3 p.length c3] 40)).heap.size (wr.alloc (.cells #[.string t, .slice A3 p.length c3] 40)) wc := by simpa using Hc.out
          have hr3 : Below wr.heap.size wr wc := ((Below.refl wr.heap.size wr).alloc (Nat.le_refl _) _).trans (hcb.mono (by simp))
          have HBB := Lib.hid (HB.out.trans (hr3.mono hbw0))
          have HEE := Lib.hid (HE.out.later hr3)
          clear hcb hr3 Hc Hvk HM HL
          cases vk
          case false =>
            go_wp2
            go_ret
            exact ⟨ret_bool (by rw [← Hans2.out]; simp), HBB.out⟩
          have hans := Hans2.out
          rw [Bool.true_and] at hans
          have Hans3 := Lib.hid hans
          clear hans Hans2
          go_wp2
          go_roundw
          case rel => exact ⟨j + 1, by go_num, hlt, Hans3.out, HBB.out, HEE.out⟩
          case measure => simp [intOf]; omega
      · obtain rfl : j = ats.length := by omega
        have hlt' : decide ((ats.length : Int) < (ats.length : Int)) = false := decide_eq_false (by omega)
        have hans := Hans.out
        rw [List.drop_length, List.all_nil, Bool.true_and] at hans
        have y0 := HE.out.cell 0
        have y1 := HE.out.cell 1
        have y2 := HE.out.cell 2
        have y3 := HE.out.cell 3
        have y4 := HE.out.cell 4
        have y5 := HE.out.cell 5
        simp at y0 y1 y2 y3 y4 y5
        have Hbel := Lib.hid hbel
        have Hans2 := Lib.hid hans
        clear hbel Hans hans
        go_upto_region 17 with fail
        go_cut [6] (fun v wx => v = .bool S ∧ wx = wr)
        case first =>
          have hve : val.isEmpty = !decide (0 < val.length) := by cases val <;> simp
          have hae : ats.isEmpty = !decide (0 < ats.length) := by cases ats <;> simp
          have hs := HS.out
          rw [hve, hae] at hs
          clear hve hae
          by_cases h0 : 0 < val.length
          · have hd : decide ((0 : Int) < (val.length : Int)) = true := decide_eq_true (by omega)
            rw [decide_eq_true h0] at hs
            have hs1 : S = true := by rw [← hs]; simp
            subst hs1
            clear hs
            go_wp2_with fail
            go_meet
            exact ⟨rfl, rfl⟩
          · have hd : decide ((0 : Int) < (val.length : Int)) = false := decide_eq_false (by omega)
            rw [decide_eq_false h0] at hs
            by_cases h1 : 0 < ats.length
            · have hd2 : decide ((0 : Int) < (ats.length : Int)) = true := decide_eq_true (by omega)
              rw [decide_eq_true h1] at hs
              have Hs := Lib.hid hs
              clear hs
              go_wp2_with fail
              go_meet
              exact ⟨by rw [← Hs.out]; rfl, rfl⟩
            · have hd2 : decide ((0 : Int) < (ats.length : Int)) = false := decide_eq_false (by omega)
              rw [decide_eq_false h1] at hs
              have Hs := Lib.hid hs
              clear hs
              go_wp2_with fail
              go_meet
              exact ⟨by rw [← Hs.out]; rfl, rfl⟩
        case rest =>
          obtain ⟨rfl, rfl⟩ := hcut
          cases lv
          case false =>
            go_wp2
            go_ret
            exact ⟨ret_bool (by rw [← Hans2.out]; rfl), HB.out⟩
          cases em
          case false =>
            go_wp2
            go_ret
            exact ⟨ret_bool (by rw [← Hans2.out]; rfl), HB.out⟩
          cases NM
          case false =>
            go_wp2_with fail
            go_at_call 18
            refine (HN.out _).mono ?_
            rintro e2 w2 ⟨rfl, rfl⟩
            go_wp2
            go_ret
            exact ⟨ret_bool (by rw [← Hans2.out]; rfl), HB.out⟩
          cases S
          case false =>
            go_wp2_with fail
            go_at_call 18
            refine (HN.out _).mono ?_
            rintro e2 w2 ⟨rfl, rfl⟩
            go_wp2
            go_ret
            exact ⟨ret_bool (by rw [← Hans2.out]; rfl), HB.out⟩
          go_wp2_with fail
          go_at_call 18
          refine (HN.out _).mono ?_
          rintro e2 w2 ⟨rfl, rfl⟩
          go_wp2_with fail
          go_at_call 19
          refine (HP.out _ Hbel.out).mono ?_
          rintro e3 w3 ⟨rfl, hb3⟩
          have HBB := Lib.hid (HB.out.trans (hb3.mono hbw0))
          clear hb3
          go_wp2
          go_ret
          exact ⟨ret_bool (by rw [← Hans2.out]; simp), HBB.out⟩
set_option maxHeartbeats 2000000 in
set_option maxRecDepth 100000 in
theorem lright_any {W0 : World} (hT : TabU W0) (ty level : Int) (text name : ByteArray) (val : List EL) (ats : List AT) (v u : Value) (fr tu : Int) (hv : PatAt W0 val v) (hu : LieAt (TsAt W0 ats) u ats.length)
    (hnm : name.size ≤ 4000000) (htx : text.size ≤ 4000000) (hsz : sizeEs val + sizeTs ats ≤ 4000000) (w : World) (hW : Below W0.heap.size W0 w) :
    Calls Tryd.prog 9 #[entV ty level text name v u fr tu] w fun e w' => e = .returned (.bool (rightB ty level text name val ats)) ∧ Below w.heap.size w w' := by
  unfold rightB
  by_cases h0 : ty = 0
  · subst h0
    rw [if_pos rfl]
    obtain ⟨A, c, rfl, _⟩ := hv
    obtain ⟨A2, c2, rfl, _⟩ := hu
    exact lright_com hT level text name A val.length c A2 ats.length c2 fr tu htx w hW
  rw [if_neg h0]
  by_cases h1 : ty = 1 ∨ ty = 2
  · rw [if_pos h1]
    exact lright_msg hT ty level h1 text name val ats v u fr tu hv hu hnm hsz w hW
  · rw [if_neg h1]
    obtain ⟨A, c, rfl, _⟩ := hv
    obtain ⟨A2, c2, rfl, _⟩ := hu
    have z0 : (ty == 0) = false := beq_eq_false_iff_ne.2 h0
    have z1 : (ty == 1) = false := beq_eq_false_iff_ne.2 (fun h => h1 (.inl h))
    have z2 : (ty == 2) = false := beq_eq_false_iff_ne.2 (fun h => h1 (.inr h))
    clear h0 h1 hsz
    unfold entV
    go_enter Tryd.func9, Tryd.ntmps9
    go_wp2
    go_ret
    exact ⟨rfl, by repeat' first | with_reducible exact Below.refl _ _ | with_reducible apply Below.setCell | with_reducible apply Below.alloc | (simp; done) | (simp; omega)⟩
end Go.Proofs.YtmceblemiboedaaDoor

/-
  Package ast: Same, where what stands in places is at one place.
-/
namespace Go.Proofs.YtmceblemiboedaaDoor
open Go.RowKit
set_option linter.unusedVariables false
set_option linter.unusedSimpArgs false

theorem ptr_info : ∃ j, Tryd.prog.info? 36 = some j := by
  cases h : Tryd.prog.info? 36 with
  | none => exact absurd h (by intro h; have : (Tryd.prog.info? 36).isSome = true := by kernel_rfl
                               rw [h] at this; cases this)
  | some j => exact ⟨j, rfl⟩
set_option maxHeartbeats 1000000 in
set_option maxRecDepth 100000 in
theorem within_one (qb : Nat) (p : Option Addr) (w : World) : Calls Tryd.prog 34 #[pt qb, .pointer p, .pointer p] w fun e w' => e = .returned (.bool true) ∧ Below w.heap.size w w' := by
  obtain ⟨j, hj⟩ := ptr_info
  unfold pt
  cases p with
  | none =>
    go_enter Tryd.func34, Tryd.ntmps34
    go_wp2
    go_ret
    exact ⟨rfl, by repeat' first | exact Below.refl _ _ | apply Below.setCell | apply Below.alloc | (simp; done) | (simp; omega)⟩
  | some a =>
    have he := fun W => run_eql_ptr_same (P := Tryd.prog) W a Tryd.underlying33 hj
    go_enter Tryd.func34, Tryd.ntmps34
    go_wp2
    all_goals
      go_ret
      exact ⟨rfl, by repeat' first | exact Below.refl _ _ | apply Below.setCell | apply Below.alloc | (simp; done) | (simp; omega)⟩
/-- What a function of a place answers. -/
def FnAt (w : World) (N : FuncId) (caps : Array Value) (n : Nat) (p : Nat → Bool) : Prop :=
  ∀ i, i < n → ∀ w1, Below w.heap.size w w1 → Calls Tryd.prog N (#[.int .i64 (i : Nat)] ++ caps) w1 fun e w' => e = .returned (.bool (p i)) ∧ Below w1.heap.size w1 w'
def allTo (p : Nat → Bool) : Nat → Bool
  | 0 => true
  | m + 1 => allTo p m && p m
theorem allTo_false (p : Nat → Bool) (i : Nat) (h : p i = false) : ∀ n, i < n → allTo p n = false
  | 0, hn => by omega
  | n + 1, hn => by
    rw [allTo]
    by_cases e : i = n
    · subst e; rw [h, Bool.and_false]
    · rw [allTo_false p i h n (by omega), Bool.false_and]
set_option maxHeartbeats 1000000 in
set_option maxRecDepth 100000 in
theorem areSame_any (n m : Nat) (hn : n ≤ 4000000) (hm : m ≤ 4000000) (N : FuncId) (caps : Array Value) (hE : Enters N) (p : Nat → Bool) (w : World) (hF0 : n = m → FnAt w N caps n p) :
    Calls Tryd.prog 32 #[.int .i64 (n : Nat), .int .i64 (m : Nat), .func (.func N) #[] caps] w fun e w' => e = .returned (.bool (decide (n = m) && allTo p n)) ∧ Below w.heap.size w w' := by
  have hnz : (n : Int) ≤ 4000000 := by omega
  have hmz : (m : Int) ≤ 4000000 := by omega
  unfold Enters at hE
  by_cases h : n = m
  case neg =>
    have hz : ((n : Int) != (m : Int)) = true := by simp; omega
    have hz' : (n != m) = true := by simp; omega
    rw [decide_eq_false h]
    clear h hF0
    go_enter Tryd.func32, Tryd.ntmps32
    go_wp2
    go_ret
    exact ⟨rfl, Below.refl _ _⟩
  have hz : ((n : Int) != (m : Int)) = false := by simp; omega
  have hz' : (n != m) = false := by simp; omega
  rw [decide_eq_true h, Bool.true_and]
  have HF := Lib.hid (hF0 h)
  clear h hF0
  go_enter Tryd.func32, Tryd.ntmps32
  go_wp2
  go_loopw [12] (fun t12 wr => ∃ i : Nat, t12 = .int .i64 i ∧ i ≤ n ∧ Hid (allTo p i = true) ∧ Hid (Below w.heap.size w wr)) (fun t12 _ => n - (intOf t12).toNat)
  case atStart => exact ⟨0, rfl, Nat.zero_le _, rfl, Below.refl _ _⟩
  case round =>
    obtain ⟨i, rfl, hi, Hall, Hb⟩ := hrel
    have hi0 : (i : Int) ≤ 4000000 := by omega
    by_cases hlt : i < n
    · have hlt' : decide ((i : Int) < (n : Int)) = true := decide_eq_true (by omega)
      have hlt'' : decide (i < n) = true := decide_eq_true hlt
      have hc := HF.out i hlt wr Hb.out
      obtain ⟨q, hq⟩ : ∃ q, p i = q := ⟨_, rfl⟩
      rw [hq] at hc
      have HC := Lib.hid hc
      have Hq := Lib.hid hq
      clear hc hq
      go_wp2_with fail
      refine HC.out.mono ?_
      rintro e w2 ⟨rfl, hb2⟩
      have hb3 : Below w.heap.size w w2 := Hb.out.trans (hb2.mono Hb.out.size)
      have Hb3 := Lib.hid hb3
      clear hb2 hb3
      cases q
      · go_wp2
        go_ret
        exact ⟨ret_bool (by rw [allTo_false p i Hq.out n hlt]), Hb3.out⟩
      · go_wp2
        go_roundw
        case rel => exact ⟨i + 1, by go_num, hlt, by unfold Hid; rw [allTo, Hall.out, Hq.out]; rfl, Hb3.out⟩
        case measure => simp [intOf]; omega
    · obtain rfl : i = n := by omega
      have hlt' : decide ((i : Int) < (i : Int)) = false := decide_eq_false (by omega)
      have hlt'' : decide (i < i) = false := decide_eq_false (by omega)
      go_wp2
      go_ret
      exact ⟨ret_bool (by rw [Hall.out]), Hb.out⟩
end Go.Proofs.YtmceblemiboedaaDoor

/-
  Package ast: samePatterns, where what stands in places is at one place.
-/
namespace Go.Proofs.YtmceblemiboedaaDoor
open Go.RowKit
set_option linter.unusedVariables false
set_option linter.unusedSimpArgs false

set_option maxHeartbeats 2000000 in
set_option maxRecDepth 100000 in
theorem pat1_no (qb b o b' o' n c n' c' kL kO kQ i : Nat) (t t' : ByteArray) (p : Option Addr) (w : World) (hi : i < n) (hi' : i < n') (hn : n ≤ 4000000) (hn' : n' ≤ 4000000)
    (hL : w.cell? ⟨kL, 0, none⟩ = some (.slice (some ⟨b, o, none⟩) n c)) (hO : w.cell? ⟨kO, 0, none⟩ = some (.slice (some ⟨b', o', none⟩) n' c')) (hQ : w.cell? ⟨kQ, 0, none⟩ = some (pt qb))
    (c0 : w.cell? ⟨b, o + i * 2, none⟩ = some (.string t)) (c1 : w.cell? ⟨b, o + i * 2 + 1, none⟩ = some (.pointer p)) (c2 : w.cell? ⟨b', o' + i * 2, none⟩ = some (.string t')) (c3 : w.cell? ⟨b', o' + i * 2 + 1, none⟩ = some (.pointer p)) (ht : t ≠ t') :
    Calls Tryd.prog 33 #[.int .i64 (i : Nat), pt kL, pt kO, pt kQ] w fun e w' => e = .returned (.bool false) ∧ Below w.heap.size w w' := by
  have hi0 : (i : Int) < (n : Int) := by omega
  have hi1 : (i : Int) < (n' : Int) := by omega
  have hz : (t.toList == t'.toList) = false := by
    rw [beq_eq_false_iff_ne]
    intro e
    rw [Lib.toList_data, Lib.toList_data] at e
    exact ht (bytes_eq e)
  have hi2 : (i : Int) ≤ 4000000 := by omega
  unfold pt at *
  go_enter Tryd.func33, Tryd.ntmps33
  go_wp2
  go_quiet (fail)
  go_wp2
  go_ret
  exact ⟨rfl, Go.below_drewN (Below.refl _ _) _⟩
set_option maxHeartbeats 2000000 in
set_option maxRecDepth 100000 in
theorem pat1_yes (qb b o b' o' n c n' c' kL kO kQ i : Nat) (t : ByteArray) (p : Option Addr) (w : World) (hi : i < n) (hi' : i < n') (hn : n ≤ 4000000) (hn' : n' ≤ 4000000)
    (hL : w.cell? ⟨kL, 0, none⟩ = some (.slice (some ⟨b, o, none⟩) n c)) (hO : w.cell? ⟨kO, 0, none⟩ = some (.slice (some ⟨b', o', none⟩) n' c')) (hQ : w.cell? ⟨kQ, 0, none⟩ = some (pt qb))
    (c0 : w.cell? ⟨b, o + i * 2, none⟩ = some (.string t)) (c1 : w.cell? ⟨b, o + i * 2 + 1, none⟩ = some (.pointer p)) (c2 : w.cell? ⟨b', o' + i * 2, none⟩ = some (.string t)) (c3 : w.cell? ⟨b', o' + i * 2 + 1, none⟩ = some (.pointer p)) :
    Calls Tryd.prog 33 #[.int .i64 (i : Nat), pt kL, pt kO, pt kQ] w fun e w' => e = .returned (.bool true) ∧ Below w.heap.size w w' := by
  have hi0 : (i : Int) < (n : Int) := by omega
  have hi1 : (i : Int) < (n' : Int) := by omega
  have hz : (t.toList == t.toList) = true := beq_iff_eq.2 rfl
  have hi2 : (i : Int) ≤ 4000000 := by omega
  have hw := fun W => within_one qb p W
  have HW := Lib.hid hw
  clear hw
  unfold pt at *
  go_enter Tryd.func33, Tryd.ntmps33
  go_wp2
  go_still_tail 23, (by kernel_rfl)
  change wpList _ _ _ _ _ w.drew
  go_wp2_with fail
  go_at_call 34
  refine (HW.out _).mono ?_
  rintro e w2 ⟨rfl, hb⟩
  have hb2 : Below w.heap.size w w2 := ((Below.refl _ _).drew).trans hb
  have HB := Lib.hid hb2
  clear hb hb2
  go_wp2
  go_ret
  exact ⟨rfl, HB.out⟩
/-- The texts of two patterns, whose places hold the same. -/
def TwoAt (W : World) (l l' : List EL) (v v' : Value) : Prop := PatAt W l v ∧ PatAt W l' v' ∧ ∀ b o b' o', (∃ n c, v = .slice (some ⟨b, o, none⟩) n c) → (∃ n c, v' = .slice (some ⟨b', o', none⟩) n c) → ∀ j, j < l.length → j < l'.length → W.cell? ⟨b, o + j * 2 + 1, none⟩ = W.cell? ⟨b', o' + j * 2 + 1, none⟩
def txtAt (l l' : List EL) (i : Nat) : Bool := decide ((l[i]?).map elText = (l'[i]?).map elText)
set_option maxHeartbeats 2000000 in
set_option maxRecDepth 100000 in
theorem samePats (qb : Nat) (l l' : List EL) (v v' : Value) (W0 w : World) (h : TwoAt W0 l l' v v') (hbel : Below W0.heap.size W0 w) (hn : l.length ≤ 4000000) (hn' : l'.length ≤ 4000000) :
    Calls Tryd.prog 20 #[pt qb, v, v'] w fun e w' => e = .returned (.bool (decide (l.length = l'.length) && allTo (txtAt l l') l.length)) ∧ Below w.heap.size w w' := by
  obtain ⟨h1, h2, h3⟩ := h
  have h1' := h1
  have h2' := h2
  obtain ⟨A, c, rfl, _, _, _⟩ := h1'
  obtain ⟨A', c', rfl, _, _, _⟩ := h2'
  have hE : Enters 33 := fun args w => by go_simp
  have hS := fun W hF => areSame_any l.length l'.length hn hn' 33 #[pt (w.heap.size + 1), pt (w.heap.size + 1 + 1), pt w.heap.size] hE (txtAt l l') W hF
  have HS := Lib.hid hS
  have H1 := Lib.hid h1
  have H2 := Lib.hid h2
  have H3 := Lib.hid h3
  clear hS h1 h2 h3 hE
  unfold pt
  unfold pt at HS
  go_enter Tryd.func20, Tryd.ntmps20
  go_wp2_with fail
  go_at_call 32
  refine (HS.out _ ?hf).mono ?_
  case hf =>
    intro hlen i hi w1 hb1
    have hi' : i < l'.length := by omega
    obtain ⟨b, o, q, e1, hb, hcs⟩ := pat_get H1.out hi
    obtain ⟨b', o', q', e2, hb', hcs'⟩ := pat_get H2.out hi'
    obtain ⟨t, p, hel⟩ : ∃ t p, l[i]? = some (.mk t p) := by
      cases e : l[i] with
      | mk t p => exact ⟨t, p, by rw [List.getElem?_eq_getElem hi, e]⟩
    obtain ⟨t', p', hel'⟩ : ∃ t p, l'[i]? = some (.mk t p) := by
      cases e : l'[i] with
      | mk t p => exact ⟨t, p, by rw [List.getElem?_eq_getElem hi', e]⟩
    obtain ⟨c0, u, c1, hu⟩ := hcs i t p hel
    obtain ⟨c2, u', c3, hu'⟩ := hcs' i t' p' hel'
    have hsame := H3.out b o b' o' ⟨_, _, e1⟩ ⟨_, _, e2⟩ i hi hi'
    rw [c1, c3] at hsame
    cases hsame
    obtain ⟨pa, rfl⟩ : ∃ pa, u = .pointer pa := by
      cases p with
      | none => simp only [OAt] at hu; exact ⟨_, hu⟩
      | some ex => simp only [OAt] at hu; obtain ⟨_, _, _, e, _⟩ := hu; exact ⟨_, e⟩
    have hbw : Below w.heap.size w w1 := Below.trans (by repeat' first | exact Below.refl _ _ | apply Below.setCell | apply Below.alloc | (simp; done) | (simp; omega)) (hb1.mono (by simp; omega))
    have hbz : Below W0.heap.size W0 w1 := hbel.trans (hbw.mono hbel.size)
    rw [← hbz.cell (p := ⟨b, _, none⟩) hb] at c0 c1
    rw [← hbz.cell (p := ⟨b', _, none⟩) hb'] at c2 c3
    have hL := ((BoxAt.new' (w.alloc (.cells #[.pointer (some ⟨qb, 0, none⟩)] 52)) (w.heap.size + 1) #[.slice A l.length c] 23 (by simp)).alloc (.cells #[.slice A' l'.length c'] 23)).later hb1
    have hO := (BoxAt.new' ((w.alloc (.cells #[.pointer (some ⟨qb, 0, none⟩)] 52)).alloc (.cells #[.slice A l.length c] 23)) (w.heap.size + 1 + 1) #[.slice A' l'.length c'] 23 (by simp)).later hb1
    have hQ := (((BoxAt.new' w w.heap.size #[.pointer (some ⟨qb, 0, none⟩)] 52 rfl).alloc (.cells #[.slice A l.length c] 23)).alloc (.cells #[.slice A' l'.length c'] 23)).later hb1
    have hA := e1
    have hA' := e2
    cases hA
    cases hA'
    have htx : txtAt l l' i = decide (t = t') := by
      unfold txtAt
      rw [hel, hel']
      simp [elText]
    rw [htx]
    by_cases e : t = t'
    · subst e
      rw [decide_eq_true rfl]
      exact pat1_yes qb b o b' o' l.length _ l'.length _ (w.heap.size + 1) (w.heap.size + 1 + 1) w.heap.size i t pa w1 hi hi' hn hn' (hL.cell 0) (hO.cell 0) (hQ.cell 0) c0 c1 c2 c3
    · rw [decide_eq_false e]
      exact pat1_no qb b o b' o' l.length _ l'.length _ (w.heap.size + 1) (w.heap.size + 1 + 1) w.heap.size i t t' pa w1 hi hi' hn hn' (hL.cell 0) (hO.cell 0) (hQ.cell 0) c0 c1 c2 c3 e
  rintro e w2 ⟨rfl, hb2⟩
  have hbw : Below w.heap.size w w2 := Below.trans (by repeat' first | exact Below.refl _ _ | apply Below.setCell | apply Below.alloc | (simp; done) | (simp; omega)) (hb2.mono (by simp; omega))
  have HB := Lib.hid hbw
  clear hb2 hbw
  go_wp2
  go_ret
  exact ⟨rfl, HB.out⟩
end Go.Proofs.YtmceblemiboedaaDoor

/-
  Package ast: Same of entries without attributes, where what stands in places is at one place.
-/
namespace Go.Proofs.YtmceblemiboedaaDoor
open Go.RowKit
set_option linter.unusedVariables false
set_option linter.unusedSimpArgs false

set_option maxHeartbeats 1000000 in
theorem sameAttrs_nil (qb : Nat) (w : World) : Calls Tryd.prog 21 #[pt qb, .slice none 0 0, .slice none 0 0] w fun e w' => e = .returned (.bool true) ∧ Below w.heap.size w w' := by
  have hE : Enters 35 := fun args w => by go_simp
  have hS : ∀ W, Calls Tryd.prog 32 #[.int .i64 0, .int .i64 0, .func (.func 35) #[] #[pt (w.heap.size + 1), pt (w.heap.size + 1 + 1), pt w.heap.size]] W fun e w' => e = .returned (.bool true) ∧ Below W.heap.size W w' := fun W =>
    areSame_any 0 0 (by omega) (by omega) 35 #[pt (w.heap.size + 1), pt (w.heap.size + 1 + 1), pt w.heap.size] hE (fun _ => true) W (fun _ i hi => absurd hi (by omega))
  have HS := Lib.hid hS
  clear hS hE
  unfold pt
  unfold pt at HS
  go_enter Tryd.func21, Tryd.ntmps21
  go_wp2_with fail
  go_at_call 32
  refine (HS.out _).mono ?_
  rintro e w2 ⟨rfl, hb2⟩
  have hbw : Below w.heap.size w w2 := Below.trans (by repeat' first | exact Below.refl _ _ | apply Below.setCell | apply Below.alloc | (simp; done) | (simp; omega)) (hb2.mono (by simp; omega))
  have HB := Lib.hid hbw
  clear hb2 hbw
  go_wp2
  go_ret
  exact ⟨rfl, HB.out⟩
theorem no_qc (W0 : World) (qb : Nat) : QC W0 qb (fun _ => False) := fun _ h => h.elim
set_option maxHeartbeats 2000000 in
set_option maxRecDepth 1000000 in
theorem same_entry (ty level : Int) (text name : ByteArray) (l l' : List EL) (v v' : Value) (fr tu fr' tu' : Int) (w : World) (h : TwoAt w l l' v v') (hn : l.length ≤ 4000000) (hn' : l'.length ≤ 4000000) :
    Calls Tryd.prog 10 #[entV ty level text name v (.slice none 0 0) fr tu, entV ty level text name v' (.slice none 0 0) fr' tu'] w fun e w' => e = .returned (.bool (decide (l.length = l'.length) && allTo (txtAt l l') l.length)) ∧ Below w.heap.size w w' := by
  obtain ⟨h1, h2, h3⟩ := h
  have h1' := h1
  have h2' := h2
  obtain ⟨A, c, rfl, _, _, _⟩ := h1'
  obtain ⟨A', c', rfl, _, _, _⟩ := h2'
  obtain ⟨W3, hW3⟩ : ∃ W3, ((w.alloc (.cells #[.int .i64 ty, .int .i64 level, .string text, .string name, .slice A l.length c, .slice none 0 0, .int .i64 fr, .int .i64 tu] 26)).alloc (.cells #[.int .i64 ty, .int .i64 level, .string text, .string name, .slice A' l'.length c', .slice none 0 0, .int .i64 fr', .int .i64 tu'] 26)).alloc (.cells #[.slice none 0 0] 46) = W3 := ⟨_, rfl⟩
  have hBW : Below w.heap.size w W3 := by
    rw [← hW3]
    repeat' first | exact Below.refl _ _ | apply Below.setCell | apply Below.alloc | (simp; done) | (simp; omega)
  have hqs : QsAt w (w.heap.size + 1 + 1) [] W3 := by
    refine ⟨[], ⟨by omega, .slice none 0 0, ?_, by simp, .inl ⟨rfl, rfl⟩⟩, trivial, hBW⟩
    rw [← hW3]
    exact BoxAt.new' _ _ _ _ (by simp)
  have hP := samePats (w.heap.size + 1 + 1) l l' _ _ w W3 ⟨h1, h2, h3⟩ hBW hn hn'
  obtain ⟨q, hq⟩ : ∃ q, (decide (l.length = l'.length) && allTo (txtAt l l') l.length) = q := ⟨_, rfl⟩
  rw [hq] at hP ⊢
  have hts : (text.toList == text.toList) = true := beq_iff_eq.2 rfl
  have hns : (name.toList == name.toList) = true := beq_iff_eq.2 rfl
  have HP := Lib.hid hP
  have HQs := Lib.hid hqs
  have HBW := Lib.hid hBW
  have HA := fun W => sameAttrs_nil (w.heap.size + 1 + 1) W
  have HAA := Lib.hid HA
  have HL := fun W h => allHold_any (no_qc w (w.heap.size + 1 + 1)) [] W h (by simp) (by simp [total, qMax])
  have HLL := Lib.hid HL
  have hk0 : BoxAt W3 w.heap.size #[.int .i64 ty, .int .i64 level, .string text, .string name, .slice A l.length c, .slice none 0 0, .int .i64 fr, .int .i64 tu] 26 := by
    rw [← hW3]
    exact ((BoxAt.new' _ _ _ _ rfl).alloc _).alloc _
  have hk1 : BoxAt W3 (w.heap.size + 1) #[.int .i64 ty, .int .i64 level, .string text, .string name, .slice A' l'.length c', .slice none 0 0, .int .i64 fr', .int .i64 tu'] 26 := by
    rw [← hW3]
    exact (BoxAt.new' _ _ _ _ (by simp)).alloc _
  have HK0 := Lib.hid hk0
  have HK1 := Lib.hid hk1
  have HW3 := Lib.hid hW3
  clear hk0 hk1 hW3
  clear hP hqs hBW hq h1 h2 h3 HA HL
  unfold pt at HP HAA HLL
  unfold entV
  cases q
  case false =>
    go_enter Tryd.func10, Tryd.ntmps10
    go_wp2_with fail
    go_at_call 20
    rw [HW3.out]
    refine HP.out.mono ?_
    rintro e w4 ⟨rfl, hb4⟩
    have HB4 := Lib.hid (HBW.out.trans (hb4.mono HBW.out.size))
    clear hb4
    go_wp2
    go_ret
    exact ⟨rfl, HB4.out⟩
  go_enter Tryd.func10, Tryd.ntmps10
  go_wp2_with fail
  go_at_call 20
  rw [HW3.out]
  refine HP.out.mono ?_
  rintro e w4 ⟨rfl, hb4⟩
  have d0 := (HK0.out.later hb4).cell 5
  have d1 := (HK1.out.later hb4).cell 5
  simp at d0 d1
  have HB4 := Lib.hid (HBW.out.trans (hb4.mono HBW.out.size))
  have HQ4 := Lib.hid (HQs.out.later hb4)
  clear hb4
  go_wp2_with fail
  go_at_call 21
  refine (HAA.out _).mono ?_
  rintro e w5 ⟨rfl, hb5⟩
  have HB5 := Lib.hid (HB4.out.trans (hb5.mono HB4.out.size))
  have HQ5 := Lib.hid (HQ4.out.later hb5)
  clear hb5
  go_wp2_with fail
  go_at_call 16
  refine (HLL.out _ HQ5.out).mono ?_
  rintro e w6 ⟨rfl, hb6⟩
  have HB6 := Lib.hid (HB5.out.trans hb6)
  clear hb6
  go_wp2
  go_ret
  exact ⟨rfl, HB6.out⟩
end Go.Proofs.YtmceblemiboedaaDoor

/-
  The law's message and its head.
-/
namespace Go.Proofs.YtmceblemiboedaaDoor
open Go.RowKit
set_option linter.unusedVariables false
set_option linter.unusedSimpArgs false

set_option maxHeartbeats 1000000 in
theorem message_any (s : ByteArray) (w : World) : Calls Tryd.prog 12 #[.string s] w fun e w' => ∃ k, e = .returned (entV 1 0 ⟨#[]⟩ ⟨#[109]⟩ (.slice (some ⟨k, 0, none⟩) 1 1) (.slice none 0 0) 0 0) ∧ BoxAt w' k #[.string s, .pointer none] 38 ∧ Below w.heap.size w w' := by
  go_enter Tryd.func12, Tryd.ntmps12
  go_wp2
  exact bodyPost_ret (v := entV 1 0 ⟨#[]⟩ ⟨#[109]⟩ (.slice (some ⟨w.heap.size + 1, 0, none⟩) 1 1) (.slice none 0 0) 0 0) (by simp [results, Tryd.results12, go_sem, entV]) rfl
    ⟨w.heap.size + 1, rfl, BoxAt.new' _ _ _ _ (by simp), by repeat' first | exact Below.refl _ _ | apply Below.setCell | apply Below.alloc | (simp; done) | (simp; omega)⟩
/-- The pattern of one text, as it lies. -/
theorem pat_text {W : World} {k : Nat} {s : ByteArray} (h : BoxAt W k #[.string s, .pointer none] 38) : PatAt W [.mk s none] (.slice (some ⟨k, 0, none⟩) 1 1) := by
  refine ⟨_, _, rfl, Nat.le_refl _, by unfold maxLen; omega, fun _ => ⟨k, 0, rfl, ?_⟩⟩
  rw [EsAt, EsAt]
  exact ⟨h.lt, h.cell 0, ⟨.pointer none, h.cell 1, by simp only [OAt]⟩, trivial⟩
theorem ca_ascii (s : ByteArray) (hs : s.size ≤ 1000) (has : ∀ (j : Nat) b, s.data.toList[j]? = some b → b.toNat < 128) (he : Lib.containsAny s.data.toList [123, 125] = hasBrace s) : CaTo s := by
  intro w
  have := Tryd.strings_ContainsAny_laid s ⟨#[123, 125]⟩ w (by omega) (by decide) has (by
    intro j b hj
    have : j < 2 := by have := (List.getElem?_eq_some_iff.1 hj).1; simpa using this
    match j, hj with
    | 0, hj => simp at hj; subst hj; decide
    | 1, hj => simp at hj; subst hj; decide)
  rw [show (⟨#[123, 125]⟩ : ByteArray).data.toList = [123, 125] from rfl, he] at this
  exact this
theorem right_text (s : ByteArray) (k : Nat) (w : World) (hT : TabU w) (hk : BoxAt w k #[.string s, .pointer none] 38) (hs : s.size ≤ 1000) (hca : CaTo s) (b : Bool) (hb : msgB 1 0 ⟨#[]⟩ ⟨#[109]⟩ [.mk s none] [] = b) :
    Calls Tryd.prog 8 #[entV 1 0 ⟨#[]⟩ ⟨#[109]⟩ (.slice (some ⟨k, 0, none⟩) 1 1) (.slice none 0 0) 0 0] w fun e w' => e = .returned (.bool b) ∧ Below w.heap.size w w' := by
  rw [← hb]
  refine right_msg 1 0 (.inl rfl) _ _ [.mk s none] [] _ _ 0 0 w (fun _ => False) (no_qc _ _) hT (pat_text hk) ⟨none, 0, rfl, by simp, by simp, fun h => absurd h (by simp)⟩ ⟨?_, ?_⟩ (fun t l h => absurd h (by simp)) (by decide) ?_
  · intro t p hm hv
    simp at hm
    obtain ⟨rfl, _⟩ := hm
    exact hca
  · intro t e hm
    simp at hm
  · rw [sizeEs, sizeEs, sizeO, sizeTs]; unfold qMax; omega
theorem same_text (s s' : ByteArray) (k k' : Nat) (w : World) (hk : BoxAt w k #[.string s, .pointer none] 38) (hk' : BoxAt w k' #[.string s', .pointer none] 38) :
    Calls Tryd.prog 10 #[entV 1 0 ⟨#[]⟩ ⟨#[109]⟩ (.slice (some ⟨k, 0, none⟩) 1 1) (.slice none 0 0) 0 0, entV 1 0 ⟨#[]⟩ ⟨#[109]⟩ (.slice (some ⟨k', 0, none⟩) 1 1) (.slice none 0 0) 0 0] w fun e w' => e = .returned (.bool (decide (s = s'))) ∧ Below w.heap.size w w' := by
  have := same_entry 1 0 ⟨#[]⟩ ⟨#[109]⟩ [.mk s none] [.mk s' none] _ _ 0 0 0 0 w ⟨pat_text hk, pat_text hk', ?_⟩ (by simp) (by simp)
  · have e1 : (decide ([EL.mk s none].length = [EL.mk s' none].length) && allTo (txtAt [.mk s none] [.mk s' none]) [EL.mk s none].length) = decide (s = s') := by
      simp [allTo, txtAt, elText]
    rw [e1] at this
    exact this
  · rintro b o b' o' ⟨n, c, e⟩ ⟨n', c', e'⟩ j hj hj'
    cases e
    cases e'
    have : j = 0 := by simp at hj; omega
    subst this
    exact (hk.cell 1).trans (hk'.cell 1).symm
theorem emp_data (s : ByteArray) : emp s = s.data.toList.isEmpty := by unfold emp; rw [Lib.toList_data]
theorem msg1 : msgB 1 0 ⟨#[]⟩ ⟨#[109]⟩ [.mk ⟨#[46, 97, 10, 98]⟩ none] [] = true := by
  unfold msgB patB patL
  simp only [textsB, okEs, emp_data]
  kernel_rfl
theorem msg2 : msgB 1 0 ⟨#[]⟩ ⟨#[109]⟩ [.mk ⟨#[97, 10, 32, 98]⟩ none] [] = true := by
  unfold msgB patB patL
  simp only [textsB, okEs, emp_data]
  kernel_rfl
theorem msg3 : msgB 1 0 ⟨#[]⟩ ⟨#[109]⟩ [.mk ⟨#[46, 97, 10, 32, 98]⟩ none] [] = false := by
  unfold msgB patB patL
  simp only [textsB, okEs, emp_data]
  kernel_rfl
theorem ascii_of (s : ByteArray) (h : (s.data.toList.all fun b => decide (b.toNat < 128)) = true) : ∀ (j : Nat) b, s.data.toList[j]? = some b → b.toNat < 128 := fun j b hj => of_decide_eq_true (List.all_eq_true.1 h b (List.mem_of_getElem? hj))
theorem ca1 : CaTo ⟨#[46, 97, 10, 98]⟩ := ca_ascii _ (by decide) (ascii_of _ (by decide)) (by kernel_rfl)
theorem ca2 : CaTo ⟨#[97, 10, 32, 98]⟩ := ca_ascii _ (by decide) (ascii_of _ (by decide)) (by kernel_rfl)
theorem ca3 : CaTo ⟨#[46, 97, 10, 32, 98]⟩ := ca_ascii _ (by decide) (ascii_of _ (by decide)) (by kernel_rfl)
theorem ca0 : CaTo ⟨#[]⟩ := ca_ascii _ (by decide) (ascii_of _ (by decide)) (by kernel_rfl)
end Go.Proofs.YtmceblemiboedaaDoor

/-
  The law's head.
-/
namespace Go.Proofs.YtmceblemiboedaaDoor
open Go.RowKit
set_option linter.unusedVariables false
set_option linter.unusedSimpArgs false

set_option maxHeartbeats 2000000 in
set_option maxRecDepth 100000 in
theorem head_any (w : World) (hT : TabU w) : Calls Tryd.prog 6 #[] w fun e w' => e = .returned (.bool true) ∧ Below w.heap.size w w' := by
  have HT := Lib.hid hT
  clear hT
  have hxy : decide ((⟨#[120]⟩ : ByteArray) = ⟨#[121]⟩) = false := by decide
  go_enter Tryd.func6, Tryd.ntmps6
  go_wp2_with fail
  go_at_call 12
  refine (message_any _ _).mono ?_
  rintro e w1 ⟨k1, rfl, m1, b1⟩
  have B1 := Lib.hid b1
  have R1 := Lib.hid (right_text _ k1 w1 (HT.out.below b1) m1 (by decide) ca1 true msg1)
  clear m1 b1
  unfold entV at R1
  go_wp2_with fail
  go_at_call 8
  refine R1.out.mono ?_
  rintro e w2 ⟨rfl, b2⟩
  have B2 := Lib.hid (B1.out.trans (b2.mono B1.out.size))
  clear b2
  go_wp2_with fail
  go_at_call 12
  refine (message_any _ _).mono ?_
  rintro e w3 ⟨k3, rfl, m3, b3⟩
  have B3 := Lib.hid (B2.out.trans (b3.mono B2.out.size))
  have R3 := Lib.hid (right_text _ k3 w3 (HT.out.below B3.out) m3 (by decide) ca2 true msg2)
  clear m3 b3
  unfold entV at R3
  go_wp2_with fail
  go_at_call 8
  refine R3.out.mono ?_
  rintro e w4 ⟨rfl, b4⟩
  have B4 := Lib.hid (B3.out.trans (b4.mono B3.out.size))
  clear b4
  go_wp2_with fail
  go_at_call 12
  refine (message_any _ _).mono ?_
  rintro e w5 ⟨k5, rfl, m5, b5⟩
  have B5 := Lib.hid (B4.out.trans (b5.mono B4.out.size))
  have R5 := Lib.hid (right_text _ k5 w5 (HT.out.below B5.out) m5 (by decide) ca3 false msg3)
  clear m5 b5
  unfold entV at R5
  go_wp2_with fail
  go_at_call 8
  refine R5.out.mono ?_
  rintro e w6 ⟨rfl, b6⟩
  have B6 := Lib.hid (B5.out.trans (b6.mono B5.out.size))
  clear b6
  go_wp2_with fail
  go_at_call 12
  refine (message_any _ _).mono ?_
  rintro e w7 ⟨k7, rfl, m7, b7⟩
  have B7 := Lib.hid (B6.out.trans (b7.mono B6.out.size))
  have M7 := Lib.hid m7
  clear m7 b7
  unfold entV
  go_wp2_with fail
  go_at_call 12
  refine (message_any _ _).mono ?_
  rintro e w8 ⟨k8, rfl, m8, b8⟩
  have B8 := Lib.hid (B7.out.trans (b8.mono B7.out.size))
  have R8 := Lib.hid (same_text _ _ k7 k8 w8 (M7.out.later b8) m8)
  clear m8 b8
  unfold entV at R8
  unfold entV
  go_wp2_with fail
  go_at_call 10
  refine R8.out.mono ?_
  rintro e w9 ⟨rfl, b9⟩
  have B9 := Lib.hid (B8.out.trans (b9.mono B8.out.size))
  clear b9

  go_wp2_with fail
  go_at_call 12
  refine (message_any _ _).mono ?_
  rintro e wA ⟨kA, rfl, mA, bA⟩
  have BA := Lib.hid (B9.out.trans (bA.mono B9.out.size))
  have MA := Lib.hid mA
  clear mA bA
  unfold entV
  go_wp2_with fail
  go_at_call 12
  refine (message_any _ _).mono ?_
  rintro e wB ⟨kB, rfl, mB, bB⟩
  have BB := Lib.hid (BA.out.trans (bB.mono BA.out.size))
  have RB := Lib.hid (same_text _ _ kA kB wB (MA.out.later bB) mB)
  clear mB bB
  unfold entV at RB
  unfold entV
  go_wp2_with fail
  go_at_call 10
  refine RB.out.mono ?_
  rintro e wC ⟨rfl, bC⟩
  have BC := Lib.hid (BB.out.trans (bC.mono BB.out.size))
  clear bC
  try rw [hxy]
  go_wp2
  go_ret
  exact ⟨rfl, BC.out⟩
end Go.Proofs.YtmceblemiboedaaDoor

/-
  AstRights: the law's walk.
-/
namespace Go.Proofs.YtmceblemiboedaaDoor
open Go.RowKit
set_option linter.unusedVariables false
set_option linter.unusedSimpArgs false

theorem LieAt.imp {P Q : Nat → Nat → Prop} {v : Value} {n : Nat} (h : LieAt P v n) (hi : ∀ b o, P b o → Q b o) : LieAt Q v n := by
  obtain ⟨A, c, h1, h2, h3, h4⟩ := h
  exact ⟨A, c, h1, h2, h3, fun h0 => by obtain ⟨b, o, e, hp⟩ := h4 h0; exact ⟨b, o, e, hi b o hp⟩⟩
mutual
theorem ExAt.later {W0 W : World} (g : Below W0.heap.size W0 W) : ∀ (e : EX) (c : C7), ExAt W0 e c → ExAt W e c
  | .mk k t n a al i vs, c, h => by
    rw [ExAt] at h ⊢
    obtain ⟨h1, h2, h3, h4, h5, h6, h7⟩ := h
    exact ⟨h1, h2, h3, h4, h5.imp (fun b o => AsAt.later g al b o), OAt.later g i _ h6, h7.imp (fun b o => VsAt.later g vs b o)⟩
theorem OAt.later {W0 W : World} (g : Below W0.heap.size W0 W) : ∀ (i : Option EX) (v : Value), OAt W0 i v → OAt W i v
  | none, v, h => by simp only [OAt] at h ⊢; exact h
  | some e, v, h => by
    simp only [OAt] at h ⊢
    obtain ⟨b, o, c, e1, hb, hc, hx⟩ := h
    exact ⟨b, o, c, e1, Nat.lt_of_lt_of_le hb g.size, hc.under hb g, ExAt.later g e c hx⟩
theorem AsAt.later {W0 W : World} (g : Below W0.heap.size W0 W) : ∀ (l : List AR) (b o : Nat), AsAt W0 l b o → AsAt W l b o
  | [], b, o, _ => by rw [AsAt]; trivial
  | .mk n e :: r, b, o, h => by
    rw [AsAt] at h ⊢
    obtain ⟨hb, h1, ⟨c, h2, h3⟩, h4⟩ := h
    exact ⟨Nat.lt_of_lt_of_le hb g.size, (g.cell (p := ⟨b, o, none⟩) hb).trans h1, ⟨c, h2.under hb g, ExAt.later g e c h3⟩, AsAt.later g r b _ h4⟩
theorem VsAt.later {W0 W : World} (g : Below W0.heap.size W0 W) : ∀ (l : List VA) (b o : Nat), VsAt W0 l b o → VsAt W l b o
  | [], b, o, _ => by rw [VsAt]; trivial
  | .mk n d v :: r, b, o, h => by
    rw [VsAt] at h ⊢
    obtain ⟨hb, h1, h2, ⟨u, h3, h5⟩, h4⟩ := h
    exact ⟨Nat.lt_of_lt_of_le hb g.size, (g.cell (p := ⟨b, o, none⟩) hb).trans h1, (g.cell (p := ⟨b, o + 1, none⟩) hb).trans h2, ⟨u, (g.cell (p := ⟨b, o + 2, none⟩) hb).trans h3, h5.imp (fun b o => EsAt.later g v b o)⟩, VsAt.later g r b _ h4⟩
theorem EsAt.later {W0 W : World} (g : Below W0.heap.size W0 W) : ∀ (l : List EL) (b o : Nat), EsAt W0 l b o → EsAt W l b o
  | [], b, o, _ => by rw [EsAt]; trivial
  | .mk t p :: r, b, o, h => by
    rw [EsAt] at h ⊢
    obtain ⟨hb, h1, ⟨u, h3, h5⟩, h4⟩ := h
    exact ⟨Nat.lt_of_lt_of_le hb g.size, (g.cell (p := ⟨b, o, none⟩) hb).trans h1, ⟨u, (g.cell (p := ⟨b, o + 1, none⟩) hb).trans h3, OAt.later g p u h5⟩, EsAt.later g r b _ h4⟩
end
theorem PatAt.later {W0 W : World} {l : List EL} {v : Value} (h : PatAt W0 l v) (g : Below W0.heap.size W0 W) : PatAt W l v := LieAt.imp h (fun b o => EsAt.later g l b o)
theorem TsAt.later {W0 W : World} (g : Below W0.heap.size W0 W) : ∀ (l : List AT) (b o : Nat), TsAt W0 l b o → TsAt W l b o
  | [], b, o, _ => by rw [TsAt]; trivial
  | .mk n v :: r, b, o, h => by
    rw [TsAt] at h ⊢
    obtain ⟨hb, h1, ⟨u, h3, h5⟩, h4⟩ := h
    exact ⟨Nat.lt_of_lt_of_le hb g.size, (g.cell (p := ⟨b, o, none⟩) hb).trans h1, ⟨u, (g.cell (p := ⟨b, o + 1, none⟩) hb).trans h3, h5.later g⟩, TsAt.later g r b _ h4⟩

theorem ent8_later {E : Nat} {ws W W' : World} {x0 x1 x2 x3 x4 x5 x6 x7 : Value}
    (h : W.cell? ⟨E, 0, none⟩ = some x0 ∧ W.cell? ⟨E, 1, none⟩ = some x1 ∧ W.cell? ⟨E, 2, none⟩ = some x2 ∧ W.cell? ⟨E, 3, none⟩ = some x3 ∧ W.cell? ⟨E, 4, none⟩ = some x4 ∧ W.cell? ⟨E, 5, none⟩ = some x5 ∧ W.cell? ⟨E, 6, none⟩ = some x6 ∧ W.cell? ⟨E, 7, none⟩ = some x7 ∧ E + 1 ≤ W.heap.size ∧ ws.heap.size ≤ W.heap.size ∧ Below ws.heap.size ws W)
    (hb : Below W.heap.size W W') : W'.cell? ⟨E, 0, none⟩ = some x0 ∧ W'.cell? ⟨E, 1, none⟩ = some x1 ∧ W'.cell? ⟨E, 2, none⟩ = some x2 ∧ W'.cell? ⟨E, 3, none⟩ = some x3 ∧ W'.cell? ⟨E, 4, none⟩ = some x4 ∧ W'.cell? ⟨E, 5, none⟩ = some x5 ∧ W'.cell? ⟨E, 6, none⟩ = some x6 ∧ W'.cell? ⟨E, 7, none⟩ = some x7 ∧ E + 1 ≤ W'.heap.size ∧ ws.heap.size ≤ W'.heap.size ∧ Below ws.heap.size ws W' := by
  obtain ⟨h0, h1, h2, h3, h4, h5, h6, h7, hE, hs, hB⟩ := h
  have := hb.size
  exact ⟨(hb.cell (p := ⟨E, 0, none⟩) hE).trans h0, (hb.cell (p := ⟨E, 1, none⟩) hE).trans h1, (hb.cell (p := ⟨E, 2, none⟩) hE).trans h2, (hb.cell (p := ⟨E, 3, none⟩) hE).trans h3, (hb.cell (p := ⟨E, 4, none⟩) hE).trans h4, (hb.cell (p := ⟨E, 5, none⟩) hE).trans h5,
    (hb.cell (p := ⟨E, 6, none⟩) hE).trans h6, (hb.cell (p := ⟨E, 7, none⟩) hE).trans h7, by omega, by omega, hB.trans (hb.mono hs)⟩
set_option maxHeartbeats 4000000 in
set_option maxRecDepth 1000000 in
theorem lawRights (ty level : Int) (text name : ByteArray) (val : List EL) (ats : List AT) (v u : Value) (fr tu : Int) (w : World) (hT : TabU w) (hv : PatAt w val v) (hu : LieAt (TsAt w ats) u ats.length)
    (hnm : name.size ≤ 4000000) (htx : text.size ≤ 4000000) (hsz : sizeEs val + sizeTs ats ≤ 4000000) :
    Calls Tryd.prog 3 #[entV ty level text name v u fr tu] w fun e w' => e = .returned (.bool true) ∧ Below w.heap.size w w' := by
  have HS := Lib.hid (fun W h => small_any (W0 := w) ty level text name val ats v u fr tu hv hu hsz W h)
  have HL := Lib.hid (fun W h => lright_any (W0 := w) hT ty level text name val ats v u fr tu hv hu hnm htx hsz W h)
  have hR : ∀ W, Below w.heap.size w W → Calls Tryd.prog 8 #[entV ty level text name v u fr tu] W fun e w' => e = .returned (.bool (rightB ty level text name val ats)) ∧ Below W.heap.size W w' := fun W h =>
    right_any (fun s hs hvv => caAll s hs) ty level text name val ats v u fr tu W (hT.below h) (hv.later h) (hu.imp (fun b o => TsAt.later h ats b o)) hnm htx hsz
  have HR := Lib.hid hR
  obtain ⟨R, hRR⟩ : ∃ R, rightB ty level text name val ats = R := ⟨_, rfl⟩
  rw [hRR] at HL HR
  have HT := Lib.hid hT
  obtain ⟨A, c, rfl, _⟩ := hv
  obtain ⟨A2, c2, rfl, _⟩ := hu
  clear hR hRR hT
  unfold entV at HS HL HR ⊢
  go_enter Tryd.func3, Tryd.ntmps3
  go_wp2_with fail
  go_at_call 6
  refine (head_any _ (HT.out.below ((Below.refl _ _).alloc (Nat.le_refl _) _))).mono ?_
  rintro e w1 ⟨rfl, b1⟩
  have hE := (BoxAt.new w #[.int .i64 ty, .int .i64 level, .string text, .string name, .slice A val.length c, .slice A2 ats.length c2, .int .i64 fr, .int .i64 tu] 26).later b1
  have hb1 : Below w.heap.size w w1 := ((Below.refl w.heap.size w).alloc (Nat.le_refl _) _).trans (b1.mono (by simp))
  have HB1 := Lib.hid hb1
  have HE := Lib.hid hE
  have x0 := hE.cell 0
  have x1 := hE.cell 1
  have x2 := hE.cell 2
  have x3 := hE.cell 3
  have x4 := hE.cell 4
  have x5 := hE.cell 5
  have x6 := hE.cell 6
  have x7 := hE.cell 7
  simp at x0 x1 x2 x3 x4 x5 x6 x7
  clear b1 hb1 hE
  go_wp2_with fail
  go_at_call 7
  refine (HS.out _ HB1.out).mono ?_
  rintro e w2 ⟨⟨b, rfl⟩, hb2⟩
  have hE2 := HE.out.later hb2
  have HB2 := Lib.hid (HB1.out.trans (hb2.mono HB1.out.size))
  have y0 := hE2.cell 0
  have y1 := hE2.cell 1
  have y2 := hE2.cell 2
  have y3 := hE2.cell 3
  have y4 := hE2.cell 4
  have y5 := hE2.cell 5
  have y6 := hE2.cell 6
  have y7 := hE2.cell 7
  simp at y0 y1 y2 y3 y4 y5 y6 y7
  have hl2 := hE2.lt
  clear x0 x1 x2 x3 x4 x5 x6 x7 hb2 hE2
  cases b
  case false =>
    go_wp2
    go_ret
    exact ⟨rfl, HB2.out⟩
  have start : w2.cell? ⟨w.heap.size, 0, none⟩ = some (.int .i64 ty) ∧ w2.cell? ⟨w.heap.size, 1, none⟩ = some (.int .i64 level) ∧ w2.cell? ⟨w.heap.size, 2, none⟩ = some (.string text) ∧ w2.cell? ⟨w.heap.size, 3, none⟩ = some (.string name) ∧ w2.cell? ⟨w.heap.size, 4, none⟩ = some (.slice A val.length c) ∧ w2.cell? ⟨w.heap.size, 5, none⟩ = some (.slice A2 ats.length c2) ∧ w2.cell? ⟨w.heap.size, 6, none⟩ = some (.int .i64 fr) ∧ w2.cell? ⟨w.heap.size, 7, none⟩ = some (.int .i64 tu) ∧ w.heap.size + 1 ≤ w2.heap.size ∧ w.heap.size ≤ w2.heap.size ∧ Below w.heap.size w w2 :=
    ⟨y0, y1, y2, y3, y4, y5, y6, y7, by omega, by omega, HB2.out⟩
  have hRS := fun W (h : W.cell? ⟨w.heap.size, 0, none⟩ = some (.int .i64 ty) ∧ W.cell? ⟨w.heap.size, 1, none⟩ = some (.int .i64 level) ∧ W.cell? ⟨w.heap.size, 2, none⟩ = some (.string text) ∧ W.cell? ⟨w.heap.size, 3, none⟩ = some (.string name) ∧ W.cell? ⟨w.heap.size, 4, none⟩ = some (.slice A val.length c) ∧ W.cell? ⟨w.heap.size, 5, none⟩ = some (.slice A2 ats.length c2) ∧ W.cell? ⟨w.heap.size, 6, none⟩ = some (.int .i64 fr) ∧ W.cell? ⟨w.heap.size, 7, none⟩ = some (.int .i64 tu) ∧ w.heap.size + 1 ≤ W.heap.size ∧ w.heap.size ≤ W.heap.size ∧ Below w.heap.size w W) => HR.out W h.2.2.2.2.2.2.2.2.2.2
  have hLS := fun W (h : W.cell? ⟨w.heap.size, 0, none⟩ = some (.int .i64 ty) ∧ W.cell? ⟨w.heap.size, 1, none⟩ = some (.int .i64 level) ∧ W.cell? ⟨w.heap.size, 2, none⟩ = some (.string text) ∧ W.cell? ⟨w.heap.size, 3, none⟩ = some (.string name) ∧ W.cell? ⟨w.heap.size, 4, none⟩ = some (.slice A val.length c) ∧ W.cell? ⟨w.heap.size, 5, none⟩ = some (.slice A2 ats.length c2) ∧ W.cell? ⟨w.heap.size, 6, none⟩ = some (.int .i64 fr) ∧ W.cell? ⟨w.heap.size, 7, none⟩ = some (.int .i64 tu) ∧ w.heap.size + 1 ≤ W.heap.size ∧ w.heap.size ≤ W.heap.size ∧ Below w.heap.size w W) => HL.out W h.2.2.2.2.2.2.2.2.2.2
  have HRS := Lib.hid hRS
  have HLS := Lib.hid hLS
  clear hRS hLS
  go_wp2_with fail
  go_region_held3 (fun w' => w'.cell? ⟨w.heap.size, 0, none⟩ = some (.int .i64 ty) ∧ w'.cell? ⟨w.heap.size, 1, none⟩ = some (.int .i64 level) ∧ w'.cell? ⟨w.heap.size, 2, none⟩ = some (.string text) ∧ w'.cell? ⟨w.heap.size, 3, none⟩ = some (.string name) ∧ w'.cell? ⟨w.heap.size, 4, none⟩ = some (.slice A val.length c) ∧ w'.cell? ⟨w.heap.size, 5, none⟩ = some (.slice A2 ats.length c2) ∧ w'.cell? ⟨w.heap.size, 6, none⟩ = some (.int .i64 fr) ∧ w'.cell? ⟨w.heap.size, 7, none⟩ = some (.int .i64 tu) ∧ w.heap.size + 1 ≤ w'.heap.size ∧ w.heap.size ≤ w'.heap.size ∧ Below w.heap.size w w')
    (first | (exact ent8_later (by assumption) (by assumption)) | (exact ent8_later start (Below.refl _ _).drew) | go_keep)
    (first | (go_at_call 8; (with_reducible refine (HRS.out _ (by assumption)).mono ?_); rintro e w5 ⟨rfl, hb5⟩) | (go_at_call 8; (with_reducible refine (HRS.out _ (ent8_later start (Below.refl _ _).drew)).mono ?_); rintro e w5 ⟨rfl, hb5⟩) | (go_at_call 9; (with_reducible refine (HLS.out _ (by assumption)).mono ?_); rintro e w5 ⟨rfl, hb5⟩) | (go_at_call 9; (with_reducible refine (HLS.out _ (ent8_later start (Below.refl _ _).drew)).mono ?_); rintro e w5 ⟨rfl, hb5⟩))
  rename_i hmE
  have HmE := Lib.hid hmE.2.2.2.2.2.2.2.2.2.2
  clear hmE
  go_wp2
  go_ret
  exact ⟨ret_bool (by simp), HmE.out⟩
end Go.Proofs.YtmceblemiboedaaDoor

/-
  What comes in, read as trees: expressions, patterns, entries, and how great they are.
-/
namespace Go.Proofs.YtmceblemiboedaaDoor
open Go.RowKit
set_option linter.unusedVariables false
set_option linter.unusedSimpArgs false

theorem LieAt.imp' {P Q : Nat → Nat → Prop} {v : Value} {n : Nat} (h : LieAt P v n) (hi : ∀ b o, P b o → Q b o) : LieAt Q v n := by
  obtain ⟨A, c, h1, h2, h3, h4⟩ := h
  exact ⟨A, c, h1, h2, h3, fun h0 => by obtain ⟨b, o, e, hp⟩ := h4 h0; exact ⟨b, o, e, hi b o hp⟩⟩
section
variable {H : Type} {enc : TypeId × Value → H} {W : World} {sp : Nat → Bool} {held : Bool}

theorem cells_at {base n : Nat} {a : Addr} {cs : List Value} (hn : 0 < n) (h : W.cells? base a n = some cs) : ∃ b o, a = ⟨b, o, none⟩ ∧ b < W.heap.size ∧ cs.length = n ∧ ∀ i, i < n → W.cell? ⟨b, o + i, none⟩ = cs[i]? := by
  obtain ⟨_, hl, hc⟩ := World.cells?_some h
  have hb := World.cells?_block h hn
  obtain ⟨b, o, s⟩ := a
  have h0 := hc 0 hn
  rw [show (Addr.add ⟨b, o, s⟩ 0) = ⟨b, o, s⟩ from by simp [Addr.add], List.getElem?_eq_getElem (by omega)] at h0
  have hs : s = none := by
    cases s with
    | none => rfl
    | some k =>
      exfalso
      unfold World.cell? at h0
      split at h0 <;> simp at h0
  subst hs
  refine ⟨b, o, rfl, hb, hl, fun i hi => ?_⟩
  rw [← hc i hi]
  congr 1
  unfold Addr.add
  split
  · next h => subst h; rfl
  · rfl
theorem add_at {a : Addr} {b o n m : Nat} {k : Nat} (h : a.add n = ⟨b, o, none⟩) (h0 : a = ⟨b, k, none⟩) : o = k + n := by
  subst h0
  unfold Addr.add at h
  split at h
  · next e => cases h; omega
  · cases h; rfl
theorem bulk_pos {d : DataW H} : 1 ≤ Rows.uptoBulk d := by
  cases d with
  | lit l => cases l <;> simp [Rows.uptoBulk]
  | nil => simp [Rows.uptoBulk]
  | ptr d => simp [Rows.uptoBulk]
  | slice elems spare => simp [Rows.uptoBulk]
  | agg parts => simp [Rows.uptoBulk]
  | iface t d => simp [Rows.uptoBulk]
  | map entries => simp [Rows.uptoBulk]
  | held h => simp [Rows.uptoBulk]
theorem list2 {α : Type} {l : List α} (h : l.length = 2) : ∃ a b, l = [a, b] := by
  match l, h with
  | [a, b], _ => exact ⟨_, _, rfl⟩
theorem list3 {α : Type} {l : List α} (h : l.length = 3) : ∃ a b c, l = [a, b, c] := by
  match l, h with
  | [a, b, c], _ => exact ⟨_, _, _, rfl⟩
theorem list7 {α : Type} {l : List α} (h : l.length = 7) : ∃ a b c d e f g, l = [a, b, c, d, e, f, g] := by
  match l, h with
  | [a, b, c, d, e, f, g], _ => exact ⟨_, _, _, _, _, _, _, rfl⟩
theorem list8 {α : Type} {l : List α} (h : l.length = 8) : ∃ a b c d e f g k, l = [a, b, c, d, e, f, g, k] := by
  match l, h with
  | [a, b, c, d, e, f, g, k], _ => exact ⟨_, _, _, _, _, _, _, _, rfl⟩
def sumOf {α : Type} (sz : α → Nat) : List α → Nat
  | [] => 0
  | x :: r => sz x + sumOf sz r
theorem row_open {α : Type} (k : Nat) (Q : α → Nat → Prop) (sz : α → Nat) : ∀ (elems : List (DataW H × List MemPlace)) (o : Nat), (∀ i y, elems[i]? = some y → ∃ e, Q e (o + i * k) ∧ sz e ≤ Rows.uptoBulk y.1) →
    ∃ l : List α, l.length = elems.length ∧ (∀ i e, l[i]? = some e → Q e (o + i * k)) ∧ sumOf sz l ≤ Rows.uptoBulkAll (elems.map (·.1))
  | [], o, h => ⟨[], rfl, fun i e he => by simp at he, by simp [sumOf]⟩
  | y :: r, o, h => by
    obtain ⟨e, he, hs⟩ := h 0 y rfl
    obtain ⟨l, h1, h2, h3⟩ := row_open k Q sz r (o + k) (fun i y hy => by
      obtain ⟨e, he, hs⟩ := h (i + 1) y (by simpa using hy)
      rw [Nat.add_mul, Nat.one_mul, Nat.add_comm (i * k) k, ← Nat.add_assoc] at he
      exact ⟨e, he, hs⟩)
    refine ⟨e :: l, by simp [h1], fun i x hx => ?_, ?_⟩
    · cases i with
      | zero => simp at hx; subst hx; exact he
      | succ i =>
        have := h2 i x (by simpa using hx)
        rw [Nat.add_mul, Nat.one_mul, Nat.add_comm (i * k) k, ← Nat.add_assoc]
        exact this
    · rw [sumOf, List.map_cons, Rows.uptoBulkAll]; omega
/-- A slice, its elements read one by one. -/
theorem slice_open {α : Type} {t e : TypeId} {n k : Nat} (hk : 0 < k) (hu : Tryd.prog.underlying t = some (.slice e)) (hc : Tryd.prog.cellsOf e = k) (Q : Nat → α → Nat → Prop) (sz : α → Nat)
    (hE : ∀ m, m < n → ∀ cs y, DataW.trod enc Tryd.prog W 0 sp held m e cs = some y → ∀ b o, b < W.heap.size → (∀ i, i < k → W.cell? ⟨b, o + i, none⟩ = cs[i]?) → ∃ x, Q b x o ∧ sz x ≤ Rows.uptoBulk y.1)
    {cs : List Value} {x : DataW H × List MemPlace} (h : DataW.trod enc Tryd.prog W 0 sp held n t cs = some x) :
    ∃ v l, cs = [v] ∧ LieAt (fun b o => ∀ i e, l[i]? = some e → Q b e (o + i * k)) v l.length ∧ sumOf sz l + 1 ≤ Rows.uptoBulk x.1 := by
  rcases DataW.trod_slice hu h with ⟨rfl, rfl⟩ | ⟨a, len, cap, elems, rest, n', hn, rfl, rfl, _, h1, h2, h3, h4, _, _⟩
  · exact ⟨_, [], rfl, ⟨none, 0, rfl, Nat.le_refl _, Nat.zero_le _, fun h => absurd h (by simp)⟩, by simp [sumOf, Rows.uptoBulk]⟩
  · have hel : ∀ i y, elems[i]? = some y → ∃ cs', W.cells? 0 (a.add (i * k)) k = some cs' ∧ DataW.trod enc Tryd.prog W 0 sp held n' e cs' = some y := by
      intro i y hy
      have hi : i < len := by rw [← h3]; exact (List.getElem?_eq_some_iff.1 hy).1
      have h5 := h4 i hi
      rw [hy, hc, Option.bind_eq_some_iff] at h5
      exact h5
    by_cases h0 : 0 < len
    · obtain ⟨cs0, hc0, _⟩ := hel 0 _ (List.getElem?_eq_getElem (by omega))
      rw [Nat.zero_mul] at hc0
      rw [show a.add 0 = a by simp [Addr.add]] at hc0
      obtain ⟨b, o, rfl, hb, _, _⟩ := cells_at hk hc0
      obtain ⟨l, l1, l2, l3⟩ := row_open k (Q b) sz elems o (fun i y hy => by
        obtain ⟨cs', g1, g2⟩ := hel i y hy
        obtain ⟨b', o', e1, hb', _, g3⟩ := cells_at hk g1
        have e2 : (Addr.add ⟨b, o, none⟩ (i * k)) = ⟨b, o + i * k, none⟩ := by
          unfold Addr.add
          split
          · next h => rw [h]; rfl
          · rfl
        rw [e2] at e1
        cases e1
        exact hE n' (by omega) cs' y g2 b _ hb' g3)
      refine ⟨_, l, rfl, ⟨some ⟨b, o, none⟩, cap, by rw [l1, h3], by omega, h2, fun _ => ⟨b, o, rfl, l2⟩⟩, ?_⟩
      simp only [Rows.uptoBulk]; omega
    · have e0 : len = 0 := by omega
      subst e0
      refine ⟨_, [], rfl, ⟨some a, cap, rfl, Nat.zero_le _, h2, fun h => absurd h (by simp)⟩, ?_⟩
      simp only [Rows.uptoBulk, sumOf]; omega

def QEL (W : World) (b : Nat) : EL → Nat → Prop
  | .mk t p, o => b < W.heap.size ∧ W.cell? ⟨b, o, none⟩ = some (.string t) ∧ ∃ u, W.cell? ⟨b, o + 1, none⟩ = some u ∧ OAt W p u
theorem es_of {W : World} {b : Nat} : ∀ (l : List EL) (o : Nat), (∀ i e, l[i]? = some e → QEL W b e (o + i * 2)) → EsAt W l b o
  | [], o, h => by rw [EsAt]; trivial
  | .mk t p :: r, o, h => by
    rw [EsAt]
    obtain ⟨h0, h1, h2⟩ := h 0 _ rfl
    rw [Nat.zero_mul, Nat.add_zero] at h1 h2
    exact ⟨h0, h1, h2, es_of r (o + 2) (fun i e he => by have := h (i + 1) e (by simpa using he); rw [Nat.add_mul, Nat.one_mul, Nat.add_comm (i * 2) 2, ← Nat.add_assoc] at this; exact this)⟩
def QAR (W : World) (b : Nat) : AR → Nat → Prop
  | .mk n e, o => b < W.heap.size ∧ W.cell? ⟨b, o, none⟩ = some (.string n) ∧ ∃ c, CellsAt W b (o + 1) c ∧ ExAt W e c
theorem as_of {W : World} {b : Nat} : ∀ (l : List AR) (o : Nat), (∀ i e, l[i]? = some e → QAR W b e (o + i * 8)) → AsAt W l b o
  | [], o, h => by rw [AsAt]; trivial
  | .mk t p :: r, o, h => by
    rw [AsAt]
    obtain ⟨h0, h1, h2⟩ := h 0 _ rfl
    rw [Nat.zero_mul, Nat.add_zero] at h1 h2
    exact ⟨h0, h1, h2, as_of r (o + 8) (fun i e he => by have := h (i + 1) e (by simpa using he); rw [Nat.add_mul, Nat.one_mul, Nat.add_comm (i * 8) 8, ← Nat.add_assoc] at this; exact this)⟩
def QVA (W : World) (b : Nat) : VA → Nat → Prop
  | .mk n d v, o => b < W.heap.size ∧ W.cell? ⟨b, o, none⟩ = some (.string n) ∧ W.cell? ⟨b, o + 1, none⟩ = some (.bool d) ∧ ∃ u, W.cell? ⟨b, o + 2, none⟩ = some u ∧ LieAt (EsAt W v) u v.length
theorem vs_of {W : World} {b : Nat} : ∀ (l : List VA) (o : Nat), (∀ i e, l[i]? = some e → QVA W b e (o + i * 3)) → VsAt W l b o
  | [], o, h => by rw [VsAt]; trivial
  | .mk t d p :: r, o, h => by
    rw [VsAt]
    obtain ⟨h0, h1, h3, h2⟩ := h 0 _ rfl
    rw [Nat.zero_mul, Nat.add_zero] at h1 h2 h3
    exact ⟨h0, h1, h3, h2, vs_of r (o + 3) (fun i e he => by have := h (i + 1) e (by simpa using he); rw [Nat.add_mul, Nat.one_mul, Nat.add_comm (i * 3) 3, ← Nat.add_assoc] at this; exact this)⟩
def QAT (W : World) (b : Nat) : AT → Nat → Prop
  | .mk n v, o => b < W.heap.size ∧ W.cell? ⟨b, o, none⟩ = some (.string n) ∧ ∃ u, W.cell? ⟨b, o + 1, none⟩ = some u ∧ PatAt W v u
theorem ts_of {W : World} {b : Nat} : ∀ (l : List AT) (o : Nat), (∀ i e, l[i]? = some e → QAT W b e (o + i * 2)) → TsAt W l b o
  | [], o, h => by rw [TsAt]; trivial
  | .mk t p :: r, o, h => by
    rw [TsAt]
    obtain ⟨h0, h1, h2⟩ := h 0 _ rfl
    rw [Nat.zero_mul, Nat.add_zero] at h1 h2
    exact ⟨h0, h1, h2, ts_of r (o + 2) (fun i e he => by have := h (i + 1) e (by simpa using he); rw [Nat.add_mul, Nat.one_mul, Nat.add_comm (i * 2) 2, ← Nat.add_assoc] at this; exact this)⟩
def szEL : EL → Nat | .mk t p => 1 + t.size + sizeO p
def szAR : AR → Nat | .mk n v => n.size + v.size
def szVA : VA → Nat | .mk k _ v => 1 + k.size + sizeEs v
def szAT : AT → Nat | .mk n v => 1 + n.size + sizeEs v
theorem sumEL : ∀ l, sumOf szEL l = sizeEs l
  | [] => by rw [sumOf, sizeEs]
  | .mk t p :: r => by rw [sumOf, sizeEs, sumEL r, szEL]
theorem sumAR : ∀ l, sumOf szAR l = sizeAs l
  | [] => by rw [sumOf, sizeAs]
  | .mk t p :: r => by rw [sumOf, sizeAs, sumAR r, szAR]
theorem sumVA : ∀ l, sumOf szVA l = sizeVs l
  | [] => by rw [sumOf, sizeVs]
  | .mk t d p :: r => by rw [sumOf, sizeVs, sumVA r, szVA]
theorem sumAT : ∀ l, sumOf szAT l = sizeTs l
  | [] => by rw [sumOf, sizeTs]
  | .mk t p :: r => by rw [sumOf, sizeTs, sumAT r, szAT]
/-- A text's bulk. -/
theorem bulk_string (s : ByteArray) : Rows.uptoBulk (DataW.lit (H := H) (.string s.data.toList)) = s.size + 1 := by
  simp [Rows.uptoBulk]

/-- An expression, read with that much fuel. -/
def OpenE (enc : TypeId × Value → H) (W : World) (sp : Nat → Bool) (held : Bool) (n : Nat) : Prop := ∀ cs x, DataW.trod enc Tryd.prog W 0 sp held n 36 cs = some x →
  ∃ e c, cs = [c.k, c.t, c.n, c.a, c.al, c.i, c.vs] ∧ ExAt W e c ∧ e.size ≤ Rows.uptoBulk x.1
theorem c_kind : Tryd.prog.cellsOf 31 = 1 := by kernel_rfl
theorem c_str : Tryd.prog.cellsOf 9 = 1 := by kernel_rfl
theorem c_args : Tryd.prog.cellsOf 32 = 1 := by kernel_rfl
theorem c_ptr : Tryd.prog.cellsOf 33 = 1 := by kernel_rfl
theorem c_vars : Tryd.prog.cellsOf 34 = 1 := by kernel_rfl
theorem c_els : Tryd.prog.cellsOf 23 = 1 := by kernel_rfl
theorem c_boo : Tryd.prog.cellsOf 4 = 1 := by kernel_rfl
theorem c_attrs : Tryd.prog.cellsOf 24 = 1 := by kernel_rfl
theorem c_typ : Tryd.prog.cellsOf 22 = 1 := by kernel_rfl
theorem c_int : Tryd.prog.cellsOf 3 = 1 := by kernel_rfl
theorem many_cells : Tryd.prog.cellsOf 36 = 7 ∧ Tryd.prog.cellsOf 63 = 8 ∧ Tryd.prog.cellsOf 65 = 3 ∧ Tryd.prog.cellsOf 38 = 2 ∧ Tryd.prog.cellsOf 40 = 2 ∧ Tryd.prog.cellsOf 26 = 8 := by
  refine ⟨?_, ?_, ?_, ?_, ?_, ?_⟩ <;> kernel_rfl
set_option maxRecDepth 100000 in
theorem open_ptr {n : Nat} (ih : ∀ m, m < n → OpenE enc W sp held m) {cs : List Value} {x : DataW H × List MemPlace} (h : DataW.trod enc Tryd.prog W 0 sp held n 33 cs = some x) :
    ∃ v p, cs = [v] ∧ OAt W p v ∧ sizeO p + 1 ≤ Rows.uptoBulk x.1 := by
  rcases DataW.trod_pointer Tryd.underlying33 h with ⟨rfl, rfl⟩ | ⟨a, cs', y, n', hn, rfl, rfl, hc, hy⟩
  · exact ⟨_, none, rfl, by simp only [OAt], by simp [sizeO, Rows.uptoBulk]⟩
  · rw [many_cells.1] at hc
    obtain ⟨b, o, rfl, hb, _, hcell⟩ := cells_at (by decide) hc
    obtain ⟨e, c, rfl, hex, hs⟩ := ih n' (by omega) cs' y hy
    refine ⟨_, some e, rfl, ?_, ?_⟩
    · simp only [OAt]
      refine ⟨b, o, c, rfl, hb, ?_, hex⟩
      refine ⟨?_, ?_, ?_, ?_, ?_, ?_, ?_⟩
      · exact (hcell 0 (by decide)).trans rfl
      · exact (hcell 1 (by decide)).trans rfl
      · exact (hcell 2 (by decide)).trans rfl
      · exact (hcell 3 (by decide)).trans rfl
      · exact (hcell 4 (by decide)).trans rfl
      · exact (hcell 5 (by decide)).trans rfl
      · exact (hcell 6 (by decide)).trans rfl
    · have : sizeO (some e) = e.size := by rw [sizeO]
      simp only [Rows.uptoBulk]; omega
theorem open_el {n : Nat} (ih : ∀ m, m < n → OpenE enc W sp held m) {cs : List Value} {x : DataW H × List MemPlace} (h : DataW.trod enc Tryd.prog W 0 sp held n 38 cs = some x) :
    ∀ b o, b < W.heap.size → (∀ i, i < 2 → W.cell? ⟨b, o + i, none⟩ = cs[i]?) → ∃ e, QEL W b e o ∧ szEL e ≤ Rows.uptoBulk x.1 := by
  intro b o hb hcell
  obtain ⟨xs, n', rfl, rfl, hl, hx, hf⟩ := DataW.trod_struct Tryd.underlying38 h
  rw [many_cells.2.2.2.1] at hl
  obtain ⟨c0, c1, rfl⟩ := list2 hl
  obtain ⟨x0, x1, rfl⟩ := list2 hx
  have f0 : DataW.trod enc Tryd.prog W 0 sp held n' 9 [c0] = some x0 := by
    have := hf 0 _ rfl
    change DataW.trod enc Tryd.prog W 0 sp held n' 9 ((List.drop 0 [c0, c1]).take (Tryd.prog.cellsOf 9)) = some x0 at this
    rw [c_str] at this
    exact this
  have f1 : DataW.trod enc Tryd.prog W 0 sp held n' 33 [c1] = some x1 := by
    have := hf 1 _ rfl
    change DataW.trod enc Tryd.prog W 0 sp held n' 33 ((List.drop 1 [c0, c1]).take (Tryd.prog.cellsOf 33)) = some x1 at this
    rw [c_ptr] at this
    exact this
  obtain ⟨s, e0, rfl, _⟩ := DataW.trod_string Tryd.underlying9 f0
  obtain ⟨v, p, e1, hp, hs⟩ := open_ptr (fun m hm => ih m (by omega)) f1
  cases e0
  cases e1
  refine ⟨.mk s p, ⟨hb, by simpa using hcell 0 (by decide), _, hcell 1 (by decide), hp⟩, ?_⟩
  simp only [szEL, List.map_cons, List.map_nil, Rows.uptoBulk, Rows.uptoBulkAll]
  simp
  omega
theorem open_pat {n : Nat} (ih : ∀ m, m < n → OpenE enc W sp held m) {cs : List Value} {x : DataW H × List MemPlace} (h : DataW.trod enc Tryd.prog W 0 sp held n 23 cs = some x) :
    ∃ v l, cs = [v] ∧ PatAt W l v ∧ sizeEs l + 1 ≤ Rows.uptoBulk x.1 := by
  obtain ⟨v, l, e, hl, hs⟩ := slice_open (k := 2) (by decide) Tryd.underlying23 many_cells.2.2.2.1 (QEL W) szEL (fun m hm cs y hy b o hb hc => open_el (fun m' hm' => ih m' (by omega)) hy b o hb hc) h
  exact ⟨v, l, e, hl.imp' (fun b o hq => es_of l o hq), by rw [← sumEL]; exact hs⟩
theorem open_va {n : Nat} (ih : ∀ m, m < n → OpenE enc W sp held m) {cs : List Value} {x : DataW H × List MemPlace} (h : DataW.trod enc Tryd.prog W 0 sp held n 65 cs = some x) :
    ∀ b o, b < W.heap.size → (∀ i, i < 3 → W.cell? ⟨b, o + i, none⟩ = cs[i]?) → ∃ e, QVA W b e o ∧ szVA e ≤ Rows.uptoBulk x.1 := by
  intro b o hb hcell
  obtain ⟨xs, n', rfl, rfl, hl, hx, hf⟩ := DataW.trod_struct Tryd.underlying65 h
  rw [many_cells.2.2.1] at hl
  obtain ⟨c0, c1, c2, rfl⟩ := list3 hl
  obtain ⟨x0, x1, x2, rfl⟩ := list3 hx
  have f0 : DataW.trod enc Tryd.prog W 0 sp held n' 9 [c0] = some x0 := by
    have := hf 0 _ rfl
    change DataW.trod enc Tryd.prog W 0 sp held n' 9 ((List.drop 0 [c0, c1, c2]).take (Tryd.prog.cellsOf 9)) = some x0 at this
    rw [c_str] at this
    exact this
  have f1 : DataW.trod enc Tryd.prog W 0 sp held n' 4 [c1] = some x1 := by
    have := hf 1 _ rfl
    change DataW.trod enc Tryd.prog W 0 sp held n' 4 ((List.drop 1 [c0, c1, c2]).take (Tryd.prog.cellsOf 4)) = some x1 at this
    rw [c_boo] at this
    exact this
  have f2 : DataW.trod enc Tryd.prog W 0 sp held n' 23 [c2] = some x2 := by
    have := hf 2 _ rfl
    change DataW.trod enc Tryd.prog W 0 sp held n' 23 ((List.drop 2 [c0, c1, c2]).take (Tryd.prog.cellsOf 23)) = some x2 at this
    rw [c_els] at this
    exact this
  obtain ⟨s, e0, rfl, _⟩ := DataW.trod_string Tryd.underlying9 f0
  obtain ⟨d, e2, rfl⟩ := DataW.trod_bool Tryd.underlying4 f1
  obtain ⟨v, l, e1, hp, hs⟩ := open_pat (fun m hm => ih m (by omega)) f2
  cases e0
  cases e1
  cases e2
  refine ⟨.mk s d l, ⟨hb, by simpa using hcell 0 (by decide), hcell 1 (by decide), _, hcell 2 (by decide), hp⟩, ?_⟩
  simp only [szVA, List.map_cons, List.map_nil, Rows.uptoBulk, Rows.uptoBulkAll]
  simp
  omega
theorem open_ar {n : Nat} (ih : ∀ m, m < n → OpenE enc W sp held m) {cs : List Value} {x : DataW H × List MemPlace} (h : DataW.trod enc Tryd.prog W 0 sp held n 63 cs = some x) :
    ∀ b o, b < W.heap.size → (∀ i, i < 8 → W.cell? ⟨b, o + i, none⟩ = cs[i]?) → ∃ e, QAR W b e o ∧ szAR e ≤ Rows.uptoBulk x.1 := by
  intro b o hb hcell
  obtain ⟨xs, n', rfl, rfl, hl, hx, hf⟩ := DataW.trod_struct Tryd.underlying63 h
  rw [many_cells.2.1] at hl
  obtain ⟨c0, c1, c2, c3, c4, c5, c6, c7, rfl⟩ := list8 hl
  obtain ⟨x0, x1, rfl⟩ := list2 hx
  have f0 : DataW.trod enc Tryd.prog W 0 sp held n' 9 [c0] = some x0 := by
    have := hf 0 _ rfl
    change DataW.trod enc Tryd.prog W 0 sp held n' 9 ((List.drop 0 [c0, c1, c2, c3, c4, c5, c6, c7]).take (Tryd.prog.cellsOf 9)) = some x0 at this
    rw [c_str] at this
    exact this
  have f1 : DataW.trod enc Tryd.prog W 0 sp held n' 36 [c1, c2, c3, c4, c5, c6, c7] = some x1 := by
    have := hf 1 _ rfl
    change DataW.trod enc Tryd.prog W 0 sp held n' 36 ((List.drop 1 [c0, c1, c2, c3, c4, c5, c6, c7]).take (Tryd.prog.cellsOf 36)) = some x1 at this
    rw [many_cells.1] at this
    exact this
  obtain ⟨s, e0, rfl, _⟩ := DataW.trod_string Tryd.underlying9 f0
  obtain ⟨e, c, e1, hp, hs⟩ := ih n' (by omega) _ _ f1
  cases e0
  cases e1
  refine ⟨.mk s e, ⟨hb, by simpa using hcell 0 (by decide), c, ⟨hcell 1 (by decide), hcell 2 (by decide), hcell 3 (by decide), hcell 4 (by decide), hcell 5 (by decide), hcell 6 (by decide), hcell 7 (by decide)⟩, hp⟩, ?_⟩
  simp only [szAR, List.map_cons, List.map_nil, Rows.uptoBulk, Rows.uptoBulkAll]
  simp
  omega
theorem open_ex {n : Nat} (ih : ∀ m, m < n → OpenE enc W sp held m) : OpenE enc W sp held n := by
  intro cs x h
  obtain ⟨xs, n', rfl, rfl, hl, hx, hf⟩ := DataW.trod_struct Tryd.underlying36 h
  rw [many_cells.1] at hl
  obtain ⟨c0, c1, c2, c3, c4, c5, c6, rfl⟩ := list7 hl
  obtain ⟨x0, x1, x2, x3, x4, x5, x6, rfl⟩ := list7 hx
  have f0 : DataW.trod enc Tryd.prog W 0 sp held n' 31 [c0] = some x0 := by
    have := hf 0 _ rfl
    change DataW.trod enc Tryd.prog W 0 sp held n' 31 ((List.drop 0 [c0, c1, c2, c3, c4, c5, c6]).take (Tryd.prog.cellsOf 31)) = some x0 at this
    rw [c_kind] at this
    exact this
  have f1 : DataW.trod enc Tryd.prog W 0 sp held n' 9 [c1] = some x1 := by
    have := hf 1 _ rfl
    change DataW.trod enc Tryd.prog W 0 sp held n' 9 ((List.drop 1 [c0, c1, c2, c3, c4, c5, c6]).take (Tryd.prog.cellsOf 9)) = some x1 at this
    rw [c_str] at this
    exact this
  have f2 : DataW.trod enc Tryd.prog W 0 sp held n' 9 [c2] = some x2 := by
    have := hf 2 _ rfl
    change DataW.trod enc Tryd.prog W 0 sp held n' 9 ((List.drop 2 [c0, c1, c2, c3, c4, c5, c6]).take (Tryd.prog.cellsOf 9)) = some x2 at this
    rw [c_str] at this
    exact this
  have f3 : DataW.trod enc Tryd.prog W 0 sp held n' 9 [c3] = some x3 := by
    have := hf 3 _ rfl
    change DataW.trod enc Tryd.prog W 0 sp held n' 9 ((List.drop 3 [c0, c1, c2, c3, c4, c5, c6]).take (Tryd.prog.cellsOf 9)) = some x3 at this
    rw [c_str] at this
    exact this
  have f4 : DataW.trod enc Tryd.prog W 0 sp held n' 32 [c4] = some x4 := by
    have := hf 4 _ rfl
    change DataW.trod enc Tryd.prog W 0 sp held n' 32 ((List.drop 4 [c0, c1, c2, c3, c4, c5, c6]).take (Tryd.prog.cellsOf 32)) = some x4 at this
    rw [c_args] at this
    exact this
  have f5 : DataW.trod enc Tryd.prog W 0 sp held n' 33 [c5] = some x5 := by
    have := hf 5 _ rfl
    change DataW.trod enc Tryd.prog W 0 sp held n' 33 ((List.drop 5 [c0, c1, c2, c3, c4, c5, c6]).take (Tryd.prog.cellsOf 33)) = some x5 at this
    rw [c_ptr] at this
    exact this
  have f6 : DataW.trod enc Tryd.prog W 0 sp held n' 34 [c6] = some x6 := by
    have := hf 6 _ rfl
    change DataW.trod enc Tryd.prog W 0 sp held n' 34 ((List.drop 6 [c0, c1, c2, c3, c4, c5, c6]).take (Tryd.prog.cellsOf 34)) = some x6 at this
    rw [c_vars] at this
    exact this
  obtain ⟨k, e0, rfl, _⟩ := DataW.trod_int Tryd.underlying31 f0
  obtain ⟨t, e1, rfl, _⟩ := DataW.trod_string Tryd.underlying9 f1
  obtain ⟨nm, e2, rfl, _⟩ := DataW.trod_string Tryd.underlying9 f2
  obtain ⟨a, e3, rfl, _⟩ := DataW.trod_string Tryd.underlying9 f3
  obtain ⟨v4, al, e4, hal, hs4⟩ := slice_open (k := 8) (by decide) Tryd.underlying32 many_cells.2.1 (QAR W) szAR (fun m hm cs y hy b o hb hc => open_ar (fun m' hm' => ih m' (by omega)) hy b o hb hc) f4
  obtain ⟨v5, p, e5, hp, hs5⟩ := open_ptr (fun m hm => ih m (by omega)) f5
  obtain ⟨v6, vs, e6, hvs, hs6⟩ := slice_open (k := 3) (by decide) Tryd.underlying34 many_cells.2.2.1 (QVA W) szVA (fun m hm cs y hy b o hb hc => open_va (fun m' hm' => ih m' (by omega)) hy b o hb hc) f6
  cases e0
  cases e1
  cases e2
  cases e3
  cases e4
  cases e5
  cases e6
  refine ⟨.mk k t nm a al p vs, ⟨_, _, _, _, _, _, _⟩, rfl, ?_, ?_⟩
  · rw [ExAt]
    exact ⟨rfl, rfl, rfl, rfl, hal.imp' (fun b o hq => as_of al o hq), hp, hvs.imp' (fun b o hq => vs_of vs o hq)⟩
  · rw [EX.size]
    rw [sumAR] at hs4
    rw [sumVA] at hs6
    simp only [List.map_cons, List.map_nil, Rows.uptoBulk, Rows.uptoBulkAll]
    simp
    omega
theorem open_all : ∀ n, OpenE enc W sp held n := by
  intro n
  induction n using Nat.strongRecOn with
  | _ n ih => exact open_ex ih
theorem open_at {n : Nat} {cs : List Value} {x : DataW H × List MemPlace} (h : DataW.trod enc Tryd.prog W 0 sp held n 40 cs = some x) :
    ∀ b o, b < W.heap.size → (∀ i, i < 2 → W.cell? ⟨b, o + i, none⟩ = cs[i]?) → ∃ e, QAT W b e o ∧ szAT e ≤ Rows.uptoBulk x.1 := by
  intro b o hb hcell
  obtain ⟨xs, n', rfl, rfl, hl, hx, hf⟩ := DataW.trod_struct Tryd.underlying40 h
  rw [many_cells.2.2.2.2.1] at hl
  obtain ⟨c0, c1, rfl⟩ := list2 hl
  obtain ⟨x0, x1, rfl⟩ := list2 hx
  have f0 : DataW.trod enc Tryd.prog W 0 sp held n' 9 [c0] = some x0 := by
    have := hf 0 _ rfl
    change DataW.trod enc Tryd.prog W 0 sp held n' 9 ((List.drop 0 [c0, c1]).take (Tryd.prog.cellsOf 9)) = some x0 at this
    rw [c_str] at this
    exact this
  have f1 : DataW.trod enc Tryd.prog W 0 sp held n' 23 [c1] = some x1 := by
    have := hf 1 _ rfl
    change DataW.trod enc Tryd.prog W 0 sp held n' 23 ((List.drop 1 [c0, c1]).take (Tryd.prog.cellsOf 23)) = some x1 at this
    rw [c_els] at this
    exact this
  obtain ⟨s, e0, rfl, _⟩ := DataW.trod_string Tryd.underlying9 f0
  obtain ⟨v, l, e1, hp, hs⟩ := open_pat (fun m _ => open_all m) f1
  cases e0
  cases e1
  refine ⟨.mk s l, ⟨hb, by simpa using hcell 0 (by decide), _, hcell 1 (by decide), hp⟩, ?_⟩
  simp only [szAT, List.map_cons, List.map_nil, Rows.uptoBulk, Rows.uptoBulkAll]
  simp
  omega
/-- An entry. -/
theorem open_entry {n : Nat} {cs : List Value} {x : DataW H × List MemPlace} (h : DataW.trod enc Tryd.prog W 0 sp held n 26 cs = some x) :
    ∃ (ty level : Int) (text name : ByteArray) (val : List EL) (ats : List AT) (v u : Value) (fr tu : Int), cs = [.int .i64 ty, .int .i64 level, .string text, .string name, v, u, .int .i64 fr, .int .i64 tu] ∧ PatAt W val v ∧ LieAt (TsAt W ats) u ats.length ∧
      text.size + name.size + sizeEs val + sizeTs ats ≤ Rows.uptoBulk x.1 := by
  obtain ⟨xs, n', rfl, rfl, hl, hx, hf⟩ := DataW.trod_struct Tryd.underlying26 h
  rw [many_cells.2.2.2.2.2] at hl
  obtain ⟨c0, c1, c2, c3, c4, c5, c6, c7, rfl⟩ := list8 hl
  obtain ⟨x0, x1, x2, x3, x4, x5, x6, x7, rfl⟩ := list8 hx
  have f0 : DataW.trod enc Tryd.prog W 0 sp held n' 22 [c0] = some x0 := by
    have := hf 0 _ rfl
    change DataW.trod enc Tryd.prog W 0 sp held n' 22 ((List.drop 0 [c0, c1, c2, c3, c4, c5, c6, c7]).take (Tryd.prog.cellsOf 22)) = some x0 at this
    rw [c_typ] at this
    exact this
  have f1 : DataW.trod enc Tryd.prog W 0 sp held n' 3 [c1] = some x1 := by
    have := hf 1 _ rfl
    change DataW.trod enc Tryd.prog W 0 sp held n' 3 ((List.drop 1 [c0, c1, c2, c3, c4, c5, c6, c7]).take (Tryd.prog.cellsOf 3)) = some x1 at this
    rw [c_int] at this
    exact this
  have f2 : DataW.trod enc Tryd.prog W 0 sp held n' 9 [c2] = some x2 := by
    have := hf 2 _ rfl
    change DataW.trod enc Tryd.prog W 0 sp held n' 9 ((List.drop 2 [c0, c1, c2, c3, c4, c5, c6, c7]).take (Tryd.prog.cellsOf 9)) = some x2 at this
    rw [c_str] at this
    exact this
  have f3 : DataW.trod enc Tryd.prog W 0 sp held n' 9 [c3] = some x3 := by
    have := hf 3 _ rfl
    change DataW.trod enc Tryd.prog W 0 sp held n' 9 ((List.drop 3 [c0, c1, c2, c3, c4, c5, c6, c7]).take (Tryd.prog.cellsOf 9)) = some x3 at this
    rw [c_str] at this
    exact this
  have f4 : DataW.trod enc Tryd.prog W 0 sp held n' 23 [c4] = some x4 := by
    have := hf 4 _ rfl
    change DataW.trod enc Tryd.prog W 0 sp held n' 23 ((List.drop 4 [c0, c1, c2, c3, c4, c5, c6, c7]).take (Tryd.prog.cellsOf 23)) = some x4 at this
    rw [c_els] at this
    exact this
  have f5 : DataW.trod enc Tryd.prog W 0 sp held n' 24 [c5] = some x5 := by
    have := hf 5 _ rfl
    change DataW.trod enc Tryd.prog W 0 sp held n' 24 ((List.drop 5 [c0, c1, c2, c3, c4, c5, c6, c7]).take (Tryd.prog.cellsOf 24)) = some x5 at this
    rw [c_attrs] at this
    exact this
  have f6 : DataW.trod enc Tryd.prog W 0 sp held n' 3 [c6] = some x6 := by
    have := hf 6 _ rfl
    change DataW.trod enc Tryd.prog W 0 sp held n' 3 ((List.drop 6 [c0, c1, c2, c3, c4, c5, c6, c7]).take (Tryd.prog.cellsOf 3)) = some x6 at this
    rw [c_int] at this
    exact this
  have f7 : DataW.trod enc Tryd.prog W 0 sp held n' 3 [c7] = some x7 := by
    have := hf 7 _ rfl
    change DataW.trod enc Tryd.prog W 0 sp held n' 3 ((List.drop 7 [c0, c1, c2, c3, c4, c5, c6, c7]).take (Tryd.prog.cellsOf 3)) = some x7 at this
    rw [c_int] at this
    exact this
  obtain ⟨ty, e0, rfl, _⟩ := DataW.trod_int Tryd.underlying22 f0
  obtain ⟨lv, e1, rfl, _⟩ := DataW.trod_int Tryd.underlying3 f1
  obtain ⟨t, e2, rfl, _⟩ := DataW.trod_string Tryd.underlying9 f2
  obtain ⟨nm, e3, rfl, _⟩ := DataW.trod_string Tryd.underlying9 f3
  obtain ⟨v4, val, e4, hv, hs4⟩ := open_pat (fun m _ => open_all m) f4
  obtain ⟨v5, ats, e5, hu, hs5⟩ := slice_open (k := 2) (by decide) Tryd.underlying24 many_cells.2.2.2.2.1 (QAT W) szAT (fun m hm cs y hy b o hb hc => open_at hy b o hb hc) f5
  obtain ⟨fr, e6, rfl, _⟩ := DataW.trod_int Tryd.underlying3 f6
  obtain ⟨tu, e7, rfl, _⟩ := DataW.trod_int Tryd.underlying3 f7
  cases e0
  cases e1
  cases e2
  cases e3
  cases e4
  cases e5
  cases e6
  cases e7
  refine ⟨ty, lv, t, nm, val, ats, _, _, fr, tu, rfl, hv, hu.imp' (fun b o hq => ts_of ats o hq), ?_⟩
  rw [sumAT] at hs5
  simp only [List.map_cons, List.map_nil, Rows.uptoBulk, Rows.uptoBulkAll]
  simp
  omega
end
end Go.Proofs.YtmceblemiboedaaDoor

/-
  utf8's tables out of what the row lists.
-/
namespace Go.Proofs.YtmceblemiboedaaDoor
open Go.ChangeShapes Go.WideShapes Go.ChangeAt Go.RowKit Go.Lib
set_option maxRecDepth 100000

theorem u8Extra : U8Extra Tryd.prog Tryd.lays260_ren := ⟨by kernel_rfl, by kernel_rfl, by kernel_rfl, by kernel_rfl, by kernel_rfl, by kernel_rfl, by kernel_rfl⟩
theorem tabU_of_laid {l : List (String × DataW Unit)} {W : World} (h : laidMetH Tryd.prog l W) (hl : (l.filter fun x => x.2.handleName?.isNone) = [("unicode/utf8.acceptRanges", acceptData), ("unicode/utf8.first", firstData)]) : TabU W := by
  have h1 := (laidMetH_iff.1 h).1
  rw [hl] at h1
  exact utf8Tabs_of_reads (ρ := Tryd.lays260_ren) Tryd.lays260 u8Extra (Lib.laidMet.reads h1 (.tail _ (.head _))) (Lib.laidMet.reads h1 (.head _))
end Go.Proofs.YtmceblemiboedaaDoor
