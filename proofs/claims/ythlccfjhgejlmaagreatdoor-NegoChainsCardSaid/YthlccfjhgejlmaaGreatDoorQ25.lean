/-
  Several texts put together (part 25): what the law and the program call, walked; their contracts.
-/
import Derived.Test.YthlccfjhgejlmaaGreatDoorQ22
import Derived.Test.YthlccfjhgejlmaaGreatDoorQ24
namespace Go.Proofs.YthlccfjhgejlmaaGreatDoor
open Go.RowKit Go.Shelf
set_option linter.unusedVariables false
set_option linter.unusedSimpArgs false
theorem eqC (a b : List UInt8) : ((mk a).toList == (mk b).toList) = decide (a = b) := by
  rw [Lib.toList_data, Lib.toList_data]
  show (a == b) = _
  rw [Bool.eq_iff_iff]
  simp
def beginsB (s p : List UInt8) : Bool := decide (p.length ≤ s.length) && (decide (s.take p.length = p) && (decide (s.length = p.length) || decide (s[p.length]? = some 45)))
theorem hy_int (c : UInt8) : ((c.toNat : Int) == 45) = decide (c = 45) := by
  rw [Bool.eq_iff_iff, beq_iff_eq, decide_eq_true_iff]
  constructor
  · intro h
    apply UInt8.toNat_inj.1
    show c.toNat = 45
    omega
  · rintro rfl
    rfl
theorem mk_get (s : List UInt8) (i : Nat) (h : i < (mk s).size) (h' : i < s.length) : (mk s)[i]'h = s[i] := rfl
set_option maxHeartbeats 4000000 in
set_option maxRecDepth 100000 in
theorem begins_any (s p : List UInt8) (w : World) (h1 : s.length ≤ 1000000) (h2 : p.length ≤ 1000000) :
    Calls Tryz.prog 27 #[.string (mk s), .string (mk p)] w fun e w' => e = .returned (.bool (beginsB s p)) ∧ w' = w := by
  have hs := mk_size s
  have hp := mk_size p
  by_cases hl : p.length ≤ s.length
  · have f1 : decide ((p.length : Int) ≤ (s.length : Int)) = true := decide_eq_true (by omega)
    have he : (((mk s).extract 0 p.length).toList == (mk p).toList) = decide (s.take p.length = p) := by rw [mk_extract, eqC, List.drop_zero]
    by_cases ht : s.take p.length = p
    · rw [decide_eq_true ht] at he
      by_cases hq : s.length = p.length
      · have f2 : ((s.length : Int) == (p.length : Int)) = true := by rw [hq]; exact beq_self_eq_true _
        have HF := Lib.hid (show beginsB s p = true by unfold beginsB; rw [decide_eq_true hl, decide_eq_true ht, decide_eq_true hq]; rfl)
        clear hq ht
        go_enter Tryz.func27, Tryz.ntmps27
        go_wp2
        go_ret
        exact ⟨by rw [HF.out]; rfl, rfl⟩
      · have f2 : ((s.length : Int) == (p.length : Int)) = false := by rw [beq_eq_false_iff_ne]; omega
        have f3 : p.length < s.length := by omega
        have HF := Lib.hid (show beginsB s p = decide (s[p.length]? = some 45) by unfold beginsB; rw [decide_eq_true hl, decide_eq_true ht, decide_eq_false hq]; rfl)
        have gI : ∀ (h : p.length < (mk s).size), ((((mk s)[p.length]'h).toNat : Int) == 45) = decide (s[p.length]? = some 45) := fun h => by
          rw [mk_get s _ h f3, hy_int, List.getElem?_eq_getElem f3]
          apply decide_eq_decide.2
          exact ⟨fun e => by rw [e], fun e => by injection e⟩
        have hsz : p.length < (mk s).size := by omega
        obtain ⟨cb, hcb⟩ : ∃ cb, decide (s[p.length]? = some 45) = cb := ⟨_, rfl⟩
        rw [hcb] at HF
        have gI2 := gI hsz
        rw [hcb] at gI2
        clear hq ht hcb gI
        go_enter Tryz.func27, Tryz.ntmps27
        go_wp2
        go_ret
        exact ⟨by rw [HF.out]; rfl, rfl⟩
    · rw [decide_eq_false ht] at he
      have HF := Lib.hid (show beginsB s p = false by unfold beginsB; rw [decide_eq_true hl, decide_eq_false ht]; rfl)
      clear ht
      go_enter Tryz.func27, Tryz.ntmps27
      go_wp2
      go_ret
      exact ⟨by rw [HF.out]; rfl, rfl⟩
  · have f1 : decide ((p.length : Int) ≤ (s.length : Int)) = false := decide_eq_false (by omega)
    have HF := Lib.hid (show beginsB s p = false by unfold beginsB; rw [decide_eq_false hl]; rfl)
    go_enter Tryz.func27, Tryz.ntmps27
    go_wp2
    go_ret
    exact ⟨by rw [HF.out]; rfl, rfl⟩
end Go.Proofs.YthlccfjhgejlmaaGreatDoor

namespace Go.Proofs.YthlccfjhgejlmaaGreatDoor
open Go.RowKit Go.Shelf
set_option linter.unusedVariables false
set_option linter.unusedSimpArgs false
set_option maxHeartbeats 8000000 in
set_option maxRecDepth 100000 in
theorem forms_any (v : Value) (ss : List ByteArray) (w : World) (hin : SAt w v ss) (hn : ss.length ≤ 100000) (hs : ∀ s ∈ ss, s.size ≤ 500) :
    Calls Tryz.prog 10 #[v] w fun e w' => ∃ u, e = .returned u ∧ OwnS w.heap.size w' u ((tagsOf ss).map TagT.text) ∧ Below w.heap.size w w' := by
  obtain ⟨A, c, rfl, hcs0⟩ := hin
  obtain ⟨i0, hinf, hz0, hz1, hz2⟩ := info_parts infoS
  have HIn := Lib.hid hcs0
  have HS := Lib.hid hs
  have hn0 : (ss.length : Int) ≤ 100000 := by omega
  clear hcs0 hs
  go_enter Tryz.func10, Tryz.ntmps10
  go_wp2
  go_loopw [3, 11] (fun t3 t11 wr => ∃ (i : Nat) (acc : List (List UInt8)), t11 = .int .i64 i ∧ i ≤ ss.length ∧ acc.length ≤ i ∧ Hid (acc = (tagsOf (ss.take i)).map TagT.text) ∧ Hid (OwnS w.heap.size wr t3 acc) ∧ Hid (Below w.heap.size w wr)) (fun _ t11 _ => ss.length - (intOf t11).toNat)
  case atStart => exact ⟨0, [], rfl, Nat.zero_le _, Nat.le_refl _, Lib.hid rfl, Lib.hid (OwnS.empty w), Lib.hid ((Below.refl _ _).alloc (Nat.le_refl _) _)⟩
  case round =>
    obtain ⟨i, acc, rfl, hi, hal, HE, HW, HB⟩ := hrel
    have hi0 : (i : Int) ≤ 100000 := by omega
    by_cases hlt : i < ss.length
    · have f1 : decide ((i : Int) < (ss.length : Int)) = true := decide_eq_true (by omega)
      have f2 : (i : Int) < (ss.length : Int) := by omega
      obtain ⟨b, o, rfl, hb, hcs⟩ := HIn.out (by omega)
      have hk0 := (HB.out.cell (p := ⟨b, o + i, none⟩) hb).trans (hcs i hlt)
      rw [List.getElem?_eq_getElem hlt, Option.getD_some] at hk0
      have htk : ss.take (i + 1) = ss.take i ++ [ss[i]] := List.take_succ_eq_append_getElem hlt
      have hsz := HS.out _ (List.getElem_mem hlt)
      generalize ss[i] = s at *
      have hbr : b < wr.heap.size := Nat.lt_of_lt_of_le hb HB.out.size
      have HTk := Lib.hid htk
      clear htk hcs
      have HP := Lib.hid (lparse_any s wr (by omega) _ rfl)
      cases ht : tagS s with
      | none =>
        have HE1 := Lib.hid (show acc = (tagsOf (ss.take (i + 1))).map TagT.text by
          rw [HTk.out, tagsOf_app, show tagsOf [s] = [] by simp [tagsOf, ht], List.append_nil, HE.out])
        have HL := Lib.hid (show lawP (splitH s.data.toList) = none by rw [lawP_tag, show tagOf (splitH s.data.toList) = none from ht]; rfl)
        clear ht
        go_wp2_with fail
        go_at_call 22
        refine HP.out.mono ?_
        rintro e w2 ⟨b2, _, h3⟩
        have := h3 HL.out
        subst this
        have HB2 := Lib.hid (below_step HB.out b2)
        have HW2 := Lib.hid (HW.out.later b2)
        clear b2 h3 HP
        go_wp2_with fail
        exact ⟨⟨i + 1, acc, by go_num, hlt, by omega, HE1, HW2, HB2⟩, by simp [intOf]; omega⟩
      | some t =>
        have HE1 := Lib.hid (show acc ++ [t.text] = (tagsOf (ss.take (i + 1))).map TagT.text by
          rw [HTk.out, tagsOf_app, show tagsOf [s] = [t] by simp [tagsOf, ht], List.map_append, HE.out]; rfl)
        have HL := Lib.hid (show lawP (splitH s.data.toList) = some t.pieces by rw [lawP_tag, show tagOf (splitH s.data.toList) = some t from ht]; rfl)
        clear ht
        go_wp2_with fail
        go_at_call 22
        refine HP.out.mono ?_
        rintro e w2 ⟨b2, h3, _⟩
        have h4 := h3 _ HL.out
        rw [show Lib.join t.pieces [45] = t.text from rfl] at h4
        subst h4
        have HB2 := Lib.hid (below_step HB.out b2)
        have HW2 := Lib.hid (HW.out.later b2)
        clear b2 h3 HP
        have hw4 := HB2.out.size
        have hRow := World.ownsRow.alloc HW2.out (.cells #[.string (mk t.text)] 9)
        have HNew := Lib.hid (BoxAt.new w2 #[.string (mk t.text)] 9)
        go_wp2_with (at_builtin; refine wpList_append_own _ rfl _ _ 22 rfl w.heap.size 9 i0 (.string ⟨#[]⟩) 1 16 Tryz.underlying22 hinf hz0 hz1 hz2 rfl (by decide) _ _ _ rfl hRow ⟨w2.heap.size, 0, none⟩ 1 1 [.string (mk t.text)] rfl rfl (by intro j u hj; rw [add_zero]; match j, hj with | 0, hj => simp at hj; subst hj; exact HNew.out.cell 0) (by intro u hu; simp at hu; subst hu; rfl) (by unfold maxLen; omega) (by omega) (by simp; omega) ?_; intro v' w4 hown' hgrow hnil)
        have HW4 := Lib.hid (show OwnS w.heap.size w4 v' (acc ++ [t.text]) from OwnS.push hown')
        have HB4 := Lib.hid ((HB2.out.alloc hw4 _).grown hgrow (by simp; omega) (fun k e => (World.ownsRow.lt HW2.out k e).1))
        clear hown' hgrow hnil hRow hw4
        go_wp2_with fail
        exact ⟨⟨i + 1, acc ++ [t.text], by go_num, hlt, by simp; omega, HE1, HW4, HB4⟩, by simp [intOf]; omega⟩
    · obtain rfl : i = ss.length := by omega
      have f1 : decide ((ss.length : Int) < (ss.length : Int)) = false := decide_eq_false (by omega)
      have hE := HE.out
      rw [List.take_length] at hE
      go_wp2
      go_ret
      rw [← hE]
      exact ⟨_, rfl, HW.out, HB.out⟩
def cutsD (w : List UInt8) : Nat → List (List UInt8)
  | 0 => []
  | i + 1 => (if w[i + 1]? = some 45 then [w.take (i + 1)] else []) ++ cutsD w i
def lawOne (ts : List (List UInt8)) (w : List UInt8) : List (List UInt8) := w :: (ts.filter (fun t => beginsB t w) ++ cutsD w (w.length - 1))
def onceX (ts : List (List UInt8)) : List (List UInt8) → List (List UInt8) → List (List UInt8)
  | [], acc => acc
  | x :: r, acc => onceX ts r (if x ∈ ts ∧ x ∉ acc then acc ++ [x] else acc)
def lawChain (ws ts : List (List UInt8)) (last : List UInt8) : List (List UInt8) :=
  if last ∈ onceX ts (ws.flatMap (lawOne ts) ++ [last]) [] then onceX ts (ws.flatMap (lawOne ts) ++ [last]) [] else onceX ts (ws.flatMap (lawOne ts) ++ [last]) [] ++ [last]
theorem onceX_app (ts : List (List UInt8)) : ∀ l m acc, onceX ts (l ++ m) acc = onceX ts m (onceX ts l acc)
  | [], m, acc => rfl
  | x :: r, m, acc => by rw [List.cons_append, onceX, onceX_app ts r m]; rfl
theorem any_take2 {α : Type} {l : List α} {i : Nat} {x : α} (f : α → Bool) (h : l[i]? = some x) : (l.take (i + 1)).any f = ((l.take i).any f || f x) := by
  obtain ⟨hi, e⟩ := List.getElem?_eq_some_iff.1 h
  rw [List.take_succ_eq_append_getElem hi, List.any_append, e]
  simp
theorem take_some {α : Type} {l : List α} {i : Nat} {x : α} (h : l[i]? = some x) : l.take (i + 1) = l.take i ++ [x] := by
  obtain ⟨hi, e⟩ := List.getElem?_eq_some_iff.1 h
  rw [List.take_succ_eq_append_getElem hi, e]
theorem any_mem (l : List (List UInt8)) (t : List UInt8) : (l.any fun y => decide (y = t)) = decide (t ∈ l) := by
  rw [Bool.eq_iff_iff, List.any_eq_true, decide_eq_true_iff]
  constructor
  · rintro ⟨y, hy, e⟩
    rw [← of_decide_eq_true e]
    exact hy
  · intro h
    exact ⟨t, h, decide_eq_true rfl⟩
theorem cutsD_len (w : List UInt8) : ∀ i, (cutsD w i).length ≤ i
  | 0 => Nat.le_refl _
  | i + 1 => by
    rw [cutsD, List.length_append]
    have := cutsD_len w i
    split <;> simp <;> omega
theorem onceX_len (ts : List (List UInt8)) : ∀ l acc, (onceX ts l acc).length ≤ acc.length + l.length
  | [], acc => by simp [onceX]
  | x :: r, acc => by
    rw [onceX]
    have := onceX_len ts r (if x ∈ ts ∧ x ∉ acc then acc ++ [x] else acc)
    have h2 : (if x ∈ ts ∧ x ∉ acc then acc ++ [x] else acc).length ≤ acc.length + 1 := by split <;> simp
    rw [List.length_cons]
    omega
set_option maxHeartbeats 16000000 in
set_option maxRecDepth 100000 in
theorem chainL_any (va vb : Value) (ws ts : List (List UInt8)) (last : List UInt8) (w : World) (h1 : SL w va ws) (h2 : SL w vb ts) (l1 : ws.length ≤ 20) (l2 : ts.length ≤ 20) (hws : ∀ x ∈ ws, 0 < x.length ∧ x.length ≤ 100) (hts : ∀ x ∈ ts, x.length ≤ 100) :
    Calls Tryz.prog 12 #[va, vb, .string (mk last)] w fun e w' => ∃ u, e = .returned u ∧ OwnS w.heap.size w' u (lawChain ws ts last) ∧ Below w.heap.size w w' := by
  obtain ⟨A, c, rfl, hca⟩ := h1
  obtain ⟨A', c', rfl, hcb⟩ := h2
  obtain ⟨i0, hinf, hz0, hz1, hz2⟩ := info_parts infoS
  have HA := Lib.hid hca
  have HB0 := Lib.hid hcb
  have HWs := Lib.hid hws
  have HTs := Lib.hid hts
  have n1 : (ws.length : Int) ≤ 20 := by omega
  have n2 : (ts.length : Int) ≤ 20 := by omega
  clear hca hcb hws hts
  go_enter Tryz.func12, Tryz.ntmps12
  go_wp2
  go_loopw [7, 27] (fun t7 t27 wr => ∃ (i : Nat) (all : List (List UInt8)), t27 = .int .i64 i ∧ i ≤ ws.length ∧ all.length ≤ i * 200 ∧ Hid (all = (ws.take i).flatMap (lawOne ts)) ∧ Hid (OwnS w.heap.size wr t7 all) ∧ Hid (Below w.heap.size w wr)) (fun _ t27 _ => ws.length - (intOf t27).toNat)
  case atStart => exact ⟨0, [], rfl, Nat.zero_le _, Nat.zero_le _, Lib.hid rfl, Lib.hid (OwnS.empty w), Lib.hid ((Below.refl _ _).alloc (Nat.le_refl _) _)⟩
  case round =>
    obtain ⟨i, all, rfl, hi, hal, HE, HW, HB⟩ := hrel
    have hi0 : (i : Int) ≤ 20 := by omega
    by_cases hlt : i < ws.length
    · have f1 : decide ((i : Int) < (ws.length : Int)) = true := decide_eq_true (by omega)
      have f2 : (i : Int) < (ws.length : Int) := by omega
      obtain ⟨b, rfl, hb, hcs⟩ := HA.out (by omega)
      have hk0 := (HB.out.cell (p := ⟨b, i, none⟩) hb).trans (hcs i _ (List.getElem?_eq_getElem hlt))
      have htk : ws.take (i + 1) = ws.take i ++ [ws[i]] := List.take_succ_eq_append_getElem hlt
      have hsz := HWs.out _ (List.getElem_mem hlt)
      generalize ws[i] = x at *
      have hbr : b < wr.heap.size := Nat.lt_of_lt_of_le hb HB.out.size
      have HTk := Lib.hid htk
      have hxs := mk_size x
      clear htk hcs hb
      have hw4 := HB.out.size
      have hRow := World.ownsRow.alloc HW.out (.cells #[.string (mk x)] 9)
      have HNew := Lib.hid (BoxAt.new wr #[.string (mk x)] 9)
      go_wp2_with (at_builtin; refine wpList_append_own _ rfl _ _ 22 rfl w.heap.size 9 i0 (.string ⟨#[]⟩) 1 16 Tryz.underlying22 hinf hz0 hz1 hz2 rfl (by decide) _ _ _ rfl hRow ⟨wr.heap.size, 0, none⟩ 1 1 [.string (mk x)] rfl rfl (by intro j u hj; rw [add_zero]; match j, hj with | 0, hj => simp at hj; subst hj; exact HNew.out.cell 0) (by intro u hu; simp at hu; subst hu; rfl) (by unfold maxLen; omega) (by omega) (by simp; omega) ?_; intro v' w4 hown' hgrow hnil)
      have HW4 := Lib.hid (show OwnS w.heap.size w4 v' (all ++ [x]) from OwnS.push hown')
      have HB4 := Lib.hid ((HB.out.alloc hw4 _).grown hgrow (by simp; omega) (fun k e => (World.ownsRow.lt HW.out k e).1))
      clear hown' hgrow hnil hRow hw4
      obtain ⟨all1, hall1⟩ : ∃ l, all ++ [x] = l := ⟨_, rfl⟩
      have hal1 : all1.length ≤ i * 200 + 1 := by rw [← hall1]; simp; omega
      rw [hall1] at HW4
      have HE1 := Lib.hid hall1
      clear hall1 HW HB hk0 hbr
      go_wp2_with fail
      go_loopw [7, 37] (fun t7 t37 wr => ∃ (j : Nat) (all2 : List (List UInt8)), t37 = .int .i64 j ∧ j ≤ ts.length ∧ all2.length ≤ i * 200 + 1 + j ∧ Hid (all2 = all1 ++ (ts.take j).filter (fun t => beginsB t x)) ∧ Hid (OwnS w.heap.size wr t7 all2) ∧ Hid (Below w.heap.size w wr)) (fun _ t37 _ => ts.length - (intOf t37).toNat)
      case atStart => exact ⟨0, all1, rfl, Nat.zero_le _, hal1, Lib.hid (by simp), HW4, HB4⟩
      case round =>
        clear HW4 HB4
        obtain ⟨j, all2, rfl, hj, hal2, HE2, HW, HB⟩ := hrel
        have hj0 : (j : Int) ≤ 20 := by omega
        by_cases hjt : j < ts.length
        · have f5 : decide ((j : Int) < (ts.length : Int)) = true := decide_eq_true (by omega)
          have f6 : (j : Int) < (ts.length : Int) := by omega
          obtain ⟨b2, rfl, hb2, hcs2⟩ := HB0.out (by omega)
          have hk1 := (HB.out.cell (p := ⟨b2, j, none⟩) hb2).trans (hcs2 j _ (List.getElem?_eq_getElem hjt))
          have htk2 : ts.take (j + 1) = ts.take j ++ [ts[j]] := List.take_succ_eq_append_getElem hjt
          have hsz2 := HTs.out _ (List.getElem_mem hjt)
          generalize ts[j] = t at *
          have hbr2 : b2 < wr.heap.size := Nat.lt_of_lt_of_le hb2 HB.out.size
          have HBg := Lib.hid (begins_any t x wr (by omega) (by omega))
          have HTk2 := Lib.hid htk2
          clear htk2 hcs2 hb2
          cases hbg : beginsB t x with
          | false =>
            have HE3 := Lib.hid (show all2 = all1 ++ (ts.take (j + 1)).filter (fun t => beginsB t x) by
              rw [HTk2.out, List.filter_append, HE2.out]; simp [hbg])
            rw [hbg] at HBg
            clear hbg
            go_wp2_with fail
            go_at_call 27
            refine HBg.out.mono ?_
            rintro e w2 ⟨rfl, rfl⟩
            go_wp2_with fail
            exact ⟨⟨j + 1, all2, by go_num, hjt, by omega, HE3, HW, HB⟩, by simp [intOf]; omega⟩
          | true =>
            have HE3 := Lib.hid (show all2 ++ [t] = all1 ++ (ts.take (j + 1)).filter (fun t => beginsB t x) by
              rw [HTk2.out, List.filter_append, HE2.out]; simp [hbg])
            rw [hbg] at HBg
            clear hbg
            go_wp2_with fail
            go_at_call 27
            refine HBg.out.mono ?_
            rintro e w2 ⟨rfl, rfl⟩
            have hw4 := HB.out.size
            have hRow := World.ownsRow.alloc HW.out (.cells #[.string (mk t)] 9)
            have HNew := Lib.hid (BoxAt.new w2 #[.string (mk t)] 9)
            go_wp2_with (at_builtin; refine wpList_append_own _ rfl _ _ 22 rfl w.heap.size 9 i0 (.string ⟨#[]⟩) 1 16 Tryz.underlying22 hinf hz0 hz1 hz2 rfl (by decide) _ _ _ rfl hRow ⟨w2.heap.size, 0, none⟩ 1 1 [.string (mk t)] rfl rfl (by intro j u hj; rw [add_zero]; match j, hj with | 0, hj => simp at hj; subst hj; exact HNew.out.cell 0) (by intro u hu; simp at hu; subst hu; rfl) (by unfold maxLen; omega) (by omega) (by simp; omega) ?_; intro v' w4 hown' hgrow hnil)
            have HW4 := Lib.hid (show OwnS w.heap.size w4 v' (all2 ++ [t]) from OwnS.push hown')
            have HB4 := Lib.hid ((HB.out.alloc hw4 _).grown hgrow (by simp; omega) (fun k e => (World.ownsRow.lt HW.out k e).1))
            clear hown' hgrow hnil hRow hw4
            go_wp2_with fail
            exact ⟨⟨j + 1, all2 ++ [t], by go_num, hjt, by simp; omega, HE3, HW4, HB4⟩, by simp [intOf]; omega⟩
        · obtain rfl : j = ts.length := by omega
          have f5 : decide ((ts.length : Int) < (ts.length : Int)) = false := decide_eq_false (by omega)
          obtain ⟨k0, hk0⟩ : ∃ k, x.length = k + 1 := ⟨x.length - 1, by omega⟩
          have hkk : ((k0 : Int) + 1) - 1 = (k0 : Int) := by omega
          have HK0 := Lib.hid hk0
          rw [hk0] at hxs
          rw [hk0] at hsz
          rw [List.take_length] at HE2
          go_wp2_with fail
          go_loopw [7, 12] (fun t7 t12 wr => ∃ (k : Nat) (all3 : List (List UInt8)), t12 = .int .i64 k ∧ k ≤ k0 ∧ all3.length + k ≤ i * 200 + 21 + k0 ∧ Hid (all3 ++ cutsD x k = all2 ++ cutsD x k0) ∧ Hid (OwnS w.heap.size wr t7 all3) ∧ Hid (Below w.heap.size w wr)) (fun _ t12 _ => (intOf t12).toNat)
          case atStart => exact ⟨k0, all2, rfl, Nat.le_refl _, by omega, Lib.hid rfl, HW, HB⟩
          case round =>
            clear HW HB
            obtain ⟨k, all3, rfl, hk, hal3, HE3, HW, HB⟩ := hrel
            have hkb : (k : Int) ≤ 100 := by omega
            cases k with
            | zero =>
              go_wp2_with fail
              refine ⟨⟨i + 1, all3, by go_num, hlt, by omega, Lib.hid ?_, HW, HB⟩, by simp [intOf]; omega⟩
              have h3 := HE3.out
              rw [cutsD, List.append_nil] at h3
              rw [h3, HE2.out, ← HE1.out, HTk.out, List.flatMap_append, HE.out]
              simp only [List.flatMap_cons, List.flatMap_nil, List.append_nil, lawOne, HK0.out, Nat.add_sub_cancel, List.append_assoc, List.cons_append, List.nil_append]
            | succ q =>
              have g0 : decide ((0 : Int) < (q : Int) + 1) = true := decide_eq_true (by omega)
              have g4 : ((q : Int) + 1) - 1 = (q : Int) := by omega
              have g5 : q + 1 < x.length := by have := HK0.out; omega
              have g6 : q + 1 < (mk x).size := by omega
              have gI : ((((mk x)[q + 1]'g6).toNat : Int) == 45) = decide (x[q + 1]? = some 45) := by
                rw [mk_get x _ g6 g5, hy_int, List.getElem?_eq_getElem g5]
                apply decide_eq_decide.2
                exact ⟨fun e => by rw [e], fun e => by injection e⟩
              have gx : (mk x).extract 0 (q + 1) = mk (x.take (q + 1)) := by rw [mk_extract, List.drop_zero]
              by_cases hh : x[q + 1]? = some 45
              · rw [decide_eq_true hh] at gI
                have HE4 := Lib.hid (show (all3 ++ [x.take (q + 1)]) ++ cutsD x q = all2 ++ cutsD x k0 by
                  have := HE3.out
                  rw [cutsD, if_pos hh] at this
                  rw [← this, List.append_assoc])
                clear hh
                have hw4 := HB.out.size
                have hRow := World.ownsRow.alloc HW.out (.cells #[.string (mk (x.take (q + 1)))] 9)
                have HNew := Lib.hid (BoxAt.new wr #[.string (mk (x.take (q + 1)))] 9)
                go_wp2_with (at_builtin; refine wpList_append_own _ rfl _ _ 22 rfl w.heap.size 9 i0 (.string ⟨#[]⟩) 1 16 Tryz.underlying22 hinf hz0 hz1 hz2 rfl (by decide) _ _ _ rfl hRow ⟨wr.heap.size, 0, none⟩ 1 1 [.string (mk (x.take (q + 1)))] rfl rfl (by intro j u hj; rw [add_zero]; match j, hj with | 0, hj => simp at hj; subst hj; exact HNew.out.cell 0) (by intro u hu; simp at hu; subst hu; rfl) (by unfold maxLen; omega) (by omega) (by simp; omega) ?_; intro v' w4 hown' hgrow hnil)
                have HW4 := Lib.hid (show OwnS w.heap.size w4 v' (all3 ++ [(x.take (q + 1))]) from OwnS.push hown')
                have HB4 := Lib.hid ((HB.out.alloc hw4 _).grown hgrow (by simp; omega) (fun k e => (World.ownsRow.lt HW.out k e).1))
                clear hown' hgrow hnil hRow hw4
                go_wp2_with fail
                exact ⟨⟨q, all3 ++ [x.take (q + 1)], by go_num, by omega, by simp; omega, HE4, HW4, HB4⟩, by simp [intOf]⟩
              · rw [decide_eq_false hh] at gI
                have HE4 := Lib.hid (show all3 ++ cutsD x q = all2 ++ cutsD x k0 by
                  have := HE3.out
                  rw [cutsD, if_neg hh] at this
                  rw [← this, List.nil_append])
                clear hh
                go_wp2_with fail
                exact ⟨⟨q, all3, by go_num, by omega, by omega, HE4, HW, HB⟩, by simp [intOf]⟩
    · obtain rfl : i = ws.length := by omega
      have f1 : decide ((ws.length : Int) < (ws.length : Int)) = false := decide_eq_false (by omega)
      have hE := HE.out
      rw [List.take_length] at hE
      have HE0 := Lib.hid hE
      have hal0 : all.length ≤ 4000 := by omega
      clear hE HE HWs HA
      have hw4 := HB.out.size
      obtain ⟨o, ho⟩ : ∃ o, wr.heap.size = o := ⟨_, rfl⟩
      have hV : Below o wr (wr.alloc (.cells #[] 9)) := by rw [← ho]; exact (Below.refl _ _).alloc (Nat.le_refl _) _
      have hO0 : OwnS o (wr.alloc (.cells #[] 9)) (.slice (some ⟨o, 0, none⟩) 0 0) [] := by rw [← ho]; exact OwnS.empty wr
      have hlA : ∀ k, u7.ownBlock = some k → k < o := fun k e => by rw [← ho]; exact (World.ownsRow.lt HW.out k e).2
      have hWA : OwnS w.heap.size (wr.alloc (.cells #[] 9)) u7 all := HW.out.later (by rw [ho]; exact hV)
      have hsz : (wr.alloc (.cells #[] 9)).heap.size = o + 1 := by rw [World.size_alloc, ho]
      have HSz := Lib.hid hsz
      have HO0 := Lib.hid hO0
      have HWA := Lib.hid hWA
      have HV := Lib.hid (HB.out.trans (hV.mono (by omega)))
      have HlA := Lib.hid hlA
      have how : w.heap.size ≤ o := by omega
      clear HB HW hV hO0 hlA hWA hw4 hsz
      go_upto_region 19 with fail
      generalize wr.alloc (.cells #[] 9) = V at *
      clear ho
      have hRow := World.ownsRow.alloc HWA.out (.cells #[.string (mk last)] 9)
      have HNew := Lib.hid (BoxAt.new V #[.string (mk last)] 9)
      go_wp2_with (at_builtin; refine wpList_append_where _ rfl _ _ 22 rfl w.heap.size 9 i0 (.string ⟨#[]⟩) 1 16 Tryz.underlying22 hinf hz0 hz1 hz2 rfl (by decide) _ _ _ rfl hRow ⟨V.heap.size, 0, none⟩ 1 1 [.string (mk last)] rfl rfl (by intro j u hj; rw [add_zero]; match j, hj with | 0, hj => simp at hj; subst hj; exact HNew.out.cell 0) (by intro u hu; simp at hu; subst hu; rfl) (by unfold maxLen; omega) (by omega) (by have := HSz.out; simp; omega) (by decide) ?_; intro v5 w5 hown' hgrow hwh)
      have hsz := HSz.out
      have hown5 : OwnS w.heap.size w5 v5 (all ++ [last]) := OwnS.push hown'
      obtain ⟨L, hL⟩ : ∃ L, all ++ [last] = L := ⟨_, rfl⟩
      have hLl : L.length ≤ 4001 := by rw [← hL]; simp; omega
      rw [hL] at hown5
      have HL := Lib.hid hL
      have hG5 := grown_two (World.grownBy_alloc V (.cells #[.string (mk last)] 9) none) hgrow
      have hO5 : OwnS o w5 (.slice (some ⟨o, 0, none⟩) 0 0) [] := World.ownsRow.kept HO0.out hG5 (.inr (fun e => by have := HlA.out o e.symm; omega))
      have hB5 : Below w.heap.size w w5 := HV.out.grown hG5 HV.out.size (fun k e => (World.ownsRow.lt HWA.out k e).1)
      have h5s := hG5.size
      have hbL : ∀ k, v5.ownBlock = some k → k ≠ o := fun k e => by
        rcases hwh with h | h
        · rw [h] at e; have := HlA.out k e; omega
        · rw [h] at e; simp at e; omega
      have hcL : ∃ A c, v5 = .slice A L.length c ∧ (0 < L.length → ∃ b, A = some ⟨b, 0, none⟩ ∧ b < w5.heap.size ∧ b ≠ o ∧ ∀ (j : Nat) p, L[j]? = some p → w5.cell? ⟨b, j, none⟩ = some (.string (mk p))) := by
        obtain ⟨A, c, rfl, h⟩ := hown5.sl
        refine ⟨A, c, rfl, fun h0 => ?_⟩
        obtain ⟨b, rfl, hb, hc⟩ := h h0
        exact ⟨b, rfl, hb, hbL b rfl, hc⟩
      obtain ⟨A5, c5, rfl, hcL⟩ := hcL
      have HCL := Lib.hid hcL
      have HO5 := Lib.hid hO5
      have HB5 := Lib.hid hB5
      have hL0 : (L.length : Int) ≤ 4001 := by omega
      have ho5 : o < w5.heap.size := by omega
      have hsw : w.heap.size ≤ w5.heap.size := HB5.out.size
      clear hown' hgrow hwh hRow hown5 hG5 hO5 hB5 hbL hcL HO0 HWA HV HlA hsz HSz h5s hL HNew
      go_simp
      go_wp2_with fail
      go_loopw [13, 73] (fun t13 t73 wr => ∃ (m : Nat) (acc : List (List UInt8)), t73 = .int .i64 m ∧ m ≤ L.length ∧ acc.length ≤ m ∧ Hid (acc = onceX ts (L.take m) []) ∧ Hid (OwnS o wr t13 acc) ∧ Hid (∀ k, k < w5.heap.size → k ≠ o → wr.heap[k]? = w5.heap[k]?) ∧ Hid (t13.ownBlock = some o ∨ ∀ k, t13.ownBlock = some k → w5.heap.size ≤ k) ∧ Hid (Below o w5 wr)) (fun _ t73 _ => L.length - (intOf t73).toNat)
      case atStart => exact ⟨0, [], rfl, Nat.zero_le _, Nat.le_refl _, Lib.hid rfl, HO5, Lib.hid (fun _ _ _ => rfl), Lib.hid (.inl rfl), Lib.hid (Below.refl _ _)⟩
      case round =>
        obtain ⟨m, acc, rfl, hm, hacl, HE, HW, HK, HT, HB⟩ := hrel
        have hm0 : (m : Int) ≤ 4001 := by omega
        obtain ⟨Ao, co, rfl, hco⟩ := HW.out.out
        have hws5 := HB.out.size
        have HSo := Lib.hid HW.out.sl
        have ha0 : (acc.length : Int) ≤ 4001 := by omega
        by_cases hlt : m < L.length
        · have f4 : decide ((m : Int) < (L.length : Int)) = true := decide_eq_true (by omega)
          have f5 : (m : Int) < (L.length : Int) := by omega
          obtain ⟨bL, rfl, hbL, hbo, hcs⟩ := HCL.out (by omega)
          have hk0 := (World.cell?_of_block (a := ⟨bL, m, none⟩) (HK.out bL hbL hbo)).trans (hcs m _ (List.getElem?_eq_getElem hlt))
          have hgm : L[m]? = some L[m] := List.getElem?_eq_getElem hlt
          generalize L[m] = t at *
          have HGm := Lib.hid hgm
          have hbr : bL < wr.heap.size := by omega
          have hB1 : Below w.heap.size w wr := HB5.out.trans (HB.out.mono how)
          have HBw := Lib.hid hB1
          clear hgm hcs hB1
          go_wp2_with fail
          generalize wr = Wm at *
          clear hk0 hbr
          go_loopw [16, 79] (fun t16 t79 wr => ∃ (n : Nat) (d : Bool), t16 = .bool d ∧ t79 = .int .i64 n ∧ n ≤ ts.length ∧ Hid (d = (ts.take n).any (fun y => decide (y = t))) ∧ wr = Wm) (fun _ t79 _ => ts.length - (intOf t79).toNat)
          case atStart => exact ⟨0, false, rfl, rfl, Nat.zero_le _, Lib.hid rfl, rfl⟩
          case round =>
            obtain ⟨n, d, rfl, rfl, hn, HD, rfl⟩ := hrel
            have hn0 : (n : Int) ≤ 20 := by omega
            by_cases hnt : n < ts.length
            · have f6 : decide ((n : Int) < (ts.length : Int)) = true := decide_eq_true (by omega)
              have f7 : (n : Int) < (ts.length : Int) := by omega
              obtain ⟨b2, rfl, hb2, hcs2⟩ := HB0.out (by omega)
              obtain ⟨y, hy⟩ : ∃ y, ts[n]? = some y := ⟨_, List.getElem?_eq_getElem hnt⟩
              have hk1 := (HBw.out.cell (p := ⟨b2, n, none⟩) hb2).trans (hcs2 n y hy)
              have hbr2 : b2 < wr.heap.size := Nat.lt_of_lt_of_le hb2 HBw.out.size
              obtain ⟨tx, htx⟩ : ∃ tx, decide (y = t) = tx := ⟨_, rfl⟩
              have htx2 : ((mk y).toList == (mk t).toList) = tx := by rw [eqC]; exact htx
              have HT2 := Lib.hid (show (ts.take (n + 1)).any (fun y => decide (y = t)) = ((ts.take n).any (fun y => decide (y = t)) || tx) by
                rw [any_take2 (fun y => decide (y = t)) hy, htx])
              clear hcs2 hb2 hy htx
              cases d with
              | true =>
                go_wp2_with fail
                exact ⟨⟨n + 1, true, rfl, by go_num, hnt, Lib.hid (by rw [HT2.out, ← HD.out]; rfl), trivial⟩, by simp [intOf]; omega⟩
              | false =>
                go_wp2_with fail
                exact ⟨⟨n + 1, tx, rfl, by go_num, hnt, Lib.hid (by rw [HT2.out, ← HD.out]; rfl), trivial⟩, by simp [intOf]; omega⟩
            · obtain rfl : n = ts.length := by omega
              have f6 : decide ((ts.length : Int) < (ts.length : Int)) = false := decide_eq_false (by omega)
              have hd : d = decide (t ∈ ts) := by
                rw [HD.out, List.take_length, any_mem]
              have HD1 := Lib.hid hd
              clear hd HD
              go_wp2_with fail
              generalize wr = Wm at *
              go_loopw [19, 92] (fun t19 t92 wr => ∃ (n : Nat) (g : Bool), t19 = .bool g ∧ t92 = .int .i64 n ∧ n ≤ acc.length ∧ Hid (g = (acc.take n).any (fun y => decide (y = t))) ∧ wr = Wm) (fun _ t92 _ => acc.length - (intOf t92).toNat)
              case atStart => exact ⟨0, false, rfl, rfl, Nat.zero_le _, Lib.hid rfl, rfl⟩
              case round =>
                obtain ⟨n, g, rfl, rfl, hn, HG, rfl⟩ := hrel
                have hn0 : (n : Int) ≤ 4001 := by omega
                by_cases hnt : n < acc.length
                · have f6 : decide ((n : Int) < (acc.length : Int)) = true := decide_eq_true (by omega)
                  have f7 : (n : Int) < (acc.length : Int) := by omega
                  obtain ⟨b2, e2, hb2, hcs2⟩ : ∃ b, Ao = some ⟨b, 0, none⟩ ∧ b < wr.heap.size ∧ ∀ (j : Nat) p, acc[j]? = some p → wr.cell? ⟨b, j, none⟩ = some (.string (mk p)) := by
                    obtain ⟨A, c, e, h⟩ := HSo.out
                    injection e with e1 _ _
                    rw [e1]
                    exact h (by omega)
                  subst e2
                  obtain ⟨y, hy⟩ : ∃ y, acc[n]? = some y := ⟨_, List.getElem?_eq_getElem hnt⟩
                  have hk1 := hcs2 n y hy
                  obtain ⟨tx, htx⟩ : ∃ tx, decide (y = t) = tx := ⟨_, rfl⟩
                  have htx2 : ((mk y).toList == (mk t).toList) = tx := by rw [eqC]; exact htx
                  have HT2 := Lib.hid (show (acc.take (n + 1)).any (fun y => decide (y = t)) = ((acc.take n).any (fun y => decide (y = t)) || tx) by
                    rw [any_take2 (fun y => decide (y = t)) hy, htx])
                  clear hcs2 hy htx
                  cases g with
                  | true =>
                    go_wp2_with fail
                    exact ⟨⟨n + 1, true, rfl, by go_num, hnt, Lib.hid (by rw [HT2.out, ← HG.out]; rfl), trivial⟩, by simp [intOf]; omega⟩
                  | false =>
                    go_wp2_with fail
                    exact ⟨⟨n + 1, tx, rfl, by go_num, hnt, Lib.hid (by rw [HT2.out, ← HG.out]; rfl), trivial⟩, by simp [intOf]; omega⟩
                · obtain rfl : n = acc.length := by omega
                  have f6 : decide ((acc.length : Int) < (acc.length : Int)) = false := decide_eq_false (by omega)
                  have hg : g = decide (t ∈ acc) := by
                    rw [HG.out, List.take_length, any_mem]
                  have HStep := Lib.hid (show onceX ts (L.take (m + 1)) [] = (if t ∈ ts ∧ t ∉ acc then acc ++ [t] else acc) by
                    rw [take_some HGm.out, onceX_app, ← HE.out]; rfl)
                  have HG1 := Lib.hid hg
                  clear hg HG
                  cases d with
                  | false =>
                    have HS2 := Lib.hid (show acc = onceX ts (L.take (m + 1)) [] by rw [HStep.out, if_neg (fun h => by have := HD1.out; rw [decide_eq_true h.1] at this; cases this)])
                    go_wp2_with fail
                    exact ⟨⟨m + 1, acc, by go_num, hlt, by omega, HS2, HW, HK, HT, HB⟩, by simp [intOf]; omega⟩
                  | true =>
                    cases g with
                    | true =>
                      have HS2 := Lib.hid (show acc = onceX ts (L.take (m + 1)) [] by rw [HStep.out, if_neg (fun h => by have := HG1.out; rw [decide_eq_false h.2] at this; cases this)])
                      go_wp2_with fail
                      exact ⟨⟨m + 1, acc, by go_num, hlt, by omega, HS2, HW, HK, HT, HB⟩, by simp [intOf]; omega⟩
                    | false =>
                      have HS2 := Lib.hid (show acc ++ [t] = onceX ts (L.take (m + 1)) [] by rw [HStep.out, if_pos ⟨of_decide_eq_true HD1.out.symm, of_decide_eq_false HG1.out.symm⟩])
                      have hRow := World.ownsRow.alloc HW.out (.cells #[.string (mk t)] 9)
                      have HNew := Lib.hid (BoxAt.new wr #[.string (mk t)] 9)
                      go_wp2_with (at_builtin; refine wpList_append_where _ rfl _ _ 22 rfl o 9 i0 (.string ⟨#[]⟩) 1 16 Tryz.underlying22 hinf hz0 hz1 hz2 rfl (by decide) _ _ _ rfl hRow ⟨wr.heap.size, 0, none⟩ 1 1 [.string (mk t)] rfl rfl (by intro j u hj; rw [add_zero]; match j, hj with | 0, hj => simp at hj; subst hj; exact HNew.out.cell 0) (by intro u hu; simp at hu; subst hu; rfl) (by unfold maxLen; omega) (by omega) (by simp; omega) (by decide) ?_; intro v' w6 hown' hgrow hwh)
                      have HW6 := Lib.hid (show OwnS o w6 v' (acc ++ [t]) from OwnS.push hown')
                      have hG6 := grown_two (World.grownBy_alloc wr (.cells #[.string (mk t)] 9) none) hgrow
                      have HK6 := Lib.hid (show ∀ k, k < w5.heap.size → k ≠ o → w6.heap[k]? = w5.heap[k]? from fun k hk hko => by
                        refine (hG6.block k (by omega) (fun e => ?_)).trans (HK.out k hk hko)
                        have e2 : some k = (Value.slice Ao acc.length co).ownBlock := e
                        rcases HT.out with h | h
                        · rw [h] at e2; injection e2 with e2; omega
                        · have := h k e2.symm; omega)
                      have HT6 := Lib.hid (show v'.ownBlock = some o ∨ ∀ k, v'.ownBlock = some k → w5.heap.size ≤ k from by
                        rcases hwh with h | h
                        · rcases HT.out with h2 | h2
                          · exact .inl (h.trans h2)
                          · exact .inr (fun k e => h2 k (h ▸ e))
                        · refine .inr (fun k e => ?_)
                          rw [h] at e
                          simp at e
                          omega)
                      have HB6 := Lib.hid (HB.out.grown hG6 (by omega) (fun k e => (World.ownsRow.lt HW.out k e).1))
                      clear hown' hgrow hwh hG6 hRow
                      go_wp2_with fail
                      exact ⟨⟨m + 1, acc ++ [t], by go_num, hlt, by simp; omega, HS2, HW6, HK6, HT6, HB6⟩, by simp [intOf]; omega⟩
        · obtain rfl : m = L.length := by omega
          have f4 : decide ((L.length : Int) < (L.length : Int)) = false := decide_eq_false (by omega)
          have hE := HE.out
          rw [List.take_length, ← HL.out, HE0.out] at hE
          have HE1 := Lib.hid hE
          have HBw := Lib.hid (show Below w.heap.size w wr from HB5.out.trans (HB.out.mono how))
          have HWb := Lib.hid (show OwnS w.heap.size wr (.slice Ao acc.length co) acc from ownsRow_base' HW.out how)
          clear hE HE HK HT HB HW HCL HO5
          go_wp2_with fail
          generalize wr = Wm at *
          go_loopw [115] (fun t115 wr => ∃ (n : Nat), t115 = .int .i64 n ∧ n ≤ acc.length ∧ Hid ((acc.take n).any (fun y => decide (y = last)) = false) ∧ wr = Wm) (fun t115 _ => acc.length - (intOf t115).toNat)
          case atStart => exact ⟨0, rfl, Nat.zero_le _, Lib.hid rfl, rfl⟩
          case round =>
            obtain ⟨n, rfl, hn, HD, rfl⟩ := hrel
            have hn0 : (n : Int) ≤ 4001 := by omega
            by_cases hnt : n < acc.length
            · have f6 : decide ((n : Int) < (acc.length : Int)) = true := decide_eq_true (by omega)
              have f7 : (n : Int) < (acc.length : Int) := by omega
              obtain ⟨b2, e2, hb2, hcs2⟩ : ∃ b, Ao = some ⟨b, 0, none⟩ ∧ b < wr.heap.size ∧ ∀ (j : Nat) p, acc[j]? = some p → wr.cell? ⟨b, j, none⟩ = some (.string (mk p)) := by
                obtain ⟨A, c, e, h⟩ := HSo.out
                injection e with e1 _ _
                rw [e1]
                exact h (by omega)
              subst e2
              obtain ⟨y, hy⟩ : ∃ y, acc[n]? = some y := ⟨_, List.getElem?_eq_getElem hnt⟩
              have hk1 := hcs2 n y hy
              by_cases hyl : y = last
              · have htx2 : ((mk y).toList == (mk last).toList) = true := by rw [eqC, decide_eq_true hyl]
                have HF := Lib.hid (show acc = lawChain ws ts last by
                  have hm : last ∈ acc := by rw [← hyl]; exact List.mem_of_getElem? hy
                  unfold lawChain
                  rw [← HE1.out, if_pos hm])
                clear hcs2 hy hyl
                go_wp2_with fail
                go_ret
                rw [← HF.out]
                exact ⟨_, rfl, HWb.out, HBw.out⟩
              · have htx2 : ((mk y).toList == (mk last).toList) = false := by rw [eqC, decide_eq_false hyl]
                have HD2 := Lib.hid (show (acc.take (n + 1)).any (fun y => decide (y = last)) = false by
                  rw [any_take2 (fun y => decide (y = last)) hy, HD.out, decide_eq_false hyl]; rfl)
                clear hcs2 hy hyl
                go_wp2_with fail
                exact ⟨⟨n + 1, by go_num, hnt, HD2, trivial⟩, by simp [intOf]; omega⟩
            · obtain rfl : n = acc.length := by omega
              have f6 : decide ((acc.length : Int) < (acc.length : Int)) = false := decide_eq_false (by omega)
              have HF := Lib.hid (show acc ++ [last] = lawChain ws ts last by
                have hm : ¬ last ∈ acc := by
                  have := HD.out
                  rw [List.take_length, any_mem] at this
                  exact of_decide_eq_false this
                unfold lawChain
                rw [← HE1.out, if_neg hm])
              have hw4 := HBw.out.size
              have hRow := World.ownsRow.alloc HWb.out (.cells #[.string (mk last)] 9)
              have HNew := Lib.hid (BoxAt.new wr #[.string (mk last)] 9)
              go_wp2_with (at_builtin; refine wpList_append_own _ rfl _ _ 22 rfl w.heap.size 9 i0 (.string ⟨#[]⟩) 1 16 Tryz.underlying22 hinf hz0 hz1 hz2 rfl (by decide) _ _ _ rfl hRow ⟨wr.heap.size, 0, none⟩ 1 1 [.string (mk last)] rfl rfl (by intro j u hj; rw [add_zero]; match j, hj with | 0, hj => simp at hj; subst hj; exact HNew.out.cell 0) (by intro u hu; simp at hu; subst hu; rfl) (by unfold maxLen; omega) (by omega) (by simp; omega) ?_; intro v' w4 hown' hgrow hnil)
              have HW4 := Lib.hid (show OwnS w.heap.size w4 v' (acc ++ [last]) from OwnS.push hown')
              have HB4 := Lib.hid ((HBw.out.alloc hw4 _).grown hgrow (by simp; omega) (fun k e => (World.ownsRow.lt HWb.out k e).1))
              clear hown' hgrow hnil hRow hw4
              go_wp2_with fail
              go_ret
              rw [← HF.out]
              exact ⟨_, rfl, HW4.out, HB4.out⟩
end Go.Proofs.YthlccfjhgejlmaaGreatDoor

namespace Go.Proofs.YthlccfjhgejlmaaGreatDoor
open Go.RowKit Go.Shelf
set_option linter.unusedVariables false
set_option linter.unusedSimpArgs false
abbrev Tx := List UInt8
def onceP : List Tx → List Tx → List Tx
  | [], acc => acc
  | x :: r, acc => onceP r (if x ∈ acc then acc else acc ++ [x])
theorem onceP_app : ∀ (l m acc : List Tx), onceP (l ++ m) acc = onceP m (onceP l acc)
  | [], m, acc => rfl
  | x :: r, m, acc => by rw [List.cons_append, onceP, onceP_app r m]; rfl
theorem onceP_keep : ∀ (l acc : List Tx) (y : Tx), y ∈ acc → y ∈ onceP l acc
  | [], acc, y, h => h
  | x :: r, acc, y, h => by
    rw [onceP]
    apply onceP_keep r
    split
    · exact h
    · exact List.mem_append_left _ h
theorem onceP_has : ∀ (l acc : List Tx) (y : Tx), y ∈ l → y ∈ onceP l acc
  | x :: r, acc, y, h => by
    rw [onceP]
    rcases List.mem_cons.1 h with h | h
    · subst h
      apply onceP_keep r
      split
      · assumption
      · simp
    · exact onceP_has r _ y h
theorem onceP_mem : ∀ (l acc : List Tx) (y : Tx), y ∈ onceP l acc → y ∈ acc ∨ y ∈ l
  | [], acc, y, h => .inl h
  | x :: r, acc, y, h => by
    rw [onceP] at h
    rcases onceP_mem r _ y h with h | h
    · split at h
      · exact .inl h
      · rcases List.mem_append.1 h with h | h
        · exact .inl h
        · rw [List.mem_singleton] at h; exact .inr (by rw [h]; exact List.mem_cons_self ..)
    · exact .inr (List.mem_cons_of_mem _ h)
theorem onceP_sub : ∀ (l acc : List Tx), (∀ y ∈ l, y ∈ acc) → onceP l acc = acc
  | [], acc, _ => rfl
  | x :: r, acc, h => by
    rw [onceP, if_pos (h x (List.mem_cons_self ..)), onceP_sub r acc (fun y hy => h y (List.mem_cons_of_mem _ hy))]
theorem onceU_text : ∀ (l acc : List TagT), (onceU l acc).map TagT.text = onceP (l.map TagT.text) (acc.map TagT.text)
  | [], acc => rfl
  | x :: r, acc => by
    rw [onceU, List.map_cons, onceP, onceU_text r]
    split
    · rfl
    · rw [List.map_append]; rfl
theorem onceX_plain (ts : List Tx) : ∀ (l acc : List Tx), onceX ts l acc = onceP (l.filter (fun y => decide (y ∈ ts))) acc
  | [], acc => rfl
  | x :: r, acc => by
    rw [onceX, onceX_plain ts r]
    by_cases h : x ∈ ts
    · rw [List.filter_cons_of_pos (by simpa using h), onceP]
      by_cases h2 : x ∈ acc
      · rw [if_neg (fun e => e.2 h2), if_pos h2]
      · rw [if_pos ⟨h, h2⟩, if_neg h2]
    · rw [List.filter_cons_of_neg (by simpa using h), if_neg (fun e => h e.1)]
theorem lawChain_plain (ws ts : List Tx) (last : Tx) : lawChain ws ts last = onceP ((ws.flatMap (lawOne ts)).filter (fun y => decide (y ∈ ts)) ++ [last]) [] := by
  unfold lawChain
  generalize ws.flatMap (lawOne ts) = M
  rw [onceX_plain, List.filter_append]
  by_cases h : last ∈ ts
  · rw [show [last].filter (fun y => decide (y ∈ ts)) = [last] by simp [h]]
    rw [if_pos (onceP_has _ _ _ (by simp))]
  · rw [show [last].filter (fun y => decide (y ∈ ts)) = [] by simp [h], List.append_nil]
    have hn : last ∉ onceP (M.filter (fun y => decide (y ∈ ts))) [] := by
      intro e
      rcases onceP_mem _ _ _ e with e | e
      · cases e
      · rw [List.mem_filter] at e
        exact h (of_decide_eq_true e.2)
    rw [if_neg hn, onceP_app, onceP, if_neg hn]
    rfl
def Eqv (l m : List Tx) : Prop := ∀ acc, onceP l acc = onceP m acc
theorem Eqv.app {l m l' m' : List Tx} (h : Eqv l l') (g : Eqv m m') : Eqv (l ++ m) (l' ++ m') := fun acc => by rw [onceP_app, onceP_app, h, g]
theorem Eqv.const {l : List Tx} {a : Tx} (h : ∀ y ∈ l, y = a) (h0 : l ≠ []) : Eqv l [a] := fun acc => by
  cases l with
  | nil => exact absurd rfl h0
  | cons x r =>
    have e := h x (List.mem_cons_self ..)
    subst e
    show onceP r (if x ∈ acc then acc else acc ++ [x]) = (if x ∈ acc then acc else acc ++ [x])
    apply onceP_sub
    intro y hy
    rw [h y (List.mem_cons_of_mem _ hy)]
    split
    · assumption
    · simp
theorem flat_once (g : TagT → List Tx) (hg : ∀ a b : TagT, a.Good → b.Good → a.text = b.text → g a = g b) : ∀ (W aW : List TagT), (∀ a ∈ aW, a.Good) → (∀ a ∈ W, a.Good) → ∀ acc, onceP ((onceU W aW).flatMap g) acc = onceP (W.flatMap g) (onceP (aW.flatMap g) acc)
  | [], aW, _, _, acc => rfl
  | w :: r, aW, ha, hW, acc => by
    have hw := hW w (List.mem_cons_self ..)
    have hr := fun a h => hW a (List.mem_cons_of_mem _ h)
    rw [onceU, List.flatMap_cons, onceP_app]
    split
    · next hin =>
      rw [flat_once g hg r aW ha hr acc]
      congr 1
      obtain ⟨z, hz, e⟩ := List.mem_map.1 hin
      symm
      apply onceP_sub
      intro y hy
      rw [← hg z w (ha z hz) hw e] at hy
      exact onceP_has _ _ _ (List.mem_flatMap.2 ⟨z, hz, hy⟩)
    · rw [flat_once g hg r (aW ++ [w]) (fun a h => by
        rcases List.mem_append.1 h with h | h
        · exact ha a h
        · rw [List.mem_singleton] at h; rw [h]; exact hw) hr acc]
      rw [List.flatMap_append, onceP_app]
      simp
theorem filter_once (f : Tx → Bool) : ∀ (l a acc : List Tx), onceP ((onceP l a).filter f) acc = onceP (l.filter f) (onceP (a.filter f) acc)
  | [], a, acc => rfl
  | x :: r, a, acc => by
    rw [onceP]
    by_cases hf : f x = true
    · rw [List.filter_cons_of_pos hf, onceP]
      split
      · next hin =>
        rw [filter_once f r a acc, if_pos (onceP_has _ _ _ (List.mem_filter.2 ⟨hin, hf⟩))]
      · next hin =>
        rw [filter_once f r (a ++ [x]) acc, List.filter_append, onceP_app, show [x].filter f = [x] by simp [hf]]
        rfl
    · rw [List.filter_cons_of_neg hf]
      split
      · exact filter_once f r a acc
      · rw [filter_once f r (a ++ [x]) acc, List.filter_append, show [x].filter f = [] by simp [hf], List.append_nil]
theorem join_app : ∀ (P R : List Tx), P ≠ [] → R ≠ [] → Lib.join (P ++ R) [45] = Lib.join P [45] ++ 45 :: Lib.join R [45]
  | [], R, h, _ => absurd rfl h
  | [p], R, _, hR => by rw [join_one, List.cons_append, List.nil_append, join_cons p R hR]
  | p :: q :: P, R, _, hR => by
    rw [List.cons_append, join_cons p _ (by simp), join_cons p (q :: P) (by simp), join_app (q :: P) R (by simp) hR]
    simp
theorem begins_pre {s w : TagT} (gs : s.Good) (gw : w.Good) : beginsB s.text w.text = w.pieces.isPrefixOf s.pieces := by
  rw [Bool.eq_iff_iff, List.isPrefixOf_iff_prefix]
  unfold beginsB
  rw [Bool.and_eq_true, Bool.and_eq_true, Bool.or_eq_true, decide_eq_true_iff, decide_eq_true_iff, decide_eq_true_iff, decide_eq_true_iff]
  constructor
  · rintro ⟨h1, h2, h3⟩
    rcases h3 with h3 | h3
    · rw [← h3, List.take_length] at h2
      rw [pieces_of_text gs gw h2]
      exact List.prefix_refl _
    · have e : s.text = w.text ++ 45 :: s.text.drop (w.text.length + 1) := by
        obtain ⟨hi, e0⟩ := List.getElem?_eq_some_iff.1 h3
        conv => lhs; rw [← List.take_append_drop w.text.length s.text, h2, List.drop_eq_getElem_cons hi, e0]
      have := congrArg splitH e
      rw [splitH_app2, split_text gs, split_text gw] at this
      exact ⟨_, this.symm⟩
  · rintro ⟨R, hR⟩
    have ht : s.text = Lib.join (w.pieces ++ R) [45] := by rw [hR]; rfl
    cases R with
    | nil =>
      rw [List.append_nil] at ht
      have e : s.text = w.text := ht
      rw [e]
      exact ⟨Nat.le_refl _, List.take_length .., .inl rfl⟩
    | cons r R =>
      rw [join_app _ _ (pieces_ne gw) (by simp)] at ht
      have e : s.text = w.text ++ 45 :: Lib.join (r :: R) [45] := ht
      rw [e]
      refine ⟨by simp, by simp, .inr ?_⟩
      simp
theorem presR_snoc : ∀ (r pre : Pth) (b : Tx), presR pre (r ++ [b]) = (pre ++ r ++ [b]) :: presR pre r
  | [], pre, b => by simp [presR]
  | k :: r, pre, b => by
    rw [List.cons_append, presR, presR_snoc r (pre ++ [k]) b, presR]
    simp
theorem cutsD_free (w : Tx) (k : Nat) : ∀ d, (∀ j, k < j → j ≤ k + d → w[j]? ≠ some 45) → cutsD w (k + d) = cutsD w k
  | 0, _ => rfl
  | d + 1, h => by
    rw [show k + (d + 1) = (k + d) + 1 from rfl, cutsD, if_neg (h _ (by omega) (by omega)), List.nil_append]
    exact cutsD_free w k d (fun j h1 h2 => h j h1 (by omega))
theorem cutsD_pre (a s : Tx) : ∀ k, k < a.length → cutsD (a ++ s) k = cutsD a k
  | 0, _ => rfl
  | k + 1, h => by
    rw [cutsD, cutsD, cutsD_pre a s k (by omega), List.getElem?_append_left h, List.take_append_of_le_length (by omega)]
theorem cutsD_hy (a b : Tx) (ha : a ≠ []) (hb : (45 : UInt8) ∉ b) : cutsD (a ++ 45 :: b) ((a ++ 45 :: b).length - 1) = a :: cutsD a (a.length - 1) := by
  obtain ⟨q, hq⟩ : ∃ q, a.length = q + 1 := ⟨a.length - 1, by have := List.length_pos_iff.2 ha; omega⟩
  have e1 : (a ++ 45 :: b).length - 1 = (q + 1) + b.length := by simp; omega
  rw [e1, cutsD_free _ (q + 1) b.length (fun j h1 h2 e => by
    rw [List.getElem?_append_right (by omega)] at e
    obtain ⟨i, hi⟩ : ∃ i, j - a.length = i + 1 := ⟨j - a.length - 1, by omega⟩
    rw [hi, List.getElem?_cons_succ] at e
    exact hb (List.mem_of_getElem? e))]
  rw [cutsD, if_pos (by rw [List.getElem?_append_right (by omega), hq, Nat.sub_self]; rfl), cutsD_pre a _ q (by omega)]
  rw [show (a ++ 45 :: b).take (q + 1) = a by rw [← hq]; simp, hq, Nat.add_sub_cancel]
  rfl
theorem join_nonnil : ∀ (P : List Tx), P ≠ [] → (∀ p ∈ P, p ≠ []) → Lib.join P [45] ≠ []
  | [], h, _ => absurd rfl h
  | [p], _, hp => by rw [join_one]; exact hp p (List.mem_cons_self ..)
  | p :: q :: P, _, hp => by rw [join_cons p _ (by simp)]; simp
theorem cuts_pres : ∀ (n : Nat) (P : List Tx), P.length = n + 1 → (∀ p ∈ P, (45 : UInt8) ∉ p) → (∀ p ∈ P, p ≠ []) → cutsD (Lib.join P [45]) ((Lib.join P [45]).length - 1) = ((presR [] P).drop 1).map (fun q => Lib.join q [45])
  | 0, P, hP, hf, _ => by
    obtain ⟨b, rfl⟩ : ∃ b, P = [b] := by
      match P, hP with
      | [b], _ => exact ⟨b, rfl⟩
    rw [join_one]
    have hb := hf b (List.mem_cons_self ..)
    have := cutsD_free b 0 (b.length - 1) (fun j _ _ e => hb (List.mem_of_getElem? e))
    rw [Nat.zero_add] at this
    rw [this]
    rfl
  | n + 1, P, hP, hf, hn => by
    obtain ⟨Q, b, rfl⟩ : ∃ Q b, P = Q ++ [b] := ⟨P.dropLast, P.getLast (by intro e; rw [e] at hP; simp at hP), (List.dropLast_concat_getLast _).symm⟩
    have hQ : Q.length = n + 1 := by simpa using hP
    have hQ0 : Q ≠ [] := by intro e; rw [e] at hQ; simp at hQ
    have hfQ := fun p h => hf p (List.mem_append_left _ h)
    have hnQ := fun p h => hn p (List.mem_append_left _ h)
    rw [join_app Q [b] hQ0 (by simp), join_one, cutsD_hy _ b (join_nonnil Q hQ0 hnQ) (hf b (by simp)), cuts_pres n Q hQ hfQ hnQ, presR_snoc]
    show _ = (presR [] Q).map _
    obtain ⟨R, c, rfl⟩ : ∃ R c, Q = R ++ [c] := ⟨Q.dropLast, Q.getLast hQ0, (List.dropLast_concat_getLast _).symm⟩
    rw [presR_snoc]
    rfl
theorem presR_pre : ∀ (r pre q : Pth), q ∈ presR pre r → ∃ s, pre ++ r = q ++ s
  | [], pre, q, h => by cases h
  | k :: r, pre, q, h => by
    rw [presR] at h
    rcases List.mem_append.1 h with h | h
    · obtain ⟨s, e⟩ := presR_pre r _ q h
      exact ⟨s, by rw [← e]; simp⟩
    · rw [List.mem_singleton] at h
      exact ⟨r, by rw [h]; simp⟩
theorem presR_ne : ∀ (r pre q : Pth), q ∈ presR pre r → q ≠ []
  | [], pre, q, h => by cases h
  | k :: r, pre, q, h => by
    rw [presR] at h
    rcases List.mem_append.1 h with h | h
    · exact presR_ne r _ q h
    · rw [List.mem_singleton] at h
      rw [h]; simp
theorem isp_const {T : List TagT} {q : Pth} : ∀ y ∈ (IspU T q).map TagT.text, y = Lib.join q [45] := by
  intro y hy
  obtain ⟨t, ht, rfl⟩ := List.mem_map.1 hy
  unfold IspU at ht
  rw [List.mem_filter] at ht
  have : t.pieces = q := by simpa using ht.2
  show Lib.join t.pieces [45] = _
  rw [this]
theorem isp_eqv {T : List TagT} (hT : ∀ t ∈ T, t.Good) {q : Pth} (hq : splitH (Lib.join q [45]) = q) : Eqv ((IspU T q).map TagT.text) ([Lib.join q [45]].filter (fun y => decide (y ∈ T.map TagT.text))) := by
  by_cases h : Lib.join q [45] ∈ T.map TagT.text
  · rw [show [Lib.join q [45]].filter (fun y => decide (y ∈ T.map TagT.text)) = [Lib.join q [45]] by simp only [List.filter_cons, List.filter_nil, decide_eq_true h, if_true]]
    refine Eqv.const isp_const ?_
    obtain ⟨t, ht, e⟩ := List.mem_map.1 h
    have : t ∈ IspU T q := by
      unfold IspU
      rw [List.mem_filter]
      refine ⟨ht, ?_⟩
      have : t.pieces = q := by rw [← split_text (hT t ht), e, hq]
      rw [this]
      exact beq_self_eq_true _
    intro e2
    have h2 : t.text ∈ (IspU T q).map TagT.text := List.mem_map_of_mem this
    rw [e2] at h2
    cases h2
  · rw [show [Lib.join q [45]].filter (fun y => decide (y ∈ T.map TagT.text)) = [] by simp only [List.filter_cons, List.filter_nil, decide_eq_false h]; rfl]
    have : (IspU T q).map TagT.text = [] := by
      cases hc : (IspU T q).map TagT.text with
      | nil => rfl
      | cons y r =>
        exfalso
        have hy : y ∈ (IspU T q).map TagT.text := by rw [hc]; exact List.mem_cons_self ..
        have e := isp_const y hy
        obtain ⟨t, ht, e2⟩ := List.mem_map.1 hy
        unfold IspU at ht
        rw [List.mem_filter] at ht
        exact h (by rw [← e, ← e2]; exact List.mem_map_of_mem ht.1)
    rw [this]
    exact fun _ => rfl
theorem pieces_full {t : TagT} (g : t.Good) : ∀ p ∈ t.pieces, p ≠ [] := by
  intro p hp
  unfold TagT.pieces at hp
  rcases List.mem_append.1 hp with h | h
  · rw [List.mem_filter] at h
    simpa using h.2
  · exact variant_ne (g.hv p h).1
theorem onceU_good {T : List TagT} (h : ∀ t ∈ T, t.Good) : ∀ t ∈ onceU T [], t.Good := fun t ht => by
  rcases onceU_mem _ _ _ ht with e | e
  · cases e
  · exact h t e
theorem once_set (T : List TagT) (y : Tx) : decide (y ∈ (onceU T []).map TagT.text) = decide (y ∈ T.map TagT.text) := by
  apply decide_eq_decide.2
  rw [onceU_text]
  constructor
  · intro h
    rcases onceP_mem _ _ _ h with h | h
    · cases h
    · exact h
  · intro h
    exact onceP_has _ _ _ h
theorem fsp_eqv {T : List TagT} (hT : ∀ t ∈ T, t.Good) {w : TagT} (hw : w.Good) : Eqv ((FspU (onceU T []) w.pieces).map TagT.text) ((T.map TagT.text).filter (fun t => beginsB t w.text)) := by
  have e1 : (FspU (onceU T []) w.pieces).map TagT.text = ((onceU T []).map TagT.text).filter (fun t => beginsB t w.text) := by
    unfold FspU
    have hp : w.pieces.isEmpty = false := by
      cases h : w.pieces with
      | nil => exact absurd h (pieces_ne hw)
      | cons a r => rfl
    rw [hp, if_neg (by decide), List.filter_map]
    congr 1
    apply List.filter_congr
    intro t ht
    exact (begins_pre (onceU_good hT t ht) hw).symm
  rw [e1, onceU_text]
  intro acc
  exact filter_once _ _ _ _
theorem rest_eqv {T : List TagT} (hT : ∀ t ∈ T, t.Good) : ∀ D : List Pth, (∀ q ∈ D, splitH (Lib.join q [45]) = q) → Eqv ((D.flatMap (IspU (onceU T []))).map TagT.text) ((D.map (fun q => Lib.join q [45])).filter (fun y => decide (y ∈ T.map TagT.text)))
  | [], _ => fun _ => rfl
  | q :: D, h => by
    have h1 := isp_eqv (onceU_good hT) (h q (List.mem_cons_self ..))
    have h2 := rest_eqv hT D (fun p hp => h p (List.mem_cons_of_mem _ hp))
    rw [show (fun y => decide (y ∈ (onceU T []).map TagT.text)) = (fun y => decide (y ∈ T.map TagT.text)) from funext (once_set T)] at h1
    have h3 := Eqv.app h1 h2
    rw [List.flatMap_cons, List.map_append, List.map_cons]
    rw [← List.filter_append] at h3
    exact h3
theorem ask_eqv {T : List TagT} (hT : ∀ t ∈ T, t.Good) {w : TagT} (hw : w.Good) : Eqv ((askU (onceU T []) w.pieces).map TagT.text) ((lawOne (T.map TagT.text) w.text).filter (fun y => decide (y ∈ T.map TagT.text))) := by
  obtain ⟨D, hD⟩ : ∃ D, presR [] w.pieces = w.pieces :: D := by
    obtain ⟨R, c, e⟩ : ∃ R c, w.pieces = R ++ [c] := ⟨w.pieces.dropLast, w.pieces.getLast (pieces_ne hw), (List.dropLast_concat_getLast _).symm⟩
    rw [e, presR_snoc]
    exact ⟨_, rfl⟩
  have hcut : cutsD w.text (w.text.length - 1) = D.map (fun q => Lib.join q [45]) := by
    have h1 := cuts_pres (w.pieces.length - 1) w.pieces (by have := List.length_pos_iff.2 (pieces_ne hw); omega) (pieces_free hw) (pieces_full hw)
    rw [hD] at h1
    exact h1
  have hDq : ∀ q ∈ D, splitH (Lib.join q [45]) = q := fun q hq => by
    have hm : q ∈ presR [] w.pieces := by rw [hD]; exact List.mem_cons_of_mem _ hq
    obtain ⟨s, e⟩ := presR_pre _ _ _ hm
    rw [List.nil_append] at e
    have hq0 : q ≠ [] := presR_ne _ _ _ hm
    exact splitH_join q hq0 (fun p hp => pieces_free hw p (by rw [e]; exact List.mem_append_left _ hp))
  have hA := isp_eqv (onceU_good hT) (q := w.pieces) (split_text hw)
  rw [show (fun y => decide (y ∈ (onceU T []).map TagT.text)) = (fun y => decide (y ∈ T.map TagT.text)) from funext (once_set T)] at hA
  have hF := fsp_eqv hT hw
  have hR := rest_eqv hT D hDq
  intro acc
  unfold askU lawOne
  rw [hD, hcut, List.flatMap_cons, List.map_append, List.map_append, List.map_append]
  rw [show w.text :: (List.filter (fun t => beginsB t w.text) (List.map TagT.text T) ++ List.map (fun q => Lib.join q [45]) D) = [w.text] ++ (List.filter (fun t => beginsB t w.text) (List.map TagT.text T) ++ List.map (fun q => Lib.join q [45]) D) from rfl]
  rw [List.filter_append, List.filter_append]
  have hff : ((T.map TagT.text).filter (fun t => beginsB t w.text)).filter (fun y => decide (y ∈ T.map TagT.text)) = (T.map TagT.text).filter (fun t => beginsB t w.text) := by
    rw [List.filter_eq_self]
    intro y hy
    exact decide_eq_true (List.mem_filter.1 hy).1
  rw [hff, onceP_app, onceP_app, onceP_app, onceP_app, onceP_app, hA, hF, hR]
  have hx : onceP ([Lib.join w.pieces [45]].filter (fun y => decide (y ∈ T.map TagT.text))) (onceP ((T.map TagT.text).filter (fun t => beginsB t w.text)) (onceP ([Lib.join w.pieces [45]].filter (fun y => decide (y ∈ T.map TagT.text))) acc)) = onceP ((T.map TagT.text).filter (fun t => beginsB t w.text)) (onceP ([Lib.join w.pieces [45]].filter (fun y => decide (y ∈ T.map TagT.text))) acc) := by
    apply onceP_sub
    intro y hy
    apply onceP_keep
    exact onceP_has _ _ _ hy
  rw [hA acc, hx]
  rfl
theorem flat_eqv {T : List TagT} (hT : ∀ t ∈ T, t.Good) : ∀ W : List TagT, (∀ w ∈ W, w.Good) → Eqv (W.flatMap (fun a => (askU (onceU T []) a.pieces).map TagT.text)) (((W.map TagT.text).flatMap (lawOne (T.map TagT.text))).filter (fun y => decide (y ∈ T.map TagT.text)))
  | [], _ => fun _ => rfl
  | w :: W, h => by
    have h1 := Eqv.app (ask_eqv hT (h w (List.mem_cons_self ..))) (flat_eqv hT W (fun a ha => h a (List.mem_cons_of_mem _ ha)))
    rw [List.flatMap_cons, List.map_cons, List.flatMap_cons, List.filter_append]
    exact h1
theorem chain_law {W T : List TagT} (x : TagT) (hW : ∀ w ∈ W, w.Good) (hT : ∀ t ∈ T, t.Good) : (chainU W T x).map TagT.text = lawChain (W.map TagT.text) (T.map TagT.text) x.text := by
  unfold chainU
  rw [onceU_text, lawChain_plain, List.map_append, List.map_flatMap, onceP_app, onceP_app]
  congr 1
  have h1 := flat_once (fun a => (askU (onceU T []) a.pieces).map TagT.text) (fun a b ga gb e => by rw [pieces_of_text ga gb e]) W [] (fun a h => by cases h) hW []
  exact h1.trans (flat_eqv hT W hW _)
end Go.Proofs.YthlccfjhgejlmaaGreatDoor
