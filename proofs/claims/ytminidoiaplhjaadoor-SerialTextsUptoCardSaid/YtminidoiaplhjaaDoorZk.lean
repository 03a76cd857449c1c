/-
  Package serial: patterns.
-/
import Derived.Test.YtminidoiaplhjaaDoorZj
namespace Go.Proofs.YtminidoiaplhjaaDoor
open Go.RowKit
set_option linter.unusedVariables false
set_option linter.unusedSimpArgs false

theorem esT_app (m : Nat) : ∀ a b : List EL, esT m (a ++ b) = esT m a ++ esT m b
  | [], b => by rw [List.nil_append, esT, List.nil_append]
  | .mk t none :: r, b => by rw [List.cons_append, esT, esT, esT_app m r b, List.append_assoc]
  | .mk t (some e) :: r, b => by rw [List.cons_append, esT, esT, esT_app m r b, List.append_assoc]
def elT (m : Nat) : EL → List UInt8
  | .mk t none => lineG (sps m) t.data.toList
  | .mk t (some e) => plT m e
theorem esT_take (m : Nat) (l : List EL) (j : Nat) (x : EL) (h : l[j]? = some x) : esT m (l.take (j + 1)) = esT m (l.take j) ++ elT m x := by
  rw [take_snoc l j x h, esT_app]
  congr 1
  obtain ⟨t, p⟩ := x
  cases p with
  | none => rw [esT, esT, List.append_nil, elT]
  | some e => rw [esT, esT, List.append_nil, elT]
theorem esT_take_le (m : Nat) (l : List EL) (j : Nat) : (esT m (l.take j)).length ≤ (esT m l).length := by
  have := congrArg List.length (esT_app m (l.take j) (l.drop j))
  rw [List.take_append_drop, List.length_append] at this
  omega
theorem szEs_get : ∀ (l : List EL) (j : Nat) (t : ByteArray) (p : Option EX), l[j]? = some (.mk t p) → t.size + sizeO p ≤ sizeEs l
  | [], j, t, p, h => by simp at h
  | .mk t' p' :: r, 0, t, p, h => by
    simp at h
    obtain ⟨rfl, rfl⟩ := h
    rw [sizeEs]; omega
  | .mk t' p' :: r, j + 1, t, p, h => by
    have := szEs_get r j t p (by simpa using h)
    rw [sizeEs]; omega
set_option maxHeartbeats 8000000 in
set_option maxRecDepth 100000 in
/-- A pattern's elements, given its places. -/
theorem wpat_any {W0 : World} (hM : MxW W0) {B b m : Nat} (l : List EL) (hsz : sizeEs l ≤ 4000000) (hP : ∀ (j : Nat) (t : ByteArray) (e : EX), l[j]? = some (.mk t (some e)) → WpTo W0 B b m e) : WaTo W0 B b m l := by
  intro v bs w hS hv h hn
  have hll := sizeEs_length l
  have hbg := begins_any l v hv hsz w hS.hW
  obtain ⟨f, hf⟩ : ∃ f, (feedOf l && !oddOf l) = f := ⟨_, rfl⟩
  unfold paT headG at hn ⊢
  rw [hf] at hbg hn ⊢
  have HB := Lib.hid hbg
  have HV := Lib.hid hv
  have HH := Lib.hid h
  have HN := Lib.hid hn
  have HS := Lib.hid hS
  have HM := Lib.hid hM
  have HP := Lib.hid hP
  have HZ := Lib.hid hsz
  have hl0 : (l.length : Int) ≤ 4000000 := by omega
  obtain ⟨A, c, rfl, _⟩ := hv
  clear hbg h hn hS hM hP hf hsz hll
  cases f
  case false =>
    rw [if_neg (by simp)]
    have he := List.append_assoc bs [32] (esT m l)
    obtain ⟨Y, hY⟩ : ∃ Y, bs ++ ([32] ++ esT m l) = Y := ⟨_, rfl⟩
    rw [hY] at he ⊢
    have HE2 := Lib.hid he.symm
    clear he hY
    go_enter Tryd.func49, Tryd.ntmps49
    go_wp2_with fail
    go_at_call 58
    refine HB.out.mono ?_
    rintro e w1 ⟨rfl, hb1⟩
    have HW1 := Lib.hid (HH.out.later hb1)
    have HK1 := Lib.hid (Wk.of (b := b) HH.out.le hb1)
    clear hb1
    have HX := Lib.hid (write1 ⟨#[32]⟩ w1 HW1.out (by have := HN.out; simp at this; show _ + 1 ≤ _; omega))
    go_wp2_with fail
    go_at_call 20
    refine HX.out.mono ?_
    rintro e w2 ⟨rfl, h2, g2⟩
    have HA2 := Lib.hid (show WrAt B b (bs ++ [32] ++ esT m (l.take 0)) w2 by rw [List.take_zero, esT, List.append_nil]; simpa [mgB_data] using h2)
    have HK2 := Lib.hid (HK1.out.trans g2)
    have HN2 := Lib.hid (show (bs ++ [32]).length + (esT m l).length ≤ 140737488355328 by have := HN.out; simp at this ⊢; omega)
    clear h2 g2 HN HX HW1 HK1 HB HH
    obtain ⟨X, hX⟩ : ∃ X, bs ++ [32] = X := ⟨_, rfl⟩
    rw [hX] at HA2 HN2 HE2
    clear hX
    go_wp2
    go_loopw [19] (fun t19 wr => ∃ j : Nat, t19 = .int .i64 j ∧ j ≤ l.length ∧ Hid (WrAt B b (X ++ esT m (l.take j)) wr) ∧ Hid (Wk B b w wr)) (fun t19 _ => l.length - (intOf t19).toNat)
    case atStart => exact ⟨0, rfl, Nat.zero_le _, HA2, HK2⟩
    case round =>
      clear HA2 HK2
      obtain ⟨j, rfl, hj, HA, HK⟩ := hrel
      have hj0 : (j : Int) ≤ 4000000 := by omega
      have hSr := HS.out.step HK.out
      by_cases hlt : j < l.length
      · have d1 : decide ((j : Int) < (l.length : Int)) = true := decide_eq_true (by omega)
        have d2 : (j : Int) < (l.length : Int) := by omega
        obtain ⟨eb, eo, c', e, hb, t, p, u, hel, c0, c1, hou⟩ := el_at HV.out hlt
        cases e
        rw [← hSr.hW.cell (p := ⟨eb, eo + j * 2, none⟩) hb] at c0
        rw [← hSr.hW.cell (p := ⟨eb, eo + j * 2 + 1, none⟩) hb] at c1
        have hbw : eb < wr.heap.size := Nat.lt_of_lt_of_le hb hSr.hW.size
        have ht := szEs_get l j t p hel
        have hz := HZ.out
        have hlen : (X ++ esT m (l.take j)).length + (elT m (.mk t p)).length ≤ 140737488355328 := by
          have h1 := esT_take_le m l (j + 1)
          rw [esT_take m l j _ hel, List.length_append] at h1
          have h2 := HN2.out
          rw [List.length_append]; omega
        have HT := Lib.hid (esT_take m l j _ hel)
        have hp := fun e (q : l[j]? = some (.mk t (some e))) => HP.out j t e q
        cases p with
        | none =>
          simp only [OAt] at hou
          subst hou
          have HC := Lib.hid (text_any HM.out (bs := X ++ esT m (l.take j)) m t (wr.alloc (.cells #[.string t, .pointer none] 39)) (hSr.alloc _) (HA.out.alloc _) (by omega) hlen)
          have HKa := Lib.hid (HK.out.alloc HA.out.le (.cells #[.string t, .pointer none] 39))
          clear hel ht hz hlen hp hSr
          go_wp2_with fail
          go_at_call 60
          refine HC.out.mono ?_
          rintro e w3 ⟨rfl, h3, g3⟩
          have HA3 := Lib.hid h3
          have HK3 := Lib.hid (HKa.out.trans g3)
          clear h3 g3
          go_wp2
          go_roundw
          case rel => exact ⟨j + 1, by go_num, hlt, Lib.hid (by rw [HT.out, ← List.append_assoc]; exact HA3.out), HK3⟩
          case measure => simp [intOf]; omega
        | some e =>
          simp only [OAt] at hou
          obtain ⟨q', o', c'', rfl, hq', hc', hx'⟩ := hou
          have HC := Lib.hid (hp e hel q' o' c'' (X ++ esT m (l.take j)) (wr.alloc (.cells #[.string t, .pointer (some ⟨q', o', none⟩)] 39)) (hSr.alloc _) hq' hc' hx' (HA.out.alloc _) hlen)
          have HKa := Lib.hid (HK.out.alloc HA.out.le (.cells #[.string t, .pointer (some ⟨q', o', none⟩)] 39))
          clear hel ht hz hlen hp hSr hc' hx'
          go_wp2_with fail
          go_at_call 59
          refine HC.out.mono ?_
          rintro e w3 ⟨rfl, h3, g3⟩
          have HA3 := Lib.hid h3
          have HK3 := Lib.hid (HKa.out.trans g3)
          clear h3 g3
          go_wp2
          go_roundw
          case rel => exact ⟨j + 1, by go_num, hlt, Lib.hid (by rw [HT.out, ← List.append_assoc]; exact HA3.out), HK3⟩
          case measure => simp [intOf]; omega
      · obtain rfl : j = l.length := by omega
        have d1 : decide ((l.length : Int) < (l.length : Int)) = false := decide_eq_false (by omega)
        have hA := HA.out
        rw [List.take_of_length_le (Nat.le_refl _)] at hA
        have HA2 := Lib.hid hA
        clear hA hSr
        go_wp2
        go_end0
        exact ⟨rfl, by rw [HE2.out]; exact HA2.out, HK.out⟩
  case true =>
    rw [if_pos rfl]
    have he := List.append_assoc bs (10 :: sps m) (esT m l)
    obtain ⟨Y, hY⟩ : ∃ Y, bs ++ ((10 :: sps m) ++ esT m l) = Y := ⟨_, rfl⟩
    rw [hY] at he ⊢
    have HE2 := Lib.hid he.symm
    clear he hY
    go_enter Tryd.func49, Tryd.ntmps49
    go_wp2_with fail
    go_at_call 58
    refine HB.out.mono ?_
    rintro e w1 ⟨rfl, hb1⟩
    have HW1 := Lib.hid (HH.out.later hb1)
    have HK1 := Lib.hid (Wk.of (b := b) HH.out.le hb1)
    clear hb1
    have HX := Lib.hid (write2 ⟨#[10]⟩ (mgB m) w1 HW1.out (by have := HN.out; simp [sps] at this; rw [mgB_size]; show _ + (1 + _) ≤ _; omega))
    go_wp2_with fail
    go_at_call 20
    refine HX.out.mono ?_
    rintro e w2 ⟨rfl, h2, g2⟩
    have HA2 := Lib.hid (show WrAt B b (bs ++ (10 :: sps m) ++ esT m (l.take 0)) w2 by rw [List.take_zero, esT, List.append_nil]; simpa [mgB_data] using h2)
    have HK2 := Lib.hid (HK1.out.trans g2)
    have HN2 := Lib.hid (show (bs ++ (10 :: sps m)).length + (esT m l).length ≤ 140737488355328 by have := HN.out; simp at this ⊢; omega)
    clear h2 g2 HN HX HW1 HK1 HB HH
    obtain ⟨X, hX⟩ : ∃ X, bs ++ (10 :: sps m) = X := ⟨_, rfl⟩
    rw [hX] at HA2 HN2 HE2
    clear hX
    go_wp2
    go_loopw [19] (fun t19 wr => ∃ j : Nat, t19 = .int .i64 j ∧ j ≤ l.length ∧ Hid (WrAt B b (X ++ esT m (l.take j)) wr) ∧ Hid (Wk B b w wr)) (fun t19 _ => l.length - (intOf t19).toNat)
    case atStart => exact ⟨0, rfl, Nat.zero_le _, HA2, HK2⟩
    case round =>
      clear HA2 HK2
      obtain ⟨j, rfl, hj, HA, HK⟩ := hrel
      have hj0 : (j : Int) ≤ 4000000 := by omega
      have hSr := HS.out.step HK.out
      by_cases hlt : j < l.length
      · have d1 : decide ((j : Int) < (l.length : Int)) = true := decide_eq_true (by omega)
        have d2 : (j : Int) < (l.length : Int) := by omega
        obtain ⟨eb, eo, c', e, hb, t, p, u, hel, c0, c1, hou⟩ := el_at HV.out hlt
        cases e
        rw [← hSr.hW.cell (p := ⟨eb, eo + j * 2, none⟩) hb] at c0
        rw [← hSr.hW.cell (p := ⟨eb, eo + j * 2 + 1, none⟩) hb] at c1
        have hbw : eb < wr.heap.size := Nat.lt_of_lt_of_le hb hSr.hW.size
        have ht := szEs_get l j t p hel
        have hz := HZ.out
        have hlen : (X ++ esT m (l.take j)).length + (elT m (.mk t p)).length ≤ 140737488355328 := by
          have h1 := esT_take_le m l (j + 1)
          rw [esT_take m l j _ hel, List.length_append] at h1
          have h2 := HN2.out
          rw [List.length_append]; omega
        have HT := Lib.hid (esT_take m l j _ hel)
        have hp := fun e (q : l[j]? = some (.mk t (some e))) => HP.out j t e q
        cases p with
        | none =>
          simp only [OAt] at hou
          subst hou
          have HC := Lib.hid (text_any HM.out (bs := X ++ esT m (l.take j)) m t (wr.alloc (.cells #[.string t, .pointer none] 39)) (hSr.alloc _) (HA.out.alloc _) (by omega) hlen)
          have HKa := Lib.hid (HK.out.alloc HA.out.le (.cells #[.string t, .pointer none] 39))
          clear hel ht hz hlen hp hSr
          go_wp2_with fail
          go_at_call 60
          refine HC.out.mono ?_
          rintro e w3 ⟨rfl, h3, g3⟩
          have HA3 := Lib.hid h3
          have HK3 := Lib.hid (HKa.out.trans g3)
          clear h3 g3
          go_wp2
          go_roundw
          case rel => exact ⟨j + 1, by go_num, hlt, Lib.hid (by rw [HT.out, ← List.append_assoc]; exact HA3.out), HK3⟩
          case measure => simp [intOf]; omega
        | some e =>
          simp only [OAt] at hou
          obtain ⟨q', o', c'', rfl, hq', hc', hx'⟩ := hou
          have HC := Lib.hid (hp e hel q' o' c'' (X ++ esT m (l.take j)) (wr.alloc (.cells #[.string t, .pointer (some ⟨q', o', none⟩)] 39)) (hSr.alloc _) hq' hc' hx' (HA.out.alloc _) hlen)
          have HKa := Lib.hid (HK.out.alloc HA.out.le (.cells #[.string t, .pointer (some ⟨q', o', none⟩)] 39))
          clear hel ht hz hlen hp hSr hc' hx'
          go_wp2_with fail
          go_at_call 59
          refine HC.out.mono ?_
          rintro e w3 ⟨rfl, h3, g3⟩
          have HA3 := Lib.hid h3
          have HK3 := Lib.hid (HKa.out.trans g3)
          clear h3 g3
          go_wp2
          go_roundw
          case rel => exact ⟨j + 1, by go_num, hlt, Lib.hid (by rw [HT.out, ← List.append_assoc]; exact HA3.out), HK3⟩
          case measure => simp [intOf]; omega
      · obtain rfl : j = l.length := by omega
        have d1 : decide ((l.length : Int) < (l.length : Int)) = false := decide_eq_false (by omega)
        have hA := HA.out
        rw [List.take_of_length_le (Nat.le_refl _)] at hA
        have HA2 := Lib.hid hA
        clear hA hSr
        go_wp2
        go_end0
        exact ⟨rfl, by rw [HE2.out]; exact HA2.out, HK.out⟩
end Go.Proofs.YtminidoiaplhjaaDoor
