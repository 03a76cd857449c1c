/-
  Package serial: a place that is asked; the knot.
-/
import Derived.Test.YtminidoiaplhjaaDoorZo
namespace Go.Proofs.YtminidoiaplhjaaDoor
open Go.RowKit
set_option linter.unusedVariables false
set_option linter.unusedSimpArgs false

theorem va_at {W0 : World} {l : List VA} {v : Value} (hv : LieAt (VsAt W0 l) v l.length) {j : Nat} (hj : j < l.length) : ∃ b o c, v = .slice (some ⟨b, o, none⟩) l.length c ∧ b < W0.heap.size ∧ ∃ t d p u, l[j]? = some (.mk t d p) ∧ W0.cell? ⟨b, o + j * 3, none⟩ = some (.string t) ∧ W0.cell? ⟨b, o + j * 3 + 1, none⟩ = some (.bool d) ∧ W0.cell? ⟨b, o + j * 3 + 2, none⟩ = some u ∧ PatAt W0 p u := by
  obtain ⟨b, o, c, hv, hb, hcs⟩ := vars_get hv hj
  obtain ⟨t, d, p, he⟩ : ∃ t d p, l[j]? = some (.mk t d p) := by
    cases e : l[j] with
    | mk t d p => exact ⟨t, d, p, by rw [List.getElem?_eq_getElem hj, e]⟩
  obtain ⟨h1, h2, u, h3, h4⟩ := hcs j t d p he
  exact ⟨b, o, c, hv, hb, t, d, p, u, he, h1, h2, h3, h4⟩
set_option maxHeartbeats 4000000 in
set_option maxRecDepth 100000 in
theorem wplace_sel {W0 : World} {B b m : Nat} (hm : m ≤ 4000000) (t n a : ByteArray) (al : List AR) (e : EX) (vs : List VA) (hvz : vs.length ≤ 4000000) (hI : WiTo W0 B b m e) (hV : ∀ (j : Nat) (k : ByteArray) (d : Bool) (l : List EL), vs[j]? = some (.mk k d l) → WaTo W0 B b (m + 8) l) : WpTo W0 B b m (.mk 7 t n a al (some e) vs) := by
  intro q o c bs w hS hq hc hx h hn
  have hpl : plT m (.mk 7 t n a al (some e) vs) = [123, 32] ++ (exT m e ++ ([32, 45, 62] ++ (vsT m vs ++ (10 :: (sps m ++ [125]))))) := by
    rw [plT, if_pos rfl, exO]; rfl
  rw [hpl] at hn ⊢
  obtain ⟨T, hT⟩ : ∃ T, exT m e = T := ⟨_, rfl⟩
  obtain ⟨A1, c1, p, A2, c2, rfl, ho, hvl⟩ := exAt_parts hx
  simp only [OAt] at ho
  obtain ⟨q', o', c', hp', hq', hc', hx'⟩ := ho
  cases hp'
  have hi := fun bs w h1 h2 h3 => hI q' o' c' bs w h1 hq' hc' hx' h2 h3
  rw [hT] at hn ⊢
  simp only [hT] at hi
  have HI := Lib.hid hi
  have HVl := Lib.hid hvl
  have HV := Lib.hid hV
  have HW := Lib.hid (write1 ⟨#[123, 32]⟩ w h (by simp at hn; show _ + 2 ≤ _; omega))
  have HS := Lib.hid hS
  have HC := Lib.hid hc
  have HN := Lib.hid hn
  have HH := Lib.hid h
  obtain ⟨VT, hVT⟩ : ∃ x, vsT m vs = x := ⟨_, rfl⟩
  rw [hVT] at HN ⊢
  have HVT := Lib.hid hVT
  have hvz0 : (vs.length : Int) ≤ 4000000 := by omega
  clear hi hT hx hS hc h hn hI hV hvl hpl hc' hx' hVT hq'
  go_enter_defers Tryd.func59, Tryd.ntmps59
  go_wp2_with fail
  go_at_call 20
  refine HW.out.mono ?_
  rintro e w1 ⟨rfl, h1, g1⟩
  obtain ⟨⟨k0, k1, k2, k3, k4, k5, k6⟩, hlt⟩ := (HS.out.step g1).at_ hq HC.out
  dsimp only at k0 k1 k2 k3 k4 k5 k6
  have HA1 := Lib.hid (h1.alloc (.cells #[.string ⟨#[125]⟩] 9))
  have HK1 := Lib.hid (g1.alloc h1.le (.cells #[.string ⟨#[125]⟩] 9))
  have HB1 := Lib.hid (BoxAt.new w1 #[.string ⟨#[125]⟩] 9)
  have HI1 := Lib.hid (HI.out _ _ (HS.out.step HK1.out) HA1.out (by have := HN.out; simp at this ⊢; omega))
  have hbne : w1.heap.size ≠ b := HA1.out.box_ne HB1.out (by decide)
  clear h1 g1 HI
  go_wp2_with fail
  go_at_call 71
  refine HI1.out.mono ?_
  rintro e w2 ⟨rfl, h2, g2⟩
  have HW2 := Lib.hid (write1 ⟨#[32, 45, 62]⟩ w2 h2 (by have := HN.out; simp at this ⊢; show _ + 3 ≤ _; omega))
  have HB2 := Lib.hid (HB1.out.wk g2 hbne (by decide))
  have HK2 := Lib.hid (HK1.out.trans g2)
  clear h2 g2 HI1
  go_wp2_with fail
  go_at_call 20
  refine HW2.out.mono ?_
  rintro e w3 ⟨rfl, h3, g3⟩
  have HA3 := Lib.hid h3
  have HK3 := Lib.hid (HK2.out.trans g3)
  have HB3 := Lib.hid (HB2.out.wk g3 hbne (by decide))
  obtain ⟨⟨k0, k1, k2, k3, k4, k5, k6⟩, hlt⟩ := (HS.out.step HK3.out).at_ hq HC.out
  dsimp only at k0 k1 k2 k3 k4 k5 k6
  obtain ⟨X, hX⟩ : ∃ X, bs ++ [123, 32] ++ T ++ [32, 45, 62] = X := ⟨_, rfl⟩
  have hXY : bs ++ ([123, 32] ++ (T ++ ([32, 45, 62] ++ (VT ++ (10 :: (sps m ++ [125])))))) = X ++ (VT ++ (10 :: (sps m ++ [125]))) := by rw [← hX]; simp
  have HXY := Lib.hid hXY
  have HX3 := Lib.hid (show WrAt B b (X ++ vsT m (vs.take 0)) w3 by rw [List.take_zero, vsT, List.append_nil, ← hX]; exact HA3.out)
  have HN3 := Lib.hid (show X.length + (VT.length + (1 + (m + 1))) ≤ 140737488355328 by
    have h1 := HN.out
    rw [← List.length_append, hXY] at h1
    simp [sps] at h1
    omega)
  clear h3 g3 hX hXY HA3 HB1 HB2 HK1 HK2 HA1 HW2 HN
  go_wp2
  go_loopw [40] (fun t40 wr => ∃ j : Nat, t40 = .int .i64 j ∧ j ≤ vs.length ∧ Hid (WrAt B b (X ++ vsT m (vs.take j)) wr) ∧ Hid (Wk B b w wr) ∧ Hid (BoxAt wr w1.heap.size #[.string ⟨#[125]⟩] 9)) (fun t40 _ => vs.length - (intOf t40).toNat)
  case atStart => exact ⟨0, rfl, Nat.zero_le _, HX3, HK3, HB3⟩
  case round =>
    clear HX3 HK3 HB3 k0 k1 k2 k3 k4 k5 k6
    obtain ⟨j, rfl, hj, HA, HK, HB⟩ := hrel
    have hj0 : (j : Int) ≤ 4000000 := by omega
    have hSr := HS.out.step HK.out
    by_cases hlt : j < vs.length
    · have d1 : decide ((j : Int) < (vs.length : Int)) = true := decide_eq_true (by omega)
      have d2 : (j : Int) < (vs.length : Int) := by omega
      obtain ⟨eb, eo, c', e, hb, k, d, l, u, hel, c0, c1', c2', hpt⟩ := va_at HVl.out hlt
      cases e
      have hpt' := hpt
      obtain ⟨A3, c3, rfl, _⟩ := hpt'
      rw [← hSr.hW.cell (p := ⟨eb, eo + j * 3, none⟩) hb] at c0
      rw [← hSr.hW.cell (p := ⟨eb, eo + j * 3 + 1, none⟩) hb] at c1'
      rw [← hSr.hW.cell (p := ⟨eb, eo + j * 3 + 2, none⟩) hb] at c2'
      have hbw : eb < wr.heap.size := Nat.lt_of_lt_of_le hb hSr.hW.size
      have hlen : (X ++ vsT m (vs.take j)).length + (vaT m (.mk k d l)).length ≤ 140737488355328 := by
        have h1 := vsT_take_le m vs (j + 1)
        rw [vsT_take m vs j _ hel, List.length_append, HVT.out] at h1
        have h2 := HN3.out
        rw [List.length_append]; omega
      have HT := Lib.hid (vsT_take m vs j _ hel)
      have HC := Lib.hid (wvar_any (bs := X ++ vsT m (vs.take j)) hm k d l (.slice A3 l.length c3) hpt (HV.out j k d l hel) (wr.alloc (.cells #[.string k, .bool d, .slice A3 l.length c3] 73)) (hSr.alloc _) (HA.out.alloc _) hlen)
      have HKa := Lib.hid (HK.out.alloc HA.out.le (.cells #[.string k, .bool d, .slice A3 l.length c3] 73))
      have HBa := Lib.hid (HB.out.alloc (.cells #[.string k, .bool d, .slice A3 l.length c3] 73))
      clear hel hpt hlen hSr
      go_wp2_with fail
      go_at_call 72
      refine HC.out.mono ?_
      rintro e w4 ⟨rfl, h4, g4⟩
      have HA4 := Lib.hid h4
      have HK4 := Lib.hid (HKa.out.trans g4)
      have HB4 := Lib.hid (HBa.out.wk g4 hbne (by decide))
      clear h4 g4
      go_wp2
      go_roundw
      case rel => exact ⟨j + 1, by go_num, hlt, Lib.hid (by rw [HT.out, ← List.append_assoc]; exact HA4.out), HK4, HB4⟩
      case measure => simp [intOf]; omega
    · obtain rfl : j = vs.length := by omega
      have d1 : decide ((vs.length : Int) < (vs.length : Int)) = false := decide_eq_false (by omega)
      have hA := HA.out
      rw [List.take_of_length_le (Nat.le_refl _), HVT.out] at hA
      have HW5 := Lib.hid (write2 ⟨#[10]⟩ (mgB m) wr hA (by rw [mgB_size, List.length_append]; have := HN3.out; show _ + (1 + _) ≤ _; omega))
      clear hA hSr
      go_wp2_with fail
      go_at_call 20
      refine HW5.out.mono ?_
      rintro e w5 ⟨rfl, h5, g5⟩
      have HA5 := Lib.hid h5
      have HK5 := Lib.hid (HK.out.trans g5)
      have HB5 := Lib.hid (HB.out.wk g5 hbne (by decide))
      clear h5 g5
      go_wp2
      refine leaves_cons (f := 20) (args := #[.pointer (some ⟨b, 0, none⟩), .slice (some ⟨w1.heap.size, 0, none⟩) 1 1]) (by simp) (by simp [go_sem]) ?_
      refine (writeD ⟨#[125]⟩ w1.heap.size 1 .returning w5 HA5.out HB5.out (by have := HN3.out; rw [List.length_append, List.length_append, List.length_append, mgB_data]; simp [sps]; show _ + 1 ≤ _; omega)).mono ?_
      rintro e u' w6 ⟨rfl, rfl, h6, g6⟩
      simp [Leaves, settle, results, Tryd.results59]
      refine ⟨?_, HK5.out.trans g6⟩
      have := HXY.out
      simp at this
      rw [this]
      simpa [mgB_data] using h6
end Go.Proofs.YtminidoiaplhjaaDoor
