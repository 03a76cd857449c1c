/-
  Package serial: the next argument's value; calls that are open, in memory.
-/
import Derived.Test.YtminidoiaplhjaaDoorZk
import Derived.Test.YtminidoiaplhjaaDoorAp
namespace Go.Proofs.YtminidoiaplhjaaDoor
open Go.RowKit
set_option linter.unusedVariables false
set_option linter.unusedSimpArgs false

theorem BoxAt.fzn {w : World} {k : Nat} {cs : Array Value} {t : TypeId} (h : BoxAt w k cs t) (o : Nat) : w.frozen? ⟨k, o, none⟩ = false := Lib.frozen_of_heap h o
theorem BoxAt.putn {w : World} {k : Nat} {cs : Array Value} {t : TypeId} (h : BoxAt w k cs t) (o : Nat) (v : Value) : BoxAt (w.setCell ⟨k, o, none⟩ v) k (cs.setIfInBounds o v) t := by
  unfold BoxAt at h ⊢
  simp [World.setCell, Array.getElem?_modify, h]
theorem WrAt.setO {B b : Nat} {bs : List UInt8} {W : World} (h : WrAt B b bs W) {g : Nat} {cs : Array Value} {t : TypeId} (hg : BoxAt W g cs t) (ht : t ≠ 46) (hu : t ≠ 5) (o : Nat) (x : Value) : WrAt B b bs (W.setCell ⟨g, o, none⟩ x) := by
  have hgb := h.box_ne hg ht
  have go : ∀ {p : Value}, Lib.BuilderAtF 46 5 B b p (Lib.byteCells bs) W → Lib.BuilderAtF 46 5 B b p (Lib.byteCells bs) (W.setCell ⟨g, o, none⟩ x) := by
    rintro p ⟨h1, v, h2, h3, h4⟩
    refine ⟨h1, v, (Below.heap_setCell _ _ _ b (fun e => hgb e.symm)).trans h2, ?_, h4⟩
    obtain ⟨g1, g2⟩ := h3
    refine ⟨g1, ?_⟩
    rcases g2 with g2 | ⟨q, cap, cur, fz, e, hq, hh, r⟩
    · exact .inl g2
    · refine .inr ⟨q, cap, cur, fz, e, hq, (Below.heap_setCell _ _ _ q (fun e => ?_)).trans hh, r⟩
      have e : q = g := e
      subst e
      unfold BoxAt at hg
      rw [hg] at hh
      simp at hh
      exact hu hh.2.1
  refine ⟨?_, by simpa using h.le⟩
  rcases h.bld with h | h
  · exact .inl (go h)
  · exact .inr (go h)
theorem Sw.setC {W0 : World} {B b : Nat} {w : World} (h : Sw W0 B b w) {g : Nat} (hg : W0.heap.size ≤ g) (o : Nat) (x : Value) : Sw W0 B b (w.setCell ⟨g, o, none⟩ x) := ⟨h.hB, h.hW.setCell (p := ⟨g, o, none⟩) hg x⟩
set_option maxHeartbeats 1000000 in
set_option maxRecDepth 100000 in
theorem next_any {W0 : World} {B b : Nat} {bs : List UInt8} (al : List AR) (v : Value) (hv : LieAt (AsAt W0 al) v al.length) (hal : al.length ≤ 4000000) (k : Nat) (n : ByteArray) (e : EX) (he : al[k]? = some (.mk n e))
    (g o : Nat) (cur : Array Value) (w : World) (hS : Sw W0 B b w) (h : WrAt B b bs w) (hg : BoxAt w g cur 127) (hgB : W0.heap.size ≤ g) (h0 : cur[o]? = some v) (h1 : cur[o + 1]? = some (.int .i64 k)) (hn : bs.length + (nameG (k == 0) n).length ≤ 140737488355328) :
    Calls Tryd.prog 83 #[.pointer (some ⟨b, 0, none⟩), .pointer (some ⟨g, o, none⟩)] w fun x w' => (∃ q o' c, x = .returned (.pointer (some ⟨q, o', none⟩)) ∧ q < W0.heap.size ∧ CellsAt W0 q o' c ∧ ExAt W0 e c) ∧ WrAt B b (bs ++ nameG (k == 0) n) w' ∧
      ∃ u, Wk B b w u ∧ Wk B b (u.setCell ⟨g, o + 1, none⟩ (.int .i64 ((k : Int) + 1))) w' := by
  have hk : k < al.length := (List.getElem?_eq_some_iff.1 he).1
  obtain ⟨ab, ao, c, rfl, hab, hcs⟩ := args_get hv hk
  obtain ⟨c0, c7, hc7, hx7⟩ := hcs k n e he
  have HC0 := Lib.hid c0
  have HR := Lib.hid (show ∃ c, CellsAt W0 ab (ao + k * 8 + 1) c ∧ ExAt W0 e c from ⟨c7, hc7, hx7⟩)
  have hgb : g ≠ b := h.box_ne hg (by decide)
  have hag : ab ≠ g := by omega
  have hga : g ≠ ab := by omega
  have HS := Lib.hid hS
  have HH := Lib.hid h
  have HG := Lib.hid hg
  have hk0 : (k : Int) ≤ 4000000 := by omega
  have hk00 : (0 : Int) ≤ (k : Int) := by omega
  have hk1 : (k : Int) < (al.length : Int) := by omega
  have hk2 : decide ((k : Int) < (al.length : Int)) = true := decide_eq_true hk1
  have hal0 : (al.length : Int) ≤ 4000000 := by omega
  obtain ⟨em, hem⟩ : ∃ g, emp n = g := ⟨_, rfl⟩
  have hem2 : n.toList.isEmpty = em := hem
  have H0 := Lib.hid h0
  have H1 := Lib.hid h1
  have HX : Hid (nameG (k == 0) n = (if k = 0 then [] else [44, 32]) ++ (if em then [] else n.data.toList ++ [58, 32])) := by
    unfold Hid nameG
    rw [hem]
    by_cases hk : k = 0
    · subst hk; rfl
    · have : (k == 0) = false := by rw [beq_eq_false_iff_ne]; exact hk
      rw [this, if_neg hk]; rfl
  rw [HX.out] at hn ⊢
  have HNN := Lib.hid hn
  have d0 := (hg.cell o).trans h0
  have d1 := (hg.cell (o + 1)).trans h1
  have hgl := hg.lt
  clear hv hal he hcs c0 hc7 hx7 hS h hg hn h0 h1 hem HX
  by_cases hz : k = 0
  · have z1 : decide (0 < k) = false := decide_eq_false (by omega)
    have z2 : ¬ 0 < k := by omega
    have HZ := Lib.hid hz
    rw [if_pos hz, List.nil_append] at HNN ⊢
    clear hz
    cases em
    · rw [if_neg (by simp)] at HNN ⊢
      go_enter Tryd.func83, Tryd.ntmps83
      have c0 := (HS.out.hW.cell (p := ⟨ab, ao + k * 8, none⟩) hab).trans HC0.out
      have hbw : ab < w.heap.size := Nat.lt_of_lt_of_le hab HS.out.hW.size
      have f1 := HG.out.fzn (o + 1)
      have HA5 := Lib.hid ((HH.out.drew).setO (show BoxAt w.drew g cur 127 from HG.out) (by decide) (by decide) (o + 1) (.int .i64 ((k : Int) + 1)))
      have hw5 := write2 n ⟨#[58, 32]⟩ _ HA5.out (by have := HNN.out; simp at this ⊢; show _ + (_ + 2) ≤ _; omega)
      rw [show (w.drew.setCell ⟨g, o + 1, none⟩ (.int .i64 ((k : Int) + 1))).heap.size = w.heap.size from World.size_setCell ..] at hw5
      have HW5 := Lib.hid hw5
      clear hw5
      go_wp2
      go_region
      go_wp2_with fail
      go_at_call 20
      refine HW5.out.mono ?_
      rintro e w5 ⟨rfl, h5, g5⟩
      have HA6 := Lib.hid h5
      have HK6 := Lib.hid g5
      clear h5 g5
      go_wp2
      go_ret
      obtain ⟨c7, hc7, hx7⟩ := HR.out
      refine ⟨⟨_, _, c7, rfl, hab, hc7, hx7⟩, by simpa using HA6.out, w.drew, (Wk.refl B b w).drew, HK6.out⟩
    · rw [if_pos rfl] at HNN ⊢
      go_enter Tryd.func83, Tryd.ntmps83
      have c0 := (HS.out.hW.cell (p := ⟨ab, ao + k * 8, none⟩) hab).trans HC0.out
      have hbw : ab < w.heap.size := Nat.lt_of_lt_of_le hab HS.out.hW.size
      have f1 := HG.out.fzn (o + 1)
      go_wp2
      go_region
      go_wp2
      go_ret
      obtain ⟨c7, hc7, hx7⟩ := HR.out
      refine ⟨⟨_, _, c7, rfl, hab, hc7, hx7⟩, ?_, w, (Wk.refl B b w), (Wk.refl _ _ _).drew⟩
      have := (HH.out.setO HG.out (by decide) (by decide) (o + 1) (.int .i64 ((k : Int) + 1))).drew
      simpa using this
  · have z1 : decide (0 < k) = true := decide_eq_true (by omega)
    have z2 : 0 < k := by omega
    rw [if_neg hz] at HNN ⊢
    clear hz d0 d1 hgl
    have d0 := (HG.out.cell o).trans H0.out
    have d1 := (HG.out.cell (o + 1)).trans H1.out
    have hgl := HG.out.lt
    cases em
    · rw [if_neg (by simp)] at HNN ⊢
      have HW := Lib.hid (write1 ⟨#[44, 32]⟩ w HH.out (by have := HNN.out; simp at this; show _ + 2 ≤ _; omega))
      go_enter Tryd.func83, Tryd.ntmps83
      go_wp2_with fail
      go_at_call 20
      refine HW.out.mono ?_
      rintro e w1 ⟨rfl, h1, g1⟩
      have HA1 := Lib.hid h1
      have HK1 := Lib.hid g1
      have HS1 := Lib.hid (HS.out.step g1)
      have HG1 := Lib.hid (HG.out.wk g1 hgb (by decide))
      have d0 := (HG1.out.cell o).trans H0.out
      have d1 := (HG1.out.cell (o + 1)).trans H1.out
      have hgl := HG1.out.lt
      clear h1 g1 HH HG HS
      have c0 := (HS1.out.hW.cell (p := ⟨ab, ao + k * 8, none⟩) hab).trans HC0.out
      have hbw : ab < w1.heap.size := Nat.lt_of_lt_of_le hab HS1.out.hW.size
      have f1 := HG1.out.fzn (o + 1)
      have HA5 := Lib.hid ((HA1.out.drew).setO (show BoxAt w1.drew g cur 127 from HG1.out) (by decide) (by decide) (o + 1) (.int .i64 ((k : Int) + 1)))
      have hw5 := write2 n ⟨#[58, 32]⟩ _ HA5.out (by have := HNN.out; simp at this ⊢; show _ + (_ + 2) ≤ _; omega)
      rw [show (w1.drew.setCell ⟨g, o + 1, none⟩ (.int .i64 ((k : Int) + 1))).heap.size = w1.heap.size from World.size_setCell ..] at hw5
      have HW5 := Lib.hid hw5
      clear hw5
      go_wp2
      go_region
      go_wp2_with fail
      go_at_call 20
      refine HW5.out.mono ?_
      rintro e w5 ⟨rfl, h5, g5⟩
      have HA6 := Lib.hid h5
      have HK6 := Lib.hid g5
      clear h5 g5
      go_wp2
      go_ret
      obtain ⟨c7, hc7, hx7⟩ := HR.out
      refine ⟨⟨_, _, c7, rfl, hab, hc7, hx7⟩, by simpa using HA6.out, w1.drew, HK1.out.drew, HK6.out⟩
    · rw [if_pos rfl] at HNN ⊢
      have HW := Lib.hid (write1 ⟨#[44, 32]⟩ w HH.out (by have := HNN.out; simp at this; show _ + 2 ≤ _; omega))
      go_enter Tryd.func83, Tryd.ntmps83
      go_wp2_with fail
      go_at_call 20
      refine HW.out.mono ?_
      rintro e w1 ⟨rfl, h1, g1⟩
      have HA1 := Lib.hid h1
      have HK1 := Lib.hid g1
      have HS1 := Lib.hid (HS.out.step g1)
      have HG1 := Lib.hid (HG.out.wk g1 hgb (by decide))
      have d0 := (HG1.out.cell o).trans H0.out
      have d1 := (HG1.out.cell (o + 1)).trans H1.out
      have hgl := HG1.out.lt
      clear h1 g1 HH HG HS
      have c0 := (HS1.out.hW.cell (p := ⟨ab, ao + k * 8, none⟩) hab).trans HC0.out
      have hbw : ab < w1.heap.size := Nat.lt_of_lt_of_le hab HS1.out.hW.size
      have f1 := HG1.out.fzn (o + 1)
      go_wp2
      go_region
      go_wp2
      go_ret
      obtain ⟨c7, hc7, hx7⟩ := HR.out
      refine ⟨⟨_, _, c7, rfl, hab, hc7, hx7⟩, ?_, w1, HK1.out, (Wk.refl _ _ _).drew⟩
      have := (HA1.out.setO HG1.out (by decide) (by decide) (o + 1) (.int .i64 ((k : Int) + 1))).drew
      simpa using this
end Go.Proofs.YtminidoiaplhjaaDoor
