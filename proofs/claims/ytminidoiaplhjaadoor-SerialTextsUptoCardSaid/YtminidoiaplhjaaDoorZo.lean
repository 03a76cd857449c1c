/-
  Package serial: places; the knot.
-/
import Derived.Test.YtminidoiaplhjaaDoorZn
namespace Go.Proofs.YtminidoiaplhjaaDoor
open Go.RowKit
set_option linter.unusedVariables false
set_option linter.unusedSimpArgs false

theorem exAt_parts {W0 : World} {k : Int} {t n a : ByteArray} {al : List AR} {i : Option EX} {vs : List VA} {c : C7} (h : ExAt W0 (.mk k t n a al i vs) c) :
    ∃ A1 c1 p A2 c2, c = ⟨.int .i64 k, .string t, .string n, .string a, .slice A1 al.length c1, .pointer p, .slice A2 vs.length c2⟩ ∧ OAt W0 i (.pointer p) ∧ LieAt (VsAt W0 vs) (.slice A2 vs.length c2) vs.length := by
  obtain ⟨ck, ct, cn, ca, cal, ci, cvs⟩ := c
  rw [ExAt] at h
  obtain ⟨e1, e2, e3, e4, ⟨A1, c1, e5, _⟩, e6, h7⟩ := h
  have h7' := h7
  obtain ⟨A2, c2, e7, _⟩ := h7'
  dsimp only at e1 e2 e3 e4 e5 e6 e7 h7
  obtain ⟨p, rfl⟩ := o_shape e6
  subst e1 e2 e3 e4 e5 e7
  exact ⟨_, _, _, _, _, rfl, e6, h7⟩
set_option maxHeartbeats 2000000 in
set_option maxRecDepth 100000 in
theorem wplace_plain {W0 : World} {B b m : Nat} (k : Int) (t n a : ByteArray) (al : List AR) (i : Option EX) (vs : List VA) (hk : k ≠ 7) (hI : WiTo W0 B b m (.mk k t n a al i vs)) : WpTo W0 B b m (.mk k t n a al i vs) := by
  intro q o c bs w hS hq hc hx h hn
  rw [plT_plain m k t n a al i vs hk] at hn ⊢
  obtain ⟨T, hT⟩ : ∃ T, exT m (.mk k t n a al i vs) = T := ⟨_, rfl⟩
  have hi := fun bs w h1 h2 h3 => hI q o c bs w h1 hq hc hx h2 h3
  rw [hT] at hn ⊢
  simp only [hT] at hi
  have HI := Lib.hid hi
  have HX := Lib.hid hx
  obtain ⟨A1, c1, p, A2, c2, rfl, _, _⟩ := exAt_parts hx
  have HW := Lib.hid (write1 ⟨#[123, 32]⟩ w h (by simp at hn; show _ + 2 ≤ _; omega))
  have hne7 : (k != 7) = true := bne_iff_ne.2 hk
  have HS := Lib.hid hS
  have HC := Lib.hid hc
  have HN := Lib.hid hn
  have HH := Lib.hid h
  clear hi hT hx hS hc h hn hI
  go_enter_defers Tryd.func59, Tryd.ntmps59
  go_wp2_with fail
  go_at_call 20
  refine HW.out.mono ?_
  rintro e w1 ⟨rfl, h1, g1⟩
  obtain ⟨⟨k0, k1, k2, k3, k4, k5, k6⟩, hlt⟩ := (HS.out.step g1).at_ hq HC.out
  dsimp only at k0 k1 k2 k3 k4 k5 k6
  have HA1 := Lib.hid (h1.alloc (.cells #[.string ⟨#[125]⟩] 9))
  have HK1 := Lib.hid (g1.alloc h1.le (.cells #[.string ⟨#[125]⟩] 9))
  have HB1 := Lib.hid (BoxAt.new w1 #[.string ⟨#[125]⟩] 9)
  have HI1 := Lib.hid (HI.out _ _ (HS.out.step HK1.out) HA1.out (by have := HN.out; simp at this ⊢; omega))
  clear h1 g1
  go_wp2_with fail
  go_at_call 71
  refine HI1.out.mono ?_
  rintro e w2 ⟨rfl, h2, g2⟩
  have HW2 := Lib.hid (write1 ⟨#[32]⟩ w2 h2 (by have := HN.out; simp at this ⊢; show _ + 1 ≤ _; omega))
  have HB2 := Lib.hid (HB1.out.wk g2 (HA1.out.box_ne HB1.out (by decide)) (by decide))
  have HK2 := Lib.hid (HK1.out.trans g2)
  clear h2 g2
  go_wp2_with fail
  go_at_call 20
  refine HW2.out.mono ?_
  rintro e w3 ⟨rfl, h3, g3⟩
  have HA3 := Lib.hid h3
  have HK3 := Lib.hid (HK2.out.trans g3)
  have hbne : w1.heap.size ≠ b := HA1.out.box_ne HB1.out (by decide)
  have HB3 := Lib.hid (HB2.out.wk g3 hbne (by decide))
  clear h3 g3 hbne
  go_wp2
  refine leaves_cons (f := 20) (args := #[.pointer (some ⟨b, 0, none⟩), .slice (some ⟨w1.heap.size, 0, none⟩) 1 1]) (by simp) (by simp [go_sem]) ?_
  refine (writeD ⟨#[125]⟩ w1.heap.size 1 .returning w3 HA3.out HB3.out (by have := HN.out; simp at this ⊢; show _ + 1 ≤ _; omega)).mono ?_
  rintro e u' w4 ⟨rfl, rfl, h4, g4⟩
  simp [Leaves, settle, results, Tryd.results59]
  exact ⟨by simpa using h4, HK3.out.trans g4⟩
end Go.Proofs.YtminidoiaplhjaaDoor
