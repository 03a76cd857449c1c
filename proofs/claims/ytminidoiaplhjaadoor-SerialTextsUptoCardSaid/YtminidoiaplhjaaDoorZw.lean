/-
  Package serial: Entry, Resource.
-/
import Derived.Test.YtminidoiaplhjaaDoorZv
namespace Go.Proofs.YtminidoiaplhjaaDoor
open Go.RowKit
set_option linter.unusedVariables false
set_option linter.unusedSimpArgs false

theorem EV.flat (x : EV) : x.cells.toArray = #[.int .i64 x.ty, .int .i64 x.lv, .string x.tx, .string x.nm, .slice x.A x.val.length x.c, .slice x.A2 x.ats.length x.c2, .int .i64 x.fr, .int .i64 x.tu] := rfl
theorem res_one (x : EV) : resT [x] = x.text := by
  unfold resT resN
  simp [pieceT, sepT]
set_option maxHeartbeats 2000000 in
set_option maxRecDepth 100000 in
theorem sentry_any {W0 : World} (hM : MxW W0) (x : EV) (hx : x.At W0) (hf : x.fit) (h0 : x.text ≠ []) (hn : x.text.length ≤ 140737488355328) (w : World) (hW : Below W0.heap.size W0 w) :
    Calls Tryd.prog 6 #[x.v] w fun e w' => e = .returned (.string ⟨x.text.toArray⟩) ∧ Below w.heap.size w w' := by
  have hWs := hW.size
  obtain ⟨B, hB⟩ : ∃ B, w.heap.size + 1 = B := ⟨_, rfl⟩
  have hw1 : WrAt B B [] ((w.alloc x.obj).alloc (.cells #[.pointer none, .slice none 0 0] 46)) := by
    have := WrAt.start (w.alloc x.obj)
    rw [World.size_alloc, hB] at this
    exact this
  have hS : Sw W0 B B (((w.alloc x.obj).alloc (.cells #[.pointer none, .slice none 0 0] 46)).alloc x.obj) := ⟨by omega, ((hW.alloc hWs _).alloc (by simp; omega) _).alloc (by simp; omega) _⟩
  have hbx : BoxAt (((w.alloc x.obj).alloc (.cells #[.pointer none, .slice none 0 0] 46)).alloc x.obj) (B + 1) x.cells.toArray 29 := BoxAt.new' _ _ _ _ (by simp; omega)
  have hA := hw1.alloc x.obj
  have hne : B + 1 ≠ B := by omega
  have hst : ∀ W, Wk B B (((w.alloc x.obj).alloc (.cells #[.pointer none, .slice none 0 0] 46)).alloc x.obj) W → 0 < [x].length → CellsN W (B + 1) 0 [x] := fun W g _ => by
    have hb := hbx.wk g hne (by decide)
    refine ⟨hb.lt, fun j y hj i z hz => ?_⟩
    match j, hj with
    | 0, hj =>
      simp at hj
      subst hj
      rw [hb.cell, Nat.zero_mul, Nat.add_zero, Nat.zero_add]
      rw [List.getElem?_toArray]
      exact hz
  have hc := wents_any hM (bs := []) [x] (by simp) (fun y hy => by rw [List.mem_singleton] at hy; subst hy; exact ⟨hx, hf⟩) (B + 1) 0 1 (some ⟨B + 1, 0, none⟩) (fun _ => rfl) _ hst hS hA (by rw [res_one]; simpa using hn)
  rw [res_one, List.nil_append] at hc
  have HC := Lib.hid hc
  have H0 := Lib.hid h0
  have HK := Lib.hid (show Below w.heap.size w (((w.alloc x.obj).alloc (.cells #[.pointer none, .slice none 0 0] 46)).alloc x.obj) from (((Below.refl _ _).alloc (Nat.le_refl _) _).alloc (by simp) _).alloc (by simp; omega) _)
  obtain ⟨T, hT⟩ : ∃ T, x.text = T := ⟨_, rfl⟩
  rw [hT] at HC H0 ⊢
  obtain ⟨xt, xl, xx, xn, xv, xa, xA, xc, xA2, xc2, xf, xu⟩ := x
  unfold EV.obj at HC HK
  unfold EV.v entV
  have HB := Lib.hid hB
  dsimp only at HC HK ⊢
  clear hc hst hA hbx hS hw1 hn h0 hf hx hT hB
  go_enter Tryd.func6, Tryd.ntmps6
  go_wp2_with fail
  go_at_call 12
  rw [HB.out]
  refine HC.out.mono ?_
  rintro e w2 ⟨rfl, h2, g2⟩
  have HS := Lib.hid (wr_String B B T w2 h2.bld H0.out)
  have HK2 := Lib.hid (HK.out.trans (g2.below.mono (by have := HB.out; omega)))
  have hs2 := h2.le
  clear h2 g2
  go_wp2_with fail
  go_at_call 13
  refine HS.out.mono ?_
  rintro e w3 ⟨rfl, h3⟩
  have HK3 := Lib.hid (HK2.out.trans (h3.mono (by have := HB.out; omega)))
  clear h3
  go_wp2
  go_ret
  exact ⟨rfl, HK3.out⟩
end Go.Proofs.YtminidoiaplhjaaDoor
