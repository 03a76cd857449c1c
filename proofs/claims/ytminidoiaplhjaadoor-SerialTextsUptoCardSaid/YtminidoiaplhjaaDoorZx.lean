/-
  Package serial: Resource.
-/
import Derived.Test.YtminidoiaplhjaaDoorZw
namespace Go.Proofs.YtminidoiaplhjaaDoor
open Go.RowKit
set_option linter.unusedVariables false
set_option linter.unusedSimpArgs false

theorem piece_ne (l : List EV) (j : Nat) (h : j < l.length) (h0 : ∀ x ∈ l, x.text ≠ []) : pieceT l j ≠ [] := by
  obtain ⟨y, hy⟩ : ∃ y, l[j]? = some y := ⟨_, List.getElem?_eq_getElem h⟩
  rw [piece_some l j y hy]
  have := h0 y (List.mem_of_getElem? hy)
  intro e
  exact this (List.append_eq_nil_iff.1 e).2
theorem resT_ne (l : List EV) (h : l ≠ []) (h0 : ∀ x ∈ l, x.text ≠ []) : resT l ≠ [] := by
  obtain ⟨n, hn⟩ : ∃ n, l.length = n + 1 := ⟨l.length - 1, by cases l; exact absurd rfl h; simp⟩
  unfold resT
  rw [hn, resN_succ]
  intro e
  exact piece_ne l n (by omega) h0 (List.append_eq_nil_iff.1 e).2
set_option maxHeartbeats 1000000 in
set_option maxRecDepth 100000 in
theorem wr_String_nil (B b : Nat) (p : Value) (w : World) (hbk : w.heap[b]? = some (.cells #[p, .slice none 0 0] 46 (0, 0))) :
    Calls Tryd.prog 13 #[.pointer (some ⟨b, 0, none⟩)] w fun e w' => e = .returned (.string ⟨#[]⟩) ∧ Below B w w' := by
  have hUS : ∀ (W : World) (q : Option Addr), (Builtin.unsafeString_ #[60, 3] 9 #[.pointer q, .int .i64 0]).run Tryd.prog W = .ok (.string .empty) W := fun W q => Lib.run_unsafeString_none W _ _ _ q
  have c1 : w.drew.cell? ⟨b, 1, none⟩ = some (.slice none 0 0) := by
    have : w.drew.heap[b]? = some (.cells #[p, .slice none 0 0] 46 (0, 0)) := hbk
    rw [Lib.cell_of_heap this]; rfl
  have hSD : (Builtin.unsafeSliceData_ #[42] 60 #[.slice none 0 0]).run Tryd.prog w.drew = .ok (.pointer none) w.drew := rfl
  have mixed : Tryd.prog.follows Departure.mixedOrders = true := by kernel_rfl
  go_enter Tryd.func13, Tryd.ntmps13
  go_wp2
  go_region_o
  all_goals (go_wp2; go_ret; exact ⟨rfl, Below.drew (Below.refl B w)⟩)
set_option maxHeartbeats 1000000 in
set_option maxRecDepth 100000 in
theorem wents_nil (b : Nat) (A : Option Addr) (n : Nat) (w : World) : Calls Tryd.prog 12 #[.pointer (some ⟨b, 0, none⟩), .slice A 0 n] w fun e w' => e = .returned (.tuple #[]) ∧ w' = w := by
  go_enter Tryd.func12, Tryd.ntmps12
  go_wp2
  go_loopw [8] (fun t8 wr => t8 = .int .i64 0 ∧ wr = w) (fun _ _ => 0)
  case atStart => exact ⟨rfl, rfl⟩
  case round =>
    obtain ⟨rfl, rfl⟩ := hrel
    go_wp2
    go_end0
    exact ⟨rfl, rfl⟩
set_option maxHeartbeats 2000000 in
set_option maxRecDepth 100000 in
theorem sres_any {W0 : World} (hM : MxW W0) (l : List EV) (hl : l.length ≤ 4000000) (hall : ∀ x ∈ l, x.At W0 ∧ x.fit) (h0 : ∀ x ∈ l, x.text ≠ []) (lb lo n : Nat) (A : Option Addr) (hA : 0 < l.length → A = some ⟨lb, lo, none⟩) (hcs : 0 < l.length → CellsN W0 lb lo l) (hn : (resT l).length ≤ 140737488355328) (w : World) (hW : Below W0.heap.size W0 w) :
    Calls Tryd.prog 8 #[.slice A l.length n] w fun e w' => e = .returned (.string ⟨(resT l).toArray⟩) ∧ Below w.heap.size w w' := by
  by_cases hz : l = []
  · subst hz
    have he : resT ([] : List EV) = [] := rfl
    rw [he]
    have HK := Lib.hid (show Below w.heap.size w (w.alloc (.cells #[.pointer none, .slice none 0 0] 46)) from (Below.refl _ _).alloc (Nat.le_refl _) _)
    have HS := Lib.hid (wr_String_nil w.heap.size w.heap.size (.pointer none) (w.alloc (.cells #[.pointer none, .slice none 0 0] 46)) (BoxAt.new w _ _))
    have HE := Lib.hid (wents_nil w.heap.size A n (w.alloc (.cells #[.pointer none, .slice none 0 0] 46)))
    clear hM hall h0 hA hcs hn hW hl he
    go_enter Tryd.func8, Tryd.ntmps8
    go_wp2_with fail
    go_at_call 12
    refine HE.out.mono ?_
    rintro e w2 ⟨rfl, rfl⟩
    go_wp2_with fail
    go_at_call 13
    refine HS.out.mono ?_
    rintro e w3 ⟨rfl, h3⟩
    have HK3 := Lib.hid (HK.out.trans h3)
    clear h3
    go_wp2
    go_ret
    exact ⟨rfl, HK3.out⟩
  · have hne := resT_ne l hz h0
    have hWs := hW.size
    have hw1 : WrAt w.heap.size w.heap.size [] (w.alloc (.cells #[.pointer none, .slice none 0 0] 46)) := WrAt.start w
    have hS : Sw W0 w.heap.size w.heap.size (w.alloc (.cells #[.pointer none, .slice none 0 0] 46)) := ⟨hWs, hW.alloc hWs _⟩
    have hst : ∀ W, Wk w.heap.size w.heap.size (w.alloc (.cells #[.pointer none, .slice none 0 0] 46)) W → 0 < l.length → CellsN W lb lo l := fun W g hp => by
      obtain ⟨h1, h2⟩ := hcs hp
      have hb := (hS.step g).hW
      exact ⟨Nat.lt_of_lt_of_le h1 hb.size, fun j x hj i y hy => (hb.cell (p := ⟨lb, lo + j * 8 + i, none⟩) h1).trans (h2 j x hj i y hy)⟩
    have hc := wents_any hM (bs := []) l hl hall lb lo n A hA _ hst hS hw1 (by simpa using hn)
    rw [List.nil_append] at hc
    have HC := Lib.hid hc
    have HNe := Lib.hid hne
    have HK := Lib.hid (show Below w.heap.size w (w.alloc (.cells #[.pointer none, .slice none 0 0] 46)) from (Below.refl _ _).alloc (Nat.le_refl _) _)
    obtain ⟨T, hT⟩ : ∃ T, resT l = T := ⟨_, rfl⟩
    rw [hT] at HC HNe ⊢
    clear hM hall h0 hA hcs hn hW hl hne hc hst hS hw1 hT hz
    go_enter Tryd.func8, Tryd.ntmps8
    go_wp2_with fail
    go_at_call 12
    refine HC.out.mono ?_
    rintro e w2 ⟨rfl, h2, g2⟩
    have HS := Lib.hid (wr_String w.heap.size w.heap.size T w2 h2.bld HNe.out)
    have HK2 := Lib.hid (HK.out.trans g2.below)
    clear h2 g2
    go_wp2_with fail
    go_at_call 13
    refine HS.out.mono ?_
    rintro e w3 ⟨rfl, h3⟩
    have HK3 := Lib.hid (HK2.out.trans h3)
    clear h3
    go_wp2
    go_ret
    exact ⟨rfl, HK3.out⟩
end Go.Proofs.YtminidoiaplhjaaDoor
