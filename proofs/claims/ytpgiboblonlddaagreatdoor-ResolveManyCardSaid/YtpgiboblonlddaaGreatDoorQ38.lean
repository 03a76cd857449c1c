/-
  Several texts put together (part 38): what the law and the program call, walked; their contracts.
-/
import Derived.Test.YtpgiboblonlddaaGreatDoorQ36
import Derived.Test.YtpgiboblonlddaaGreatDoorQ37
namespace Go.Proofs.YtpgiboblonlddaaGreatDoor
open Go.RowKit Go.Shelf
set_option linter.unusedVariables false
set_option linter.unusedSimpArgs false
attribute [local go_sem] Oper.semAt_some
theorem CP.own {w V V' : World} {B : Nat} {l : List EL} {A : Option Addr} {c : Nat} {row : Option Nat} (h : CP w B l V A c) (hg : V.grownBy V' row) (hr : ∀ r, row = some r → ∃ o : Obj, V.heap[r]? = some o ∧ o.isCells = false) : CP w B l V' A c :=
  h.same fun g _ hgl ht => hg.block g hgl (fun e => by
    obtain ⟨o, h1, h2⟩ := hr g e.symm
    obtain ⟨cs, fz, ht⟩ := ht
    rw [ht] at h1
    cases h1
    cases h2)
theorem box_own {V V' : World} {k : Nat} {cs : Array Value} {t : TypeId} {row : Option Nat} (h : BoxAt V k cs t) (hg : V.grownBy V' row) (hr : ∀ r, row = some r → ∃ o : Obj, V.heap[r]? = some o ∧ o.isCells = false) : BoxAt V' k cs t := by
  refine (hg.block k h.lt (fun e => ?_)).trans h
  obtain ⟨o, h1, h2⟩ := hr k e.symm
  have h3 : V.heap[k]? = some (.cells cs t (0, 0)) := h
  rw [h3] at h1
  cases h1
  cases h2
set_option maxHeartbeats 16000000 in
set_option maxRecDepth 100000 in
theorem attr_in {w : World} (n : Nat) (hn : 3 ≤ n) (ty lv fr tu : Int) (tx nm0 nm : ByteArray) (A1 A2 : Option Addr) (n1 c1 len c2 : Nat) (X : Nat → AC) (P : Nat → List EL)
    (hX : ∀ x, PatAt w (P x) (.slice (X x).A (P x).length (X x).c) ∧ (X x).n = (P x).length ∧ (P x).length ≤ 4000000) (hlen : len ≤ 4000000)
    (hu : 0 < len → ∃ b off, A2 = some ⟨b, off, none⟩ ∧ b < w.heap.size ∧ ∀ j, j < len → w.cell? ⟨b, off + j * 2, none⟩ = some (.string (X j).t) ∧ w.cell? ⟨b, off + j * 2 + 1, none⟩ = some (.slice (X j).A (X j).n (X j).c))
    (W : World) (hW : Below w.heap.size w W) (z2 : (nm.toList == []) = false) :
    CallsIn Fence.wide n Tryz.prog 23 #[.agg #[.int .i64 ty, .int .i64 lv, .string tx, .string nm0, .slice A1 n1 c1, .slice A2 len c2, .int .i64 fr, .int .i64 tu], .string nm] W fun e w' =>
      (((∀ x, x < len → ¬ (X x).t = nm) ∧ e = .returned (.tuple #[.slice none 0 0, .bool false])) ∨
        (∃ x A c, x < len ∧ (X x).t = nm ∧ (∀ y, x < y → y < len → ¬ (X y).t = nm) ∧ e = .returned (.tuple #[.slice A (P x).length c, .bool true]) ∧ CP w W.heap.size (P x) w' A c)) ∧ Below W.heap.size W w' := by
  have h1 : 1 ≤ n := by omega
  have hWs := hW.size
  refine callsIn_of_wp_marks Tryz.func23 rfl trivial ?_ rfl
  simp only [Tryz.ntmps23, List.size_toArray, List.length_cons, List.length_nil, Nat.reduceAdd, Nat.reduceSub, Array.replicate_succ, Array.replicate_zero, List.push_toArray, List.append_toArray, List.nil_append, List.cons_append]
  gi_wp2_with (refine ⟨trivial, ?_⟩; gi_at_call 45; refine (backward_in Fence.wide (n - 1) trivial rfl _ _ _ _).mono ?_; rintro e w' ⟨rfl, rfl⟩)
  obtain ⟨W0, hW0⟩ : ∃ W0, ((((W.alloc (.cells #[.int .i64 ty, .int .i64 lv, .string tx, .string nm0, .slice A1 n1 c1, .slice A2 len c2, .int .i64 fr, .int .i64 tu] 89)).alloc (.cells #[.string nm] 9)).alloc (.cells #[.slice none 0 0] 86)).alloc (.cells #[.bool false] 4)).alloc (.cells #[.slice A2 len c2] 87) = W0 := ⟨_, rfl⟩
  have hs0 : W0.heap.size = W.heap.size + 5 := by rw [← hW0]; simp
  have b1 : BoxAt W0 (W.heap.size + 1) #[.string nm] 9 := by rw [← hW0]; exact (((BoxAt.new' _ _ _ _ (by simp)).alloc _).alloc _).alloc _
  have b2 : BoxAt W0 (W.heap.size + 1 + 1) #[.slice none 0 0] 86 := by rw [← hW0]; exact ((BoxAt.new' _ _ _ _ (by simp)).alloc _).alloc _
  have b3 : BoxAt W0 (W.heap.size + 1 + 1 + 1) #[.bool false] 4 := by rw [← hW0]; exact (BoxAt.new' _ _ _ _ (by simp)).alloc _
  have b4 : BoxAt W0 (W.heap.size + 1 + 1 + 1 + 1) #[.slice A2 len c2] 87 := by rw [← hW0]; exact BoxAt.new' _ _ _ _ (by simp)
  have hBW : Below W.heap.size W W0 := by
    rw [← hW0]
    exact (((((Below.refl _ _).alloc (Nat.le_refl _) _).alloc (by simp) _).alloc (by simp; omega) _).alloc (by simp; omega) _).alloc (by simp; omega) _
  have hw0 : Below w.heap.size w W0 := hW.trans (hBW.mono hWs)
  rw [hW0]
  clear hW0
  refine wpIn_rangeFunc_ownH rfl h1 (gf := 71) (lb := #[.pointer (some ⟨W.heap.size + 1 + 1 + 1 + 1, 0, none⟩)]) rfl trivial (enters_of Tryz.func71 (by kernel_rfl) rfl)
    (back_stops Fence.wide (n - 1) trivial rfl (by omega) (W.heap.size + 1 + 1 + 1 + 1) W0.heap.size len c2 A2 X hlen W0 (by omega) (Nat.le_refl _) (b4.cell 0) (fun h => by
      obtain ⟨b, off, e1, hb, hc⟩ := hu h
      exact ⟨b, off, e1, by have := hw0.size; omega, fun j hj => ⟨(hw0.cell (p := ⟨b, off + j * 2, none⟩) hb).trans (hc j hj).1, (hw0.cell (p := ⟨b, off + j * 2 + 1, none⟩) hb).trans (hc j hj).2⟩⟩)) belowK_t (belowK_b (Nat.le_refl _)) (Below.refl _ _) (fun _ => rfl)
    (fun pre V => (V.cell? ⟨W.heap.size + 1, 0, none⟩ = some (.string nm) ∧ V.cell? ⟨W.heap.size + 1 + 1, 0, none⟩ = some (.slice none 0 0) ∧ V.frozen? ⟨W.heap.size + 1 + 1, 0, none⟩ = false ∧ V.cell? ⟨W.heap.size + 1 + 1 + 1, 0, none⟩ = some (.bool false) ∧ V.frozen? ⟨W.heap.size + 1 + 1 + 1, 0, none⟩ = false ∧ ∀ y ∈ pre, ¬ (X y).t = nm) ∧ Below W0.heap.size W0 V)
    (fun c pre V => (c = .ret ∧ ∃ x pre', pre = pre' ++ [x] ∧ (∀ y ∈ pre', ¬ (X y).t = nm) ∧ (X x).t = nm ∧ ∃ A' c', V.cell? ⟨W.heap.size + 1 + 1, 0, none⟩ = some (.slice A' (P x).length c') ∧ V.cell? ⟨W.heap.size + 1 + 1 + 1, 0, none⟩ = some (.bool true) ∧ CP w W0.heap.size (P x) V A' c') ∧ Below W.heap.size W V)
    (OwnFrom.and (Own.from (fun s A B row hs hg hr => ⟨cell_kept hs.1 hg hr, cell_kept hs.2.1 hg hr, (frozen_kept hs.2.1 hg hr).trans hs.2.2.1, cell_kept hs.2.2.2.1 hg hr, (frozen_kept hs.2.2.2.1 hg hr).trans hs.2.2.2.2.1, hs.2.2.2.2.2⟩) _) (ownFrom_below (Nat.le_refl _) (Nat.le_refl _)))
    (fun c => OwnFrom.and (Own.from (fun s A B row hs hg hr => by
      obtain ⟨g1, x, pre', g2, g3, g4, A', c', g5, g6, g7⟩ := hs
      exact ⟨g1, x, pre', g2, g3, g4, A', c', cell_kept g5 hg hr, cell_kept g6 hg hr, g7.own hg hr⟩) _) (ownFrom_below (Nat.le_refl _) (by omega)))
    ⟨⟨b1.cell 0, b2.cell 0, Lib.frozen_of_heap b2 0, b3.cell 0, Lib.frozen_of_heap b3 0, fun y hy => by simp at hy⟩, Below.refl _ _⟩
    (fun x a' V => ∃ Bx, W0.heap.size ≤ Bx ∧ BoxAt V Bx #[.string (X x).t, .slice (X x).A (P x).length (X x).c] 128 ∧ a' = { tmps := #[.agg #[.int .i64 ty, .int .i64 lv, .string tx, .string nm0, .slice A1 n1 c1, .slice A2 len c2, .int .i64 fr, .int .i64 tu], .string nm, .pointer (some ⟨W.heap.size, 0, none⟩), .pointer (some ⟨W.heap.size + 1, 0, none⟩), .pointer (some ⟨W.heap.size + 1 + 1, 0, none⟩), .pointer (some ⟨W.heap.size + 1 + 1 + 1, 0, none⟩), undef, .pointer (some ⟨Bx, 0, none⟩), .string nm, .bool false, undef, undef, undef, undef, undef, undef, undef, .pointer (some ⟨W.heap.size, 5, none⟩), .slice A2 len c2, .func (.func 71) #[] #[.pointer (some ⟨W.heap.size + 1 + 1 + 1 + 1, 0, none⟩)], .int .i64 (x : Nat), .agg #[.string (X x).t, .slice (X x).A (P x).length (X x).c], undef, undef, undef, undef, undef, undef, undef], defers := [] })
    (fun x a' _ V V' row ⟨Bx, g1, g2, g3⟩ hg hr => ⟨Bx, g1, box_own g2 hg (fun r e => (hr r e).2), g3⟩) ?assign ?body ?done ?stop
  case assign =>
    rintro l pre x V K ⟨⟨i1, i2, i3, i4, i5, i6⟩, hB⟩ hK
    have hvs := hB.size
    have hal := fun (o : Obj) => (Below.refl V.heap.size V).alloc (Nat.le_refl _) o
    unfold AC.v
    gi_wp2
    exact hK _ _ ((KeepsOthers.alloc _ _).from _) ((hal _).mono hvs) ⟨⟨((hal _).cell (p := ⟨W.heap.size + 1, 0, none⟩) (by show W.heap.size + 1 < _; omega)).trans i1, ((hal _).cell (p := ⟨W.heap.size + 1 + 1, 0, none⟩) (by show W.heap.size + 1 + 1 < _; omega)).trans i2, ((hal _).frozen (p := ⟨W.heap.size + 1 + 1, 0, none⟩) (by show W.heap.size + 1 + 1 < _; omega)).trans i3, ((hal _).cell (p := ⟨W.heap.size + 1 + 1 + 1, 0, none⟩) (by show W.heap.size + 1 + 1 + 1 < _; omega)).trans i4, ((hal _).frozen (p := ⟨W.heap.size + 1 + 1 + 1, 0, none⟩) (by show W.heap.size + 1 + 1 + 1 < _; omega)).trans i5, i6⟩, hB.alloc hvs _⟩ ⟨V.heap.size, hvs, BoxAt.new _ _ _, rfl⟩
  case body =>
    rintro l pre x a' V hl ⟨r, hr⟩ ⟨⟨i1, i2, i3, i4, i5, i6⟩, hB⟩ ⟨Bx, hBx, bX, rfl⟩ hlt
    have hvs := hB.size
    have x0 : V.cell? ⟨Bx, 0, none⟩ = some (.string (X x).t) := bX.cell 0
    have x1 : V.cell? ⟨Bx, 1, none⟩ = some (.slice (X x).A (P x).length (X x).c) := bX.cell 1
    have hwV : Below w.heap.size w V := hw0.trans (hB.mono hw0.size)
    have hC := clone_any (P x) (X x).A (X x).c (hX x).1 (hX x).2.2 V hwV
    have HC := Lib.hid hC
    have H6 := Lib.hid i6
    have HX := Lib.hid hX
    clear hC i6 hX
    by_cases hn : (X x).t = nm
    · have n1 : ((X x).t.toList == nm.toList) = true := by rw [hn]; exact beq_self_eq_true _
      have Hn := Lib.hid hn
      clear hn
      gi_wp2_with (refine ⟨trivial, fun _ => by omega, ?_⟩; refine (CallsIn.inRound l (callsIn_wide.2 HC.out)).mono ?_; rintro e V2 ⟨A', c', rfl, hcp, hb2⟩; have j2 := (hb2.cell (p := ⟨W.heap.size + 1 + 1, 0, none⟩) (by show W.heap.size + 1 + 1 < _; omega)).trans i2; have j3 := (hb2.frozen (p := ⟨W.heap.size + 1 + 1, 0, none⟩) (by show W.heap.size + 1 + 1 < _; omega)).trans i3; have j4 := (hb2.cell (p := ⟨W.heap.size + 1 + 1 + 1, 0, none⟩) (by show W.heap.size + 1 + 1 + 1 < _; omega)).trans i4; have j5 := (hb2.frozen (p := ⟨W.heap.size + 1 + 1 + 1, 0, none⟩) (by show W.heap.size + 1 + 1 + 1 < _; omega)).trans i5)
      have P1 : ((V2.setCell ⟨W.heap.size + 1 + 1, 0, none⟩ (.slice A' (P x).length c')).setCell ⟨W.heap.size + 1 + 1 + 1, 0, none⟩ (.bool true)).cell? ⟨W.heap.size + 1 + 1, 0, none⟩ = some (.slice A' (P x).length c') :=
        (World.cell?_of_block (Below.heap_setCell _ _ _ _ (by show W.heap.size + 1 + 1 ≠ W.heap.size + 1 + 1 + 1; omega))).trans (World.cell?_setCell_same' V2 _ _ (by rw [j2]; rfl))
      have P2 : ((V2.setCell ⟨W.heap.size + 1 + 1, 0, none⟩ (.slice A' (P x).length c')).setCell ⟨W.heap.size + 1 + 1 + 1, 0, none⟩ (.bool true)).cell? ⟨W.heap.size + 1 + 1 + 1, 0, none⟩ = some (.bool true) :=
        World.cell?_setCell_same' _ _ _ (by rw [World.cell?_of_block (Below.heap_setCell V2 ⟨W.heap.size + 1 + 1, 0, none⟩ (.slice A' (P x).length c') (W.heap.size + 1 + 1 + 1) (by show W.heap.size + 1 + 1 + 1 ≠ W.heap.size + 1 + 1; omega)), j4]; rfl)
      have hcp0 : CP w W0.heap.size (P x) V2 A' c' := by
        obtain ⟨g1, g2, g3⟩ := hcp
        exact ⟨g1, g2, fun h0 => by obtain ⟨g, news, e1, hg, hr⟩ := g3 h0; exact ⟨g, news, e1, by omega, hr⟩⟩
      have hcp2 := (hcp0.set ⟨W.heap.size + 1 + 1, 0, none⟩ (by show W.heap.size + 1 + 1 < W0.heap.size; omega) (.slice A' (P x).length c')).set ⟨W.heap.size + 1 + 1 + 1, 0, none⟩ (by show W.heap.size + 1 + 1 + 1 < W0.heap.size; omega) (.bool true)
      have hV2 : Below W.heap.size W V2 := (hBW.trans (hB.mono (by omega))).trans (hb2.mono (by omega))
      exact ⟨(KeepsFrom.trans ⟨hb2.size, fun k o _ hk _ => (hb2.block k (Array.getElem?_eq_some_iff.1 hk).1).trans hk⟩ (((KeepsOthers.setCell V2 ⟨W.heap.size + 1 + 1, 0, none⟩ (.slice A' (P x).length c')).trans (KeepsOthers.setCell _ ⟨W.heap.size + 1 + 1 + 1, 0, none⟩ (.bool true))).from _)), ⟨rfl, x, pre, rfl, H6.out, Hn.out, A', c', P1, P2, hcp2⟩,
        (hV2.setCell (p := ⟨W.heap.size + 1 + 1, 0, none⟩) (by show W.heap.size ≤ W.heap.size + 1 + 1; omega) _).setCell (p := ⟨W.heap.size + 1 + 1 + 1, 0, none⟩) (by show W.heap.size ≤ W.heap.size + 1 + 1 + 1; omega) _⟩
    · have n1 : ((X x).t.toList == nm.toList) = false := by
        rw [beq_eq_false_iff_ne]
        intro h
        apply hn
        apply bytes_eq
        rw [Lib.toList_data, Lib.toList_data] at h
        exact h
      have Hn := Lib.hid hn
      clear hn
      gi_wp2
      refine ⟨KeepsFrom.refl _ _, Below.refl _ _, ⟨i1, i2, i3, i4, i5, fun y hy => ?_⟩, hB⟩
      rcases List.mem_append.1 hy with h | h
      · exact H6.out y h
      · simp at h
        subst h
        exact Hn.out
  case done =>
    rintro D xs V hD rfl ⟨⟨i1, i2, i3, i4, i5, i6⟩, hB⟩ hK
    clear hX
    have H6 := Lib.hid i6
    clear i6
    gi_wp2
    have P1 : ((V.setCell ⟨W.heap.size + 1 + 1, 0, none⟩ (.slice none 0 0)).setCell ⟨W.heap.size + 1 + 1 + 1, 0, none⟩ (.bool false)).cell? ⟨W.heap.size + 1 + 1, 0, none⟩ = some (.slice none 0 0) :=
      (World.cell?_of_block (Below.heap_setCell _ _ _ _ (by show W.heap.size + 1 + 1 ≠ W.heap.size + 1 + 1 + 1; omega))).trans (World.cell?_setCell_same' V _ _ (by rw [i2]; rfl))
    have P2 : ((V.setCell ⟨W.heap.size + 1 + 1, 0, none⟩ (.slice none 0 0)).setCell ⟨W.heap.size + 1 + 1 + 1, 0, none⟩ (.bool false)).cell? ⟨W.heap.size + 1 + 1 + 1, 0, none⟩ = some (.bool false) :=
      World.cell?_setCell_same' _ _ _ (by rw [World.cell?_of_block (Below.heap_setCell V ⟨W.heap.size + 1 + 1, 0, none⟩ (.slice none 0 0) (W.heap.size + 1 + 1 + 1) (by show W.heap.size + 1 + 1 + 1 ≠ W.heap.size + 1 + 1; omega)), i4]; rfl)
    have hK' := ((KeepsOthers.setCell V ⟨W.heap.size + 1 + 1, 0, none⟩ (.slice none 0 0)).trans (KeepsOthers.setCell _ ⟨W.heap.size + 1 + 1 + 1, 0, none⟩ (.bool false))).same D _ hK rfl
    have hZ : Below W.heap.size W ((V.setCell ⟨W.heap.size + 1 + 1, 0, none⟩ (.slice none 0 0)).setCell ⟨W.heap.size + 1 + 1 + 1, 0, none⟩ (.bool false)) := ((hBW.trans (hB.mono (by omega))).setCell (p := ⟨W.heap.size + 1 + 1, 0, none⟩) (by show W.heap.size ≤ W.heap.size + 1 + 1; omega) _).setCell (p := ⟨W.heap.size + 1 + 1 + 1, 0, none⟩) (by show W.heap.size ≤ W.heap.size + 1 + 1 + 1; omega) _
    generalize ((V.setCell ⟨W.heap.size + 1 + 1, 0, none⟩ (.slice none 0 0)).setCell ⟨W.heap.size + 1 + 1 + 1, 0, none⟩ (.bool false)) = Z at *
    refine ⟨by simp, .inl ⟨_, _, rfl, run_takeDeferred hK', ?_⟩⟩
    have hc4 := cell_kept P1 (grownBy_putObj' _ D (.deferred none)) (fun r e => by cases e; exact ⟨_, hK', rfl⟩)
    have hc5 := cell_kept P2 (grownBy_putObj' _ D (.deferred none)) (fun r e => by cases e; exact ⟨_, hK', rfl⟩)
    refine ⟨.tuple #[.slice none 0 0, .bool false], ?_, .inl ⟨fun x hx => H6.out x (by simp only [bwd, List.mem_map, List.mem_range]; exact ⟨len - 1 - x, by omega, by omega⟩), rfl⟩, hZ.trans (belowK_b (w := W) (Nat.le_refl _) _ D _ _ (by omega) hK' rfl rfl)⟩
    simp [results, Tryz.results23, go_sem, hc4, hc5]
  case stop =>
    rintro D c pre V hD ⟨k, hk, rfl⟩ ⟨⟨rfl, x, pre', hpre, hno, hyes, A', c', g5, g6, hcp⟩, hB⟩ hK
    clear hX
    have Hpre := Lib.hid hpre
    have Hno := Lib.hid hno
    have Hyes := Lib.hid hyes
    clear hpre hno hyes
    gi_wp2
    refine ⟨by simp, .inl ⟨_, _, rfl, run_takeDeferred hK, ?_⟩⟩
    have hc4 := cell_kept g5 (grownBy_putObj' _ D (.deferred none)) (fun r e => by cases e; exact ⟨_, hK, rfl⟩)
    have hc5 := cell_kept g6 (grownBy_putObj' _ D (.deferred none)) (fun r e => by cases e; exact ⟨_, hK, rfl⟩)
    have hcp3 := hcp.own (grownBy_putObj' V D (.deferred none)) (fun r e => by cases e; exact ⟨_, hK, rfl⟩)
    have hZ : Below W.heap.size W (V.putObj D (.deferred none)) := hB.trans (belowK_b (w := W) (Nat.le_refl _) V D _ _ (by omega) hK rfl rfl)
    obtain ⟨k', rfl⟩ : ∃ k', k = k' + 1 := by
      cases k with
      | zero => have := Hpre.out; simp [bwd] at this
      | succ k' => exact ⟨k', rfl⟩
    have he := Hpre.out
    rw [bwd_succ] at he
    obtain ⟨e1, e2⟩ := List.append_inj' he rfl
    simp only [List.cons.injEq, and_true] at e2
    have hno2 := Hno.out
    rw [← e1] at hno2
    refine ⟨.tuple #[.slice A' (P x).length c', .bool true], ?_, .inr ⟨x, A', c', by omega, Hyes.out, fun y hy1 hy2 => hno2 y (by simp only [bwd, List.mem_map, List.mem_range]; exact ⟨len - 1 - y, by omega, by omega⟩), rfl, hcp3.mono (by omega)⟩, hZ⟩
    simp [results, Tryz.results23, go_sem, hc4, hc5]
end Go.Proofs.YtpgiboblonlddaaGreatDoor

namespace Go.Proofs.YtpgiboblonlddaaGreatDoor
open Go.RowKit
set_option linter.unusedVariables false
set_option linter.unusedSimpArgs false
theorem lastA_none (nm : ByteArray) : ∀ (l : List AT) (z : Bool × List EL), (∀ (y : Nat) (t : ByteArray) (p : List EL), l[y]? = some (AT.mk t p) → ¬ t = nm) → lastA nm l z = z
  | [], z, _ => rfl
  | .mk t p :: r, z, h => by
    rw [lastA, if_neg (h 0 t p rfl)]
    exact lastA_none nm r z (fun y t' p' hy => h (y + 1) t' p' (by simpa using hy))
theorem lastA_some (nm : ByteArray) : ∀ (l : List AT) (z : Bool × List EL) (x : Nat) (t : ByteArray) (p : List EL), l[x]? = some (.mk t p) → t = nm → (∀ (y : Nat) (t' : ByteArray) (p' : List EL), x < y → l[y]? = some (AT.mk t' p') → ¬ t' = nm) → lastA nm l z = (true, p)
  | [], z, x, t, p, h, _, _ => by simp at h
  | .mk t0 p0 :: r, z, 0, t, p, h, ht, hy => by
    simp at h
    obtain ⟨rfl, rfl⟩ := h
    rw [lastA, if_pos ht]
    exact lastA_none nm r _ (fun y t' p' h2 => hy (y + 1) t' p' (by omega) (by simpa using h2))
  | .mk t0 p0 :: r, z, x + 1, t, p, h, ht, hy => by
    rw [lastA]
    exact lastA_some nm r _ x t p (by simpa using h) ht (fun y t' p' h1 h2 => hy (y + 1) t' p' (by omega) (by simpa using h2))
theorem ats_cells {w : World} {ats : List AT} {A2 : Option Addr} {c2 : Nat} (hu : LieAt (TsAt w ats) (.slice A2 ats.length c2) ats.length) : ∃ (X : Nat → AC) (P : Nat → List EL),
    (∀ x, PatAt w (P x) (.slice (X x).A (P x).length (X x).c) ∧ (X x).n = (P x).length ∧ (P x = [] ∨ ∃ t, ats[x]? = some (.mk t (P x)))) ∧ (∀ x t p, ats[x]? = some (.mk t p) → (X x).t = t ∧ P x = p) ∧
    (0 < ats.length → ∃ b off, A2 = some ⟨b, off, none⟩ ∧ b < w.heap.size ∧ ∀ j, j < ats.length → w.cell? ⟨b, off + j * 2, none⟩ = some (.string (X j).t) ∧ w.cell? ⟨b, off + j * 2 + 1, none⟩ = some (.slice (X j).A (X j).n (X j).c)) := by
  by_cases h0 : 0 < ats.length
  · obtain ⟨b, o, c', e, hb, hcs⟩ := ats_get hu h0
    cases e
    have hx : ∀ x, ∃ a : AC × List EL, PatAt w a.2 (.slice a.1.A a.2.length a.1.c) ∧ a.1.n = a.2.length ∧ (a.2 = [] ∨ ∃ t, ats[x]? = some (.mk t a.2)) ∧ (∀ t p, ats[x]? = some (.mk t p) → a.1.t = t ∧ a.2 = p) ∧
        (x < ats.length → w.cell? ⟨b, o + x * 2, none⟩ = some (.string a.1.t) ∧ w.cell? ⟨b, o + x * 2 + 1, none⟩ = some (.slice a.1.A a.1.n a.1.c)) := by
      intro x
      by_cases hxl : x < ats.length
      · obtain ⟨t, p, hel⟩ : ∃ t p, ats[x]? = some (.mk t p) := by
          cases e : ats[x] with
          | mk t p => exact ⟨t, p, by rw [List.getElem?_eq_getElem hxl, e]⟩
        obtain ⟨k0, u, k1, hp⟩ := hcs x t p hel
        have hp2 := hp
        obtain ⟨A4, c4, rfl, _, _, _⟩ := hp2
        refine ⟨⟨⟨t, A4, p.length, c4⟩, p⟩, hp, rfl, .inr ⟨t, hel⟩, fun t' p' h => ?_, fun _ => ⟨k0, k1⟩⟩
        rw [hel] at h
        cases h
        exact ⟨rfl, rfl⟩
      · refine ⟨⟨⟨⟨#[]⟩, none, 0, 0⟩, []⟩, nil_pat w, rfl, .inl rfl, fun t p h => ?_, fun h => absurd h hxl⟩
        rw [List.getElem?_eq_none (by omega)] at h
        cases h
    exact ⟨fun x => (Classical.choose (hx x)).1, fun x => (Classical.choose (hx x)).2, fun x => ⟨(Classical.choose_spec (hx x)).1, (Classical.choose_spec (hx x)).2.1, (Classical.choose_spec (hx x)).2.2.1⟩, fun x => (Classical.choose_spec (hx x)).2.2.2.1, fun _ => ⟨b, o, rfl, hb, fun j hj => (Classical.choose_spec (hx j)).2.2.2.2 hj⟩⟩
  · have hno : ∀ (x : Nat) (t : ByteArray) (p : List EL), ¬ ats[x]? = some (AT.mk t p) := fun x t p h => by
      rw [List.getElem?_eq_none (by omega)] at h
      cases h
    exact ⟨fun _ => ⟨⟨#[]⟩, none, 0, 0⟩, fun _ => [], fun x => ⟨nil_pat w, rfl, .inl rfl⟩, fun x t p h => absurd h (hno x t p), fun h => absurd h h0⟩
theorem attr_any {w : World} (ty lv fr tu : Int) (tx nm0 nm : ByteArray) (val : List EL) (ats : List AT) (v u : Value) (hv : PatAt w val v) (hu : LieAt (TsAt w ats) u ats.length) (hsz : sizeEs val + sizeTs ats ≤ 4000000) (W : World) (hW : Below w.heap.size w W) :
    Calls Tryz.prog 23 #[entV ty lv tx nm0 v u fr tu, .string nm] W fun e w' => ∃ A c, e = .returned (.tuple #[.slice A (attrF val ats nm).2.length c, .bool (attrF val ats nm).1]) ∧ CP w W.heap.size (attrF val ats nm).2 w' A c ∧ Below W.heap.size W w' := by
  have hvp := hv
  have hup := hu
  obtain ⟨A1, c1, rfl, _⟩ := hv
  obtain ⟨A2, c2, rfl, _⟩ := hu
  have hvl := sizeEs_len8 val
  have hal := sizeTs_length ats
  by_cases hz : nm.size = 0
  · have z1 : nm.toList = [] := by
      rw [Lib.toList_data]
      exact List.eq_nil_of_length_eq_zero (by rw [size_data]; exact hz)
    have ea : attrF val ats nm = (decide (0 < val.length), val) := by unfold attrF; rw [if_pos hz]
    rw [ea]
    exact attr_empty ty lv fr tu tx nm0 nm val A1 A2 c1 ats.length c2 hvp (by omega) W hW (by rw [z1]; rfl) (by rw [z1]; rfl)
  · have z1 : ¬ nm.toList = [] := by
      rw [Lib.toList_data]
      intro h
      apply hz
      rw [← size_data, h]
      rfl
    have ea : attrF val ats nm = lastA nm ats (false, []) := by unfold attrF; rw [if_neg hz]
    rw [ea]
    obtain ⟨X, P, x1, x2, x3⟩ := ats_cells hup
    have hPl : ∀ x, (P x).length ≤ 4000000 := fun x => by
      rcases (x1 x).2.2 with h | ⟨t, h⟩
      · rw [h]; simp
      · have h2 := mem_Ts8 (List.mem_of_getElem? h)
        have h3 := sizeEs_len8 (P x)
        omega
    have hat : ∀ x, x < ats.length → ∃ t p, ats[x]? = some (.mk t p) := fun x hx => by
      cases e : ats[x] with
      | mk t p => exact ⟨t, p, by rw [List.getElem?_eq_getElem hx, e]⟩
    refine ((callsIn_wide (n := 3)).1 (attr_in 3 (Nat.le_refl _) ty lv fr tu tx nm0 nm A1 A2 val.length c1 ats.length c2 X P (fun x => ⟨(x1 x).1, (x1 x).2.1, hPl x⟩) (by omega) x3 W hW (beq_eq_false_iff_ne.2 z1))).mono ?_
    rintro e w' ⟨⟨hno, rfl⟩ | ⟨x, A, c, hxl, hyes, hlt, rfl, hp⟩, hB⟩
    · have : lastA nm ats (false, []) = (false, []) := lastA_none nm ats _ (fun y t p hy => by
        have hyl : y < ats.length := (List.getElem?_eq_some_iff.1 hy).1
        rw [← (x2 y t p hy).1]
        exact hno y hyl)
      rw [this]
      exact ⟨none, 0, rfl, ⟨Nat.le_refl _, Nat.zero_le _, fun h => absurd h (by simp)⟩, hB⟩
    · obtain ⟨t, p, hel⟩ := hat x hxl
      obtain ⟨e1, e2⟩ := x2 x t p hel
      have : lastA nm ats (false, []) = (true, P x) := lastA_some nm ats _ x t (P x) (by rw [e2]; exact hel) (by rw [← e1]; exact hyes) (fun y t' p' h1 h2 => by
        have hyl : y < ats.length := (List.getElem?_eq_some_iff.1 h2).1
        rw [← (x2 y t' p' h2).1]
        exact hlt y h1 hyl)
      rw [this]
      exact ⟨A, c, rfl, hp, hB⟩
end Go.Proofs.YtpgiboblonlddaaGreatDoor
