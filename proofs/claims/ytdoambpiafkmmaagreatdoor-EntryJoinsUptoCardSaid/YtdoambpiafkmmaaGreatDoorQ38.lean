/-
  Several texts put together (part 38): what the law and the program call, walked; their contracts.
-/
import Derived.Test.YtdoambpiafkmmaaGreatDoorQ37
namespace Go.Proofs.YtdoambpiafkmmaaGreatDoor
open Go.RowKit Go.Maps
set_option linter.unusedVariables false
set_option linter.unusedSimpArgs false
section
variable {B g cap rb : Nat} {W W' : World} {cs : Array Value} {x1 ys : List Value} {c : C7} {nv v : Value} {b1 b2 : List Nat} {fs : List Fr} {top : Fr}
theorem own_sub (al nv : Value) (b : Nat) : b ∈ al.ownBlock.toList ++ (mapBlockOf nv).toList ↔ al.ownBlock = some b ∨ nv = .map (some b) := by
  rw [List.mem_append, Option.mem_toList, Option.mem_toList]
  constructor
  · rintro (h | h)
    · exact .inl h
    · right
      cases nv <;> simp [mapBlockOf] at h
      subst h
      rfl
  · rintro (h | h)
    · exact .inl h
    · right; subst h; rfl
theorem StP.added (h : StP B W g cap cs x1 ys c nv b1 b2 fs top) {X : ByteArray} {y : EX} {cy : C7} (hy : ExF W (FS B W g b1 b2) y cy)
    (A : Added B g (fs.length * 9) cs c.al nv top.xs.length ys (seenOf (top.xs ++ [.mk X y])) [.string X, cy.k, cy.t, cy.n, cy.a, cy.al, cy.i, cy.vs] W W') :
    StAt B W' (.slice (some ⟨g, 0, none⟩) (fs.length + 1) cap) fs ⟨top.e, top.xs ++ [.mk X y], true⟩ := by
  obtain ⟨hb, ⟨al', nv', hg', ho', hn', hal', hnv'⟩, hk⟩ := A
  have hnd := List.nodup_cons.1 h.nodup
  have hnd2 := List.nodup_append.1 hnd.2
  have hs := hb.size
  have hng : ∀ b ∈ b1 ++ b2, b ≠ g := fun b hb e => hnd.1 (e ▸ hb)
  have hal1 : ∀ b, al'.ownBlock = some b → b ∈ b2 ∨ W.heap.size ≤ b := fun b e => by
    rcases hal' with h1 | ⟨b', h1, h2⟩
    · exact .inl (h.al_mem (h1 ▸ e))
    · right; rw [e] at h1; cases h1; exact h2
  have hnv1 : ∀ b, nv' = .map (some b) → b ∈ b2 ∨ W.heap.size ≤ b := fun b e => by
    rcases hnv' with h1 | ⟨b', h1, h2⟩
    · exact .inl (h.nm_mem (h1 ▸ e))
    · right; rw [e] at h1; cases h1; exact h2
  have hnew : ∀ b ∈ al'.ownBlock.toList ++ (mapBlockOf nv').toList, b ∈ b2 ∨ W.heap.size ≤ b := fun b hb => by
    rcases (own_sub _ _ _).1 hb with e | e
    · exact hal1 b e
    · exact hnv1 b e
  have hk1 : ∀ b ∈ b1, W'.heap[b]? = W.heap[b]? := fun b hb => hk b (h.own b (List.mem_append_left _ hb)).2 (hng b (List.mem_append_left _ hb)) (fun e => hnd2.2.2 b hb b (h.al_mem e) rfl) (fun e => hnd2.2.2 b hb b (h.nm_mem e) rfl)
  have g1 : ∀ b, FS B W g b1 b2 b → FS B W' g b1 (al'.ownBlock.toList ++ (mapBlockOf nv').toList) b ∧ W'.heap[b]? = W.heap[b]? := fun b hF => by
    obtain ⟨f1, f2, f3⟩ := hF
    simp only [List.mem_cons, List.mem_append, not_or] at f3
    obtain ⟨f3, f4, f5⟩ := f3
    refine ⟨⟨f1, Nat.lt_of_lt_of_le f2 hs, ?_⟩, hk b f2 f3 (fun e => f5 (h.al_mem e)) (fun e => f5 (h.nm_mem e))⟩
    intro hm
    rcases List.mem_cons.1 hm with e | hm
    · exact f3 e
    · rcases List.mem_append.1 hm with hm | hm
      · exact f4 hm
      · rcases hnew b hm with e | e
        · exact f5 e
        · omega
  have hlt' : ∀ b ∈ al'.ownBlock.toList ++ (mapBlockOf nv').toList, B ≤ b ∧ b < W'.heap.size := fun b hb => by
    rcases (own_sub _ _ _).1 hb with e | e
    · exact ho'.lt b e
    · obtain ⟨es, clock, hm⟩ := (e ▸ hn').map
      rcases hn' with ⟨e1, _⟩ | ⟨b', e1, hB, _⟩
      · rw [e] at e1; cases e1
      · rw [e] at e1; cases e1; exact ⟨hB, (Array.getElem?_eq_some_iff.1 hm).1⟩
  refine ⟨g, cap, (((cs.setIfInBounds (fs.length * 9 + 7) nv').setIfInBounds (fs.length * 9 + 4) al').setIfInBounds (fs.length * 9 + 8) (.bool true)), x1, ys ++ [.string X, cy.k, cy.t, cy.n, cy.a, cy.al, cy.i, cy.vs], ⟨c.k, c.t, c.n, c.a, al', c.i, c.vs⟩, nv', b1, al'.ownBlock.toList ++ (mapBlockOf nv').toList, rfl, ?_⟩
  exact { hB := h.hB, hc1 := h.hc1, hc2 := h.hc2, hx := h.hx, ha := h.ha, hb2 := rfl, hg := hg'
          hcs := by rw [Array.size_setIfInBounds, Array.size_setIfInBounds, Array.size_setIfInBounds]; exact h.hcs
          htk := by
            have e : cs.toList.take ((fs.length + 1) * 9) = x1 ++ [c.k, c.t, c.n, c.a, c.al, c.i, c.vs, nv, .bool top.want] := h.htk
            rw [Array.toList_setIfInBounds, Array.toList_setIfInBounds, Array.toList_setIfInBounds, List.take_set, List.take_set, List.take_set, e]
            rw [List.set_append_right _ _ (by rw [h.hx]; omega), List.set_append_right _ _ (by rw [h.hx]; omega), List.set_append_right _ _ (by rw [h.hx]; omega), h.hx, Nat.add_sub_cancel_left, Nat.add_sub_cancel_left, Nat.add_sub_cancel_left]
            rfl
          low := FrsZ.carry g1 _ _ _ h.low hk1
          hd := ExF.carry g1 _ _ h.hd
          h0 := fun e => absurd e (by simp)
          hal := by rw [List.length_append]; exact ho'
          hz := AZip.snoc (ExF.carry g1 _ _ hy) _ _ (h.hz.carry g1)
          hnm := by rw [List.length_append]; exact hn'
          own := fun b hb => by
            rcases List.mem_append.1 hb with hb | hb
            · exact ⟨(h.own b (List.mem_append_left _ hb)).1, Nat.lt_of_lt_of_le (h.own b (List.mem_append_left _ hb)).2 hs⟩
            · exact hlt' b hb
          nodup := by
            refine List.nodup_cons.2 ⟨fun hm => ?_, List.nodup_append.2 ⟨hnd2.1, ?_, fun b hb1 b' hb2 e => ?_⟩⟩
            · rcases List.mem_append.1 hm with hm | hm
              · exact hnd.1 (List.mem_append_left _ hm)
              · rcases hnew g hm with e | e
                · exact hnd.1 (List.mem_append_right _ e)
                · have := h.lt; omega
            · refine List.nodup_append.2 ⟨by cases al'.ownBlock <;> simp, by cases mapBlockOf nv' <;> simp, fun b hb1 b' hb2 e => ?_⟩
              subst e
              have e1 : al'.ownBlock = some b := by simpa using hb1
              have e2 : nv' = .map (some b) := by
                have : mapBlockOf nv' = some b := by simpa using hb2
                cases nv' <;> simp [mapBlockOf] at this
                rw [this]
              obtain ⟨c1, t1, fz, hh⟩ := own_cells ho' e1
              obtain ⟨es, clock, hm⟩ := (e2 ▸ hn').map
              rw [hm] at hh
              cases hh
            · subst e
              rcases hnew b hb2 with e | e
              · exact hnd2.2.2 b hb1 b e rfl
              · have := (h.own b (List.mem_append_left _ hb1)).2; omega }
theorem StP.row (h : StP B W g cap cs x1 ys c nv b1 b2 fs top) : W.ownsRow B 116 9 (.slice (some ⟨g, 0, none⟩) (fs.length + 1) cap) (fs.length + 1) (x1 ++ [c.k, c.t, c.n, c.a, c.al, c.i, c.vs, nv, .bool top.want]) :=
  ⟨by rw [List.length_append, h.hx]; simp; omega, .inr ⟨g, cap, cs, rfl, h.hB, h.hg, h.hc1, h.hc2, h.hcs, h.htk⟩⟩
theorem StP.pop {f2 : Fr} (h : StP B W g cap cs x1 ys c nv b1 b2 (fs ++ [f2]) top) : ∃ x1' ys' c' nv' b1' b2', StP B W g cap cs x1' ys' c' nv' b1' b2' fs f2 ∧ ExF W (FS B W g b1' b2') (withArgs top.e top.xs) c := by
  obtain ⟨xa, xb, ba, bb, rfl, rfl, h1, h2⟩ := h.low.split fs [f2]
  rw [FrsZ] at h2
  obtain ⟨c', nv', ys0, b1', bs', rfl, rfl, ⟨hd, ha, h00, ⟨ys', hal, hz⟩, hnm, rfl⟩, h3⟩ := h2
  rw [FrsZ] at h3
  obtain ⟨rfl, rfl⟩ := h3
  rw [List.append_nil] at h
  have hF : ∀ b, FS B W g (ba ++ (c'.al.ownBlock.toList ++ (mapBlockOf nv').toList)) b2 b → FS B W g ba (c'.al.ownBlock.toList ++ (mapBlockOf nv').toList) b := fun b hb => ⟨hb.1, hb.2.1, fun hm => hb.2.2 (by
    rcases List.mem_cons.1 hm with e | hm
    · rw [e]; exact List.mem_cons_self
    · exact List.mem_cons_of_mem _ (List.mem_append_left _ hm))⟩
  have g1 : ∀ b, FS B W g (ba ++ (c'.al.ownBlock.toList ++ (mapBlockOf nv').toList ++ [])) b2 b → FS B W g ba (c'.al.ownBlock.toList ++ (mapBlockOf nv').toList) b ∧ W.heap[b]? = W.heap[b]? := fun b hb => ⟨hF b (by rw [List.append_nil] at hb; exact hb), rfl⟩
  have hnd := List.nodup_cons.1 h.nodup
  have hnd2 := List.nodup_append.1 hnd.2
  have hxl := h1.length
  refine ⟨xa, ys', c', nv', ba, c'.al.ownBlock.toList ++ (mapBlockOf nv').toList, ?_, h.whole hF fun b e => ⟨(h.own b (List.mem_append_right _ (h.al_mem e))).1, (h.own b (List.mem_append_right _ (h.al_mem e))).2, fun hm => ?_⟩⟩
  · exact { hg := h.hg, hB := h.hB, hc2 := h.hc2, hcs := h.hcs, ha := ha, hb2 := rfl, h0 := h00, hal := hal, hnm := hnm
            hc1 := by have := h.hc1; rw [List.length_append, List.length_singleton] at this; omega
            hx := hxl
            htk := by
              have e : cs.toList.take ((fs.length + 1 + 1) * 9) = (xa ++ [c'.k, c'.t, c'.n, c'.a, c'.al, c'.i, c'.vs, nv', .bool f2.want]) ++ [c.k, c.t, c.n, c.a, c.al, c.i, c.vs, nv, .bool top.want] := by
                have := h.htk
                rw [List.length_append, List.length_singleton] at this
                exact this
              have e2 : cs.toList.take ((fs.length + 1) * 9) = (cs.toList.take ((fs.length + 1 + 1) * 9)).take ((fs.length + 1) * 9) := by rw [List.take_take, Nat.min_eq_left (by omega)]
              rw [e2, e, List.take_append_of_le_length (by rw [List.length_append, hxl]; simp; omega), List.take_of_length_le (by rw [List.length_append, hxl]; simp; omega)]
            low := FrsZ.carry g1 _ _ _ h1 (fun _ _ => rfl)
            hd := ExF.carry g1 _ _ hd
            hz := hz.carry g1
            nodup := List.nodup_cons.2 ⟨fun hm => hnd.1 (List.mem_append_left _ hm), hnd2.1⟩
            own := fun b hb => h.own b (List.mem_append_left _ hb) }
  · rcases List.mem_cons.1 hm with e1 | hm
    · subst e1
      exact hnd.1 (List.mem_append_right _ (h.al_mem e))
    · exact hnd2.2.2 b hm b (h.al_mem e) rfl
theorem StP.push (h : StP B W g cap cs x1 ys c nv b1 b2 fs top) {e : EX} {ce : C7} (he : ExF W (FS B W g b1 b2) e ce) (hea : exArgs e = []) (hn : ce.al = .slice none 0 0)
    (ho : W'.ownsRow B 116 9 v (fs.length + 1 + 1) (x1 ++ [c.k, c.t, c.n, c.a, c.al, c.i, c.vs, nv, .bool top.want] ++ [ce.k, ce.t, ce.n, ce.a, ce.al, ce.i, ce.vs, .map none, .bool false]))
    (hgr : W.grownBy W' (some g)) (hw : v.ownBlock = some g ∨ v.ownBlock = some W.heap.size) : StAt B W' v (fs ++ [top]) ⟨e, [], false⟩ := by
  have hnd := List.nodup_cons.1 h.nodup
  have hs := hgr.size
  have hng : ∀ b ∈ b1 ++ b2, b ≠ g := fun b hb e => hnd.1 (e ▸ hb)
  have hk : ∀ b, b < W.heap.size → b ≠ g → W'.heap[b]? = W.heap[b]? := fun b hb hn => hgr.block b hb (fun e => hn (Option.some.inj e))
  rcases ho.2 with ⟨_, h0⟩ | ⟨g', cap', cur, rfl, hBg, hg', hc1', hc2', hcs', htk'⟩
  · omega
  have hgg : g' = g ∨ g' = W.heap.size := by
    rcases hw with e | e
    · exact .inl (Option.some.inj e)
    · exact .inr (Option.some.inj e)
  have hgn : ∀ b, b < W.heap.size → b ≠ g → b ≠ g' := fun b h1 h2 e => by rcases hgg with e2 | e2 <;> omega
  have g1 : ∀ b, FS B W g b1 b2 b → FS B W' g' (b1 ++ b2) [] b ∧ W'.heap[b]? = W.heap[b]? := fun b hb => by
    obtain ⟨f1, f2, f3⟩ := hb
    have f4 : b ≠ g := fun e => f3 (by rw [e]; exact List.mem_cons_self)
    refine ⟨⟨f1, Nat.lt_of_lt_of_le f2 hs, fun hm => ?_⟩, hk b f2 f4⟩
    rw [List.append_nil] at hm
    rcases List.mem_cons.1 hm with e | hm
    · exact hgn b f2 f4 e
    · exact f3 (List.mem_cons_of_mem _ hm)
  have hkb : ∀ b ∈ b1 ++ b2, W'.heap[b]? = W.heap[b]? := fun b hb => hk b (h.own b hb).2 (hng b hb)
  refine ⟨g', cap', cur, x1 ++ [c.k, c.t, c.n, c.a, c.al, c.i, c.vs, nv, .bool top.want], [], ce, .map none, b1 ++ b2, [], by rw [List.length_append, List.length_singleton], ?_⟩
  exact { hg := hg', hB := hBg, hc2 := hc2', hcs := hcs', ha := hea, h0 := fun _ => hn
          hc1 := by rw [List.length_append, List.length_singleton]; exact hc1'
          hx := by rw [List.length_append, List.length_append, h.hx]; simp; omega
          htk := by rw [List.length_append, List.length_singleton, htk']
          low := by
            refine FrsZ.join (x2 := [c.k, c.t, c.n, c.a, c.al, c.i, c.vs, nv, .bool top.want]) (b2 := b2) ?_ fs x1 b1 (FrsZ.carry g1 _ _ _ h.low (fun b hb => hkb b (List.mem_append_left _ hb)))
            rw [FrsZ]
            refine ⟨c, nv, [], b2, [], rfl, by simp, ⟨ExF.carry g1 _ _ h.hd, h.ha, h.h0, ⟨ys, row_blocks h.hal fun b e => hkb b (List.mem_append_right _ (h.al_mem e)), h.hz.carry g1⟩, h.hnm.kept fun b e => hkb b (List.mem_append_right _ (h.nm_mem e)), h.hb2⟩, ?_⟩
            rw [FrsZ]
            exact ⟨rfl, rfl⟩
          hd := by
            have := ExF.carry g1 _ _ he
            obtain ⟨k, t, n, a, al, i, vs⟩ := ce
            dsimp only at hn
            subst hn
            exact this
          hal := by rw [hn]; exact World.ownsRow_nil _ _ _ _
          hz := by rw [AZip]
          hnm := .inl ⟨rfl, rfl⟩
          hb2 := by rw [hn]; rfl
          nodup := by
            rw [List.append_nil]
            exact List.nodup_cons.2 ⟨fun hm => hgn g' (h.own g' hm).2 (hng g' hm) rfl, hnd.2⟩
          own := fun b hb => by
            rw [List.append_nil] at hb
            exact ⟨(h.own b hb).1, Nat.lt_of_lt_of_le (h.own b hb).2 hs⟩ }
theorem st_first {e : EX} {ce : C7} {F : Nat → Prop} (he : ExF W F e ce) (hF : ∀ b, F b → B ≤ b ∧ b < W.heap.size) (hBW : B ≤ W.heap.size) (hea : exArgs e = []) (hn : ce.al = .slice none 0 0) :
    StAt B (W.alloc (.cells #[ce.k, ce.t, ce.n, ce.a, ce.al, ce.i, ce.vs, .map none, .bool false] 116)) (.slice (some ⟨W.heap.size, 0, none⟩) 1 1) [] ⟨e, [], false⟩ := by
  have g1 : ∀ b, F b → FS B (W.alloc (.cells #[ce.k, ce.t, ce.n, ce.a, ce.al, ce.i, ce.vs, .map none, .bool false] 116)) W.heap.size [] [] b ∧ (W.alloc (.cells #[ce.k, ce.t, ce.n, ce.a, ce.al, ce.i, ce.vs, .map none, .bool false] 116)).heap[b]? = W.heap[b]? := fun b hb => by
    obtain ⟨h1, h2⟩ := hF b hb
    exact ⟨⟨h1, by rw [World.size_alloc]; omega, fun hm => by simp at hm; omega⟩, Lib.alloc_old _ _ b h2⟩
  refine ⟨W.heap.size, 1, #[ce.k, ce.t, ce.n, ce.a, ce.al, ce.i, ce.vs, .map none, .bool false], [], [], ce, .map none, [], [], rfl, ?_⟩
  exact { hg := heap_alloc_new W _, hB := hBW, hc1 := Nat.le_refl _, hc2 := by decide, hcs := rfl, hx := rfl, htk := rfl, ha := hea, h0 := fun _ => hn
          low := by rw [FrsZ]; exact ⟨rfl, rfl⟩
          hd := by
            have := ExF.carry g1 _ _ he
            obtain ⟨k, t, n, a, al, i, vs⟩ := ce
            dsimp only at hn
            subst hn
            exact this
          hal := by rw [hn]; exact World.ownsRow_nil _ _ _ _
          hz := by rw [AZip]
          hnm := .inl ⟨rfl, rfl⟩
          hb2 := by rw [hn]; rfl
          nodup := by simp
          own := fun b hb => by simp at hb }
end
end Go.Proofs.YtdoambpiafkmmaaGreatDoor
